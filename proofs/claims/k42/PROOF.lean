import PyProof.Rows.All
import Wide.All
import OpenK.AllK
import Wide.FinOn
import Lean
import PyProof.EqAt
import PyProof.EqKinds
import PyProof.TupleCall
import PyProof.ExcStrCall
import PyProof.ExcStrAll.ValueError
import PyProof.TupleOfStr
import PyProof.DictIter
import PyProof.DictWalks
import PyProof.Rows.SetFrom
import PyProof.CollectWalk
import PyProof.Rows.SortShell
import PyProof.Rows.SortWalk
import PyProof.ListRange
import PySem.Challenge.RW_bracketrows_k42_growers_by_drawn_deeds
set_option Elab.async false
set_option linter.all false
set_option maxRecDepth 100000
namespace L2
open PySem PySem.Spec PyProof.Rows
abbrev Key:=Sum Int Str
def keyIs:Key->Value->Bool
 | .inl k,v=>Value.isInt k v
 | .inr x,v=>Value.isStrOf x v
def keyH (w:World):Key->Int
 | .inl k=>hashInt k
 | .inr x=>hashStr w x
theorem keyIs_shape : ∀ {k : Key} {v : Value}, keyIs k v = true -> (∃ i t, k = Sum.inl i /\ v = Value.int i t) \/ (∃ x t, k = Sum.inr x /\ v = Value.str x t)
  | .inl i, v, h => by
    obtain ⟨t, e⟩ := Value.isInt_shape (k := i) (v := v) h
    exact .inl ⟨i, t, rfl, e⟩
  | .inr x, v, h => by
    obtain ⟨t, e⟩ := Value.isStrOf_shape (x := x) (v := v) h
    exact .inr ⟨x, t, rfl, e⟩
theorem keyIs_int (i:Int) (t:Tok):keyIs (.inl i) (.int i t) = true:=by simp [keyIs,Value.isInt]
theorem keyIs_str (x:Str) (t:Tok):keyIs (.inr x) (.str x t) = true:=by simp [keyIs,Value.isStrOf]
theorem key_ll (a b:Int):decide ((Sum.inl a:Key) = Sum.inl b) = (a == b):=by
 by_cases e:a = b
 ·subst e; simp
 ·have h:¬ (Sum.inl a:Key) = Sum.inl b:=fun q=>e (Sum.inl.inj q)
  rw [decide_eq_false h]
  exact (beq_eq_false_iff_ne.mpr e).symm
theorem key_rr (a b:Str):decide ((Sum.inr a:Key) = Sum.inr b) = decide (a = b):=by
 by_cases e:a = b
 ·subst e; simp
 ·have h:¬ (Sum.inr a:Key) = Sum.inr b:=fun q=>e (Sum.inr.inj q)
  rw [decide_eq_false h,decide_eq_false e]
theorem key_lr (a:Int) (b:Str):decide ((Sum.inl a:Key) = Sum.inr b) = false:=decide_eq_false (fun q=>nomatch q)
theorem key_rl (a:Str) (b:Int):decide ((Sum.inr a:Key) = Sum.inl b) = false:=decide_eq_false (fun q=>nomatch q)
def mixKind (prog:Program) (w:World):PySem.KeyKind prog w Key where
 is:=keyIs
 hash:=keyH w
 inj:=fun v a b ha hb=>by
  rcases keyIs_shape ha with ⟨i,t,rfl,rfl⟩ | ⟨x,t,rfl,rfl⟩
  ·rcases keyIs_shape hb with ⟨j,u,rfl,e⟩ | ⟨y,u,rfl,e⟩
   ·injection e with e1 _; rw [e1]
   ·exact nomatch e
  ·rcases keyIs_shape hb with ⟨j,u,rfl,e⟩ | ⟨y,u,rfl,e⟩
   ·exact nomatch e
   ·injection e with e1 _; rw [e1]
 byValue:=fun k v h=>by
  rcases keyIs_shape h with ⟨i,t,rfl,rfl⟩ | ⟨x,t,rfl,rfl⟩ <;> rfl
 pyHash:=fun hv h=>by
  rcases keyIs_shape hv with ⟨i,t,rfl,rfl⟩ | ⟨x,t,rfl,rfl⟩
  ·exact wpAny_pyHash_int h
  ·exact wpAny_pyHash_str h
 eqBool:=fun hu hv h=>by
  rcases keyIs_shape hu with ⟨i,t,rfl,rfl⟩ | ⟨x,t,rfl,rfl⟩
  ·rcases keyIs_shape hv with ⟨j,u,rfl,rfl⟩ | ⟨y,u,rfl,rfl⟩
   ·rw [key_ll] at h; exact wpAny_eqBool_int h
   ·rw [key_lr] at h; exact SeqAt.EqAt.int_str i t y u _ _ _ _ h
  ·rcases keyIs_shape hv with ⟨j,u,rfl,rfl⟩ | ⟨y,u,rfl,rfl⟩
   ·rw [key_rl] at h; exact SeqAt.EqAt.str_int x t j u _ _ _ _ h
   ·rw [key_rr] at h; exact wpAny_eqBool_str h
 «strs»:=fun k x t v h=>by
  rcases keyIs_shape h with ⟨i,u,rfl,e⟩ | ⟨y,u,rfl,e⟩
  ·exact nomatch e
  ·injection e with e1 _
   subst e1
   cases v <;> rfl
theorem mixKind_int (prog:Program) (w:World) (i:Int) (t:Tok):(mixKind prog w).is (.inl i) (.int i t) = true:=keyIs_int i t
theorem mixKind_str (prog:Program) (w:World) (x:Str) (t:Tok):(mixKind prog w).is (.inr x) (.str x t) = true:=keyIs_str x t
end L2
namespace L2
open PySem PySem.Spec PyProof.Rows
inductive V where
 | non | bl (b:Bool) | int (i:Int) | str (x:Str) | byt (b:Array UInt8) | flt (b:UInt64) | ref (a:Addr) | ty (n:String)
 deriving DecidableEq
def RelV:V->Value->Prop
 | .non,u=>u = Value.none
 | .bl b,u=>u = Value.bool b
 | .int i,u=>∃ t,u = Value.int i t
 | .str x,u=>∃ t,u = Value.str x t
 | .byt b,u=>∃ t,u = Value.bytes b t
 | .flt b,u=>∃ t,u = Value.float b t
 | .ref a,u=>u = Value.ref a
 | .ty n,u=>u = Value.type n
abbrev Vals:List V->List Value->Prop:=Paired RelV
theorem Vals.length {xs:List V} {us:List Value} (r:Vals xs us):xs.length = us.length:=Paired.length r
theorem Vals.get : ∀ {xs : List V} {us : List Value} {i : Nat} {x : V}, Vals xs us -> xs[i]? = some x -> ∃ u, us[i]? = some u /\ RelV x u
  | _, _, _, _, .nil, e => by simp at e
  | _, _, 0, _, .cons r _, e => by simp at e; subst e; exact ⟨_, rfl, r⟩
  | _, _, i + 1, x, .cons _ t, e => by
    obtain ⟨u, h1, h2⟩ := Vals.get (i := i) (x := x) t (by simpa using e)
    exact ⟨u, by simpa using h1, h2⟩
theorem Vals.set {x:V} {u:Value} (r:RelV x u):∀ {xs:List V} {us:List Value} (i:Nat),Vals xs us->Vals (xs.set i x) (us.set i u)
 | _,_,_,.nil=>.nil
 | _,_,0,.cons _ t=>.cons r t
 | _,_,i + 1,.cons q t=>.cons q (Vals.set r i t)
theorem Vals.append:∀ {xs ys:List V} {us ws:List Value},Vals xs us->Vals ys ws->Vals (xs ++ ys) (us ++ ws)
 | _,_,_,_,.nil,s=>s
 | _,_,_,_,.cons r t,s=>.cons r (Vals.append t s)
theorem Vals.take:∀ {xs:List V} {us:List Value} (n:Nat),Vals xs us->Vals (xs.take n) (us.take n)
 | _,_,0,_=>.nil
 | _,_,_ + 1,.nil=>.nil
 | _,_,n + 1,.cons r t=>.cons r (Vals.take n t)
theorem Vals.drop:∀ {xs:List V} {us:List Value} (n:Nat),Vals xs us->Vals (xs.drop n) (us.drop n)
 | _,_,0,r=>r
 | _,_,_ + 1,.nil=>.nil
 | _,_,n + 1,.cons _ t=>Vals.drop n t
def RelO:Option V->Option Value->Prop
 | some v,some u=>RelV v u
 | none,none=>True
 | _,_=>False
def KV {κ:Type}:List (κ × V)->List (κ × Value)->Prop:=Paired fun (p:κ × V) (q:κ × Value)=>p.1 = q.1/\RelV p.2 q.2
def kV:Key->V
 | .inl i=>.int i
 | .inr x=>.str x
inductive HO where
 | lst (xs:List V)
 | tup (xs:List V)
 | dK (kvs:List (Key × V)) | dT (kvs:List (List Key × V))
 | set (S:Int->Bool) (n:Nat)
 | ins (C dx:Addr) (fs:List (Str × V))
 | own (x:Addr)
 | xd (fs:List (Str × V))
 | met (f x:Addr)
 | rng (lo hi:Int)
 | frz (o:Obj) (u:HO)
 | tbl (ps:Array Value)
 | ext (φ:Heap->Prop)
abbrev Hp:=Addr->Option HO
def upd (H:Hp) (a:Addr) (o:HO):Hp:=fun b=>if b = a then some o else H b
theorem upd_same {H:Hp} {a:Addr} {o:HO}:upd H a o a = some o:=by unfold upd; rw [if_pos rfl]
theorem upd_ne {H:Hp} {a b:Addr} {o:HO} (h:b ≠ a):upd H a o b = H b:=by unfold upd; rw [if_neg h]
theorem ne_of {H:Hp} {a b:Addr} {o u:HO} (h:H a = some o) (h':H b = some u) (d:o ≠ u):a ≠ b:=by
 intro e; subst e; rw [h] at h'; exact d (Option.some.inj h')
theorem ne_of_none {H:Hp} {a b:Addr} {o:HO} (h:H a = some o) (h':H b = none):a ≠ b:=by
 intro e; subst e; rw [h] at h'; cases h'
section
variable (P:Program) (w:World)
def ObjOk (H : Hp) (h : Heap) (a : Addr) : HO -> Prop
 | .lst xs => xs.length <= sizeLine /\ ∃ (its : List Value) (n : Nat), Vals xs its /\ h.get? a = some { cls := .type "list", data := .seq its.toArray n }
 | .tup xs => xs.length <= sizeLine /\ ∃ its : List Value, Vals xs its /\ IsTup h a its.toArray
 | .dK kvs => kvs.length <= sizeLine /\ (a == sysModules) = false /\ ∃ vs, KV kvs vs /\ h.DictOf (mixKind P w) a vs
 | .dT kvs => kvs.length <= sizeLine /\ (a == sysModules) = false /\ ∃ xs : List (List Key × Addr × Value),
   Paired (fun (p : List Key × V) (q : List Key × Addr × Value) => p.1 = q.1 /\ H q.2.1 = some (.tup (p.1.map kV)) /\ RelV p.2 q.2.2) kvs xs /\
   ∃ o es ep, h.get? a = some o /\ o.ExactDict /\ o.data = .dict es ep /\ es.toList = xs.map (entryOfKey (tupleKind (mixKind P w))) /\ (xs.map (·.1)).Nodup
 | .set S n => h.SetOf (intKind P w) a S n
 | .ins C dx fs => H dx = some (.own a) /\ fs.length <= 1000 /\ dx ≠ a /\ h.get? a = some (PySem.W.instObj C dx) /\
   ∃ mA, h.Ns1 dx mA /\ (∀ f, RelO (fs.lookup f) (mA f)) /\ PySem.Within mA (fs.map (·.1))
 | .own _ => ∃ o, h.get? a = some o
 | .xd fs => ∃ mA, h.Ns1 a mA /\ ∀ f, RelO (fs.lookup f) (mA f)
 | .rng lo hi => ∃ t u v, h.get? a = some { cls := .type "range", data := .fields #[.int lo t, .int hi u, .int 1 v] }
 | .frz o u => h.get? a = some o /\ ObjOk H h a u
 | .tbl ps => h.get? a = some { cls := .none, data := .fields ps }
 | .met f x => h.get? a = some (PySem.W.methodObj (.ref f) (.ref x))
 | .ext φ => φ h /\ (∃ o, h.get? a = some o) /\ ∀ h1 h2 : Heap, φ h1 -> (∀ o, h1.get? a = some o -> h2.get? a = some o) -> φ h2
structure HOk (H:Hp) (h:Heap):Prop where
 all:∀ a o,H a = some o->ObjOk P w H h a o
 sm:∀ o,H sysModules = some o->∃ ob u,o = .frz ob u
 bg:∃ b o,1 < b/\h.get? b = some o
instance (H:Hp) (h:Heap):CoeFun (HOk P w H h) fun _=>∀ a o,H a = some o->ObjOk P w H h a o:=⟨HOk.all⟩
end
section
variable {P:Program} {w:World} {H H':Hp} {h h':Heap} {a:Addr} {o:HO}
theorem ObjOk.lt (x:ObjOk P w H h a o):a < h.objs.size:=by
 cases o with
 | lst xs=>obtain ⟨_,_,_,_,e⟩:=x; exact Heap.lt_size e
 | tup xs=>obtain ⟨_,_,_,p⟩:=x; exact p.lt
 | dK kvs=>obtain ⟨_,_,_,_,o,_,_,e,_⟩:=x; exact Heap.lt_size e
 | dT kvs=>obtain ⟨_,_,_,_,o,_,_,e,_⟩:=x; exact Heap.lt_size e
 | set S n=>obtain ⟨o,_,_,_,e,_⟩:=x; exact Heap.lt_size e
 | ins C dx fs=>obtain ⟨_,_,_,e,_⟩:=x; exact Heap.lt_size e
 | own y=>obtain ⟨_,e⟩:=x; exact Heap.lt_size e
 | xd fs=>obtain ⟨_,⟨_,_,_,e,_⟩,_⟩:=x; exact Heap.lt_size e
 | rng lo hi=>obtain ⟨_,_,_,e⟩:=x; exact Heap.lt_size e
 | frz ob u=>obtain ⟨e,_⟩:=x; exact Heap.lt_size e
 | tbl ps=>exact Heap.lt_size (show h.get? a = some _ from x)
 | met f y=>exact Heap.lt_size (show h.get? a = some _ from x)
 | ext φ=>obtain ⟨_,⟨_,e⟩,_⟩:=x; exact Heap.lt_size e
theorem Paired.mapP {α β:Type} {F G:α->β->Prop}:∀ {l₁:List α} {l₂:List β},Paired F l₁ l₂->(∀ a b,F a b->G a b)->Paired G l₁ l₂
 | _,_,.nil,_=>.nil
 | _,_,.cons r t,f=>.cons (f _ _ r) (Paired.mapP t f)
theorem ObjOk.stay (x : ObjOk P w H h a o) (k : ∀ b u, (b = a \/ H b = some (.own a)) -> h.get? b = some u -> h'.get? b = some u)
    (ho : ∀ b, H b = some (.own a) -> H' b = some (.own a)) (ht : ∀ b xs, H b = some (.tup xs) -> H' b = some (.tup xs)) : ObjOk P w H' h' a o := by
  induction o with
  | lst xs => obtain ⟨z, its, n, r, e⟩ := x; exact ⟨z, its, n, r, k _ _ (.inl rfl) e⟩
  | tup xs => obtain ⟨z, its, r, ob, e, c⟩ := x; exact ⟨z, its, r, ob, k _ _ (.inl rfl) e, c⟩
  | dK kvs => obtain ⟨z, y, vs, r, ob, es, ep, e, c⟩ := x; exact ⟨z, y, vs, r, ob, es, ep, k _ _ (.inl rfl) e, c⟩
  | dT kvs =>
    obtain ⟨z, y, xs, r, ob, es, ep, e, c⟩ := x
    exact ⟨z, y, xs, Paired.mapP r fun p q z => ⟨z.1, ht _ _ z.2.1, z.2.2⟩, ob, es, ep, k _ _ (.inl rfl) e, c⟩
  | set S n => obtain ⟨ob, es, ep, t, e, c⟩ := x; exact ⟨ob, es, ep, t, k _ _ (.inl rfl) e, c⟩
  | ins C dx fs =>
    obtain ⟨d, z, ne, e, mA, ⟨od, es, ep, e2, c⟩, r⟩ := x
    exact ⟨ho _ d, z, ne, k _ _ (.inl rfl) e, mA, ⟨od, es, ep, k _ _ (.inr d) e2, c⟩, r⟩
  | own y => obtain ⟨ob, e⟩ := x; exact ⟨ob, k _ _ (.inl rfl) e⟩
  | xd fs => obtain ⟨mA, ⟨od, es, ep, e, c⟩, r⟩ := x; exact ⟨mA, ⟨od, es, ep, k _ _ (.inl rfl) e, c⟩, r⟩
  | rng lo hi => obtain ⟨t, u, v, e⟩ := x; exact ⟨t, u, v, k _ _ (.inl rfl) e⟩
  | frz ob u ih => obtain ⟨e, q⟩ := x; exact ⟨k _ _ (.inl rfl) e, ih q⟩
  | tbl ps =>
    have e : h.get? a = some { cls := .none, data := .fields ps } := x
    show h'.get? a = some { cls := .none, data := .fields ps }
    exact k a _ (.inl rfl) e
  | met f y =>
    have e : h.get? a = some (PySem.W.methodObj (.ref f) (.ref y)) := x
    show h'.get? a = some (PySem.W.methodObj (.ref f) (.ref y))
    exact k a _ (.inl rfl) e
  | ext φ => obtain ⟨p, ⟨o, e⟩, st⟩ := x; exact ⟨st _ _ p fun o q => k _ _ (.inl rfl) q, ⟨o, k _ _ (.inl rfl) e⟩, st⟩
theorem HOk.lt (x:HOk P w H h) (e:H a = some o):a < h.objs.size:=(x a o e).lt
theorem HOk.fresh (x:HOk P w H h) (e:h.objs.size <= a):H a = none:=by
 cases q:H a with
 | none=>rfl
 | some u=>exact absurd (Nat.lt_of_lt_of_le (x.lt q) e) (Nat.lt_irrefl _)
theorem HOk.kept (x:HOk P w H h) (k:∀ b u,h.get? b = some u->h'.get? b = some u):HOk P w H h':=⟨fun a o e =>
 (x a o e).stay (fun b u _ q=>k b u q) (fun _ q=>q) fun _ _ q=>q,x.sm,let ⟨b,o,l,e⟩:=x.bg; ⟨b,o,l,k _ _ e⟩⟩
theorem HOk.laid (x:HOk P w H h) (k:∀ b u,h.get? b = some u->h'.get? b = some u) (hp:h.objs.size <= a) (new:ObjOk P w (upd H a o) h' a o):HOk P w (upd H a o) h':=by
 refine ⟨fun b u e=>?_,fun u e=>?_,let ⟨b,o,l,e⟩:=x.bg; ⟨b,o,l,k _ _ e⟩⟩
 rotate_left
 ·by_cases hb:sysModules = a
  ·obtain ⟨b,o,l,q⟩:=x.bg
   exact absurd (Nat.lt_trans l (show b < sysModules from by rw [hb]; exact Nat.lt_of_lt_of_le (Heap.lt_size q) hp)) (Nat.lt_irrefl 1)
  ·rw [upd_ne hb] at e; exact x.sm u e
 have hn:=x.fresh hp
 by_cases hb:b = a
 ·subst hb; rw [upd_same] at e; cases e; exact new
 ·rw [upd_ne hb] at e
  exact (x b u e).stay (fun c v _ q=>k c v q) (fun c q=>by rw [upd_ne (ne_of_none q hn)]; exact q) fun c xs q=>by rw [upd_ne (ne_of_none q hn)]; exact q
end
def Rd (H:Hp) (a:Addr) (u:HO):Prop:=H a = some u\/∃ o,H a = some (.frz o u)
theorem Rd.ok {P:Program} {w:World} {H:Hp} {h:Heap} {a:Addr} {u:HO} (r:Rd H a u) (x:HOk P w H h):ObjOk P w H h a u:=by
 rcases r with r | ⟨o,r⟩
 ·exact x a u r
 ·obtain ⟨_,q⟩:=x a _ r
  exact q
def Mut:Option HO->Prop
 | some (.lst _)=>True
 | some (.dK _)=>True
 | some (.dT _)=>True
 | some (.set _ _)=>True
 | some (.ins _ _ _)=>True
 | some (.ext _)=>True
 | _=>False
section
variable {P:Program} {w:World} {H:Hp} {h h':Heap} {x e:Addr} {o':HO}
theorem HOk.write (ok : HOk P w H h) (mu : Mut (H x)) (he : e = x \/ H e = some (.own x)) (k : ∀ b u, b ≠ e -> h.get? b = some u -> h'.get? b = some u) (heo : ∃ u, h'.get? e = some u)
    (new : ObjOk P w (upd H x o') h' x o') : HOk P w (upd H x o') h' := by
  refine ⟨fun b u q => ?_, fun u q => ?_, ?_⟩
  rotate_left
  · by_cases hb : sysModules = x
    · exfalso
      subst hb
      cases z : H sysModules with
      | none => rw [z] at mu; exact mu
      | some o =>
        obtain ⟨ob, v, rfl⟩ := ok.sm o z
        rw [z] at mu; exact mu
    · rw [upd_ne hb] at q; exact ok.sm u q
  · obtain ⟨b, o, l, z⟩ := ok.bg
    by_cases hb : b = e
    · obtain ⟨v, hv⟩ := heo
      exact ⟨e, v, hb ▸ l, hv⟩
    · exact ⟨b, o, l, k b o hb z⟩
  have nown : ∀ c y, H c = some (.own y) -> c ≠ x := fun c y r z => by subst z; rw [r] at mu; exact mu
  have ntup : ∀ c xs, H c = some (.tup xs) -> c ≠ x := fun c xs r z => by subst z; rw [r] at mu; exact mu
  by_cases hb : b = x
  · subst hb; rw [upd_same] at q; cases q; exact new
  · rw [upd_ne hb] at q
    by_cases hbe : b = e
    · have q' : H b = some (.own x) := by
        rcases he with z | z
        · exact absurd (hbe.trans z) hb
        · rw [hbe]; exact z
      rw [q] at q'; cases q'
      obtain ⟨v, hv⟩ := heo
      exact ⟨v, by rw [hbe]; exact hv⟩
    · refine (ok b u q).stay (fun c v hc r => k c v ?_ r) (fun c r => by rw [upd_ne (nown c b r)]; exact r) fun c xs r => by rw [upd_ne (ntup c xs r)]; exact r
      rcases hc with rfl | hc
      · exact hbe
      · rintro rfl
        rcases he with z | z
        · exact nown c b hc z
        · rw [hc] at z; cases z; exact hb rfl
end
structure Un (fs ex:List Addr) (H H':Hp) (h h':Heap):Prop where
 keep:∀ b o,h.get? b = some o->H b = none->b ∉ fs->b ∉ ex->h'.get? b = some o
 slot:∀ b o,h.get? b = some o->H b = none->b ∈ fs->b ∉ ex->∃ sl,h'.get? b = some { o with slots:=sl }
 free:∀ b o,h.get? b = some o->H b = none->b ∉ ex->H' b = none
 there:∀ b o,h.get? b = some o->b ∉ ex->∃ o',h'.get? b = some o'
 tups:∀ b xs,H b = some (.tup xs)->H' b = some (.tup xs)
 frzs:∀ b o u,H b = some (.frz o u)->H' b = some (.frz o u)
 tbls:∀ b ps,H b = some (.tbl ps)->∃ more,H' b = some (.tbl (ps ++ more))
section
variable {fs fs' ex ex':List Addr} {H H1 H2:Hp} {h h1 h2 h':Heap} {a x e:Addr} {o:HO}
theorem Un.any (u:Un fs ex H H1 h h1) {b:Addr} {ob:Obj} (q:h.get? b = some ob) (n:H b = none) (hx:b ∉ ex):∃ sl,h1.get? b = some { ob with slots:=sl }:=by
 by_cases hb:b ∈ fs
 ·exact u.slot b ob q n hb hx
 ·exact ⟨ob.slots,u.keep b ob q n hb hx⟩
theorem Un.kept (k:∀ b u,h.get? b = some u->h'.get? b = some u):Un fs ex H H h h' :=
 ⟨fun b ob q _ _ _=>k b ob q,fun b ob q _ _ _=>⟨ob.slots,k b ob q⟩,fun _ _ _ n _=>n,fun b ob q _=>⟨ob,k b ob q⟩,fun _ _ q=>q,fun _ _ _ q=>q,fun _ ps q=>⟨#[],by rw [q]; simp⟩⟩
theorem Un.refl:Un fs ex H H h h:=Un.kept fun _ _ q=>q
theorem Un.laid (k:∀ b u,h.get? b = some u->h'.get? b = some u) (hp:h.objs.size <= a) (hn:H a = none):Un fs ex H (upd H a o) h h' where
 keep:=fun b u q _ _ _=>k b u q
 slot:=fun b u q _ _ _=>⟨u.slots,k b u q⟩
 free:=fun b u q n _=>by rw [upd_ne (Nat.ne_of_lt (Nat.lt_of_lt_of_le (Heap.lt_size q) hp))]; exact n
 there:=fun b u q _=>⟨u,k b u q⟩
 tups:=fun b xs q=>by rw [upd_ne (ne_of_none q hn)]; exact q
 frzs:=fun b u xs q=>by rw [upd_ne (ne_of_none q hn)]; exact q
 tbls:=fun b ps q=>⟨#[],by rw [upd_ne (ne_of_none q hn),q]; simp⟩
theorem Un.write (mu:Mut (H x)) (he:e = x\/H e = some (.own x)) (k:∀ b u,b ≠ e->h.get? b = some u->h'.get? b = some u) (heo:∃ u,h'.get? e = some u):Un fs ex H (upd H x o) h h':=by
 have hx:∀ b,H b = none->b ≠ x:=fun b n z=>by subst z; rw [n] at mu; exact mu
 have hb:∀ b,H b = none->b ≠ e:=fun b n z=>by
  subst z
  rcases he with r | r
  ·exact hx b n r
  ·rw [n] at r; cases r
 have hm:∀ b u,H b = some u->¬ Mut (some u)->b ≠ x:=fun b u q nm z=>by subst z; rw [q] at mu; exact nm mu
 refine ⟨fun b u q n _ _=>k b u (hb b n) q,fun b u q n _ _=>⟨u.slots,k b u (hb b n) q⟩,fun b u q n _=>by rw [upd_ne (hx b n)]; exact n,fun b u q _=>?_,
  fun b xs q=>by rw [upd_ne (hm b _ q fun z=>z)]; exact q,fun b u xs q=>by rw [upd_ne (hm b _ q fun z=>z)]; exact q,fun b ps q=>⟨#[],by rw [upd_ne (hm b _ q fun z=>z),q]; simp⟩⟩
 by_cases hbe:b = e
 ·subst hbe; exact heo
 ·exact ⟨u,k b u hbe q⟩
end
def trk (h:Heap) (H:Hp):List Addr:=(List.range h.objs.size).filter fun a=>(H a).isSome
def hidT (h:Heap) (H:Hp):Heap:=PySem.W.hideAll h (trk h H)
theorem hidT_size (h:Heap) (H:Hp):(hidT h H).objs.size = h.objs.size:=PySem.W.hideAll_size _ _
theorem hidT_get {h:Heap} {H:Hp} {b:Addr} {o:Obj} (e:h.get? b = some o) (n:H b = none):(hidT h H).get? b = some o :=
 PySem.W.hideAll_get _ e fun hm=>by
  have q:(H b).isSome = true:=(List.mem_filter.mp hm).2
  rw [n] at q; simp at q
theorem of_hidT {h : Heap} {H : Hp} {b : Addr} {o : Obj} (e : (hidT h H).get? b = some o) : h.get? b = some o /\ H b = none := by
  have e' : h.get? b = some o := PySem.W.of_hideAll (trk h H) e
  refine ⟨e', ?_⟩
  cases q : H b with
  | none => rfl
  | some x =>
    have hm : b ∈ trk h H := List.mem_filter.mpr ⟨List.mem_range.mpr (Heap.lt_size e'), by simp [q]⟩
    have z : (hidT h H).get? b = none := PySem.W.hideAll_none (trk h H) hm
    rw [z] at e; cases e
end L2
namespace L2
open PySem PySem.Spec PyProof.Rows
structure Mod (K:PySem.W.Frag) (mg:Str->Option Value) (base:Heap):Prop where
 kin:K.In base
 glob:base.Ns mainGlobals mg
 blt:∃ mb,base.Ns builtinsNs mb/\∀ x:Str,x ≠ "__name__"->mb x = bootBuiltins x
 nolimit:base.NoLimit
structure Cx where
 prog:Program
 w:World
 K:PySem.W.Frag
 mg:Str->Option Value
 base:Heap
 A:Around
 N:List Str
 s₀:Shared
 H₀:Hp
 env:Env
 outer:List Env
 stack:List Env
 ex:List Addr
 fn:Str->Bool
 calm:Bool
 pn:List (Addr × Obj)
 xe:Value->Shared->Prop
def frs (l:List Env):List Addr:=l.filterMap (·.frame)
abbrev Cx.fs (X:Cx):List Addr:=frs X.outer
def Vis (sc:Scope) (x:Str):Prop:=sc.names.lookup x = some .local\/sc.names.lookup x = some .cell\/sc.names.lookup x = some .free
def Loc (sc:Scope) (x:Str):Prop:=sc.names.lookup x = some .local\/sc.names.lookup x = some .cell
def Look (env:Env) (h:Heap) (m:Str->Option Value) (x:Str) (u:Value):Prop :=
 (env.kindOf x = some .local/\m x = some u)\/((env.kindOf x = some .cell\/env.kindOf x = some .free)/\∃ c,env.cells.lookup x = some c/\h.IsCell c (some u))
structure Cx.Ok (X:Cx):Prop where
 mod:Mod X.K X.mg X.base
 kind:X.env.scope.kind = .function
 glob:X.env.globals = mainGlobals
 blt:X.env.builtins = builtinsNs
 above:X.s₀.heap.objs.size <= X.env.locals
 inj:∀ x y c,X.env.cells.lookup x = some c->X.env.cells.lookup y = some c->x = y
 has:∀ x,(X.env.kindOf x = some .cell\/X.env.kindOf x = some .free)->∃ c,X.env.cells.lookup x = some c
 cab:∀ x c,X.fn x = true->X.env.cells.lookup x = some c->X.s₀.heap.objs.size <= c
 hd:X.calm = true->X.A.handled = none
 frames:X.A.frames = some X.stack
 stk:X.stack = X.outer\/(X.stack = X.env :: X.outer/\X.env.frame = some X.env.locals)
 exf:∀ b ∈ X.ex,b ≠ X.env.locals/\∀ x c,X.env.cells.lookup x = some c->c ≠ b
 bs:∀ b o,X.base.get? b = some o->X.s₀.heap.get? b = some o/\X.H₀ b = none
 bsz:X.base.objs.size <= X.s₀.heap.objs.size
 noex:∀ b o,X.base.get? b = some o->b ∉ X.ex
 exfs:∀ b ∈ X.ex,b ∉ X.fs
 funs:X.s₀.heap.FunFrames X.base X.outer
 frf:∀ b ∈ X.fs,X.H₀ b = none
structure Inv (X:Cx) (pins:List (Addr × Obj)) (σ:List (Option V)) (H:Hp) (s:Shared):Prop where
 ok:X.Ok
 os:s.os = X.s₀.os
 bare:AllBare s.gens
 base:Un X.fs X.ex X.H₀ H X.s₀.heap s.heap
 loc:∃ m,s.heap.Ns X.env.locals m/\∀ (i:Nat) (x:Str) (v:V),X.N[i]? = some x->σ[i]? = some (some v)->Vis X.env.scope x->∃ u,RelV v u/\Look X.env s.heap m x u
 cell:∀ x c,X.env.cells.lookup x = some c->∃ v,s.heap.IsCell c v
 free:H X.env.locals = none
 freeC:∀ x c,X.env.cells.lookup x = some c->H c = none
 pin:∀ p ∈ X.pn ++ pins,s.heap.get? p.1 = some p.2/\H p.1 = none/\p.1 ≠ X.env.locals/\p.1 ∉ X.fs/\∀ v,p.2.data ≠ .cell v
 hok:HOk X.prog X.w H s.heap
 len:σ.length = X.N.length
section
variable {X:Cx} {pins:List (Addr × Obj)} {σ:List (Option V)} {H H':Hp} {s:Shared} {h':Heap}
theorem Cx.Ok.nofr (ok:X.Ok) {b:Addr} {o:Obj} (e:X.base.get? b = some o):b ∉ X.fs:=fun hb=>by
 have:=(ok.funs.mem hb).1
 rw [e] at this; cases this
theorem Inv.bs (I:Inv X pins σ H s):∀ b o,X.base.get? b = some o->s.heap.get? b = some o/\H b = none:=fun b o e =>
 ⟨I.base.keep b o (I.ok.bs b o e).1 (I.ok.bs b o e).2 (I.ok.nofr e) (I.ok.noex b o e),I.base.free b o (I.ok.bs b o e).1 (I.ok.bs b o e).2 (I.ok.noex b o e)⟩
theorem Inv.bk (I:Inv X pins σ H s):∀ b o,X.base.get? b = some o->s.heap.get? b = some o:=fun b o e=>(I.bs b o e).1
theorem Inv.mod (I:Inv X pins σ H s):Mod X.K X.mg X.base:=I.ok.mod
theorem Inv.kIn (I:Inv X pins σ H s):X.K.In s.heap:=I.ok.mod.kin.keeps I.bk
theorem Inv.fr (I:Inv X pins σ H s):∃ m,Fr X.base X.env.locals s.heap m :=
 let ⟨m,hn,_⟩:=I.loc
 ⟨m,hn,I.bk,Nat.le_trans I.ok.bsz I.ok.above⟩
theorem Inv.lt (I:Inv X pins σ H s):X.env.locals < s.heap.objs.size:=let ⟨_,hn,_⟩:=I.loc; hn.lt
theorem Inv.sz (I:Inv X pins σ H s):X.s₀.heap.objs.size <= s.heap.objs.size:=Nat.le_trans I.ok.above (Nat.le_of_lt I.lt)
theorem Inv.nofs (I:Inv X pins σ H s) {a:Addr} (h:s.heap.objs.size <= a):a ∉ X.fs:=fun hb=>by
 obtain ⟨_,o,ho,_⟩:=I.ok.funs.mem hb
 exact absurd (Nat.lt_of_lt_of_le (Heap.lt_size ho) (Nat.le_trans I.sz h)) (Nat.lt_irrefl _)
theorem Inv.cne (I:Inv X pins σ H s):∀ x c,X.env.cells.lookup x = some c->c ≠ X.env.locals:=fun x c e z=>by
 obtain ⟨v,o,ho,hd⟩:=I.cell x c e
 obtain ⟨m,⟨o',es,ep,ho',hd',_⟩,_⟩:=I.loc
 rw [z,ho'] at ho; cases ho; rw [hd'] at hd; cases hd
theorem Inv.funs (I : Inv X pins σ H s) : s.heap.FunFrames X.base X.outer := by
  have all : ∀ (l : List Env), (∀ b ∈ frs l, b ∈ X.fs) -> X.s₀.heap.FunFrames X.base l -> s.heap.FunFrames X.base l := by
    intro l
    induction l with
    | nil => intro _ _; trivial
    | cons env r ih =>
      intro hs hl
      obtain ⟨hk, ⟨L, o, hf, hn, ho, hd⟩, hr⟩ := hl
      have hL : L ∈ X.fs := hs L (by unfold frs; rw [List.filterMap_cons, hf]; exact List.mem_cons_self)
      obtain ⟨sl, e⟩ := I.base.slot L o ho (I.ok.frf L hL) hL fun z => I.ok.exfs L z hL
      exact ⟨hk, ⟨L, _, hf, hn, e, hd⟩, ih (fun b hb => hs b (by unfold frs; rw [List.filterMap_cons, hf]; exact List.mem_cons_of_mem _ hb)) hr⟩
  exact all X.outer (fun _ hb => hb) I.ok.funs
theorem Inv.stack (I:Inv X pins σ H s):s.heap.FunFrames X.base X.stack:=by
 rcases I.ok.stk with e | ⟨e,hf⟩
 ·rw [e]; exact I.funs
 ·rw [e]
  obtain ⟨m,hn,_⟩:=I.loc
  refine .cons (by rw [I.ok.kind]; decide) hf hn ?_ I.funs
  exact Heap.get?_none_of_le (Nat.le_trans I.ok.bsz I.ok.above)
theorem Inv.stkSub (I:Inv X pins σ H s):∀ b ∈ frs X.stack,b ∈ X.env.locals :: X.fs:=fun b hb=>by
 rcases I.ok.stk with e | ⟨e,hf⟩
 ·rw [e] at hb; exact List.mem_cons_of_mem _ hb
 ·rw [e] at hb
  unfold frs at hb
  rw [List.filterMap_cons,hf] at hb
  exact hb
theorem Inv.stkFree (I:Inv X pins σ H s):∀ b ∈ frs X.stack,H b = none:=fun b hb=>by
 rcases List.mem_cons.mp (I.stkSub b hb) with e | hb
 ·rw [e]; exact I.free
 ·obtain ⟨_,o,ho,_⟩:=I.ok.funs.mem hb
  exact I.base.free b o ho (I.ok.frf b hb) fun z=>I.ok.exfs b z hb
theorem Inv.step {g':Array GenState} {t':Nat} {d':Drawn} {ch:List Addr} (I:Inv X pins σ H s)
  (hch:∀ b ∈ ch,(b ∈ X.ex\/X.s₀.heap.objs.size <= b)/\b ≠ X.env.locals/\(∀ x c,X.env.cells.lookup x = some c->c ≠ b)/\∀ p ∈ X.pn ++ pins,p.1 ≠ b)
  (keep:∀ b o,b ≠ X.env.locals->b ∉ X.fs->b ∉ ch->s.heap.get? b = some o->H b = none->h'.get? b = some o)
  (slot:∀ b o,b ≠ X.env.locals->b ∈ X.fs->b ∉ ch->s.heap.get? b = some o->H b = none->∃ sl,h'.get? b = some { o with slots:=sl }) (free:∀ b o,b ∉ ch->s.heap.get? b = some o->H b = none->H' b = none)
  (there:∀ b o,b ∉ ch->s.heap.get? b = some o->∃ o',h'.get? b = some o')
  (tups:∀ b xs,H b = some (.tup xs)->H' b = some (.tup xs)) (frzs:∀ b o u,H b = some (.frz o u)->H' b = some (.frz o u)) (tbls:∀ b ps,H b = some (.tbl ps)->∃ more,H' b = some (.tbl (ps ++ more)))
  (ns:∀ m,s.heap.Ns X.env.locals m->h'.Ns X.env.locals m) (hok:HOk X.prog X.w H' h') (hg:AllBare g') :
  Inv X pins σ H' { s with heap:=h',gens:=g',drawn:=d',toks:=t' }:=by
 have neL:∀ b o,X.s₀.heap.get? b = some o->b ≠ X.env.locals:=fun b o e=>Nat.ne_of_lt (Nat.lt_of_lt_of_le (Heap.lt_size e) I.ok.above)
 have neC:∀ b o,X.s₀.heap.get? b = some o->b ∉ X.ex->b ∉ ch:=fun b o e hx hb=>by
  rcases (hch b hb).1 with z | z
  ·exact hx z
  ·exact absurd (Nat.lt_of_lt_of_le (Heap.lt_size e) z) (Nat.lt_irrefl _)
 have cellK:∀ x c,X.env.cells.lookup x = some c->∀ v,s.heap.IsCell c v->h'.IsCell c v:=fun x c e v ⟨o,ho,hd⟩=>by
  have nch:c ∉ ch:=fun z=>(hch c z).2.2.1 x c e rfl
  by_cases hc:c ∈ X.fs
  ·obtain ⟨sl,q⟩:=slot c o (I.cne x c e) hc nch ho (I.freeC x c e)
   exact ⟨_,q,hd⟩
  ·exact ⟨o,keep c o (I.cne x c e) hc nch ho (I.freeC x c e),hd⟩
 refine ⟨I.ok,I.os,hg,⟨fun b o e n hb hx=>?_,fun b o e n hb hx=>?_,fun b o e n hx=>?_,fun b o e hx=>?_,fun b xs e=>tups b xs (I.base.tups b xs e),fun b o xs e=>frzs b o xs (I.base.frzs b o xs e),fun b ps e=>?_⟩,?_,fun x c e=>?_,?_,fun x c e=>?_,fun p hp=>?_,hok,I.len⟩
 ·exact keep b o (neL b o e) hb (neC b o e hx) (I.base.keep b o e n hb hx) (I.base.free b o e n hx)
 ·obtain ⟨sl,e1⟩:=I.base.slot b o e n hb hx
  obtain ⟨sl',e2⟩:=slot b _ (neL b o e) hb (neC b o e hx) e1 (I.base.free b o e n hx)
  exact ⟨sl',e2⟩
 ·obtain ⟨o',e1⟩:=I.base.there b o e hx
  exact free b o' (neC b o e hx) e1 (I.base.free b o e n hx)
 ·obtain ⟨o',e1⟩:=I.base.there b o e hx
  exact there b o' (neC b o e hx) e1
 ·obtain ⟨m1,e1⟩:=I.base.tbls b ps e
  obtain ⟨m2,e2⟩:=tbls b _ e1
  exact ⟨m1 ++ m2,by rw [e2,Array.append_assoc]⟩
 ·obtain ⟨m,hn,hl⟩:=I.loc
  refine ⟨m,ns m hn,fun i x v e1 e2 e3=>?_⟩
  obtain ⟨u,r,l⟩:=hl i x v e1 e2 e3
  refine ⟨u,r,?_⟩
  rcases l with l | ⟨k,c,e,z⟩
  ·exact .inl l
  ·exact .inr ⟨k,c,e,cellK x c e _ z⟩
 ·obtain ⟨v,z⟩:=I.cell x c e
  exact ⟨v,cellK x c e v z⟩
 ·obtain ⟨m,⟨o,_,_,ho,_⟩,_⟩:=I.loc
  exact free _ o (fun z=>(hch _ z).2.1 rfl) ho I.free
 ·obtain ⟨v,o,ho,hd⟩:=I.cell x c e
  exact free c o (fun z=>(hch c z).2.2.1 x c e rfl) ho (I.freeC x c e)
 ·obtain ⟨e,n,ne,nf,d⟩:=I.pin p hp
  have nch:p.1 ∉ ch:=fun z=>(hch p.1 z).2.2.2 p hp rfl
  exact ⟨keep p.1 p.2 ne nf nch e n,free p.1 p.2 nch e n,ne,nf,d⟩
theorem Inv.un {t':Nat} (I:Inv X pins σ H s) (u:Un X.fs [] H H' s.heap h') (hok:HOk X.prog X.w H' h'):Inv X pins σ H' { s with heap:=h',toks:=t' }:=by
 obtain ⟨m,⟨o,es,ep,ho,r⟩,_⟩:=id I.loc
 obtain ⟨sl,hL⟩:=u.any ho I.free (by simp)
 exact I.step (g':=s.gens) (d':=s.drawn) (ch:=[]) (fun _ z=>nomatch z) (fun b o _ hb _ e n=>u.keep b o e n hb (by simp)) (fun b o _ hb _ e n=>u.slot b o e n hb (by simp)) (fun b o _ e n=>u.free b o e n (by simp)) (fun b o _ e=>u.there b o e (by simp)) u.tups u.frzs u.tbls (fun m' hm=>by
  obtain ⟨o',es',ep',ho',r'⟩:=hm
  rw [ho] at ho'; cases ho'
  exact ⟨_,es',ep',hL,r'⟩) hok I.bare
theorem Inv.call {g':Array GenState} {t':Nat} {d':Drawn} {ch:List Addr} (I:Inv X pins σ H s) (u:Un (frs X.stack) ch H H' s.heap h') (hok:HOk X.prog X.w H' h') (hg:AllBare g')
  (hch:∀ b ∈ ch,(b ∈ X.ex\/X.s₀.heap.objs.size <= b)/\b ≠ X.env.locals/\(∀ x c,X.env.cells.lookup x = some c->c ≠ b)/\∀ p ∈ X.pn ++ pins,p.1 ≠ b) :
  Inv X pins σ H' { s with heap:=h',gens:=g',drawn:=d',toks:=t' }:=by
 obtain ⟨m,⟨o,es,ep,ho,r⟩,_⟩:=id I.loc
 obtain ⟨sl,hL⟩:=u.any ho I.free fun z=>(hch _ z).2.1 rfl
 exact I.step (ch:=ch) hch (fun b o hL hb hc e n=>u.keep b o e n (fun z=>(List.mem_cons.mp (I.stkSub b z)).elim hL hb) hc) (fun b o _ _ hc e n=>u.any e n hc) (fun b o hc e n=>u.free b o e n hc) (fun b o hc e=>u.there b o e hc) u.tups u.frzs u.tbls (fun m' hm=>by
  obtain ⟨o',es',ep',ho',r'⟩:=hm
  rw [ho] at ho'; cases ho'
  exact ⟨_,es',ep',hL,r'⟩) hok hg
theorem Inv.turned {t' : Nat} {it : Addr} (I : Inv X pins σ H s) (k : ∀ b o, b ≠ it -> s.heap.get? b = some o -> h'.get? b = some o) (hn : H it = none) (hL : it ≠ X.env.locals)
  (h1 : it ∈ X.ex \/ X.s₀.heap.objs.size <= it) (h2 : ∀ x c, X.env.cells.lookup x = some c -> c ≠ it) (h3 : ∀ p ∈ X.pn ++ pins, p.1 ≠ it) : Inv X pins σ H { s with heap := h', toks := t' } := by
 have nit : ∀ b u, H b = some u -> b ≠ it := fun b u e z => by rw [z, hn] at e; cases e
 refine I.step (g' := s.gens) (d' := s.drawn) (ch := [it]) (fun b hb => ?_) (fun b o _ _ hc e _ => k b o (fun z => hc (by simp [z])) e) (fun b o _ _ hc e _ => ⟨o.slots, k b o (fun z => hc (by simp [z])) e⟩) (fun _ _ _ _ n => n)
  (fun b o hc e => ⟨o, k b o (fun z => hc (by simp [z])) e⟩) (fun _ _ e => e) (fun _ _ _ e => e) (fun b ps e => ⟨#[], by rw [e]; simp⟩) (fun m hm => ?_) ⟨fun b u e => ?_, I.hok.sm, let ⟨o, _, _, e, _⟩ := I.ok.mod.glob; ⟨mainGlobals, o, by decide, k _ _ (fun z => by
   rcases h1 with q | q
   ·exact I.ok.noex _ _ e (z ▸ q)
   ·exact absurd (Nat.lt_of_lt_of_le (Heap.lt_size e) (Nat.le_trans I.ok.bsz q)) (by rw [z]; exact Nat.lt_irrefl _)) (I.bk _ _ e)⟩⟩ I.bare
 ·have e : b = it := by simpa using hb
  subst e
  exact ⟨h1, hL, h2, h3⟩
 ·obtain ⟨o, es, ep, ho, r⟩ := hm
  exact ⟨o, es, ep, k _ o (Ne.symm hL) ho, r⟩
 ·refine (I.hok b u e).stay (fun c v hc q => k c v ?_ q) (fun _ q => q) fun _ _ q => q
  rcases hc with z | z
  ·rw [z]; exact nit b u e
  ·exact nit c _ z
theorem Inv.tok (I:Inv X pins σ H s) (t:Nat):Inv X pins σ H { s with toks:=t }:=I.un (h':=s.heap) (t':=t) Un.refl I.hok
theorem Inv.kept {t':Nat} (I:Inv X pins σ H s) (k:∀ b u,s.heap.get? b = some u->h'.get? b = some u):Inv X pins σ H { s with heap:=h',toks:=t' }:=I.un (Un.kept k) (I.hok.kept k)
theorem Inv.laid {a:Addr} {o:HO} {t':Nat} (I:Inv X pins σ H s) (k:∀ b u,s.heap.get? b = some u->h'.get? b = some u) (hp:s.heap.objs.size <= a) (new:ObjOk X.prog X.w (upd H a o) h' a o) :
  Inv X pins σ (upd H a o) { s with heap:=h',toks:=t' }:=I.un (Un.laid k hp (I.hok.fresh hp)) (I.hok.laid k hp new)
theorem Inv.write {x e:Addr} {o:HO} {t':Nat} (I:Inv X pins σ H s) (mu:Mut (H x)) (he:e = x\/H e = some (.own x)) (k:∀ b u,b ≠ e->s.heap.get? b = some u->h'.get? b = some u) (heo:∃ u,h'.get? e = some u)
  (new:ObjOk X.prog X.w (upd H x o) h' x o):Inv X pins σ (upd H x o) { s with heap:=h',toks:=t' }:=I.un (Un.write mu he k heo) (I.hok.write mu he k heo new)
theorem Inv.weak {σ':List (Option V)} (I:Inv X pins σ H s) (hl:σ'.length = σ.length) (w:∀ (i:Nat) v,σ'[i]? = some (some v)->σ[i]? = some (some v)):Inv X pins σ' H s :=
 ⟨I.ok,I.os,I.bare,I.base,let ⟨m,hn,hl'⟩:=I.loc; ⟨m,hn,fun i x v e1 e2 e3=>hl' i x v e1 (w i v e2) e3⟩,I.cell,I.free,I.freeC,I.pin,I.hok,hl.trans I.len⟩
theorem Inv.pins_of {pins':List (Addr × Obj)} (I:Inv X pins σ H s) (h:∀ p ∈ pins',s.heap.get? p.1 = some p.2/\H p.1 = none/\p.1 ≠ X.env.locals/\p.1 ∉ X.fs/\∀ v,p.2.data ≠ .cell v):Inv X pins' σ H s :=
 ⟨I.ok,I.os,I.bare,I.base,I.loc,I.cell,I.free,I.freeC,fun p hp=>(List.mem_append.mp hp).elim (fun z=>I.pin p (List.mem_append_left _ z)) (h p),I.hok,I.len⟩
theorem nodup_ix {N:List Str} (hN:N.Nodup) {i j:Nat} {x:Str} (a:N[i]? = some x) (b:N[j]? = some x):i = j:=by
 obtain ⟨h1,e1⟩:=List.getElem?_eq_some_iff.mp a
 obtain ⟨h2,e2⟩:=List.getElem?_eq_some_iff.mp b
 exact (List.getElem_inj hN).mp (e1.trans e2.symm)
theorem store_ok2 {M:Model} {A:Around} {E:Value->Shared->Prop} {i:Nat} {x:Str} {v:V} {u:Value} {Q:Unit->Shared->Prop} (I:Inv X pins σ H s) (hN:X.N.Nodup) (hi:X.N[i]? = some x) (hx:Loc X.env.scope x) (r:RelV v u)
  (h:∀ s',Inv X pins (σ.set i (some v)) H s'->(∃ a,Heap.SameBut a s.heap s'.heap/\(a = X.env.locals\/X.env.cells.lookup x = some a))->Q () s') (hf:X.fn x = true\/X.env.scope.names.lookup x = some .local:=by first | exact .inl rfl | exact .inr rfl | assumption):wpAny M A (storeName X.env x u) Q E s:=by
 obtain ⟨m,hn,hl⟩:=id I.loc
 have hcls:(X.env.scope.kind == .class || (X.env.scope.kind == .module && X.env.locals != X.env.globals)) = false:=by rw [I.ok.kind]; rfl
 have hiσ:i < σ.length:=by rw [I.len]; exact (List.getElem?_eq_some_iff.mp hi).1
 have cne:=I.cne
 have tracked:∀ {a:Addr} {h':Heap},(∃ o,s.heap.get? a = some o/\H a = none)->Heap.SameBut a s.heap h'->(∃ o',h'.get? a = some o')->HOk X.prog X.w H h':=fun {a h'} ha hs hz=>by
  refine ⟨fun b ob e=>?_,I.hok.sm,?_⟩
  rotate_left
  ·obtain ⟨b,o,l,e⟩:=I.hok.bg
   by_cases hb:b = a
   ·obtain ⟨v,hv⟩:=hz
    exact ⟨a,v,hb ▸ l,hv⟩
   ·exact ⟨b,o,l,(hs.2 b hb).trans e⟩
  obtain ⟨_,_,hfree⟩:=ha
  refine (I.hok b ob e).stay (fun c w' hc q=>(hs.2 c ?_).trans q) (fun _ q=>q) fun _ _ q=>q
  rintro rfl
  rcases hc with rfl | hc
  ·rw [hfree] at e; cases e
  ·rw [hfree] at hc; cases hc
 rcases hx with hk | hk
 ·refine wpAny_storeName_local hk hn (fun h' hn' hs=>?_) hcls
  obtain ⟨oL,_,_,hoL,_⟩:=id hn
  refine h _ ⟨I.ok,I.os,I.bare,⟨fun b o e n hb hx=>?_,fun b o e n hb hx=>?_,I.base.free,fun b o e hx=>?_,I.base.tups,I.base.frzs,I.base.tbls⟩,⟨_,hn',fun j y v' e1 e2 e3=>?_⟩,fun y c e=>?_,I.free,I.freeC,fun p hp=>?_,tracked ⟨oL,hoL,I.free⟩ hs (let ⟨o,_,_,e,_⟩:=hn'; ⟨o,e⟩),by simpa using I.len⟩ ⟨_,hs,.inl rfl⟩
  ·exact (hs.2 b (Nat.ne_of_lt (Nat.lt_of_lt_of_le (Heap.lt_size e) I.ok.above))).trans (I.base.keep b o e n hb hx)
  ·obtain ⟨sl,e1⟩:=I.base.slot b o e n hb hx
   exact ⟨sl,(hs.2 b (Nat.ne_of_lt (Nat.lt_of_lt_of_le (Heap.lt_size e) I.ok.above))).trans e1⟩
  ·obtain ⟨o',e1⟩:=I.base.there b o e hx
   exact ⟨o',(hs.2 b (Nat.ne_of_lt (Nat.lt_of_lt_of_le (Heap.lt_size e) I.ok.above))).trans e1⟩
  ·by_cases hj:j = i
   ·subst hj
    rw [hi] at e1; cases e1
    rw [List.getElem?_set_self hiσ] at e2
    cases e2
    exact ⟨u,r,.inl ⟨hk,by simp⟩⟩
   ·rw [List.getElem?_set_ne (Ne.symm hj)] at e2
    obtain ⟨u',r',q⟩:=hl j y v' e1 e2 e3
    refine ⟨u',r',?_⟩
    rcases q with ⟨k,e⟩ | ⟨k,c,e,z⟩
    ·refine .inl ⟨k,?_⟩
     have:y ≠ x:=fun e=>hj (nodup_ix hN e1 (e ▸ hi))
     simp [this,e]
    ·exact .inr ⟨k,c,e,z.sameBut hs (cne y c e)⟩
  ·obtain ⟨w',z⟩:=I.cell y c e
   exact ⟨w',z.sameBut hs (cne y c e)⟩
  ·obtain ⟨e,n,ne,nf,d⟩:=I.pin p hp
   exact ⟨(hs.2 p.1 ne).trans e,n,ne,nf,d⟩
 ·have hfn:X.fn x = true:=by
   rcases hf with z | z
   ·exact z
   ·rw [z] at hk; cases hk
  obtain ⟨c,hc⟩:=I.ok.has x (.inl hk)
  obtain ⟨w',z⟩:=I.cell x c hc
  refine wpAny_storeName_cell I.ok.kind hk hc z (fun h' hc' hs=>?_)
  obtain ⟨oc,hoc,hocd⟩:=id z
  refine h { s with heap:=h' } ⟨I.ok,I.os,I.bare,⟨fun b o e n hb hx=>?_,fun b o e n hb hx=>?_,I.base.free,fun b o e hx=>?_,I.base.tups,I.base.frzs,I.base.tbls⟩,⟨m,hn.sameBut hs (Ne.symm (cne x c hc)),fun j y v' e1 e2 e3=>?_⟩,fun y c' e=>?_,I.free,I.freeC,fun p hp=>?_,tracked ⟨oc,hoc,I.freeC x c hc⟩ hs (let ⟨o,e,_⟩:=hc'; ⟨o,e⟩),by simpa using I.len⟩ ⟨c,hs,.inr hc⟩
  ·exact (hs.2 b (Nat.ne_of_lt (Nat.lt_of_lt_of_le (Heap.lt_size e) (I.ok.cab x c hfn hc)))).trans (I.base.keep b o e n hb hx)
  ·obtain ⟨sl,e1⟩:=I.base.slot b o e n hb hx
   exact ⟨sl,(hs.2 b (Nat.ne_of_lt (Nat.lt_of_lt_of_le (Heap.lt_size e) (I.ok.cab x c hfn hc)))).trans e1⟩
  ·obtain ⟨o',e1⟩:=I.base.there b o e hx
   exact ⟨o',(hs.2 b (Nat.ne_of_lt (Nat.lt_of_lt_of_le (Heap.lt_size e) (I.ok.cab x c hfn hc)))).trans e1⟩
  ·by_cases hj:j = i
   ·subst hj
    rw [hi] at e1; cases e1
    rw [List.getElem?_set_self hiσ] at e2
    cases e2
    exact ⟨u,r,.inr ⟨.inl hk,c,hc,hc'⟩⟩
   ·rw [List.getElem?_set_ne (Ne.symm hj)] at e2
    obtain ⟨u',r',q⟩:=hl j y v' e1 e2 e3
    refine ⟨u',r',?_⟩
    rcases q with q | ⟨k,c',e,z'⟩
    ·exact .inl q
    ·refine .inr ⟨k,c',e,z'.sameBut hs ?_⟩
     rintro rfl
     exact hj (nodup_ix hN e1 (I.ok.inj _ _ _ e hc ▸ hi))
  ·by_cases hcc:c' = c
   ·subst hcc; exact ⟨_,hc'⟩
   ·obtain ⟨w2,z2⟩:=I.cell y c' e
    exact ⟨w2,z2.sameBut hs hcc⟩
  ·obtain ⟨e,n,ne,nf,d⟩:=I.pin p hp
   refine ⟨(hs.2 p.1 ?_).trans e,n,ne,nf,d⟩
   intro q
   rw [q,hoc] at e
   have q':oc = p.2:=Option.some.inj e
   exact d w' (by rw [<- q']; exact hocd)
theorem store_ok {M:Model} {A:Around} {E:Value->Shared->Prop} {i:Nat} {x:Str} {v:V} {u:Value} {Q:Unit->Shared->Prop} (I:Inv X pins σ H s) (hN:X.N.Nodup) (hi:X.N[i]? = some x) (hx:Loc X.env.scope x) (r:RelV v u)
  (h:∀ s',Inv X pins (σ.set i (some v)) H s'->Q () s') (hf:X.fn x = true\/X.env.scope.names.lookup x = some .local:=by first | exact .inl rfl | exact .inr rfl | assumption):wpAny M A (storeName X.env x u) Q E s :=
 store_ok2 I hN hi hx r (fun s' I' _=>h s' I') hf
theorem Inv.call' {s':Shared} {ch:List Addr} (I:Inv X pins σ H s) (ho:s'.os = s.os) (u:Un (frs X.stack) ch H H' s.heap s'.heap) (hok:HOk X.prog X.w H' s'.heap) (hg:AllBare s'.gens)
  (hch:∀ b ∈ ch,(b ∈ X.ex\/X.s₀.heap.objs.size <= b)/\b ≠ X.env.locals/\(∀ x c,X.env.cells.lookup x = some c->c ≠ b)/\∀ p ∈ X.pn ++ pins,p.1 ≠ b):Inv X pins σ H' s':=by
 obtain ⟨h',g',d',t',o'⟩:=s'
 have e:o' = s.os:=ho
 subst e
 exact I.call (g':=g') (t':=t') (d':=d') u hok hg hch
end
abbrev XK:=Value->Option Addr->Hp->Prop
abbrev St:=List (Option V)
abbrev VK:=V->Hp->Prop
abbrev TE:=St->Hp->VK->Prop
abbrev TT:=St->Hp->(Bool->Hp->Prop)->Prop
abbrev TA:=St->Hp->(List V->Hp->Prop)->Prop
structure Ends where
 nx:St->Hp->Prop
 rt:VK
 bk:St->Hp->Prop:=fun _ _=>False
 ct:St->Hp->Prop:=fun _ _=>False
abbrev TS:=Ends->St->Hp->Prop
def EP (X:Cx) (pins:List (Addr × Obj)) (σ:St) (Q:VK) (u:Value) (s':Shared):Prop:=∃ v H',Inv X pins σ H' s'/\RelV v u/\Q v H'
def TP (X:Cx) (pins:List (Addr × Obj)) (σ:St) (Q:Bool->Hp->Prop) (b:Bool) (s':Shared):Prop:=∃ H',Inv X pins σ H' s'/\Q b H'
def AP (X:Cx) (pins:List (Addr × Obj)) (σ:St) (Q:List V->Hp->Prop) (us:List Value) (s':Shared):Prop:=∃ vs H',Inv X pins σ H' s'/\Vals vs us/\Q vs H'
def SP (X:Cx) (pins:List (Addr × Obj)) (D:Ends) (f:Flow) (s':Shared):Prop :=
 match f with
 | .next=>∃ σ' H',Inv X pins σ' H' s'/\D.nx σ' H'
 | .brk=>∃ σ' H',Inv X pins σ' H' s'/\D.bk σ' H'
 | .cont=>∃ σ' H',Inv X pins σ' H' s'/\D.ct σ' H'
 | .ret u=>∃ v σ' H',Inv X pins σ' H' s'/\RelV v u/\D.rt v H'
def PE (X:Cx) (e:Expr) (t:TE):Prop :=
 ∀ (pins:List (Addr × Obj)) (s:Shared) (σ:St) (H:Hp) (Q:VK),Inv X pins σ H s->t σ H Q->wpAny (model X.prog X.w) X.A (eval e X.env) (EP X pins σ Q) X.xe s
def PT (X:Cx) (e:Expr) (t:TT):Prop :=
 ∀ (pins:List (Addr × Obj)) (s:Shared) (σ:St) (H:Hp) (Q:Bool->Hp->Prop),Inv X pins σ H s->t σ H Q->wpAny (model X.prog X.w) X.A (isTrue e X.env (eval e X.env)) (TP X pins σ Q) X.xe s
def PW (X:Cx) (e:Expr) (t:TT):Prop :=
 ∀ (whole:Sem Value) (pins:List (Addr × Obj)) (s:Shared) (σ:St) (H:Hp) (Q:Bool->Hp->Prop),Inv X pins σ H s->t σ H Q->wpAny (model X.prog X.w) X.A (isTrue e X.env whole) (TP X pins σ Q) X.xe s
theorem PW.pt {X:Cx} {e:Expr} {t:TT} (h:PW X e t):PT X e t:=h _
def PA (X:Cx) (es:List Expr) (t:TA):Prop :=
 ∀ (pos:Pos) (pins:List (Addr × Obj)) (s:Shared) (σ:St) (H:Hp) (Q:List V->Hp->Prop),Inv X pins σ H s->t σ H Q->wpAny (model X.prog X.w) X.A (spliced (backTo pos (starEach es X.env))) (AP X pins σ Q) X.xe s
def PS (X:Cx) (st:Stmt) (t:TS):Prop :=
 ∀ (pins:List (Addr × Obj)) (s:Shared) (σ:St) (H:Hp) (D:Ends),Inv X pins σ H s->t D σ H->wpAny (model X.prog X.w) X.A (exec st X.env) (SP X pins D) X.xe s
def PSs (X:Cx) (st:List Stmt) (t:TS):Prop :=
 ∀ (pins:List (Addr × Obj)) (s:Shared) (σ:St) (H:Hp) (D:Ends),Inv X pins σ H s->t D σ H->wpAny (model X.prog X.w) X.A (execs st X.env) (SP X pins D) X.xe s
theorem thn {α:Type} {t:Sem α} {Q Q':α->Shared->Prop} {M:Model} {A:Around} {E:Value->Shared->Prop} {s:Shared} (h:wpAny M A t Q E s) (hQ:∀ a s,Q a s->Q' a s):wpAny M A t Q' E s:=wpAny_mono h hQ fun _ _ x=>x
end L2
namespace L2
open PySem PySem.Spec PyProof.Rows
section
variable {X:Cx}
def tVar (i:Nat):TE:=fun σ H Q=>∃ v,σ[i]? = some (some v)/\Q v H
def tC (v:V):TE:=fun _ H Q=>Q v H
theorem pe_var {i:Nat} {x:Str} {pos:Pos} (hN:X.N[i]? = some x) (hv:Vis X.env.scope x) (hd:(x == ("__debug__" : Str)) = false:=by decide) (hcd:(x == ("__classdict__" : Str)) = false:=by decide):PE X (.Name x pos) (tVar i):=by
 intro pins s σ H Q I h
 obtain ⟨v,e,h⟩:=h
 obtain ⟨m,hn,hl⟩:=I.loc
 obtain ⟨u,r,l⟩:=hl i x v hN e hv
 have fin:EP X pins σ Q u s:=⟨v,H,I,r,h⟩
 rcases l with ⟨hk,hm⟩ | ⟨hk,c,hc,hcell⟩
 ·exact wpAny_Name (wpAny_loadName_local I.ok.kind hk hn hm fin) hd
 ·rcases hk with hk | hk
  ·exact wpAny_Name (wpAny_loadName_cell I.ok.kind hk hc hcell fin) hd
  ·exact wpAny_Name (wpAny_loadName_free I.ok.kind hk hc hcell fin hcd) hd
theorem pe_int {i j pos}:PE X (.Constant (.int i) j pos) (tC (.int i)):=fun _ _ _ H _ I h=>wpAny_Constant_int ⟨.int i,H,I.tok _,⟨_,rfl⟩,h⟩
theorem pe_bl {b j pos}:PE X (.Constant (.bool b) j pos) (tC (.bl b)):=fun _ _ _ H _ I h=>Constant_bool ⟨.bl b,H,I,rfl,h⟩
theorem pe_non {j pos}:PE X (.Constant .none j pos) (tC .non):=fun _ _ _ H _ I h=>Constant_none ⟨.non,H,I,rfl,h⟩
theorem pe_str {x j pos}:PE X (.Constant (.str x) j pos) (tC (.str x)):=fun _ _ _ H _ I h=>Calls.Constant_str ⟨.str x,H,I.tok _,⟨_,rfl⟩,h⟩
def Gl (X:Cx) (x:Str):Prop:=X.env.kindOf x = some .globalImplicit
theorem ld_glob {E:Value->Shared->Prop} {pins:List (Addr × Obj)} {s:Shared} {σ:St} {H:Hp} {x:Str} {u:Value} {pos:Pos} {Q:Value->Shared->Prop} (I:Inv X pins σ H s) (hg:Gl X x) (hm:X.mg x = some u) (h:Q u s)
  (hd:(x == ("__debug__" : Str)) = false:=by decide):wpAny (model X.prog X.w) X.A (eval (.Name x pos) X.env) Q E s :=
 Calls.Name_function_global I.ok.kind hg (Calls.loadGlobal_global (by rw [I.ok.glob]; exact I.mod.glob.keeps I.bk) hm h) hd
theorem ld_blt {E:Value->Shared->Prop} {pins:List (Addr × Obj)} {s:Shared} {σ:St} {H:Hp} {x:Str} {u:Value} {pos:Pos} {Q:Value->Shared->Prop} (I:Inv X pins σ H s) (hg:Gl X x) (hm:X.mg x = none) (hv:bootBuiltins x = some u) (h:Q u s)
  (hn:x ≠ "__name__":=by decide) (hd:(x == ("__debug__" : Str)) = false:=by decide):wpAny (model X.prog X.w) X.A (eval (.Name x pos) X.env) Q E s:=by
 obtain ⟨mb,h1,h2⟩:=I.mod.blt
 exact Calls.Name_function_global I.ok.kind hg (Calls.loadGlobal_builtin (by rw [I.ok.glob]; exact I.mod.glob.keeps I.bk) hm (by rw [I.ok.blt]; exact h1.keeps I.bk) ((h2 x hn).trans hv) h) hd
theorem pe_glob {x:Str} {v:V} {u:Value} {pos:Pos} (hg:Gl X x) (hm:X.mg x = some u) (r:RelV v u) (hd:(x == ("__debug__" : Str)) = false:=by decide):PE X (.Name x pos) (tC v) :=
 fun _ _ _ H _ I h=>ld_glob I hg hm ⟨v,H,I,r,h⟩ hd
theorem pe_bltn {x:Str} {v:V} {u:Value} {pos:Pos} (hg:Gl X x) (hm:X.mg x = none) (hv:bootBuiltins x = some u) (r:RelV v u) (hn:x ≠ "__name__":=by decide) (hd:(x == ("__debug__" : Str)) = false:=by decide):PE X (.Name x pos) (tC v) :=
 fun _ _ _ H _ I h=>ld_blt I hg hm hv ⟨v,H,I,r,h⟩ hn hd
variable {a b:Expr} {ta tb:TE} {pos:Pos}
variable {tA tB':TT} {rest:List Expr}
def tAnd (t u:TT):TT:=fun σ H Q=>t σ H fun c H1=>if c = true then u σ H1 Q else Q false H1
def tOr (t u:TT):TT:=fun σ H Q=>t σ H fun c H1=>if c = true then Q true H1 else u σ H1 Q
def tNot (t:TT):TT:=fun σ H Q=>t σ H fun c H1=>Q (!c) H1
theorem pw_and1 (ha:PT X a tA):PW X (.BoolOp .And [a] pos) tA:=by
 intro wh pins s σ H Q I h
 refine isTrue_and (thn (ha pins s σ H Q I h) fun c s1 e=>?_)
 cases c with
 | true=>exact isTrue_and_nil e
 | false=>exact e
theorem pw_or1 (ha:PT X a tA):PW X (.BoolOp .Or [a] pos) tA:=by
 intro wh pins s σ H Q I h
 refine isTrue_or (thn (ha pins s σ H Q I h) fun c s1 e=>?_)
 cases c with
 | false=>exact isTrue_or_nil e
 | true=>exact e
theorem pw_and (ha:PT X a tA) (hb:PW X (.BoolOp .And (b :: rest) pos) tB'):PW X (.BoolOp .And (a :: b :: rest) pos) (tAnd tA tB'):=by
 intro wh pins s σ H Q I h
 refine isTrue_and (thn (ha pins s σ H _ I h) fun c s1 ⟨H1,I1,q1⟩=>?_)
 cases c with
 | true=>exact hb wh pins s1 σ H1 Q I1 q1
 | false=>exact ⟨H1,I1,q1⟩
theorem pw_or (ha:PT X a tA) (hb:PW X (.BoolOp .Or (b :: rest) pos) tB'):PW X (.BoolOp .Or (a :: b :: rest) pos) (tOr tA tB'):=by
 intro wh pins s σ H Q I h
 refine isTrue_or (thn (ha pins s σ H _ I h) fun c s1 ⟨H1,I1,q1⟩=>?_)
 cases c with
 | true=>exact ⟨H1,I1,q1⟩
 | false=>exact hb wh pins s1 σ H1 Q I1 q1
theorem pt_not (ha:PT X a tA):PT X (.UnaryOp .Not a pos) (tNot tA):=by
 intro pins s σ H Q I h
 exact isTrue_not (ha pins s σ H (fun c H1=>Q (!c) H1) I h)
def tAndV (ta tb:TE):TE:=fun σ H Q=>ta σ H fun x H1=>∃ c,x = .bl c/\if c = true then tb σ H1 Q else Q (.bl false) H1
def tNotV (ta:TE):TE:=fun σ H Q=>ta σ H fun x H1=>∃ c,x = .bl c/\Q (.bl (!c)) H1
theorem pe_one {op} {t:TE} (h:PE X a t):PE X (.BoolOp op [a] pos) t:=fun pins s σ H Q I hw=>BoolOp_one (h pins s σ H Q I hw)
theorem pe_and (ha:PE X a ta) (hb:PE X (.BoolOp .And (b :: rest) pos) tb):PE X (.BoolOp .And (a :: b :: rest) pos) (tAndV ta tb):=by
 intro pins s σ H Q I h
 refine BoolOp_and (thn (ha pins s σ H _ I h) fun v s1 ⟨x,H1,I1,r1,q1⟩=>?_)
 obtain ⟨c,rfl,q1⟩:=q1
 cases r1
 refine wpAny_truthy_bool ?_
 cases c with
 | true=>exact hb pins s1 σ H1 Q I1 q1
 | false=>exact ⟨.bl false,H1,I1,rfl,q1⟩
theorem pe_not (ha:PE X a ta):PE X (.UnaryOp .Not a pos) (tNotV ta):=by
 intro pins s σ H Q I h
 refine UnaryOp_ (thn (ha pins s σ H _ I h) fun v s1 ⟨x,H1,I1,r1,q1⟩=>?_)
 obtain ⟨c,rfl,q1⟩:=q1
 cases r1
 exact not_of (wpAny_truthy_bool ⟨.bl (!c),H1,I1,rfl,q1⟩)
def tIf (t:TT) (ta tb:TE):TE:=fun σ H Q=>t σ H fun c H1=>if c = true then ta σ H1 Q else tb σ H1 Q
theorem pe_ifExp {c:Expr} (hc:PT X c tA) (ha:PE X a ta) (hb:PE X b tb):PE X (.IfExp c a b pos) (tIf tA ta tb):=by
 intro pins s σ H Q I h
 refine wpAny_IfExp (thn (hc pins s σ H _ I h) fun d s1 ⟨H1,I1,q1⟩=>?_)
 cases d with
 | true=>exact ha pins s1 σ H1 Q I1 q1
 | false=>exact hb pins s1 σ H1 Q I1 q1
end
end L2
namespace L2
open PySem PySem.Spec PyProof.Rows
def SqL (K:PySem.W.Frag) (H:Hp) (a:Addr) (xs:List V):Prop :=
 Rd H a (.lst xs) \/
  ∃ (o:Obj) (its:Array Value) (n:Nat),K.lookup a = some o/\o.cls = .type "list"/\o.dict = none/\o.data = .seq its n/\its.size <= sizeLine/\Vals xs its.toList
def SqT (K:PySem.W.Frag) (H:Hp) (a:Addr) (xs:List V):Prop :=
 Rd H a (.tup xs) \/
  ∃ (o:Obj) (its:Array Value) (n:Nat),K.lookup a = some o/\o.cls = .type "tuple"/\o.data = .seq its n/\its.size <= sizeLine/\Vals xs its.toList
def absV:Value->Option V
 | .none=>some .non
 | .bool b=>some (.bl b)
 | .int i _=>some (.int i)
 | .str x _=>some (.str x)
 | .bytes b _=>some (.byt b)
 | .float b _=>some (.flt b)
 | .ref a=>some (.ref a)
 | .type n=>some (.ty n)
 | _=>none
theorem RelV.abs {x:V} {u:Value} (r:RelV x u):absV u = some x:=by
 cases x with
 | non=>cases r; rfl
 | bl _=>cases r; rfl
 | int _=>obtain ⟨t,rfl⟩:=r; rfl
 | str _=>obtain ⟨t,rfl⟩:=r; rfl
 | byt _=>obtain ⟨t,rfl⟩:=r; rfl
 | flt _=>obtain ⟨t,rfl⟩:=r; rfl
 | ref _=>cases r; rfl
 | ty _=>cases r; rfl
theorem RelV.inj {x y:V} {u:Value} (r:RelV x u) (q:RelV y u):x = y:=Option.some.inj (r.abs.symm.trans q.abs)
theorem Vals.inj:∀ {xs ys:List V} {us:List Value},Vals xs us->Vals ys us->xs = ys
 | _,_,_,.nil,.nil=>rfl
 | _,_,_,.cons r t,.cons r' t'=>by rw [r.inj r',Vals.inj t t']
section
variable {X:Cx} {pins:List (Addr × Obj)} {σ:St} {H:Hp} {s:Shared} {a:Addr} {xs ys:List V}
theorem SqL.of {K:PySem.W.Frag} (h:H a = some (.lst xs)):SqL K H a xs:=.inl (.inl h)
theorem SqT.of {K:PySem.W.Frag} (h:H a = some (.tup xs)):SqT K H a xs:=.inl (.inl h)
theorem Inv.list (I:Inv X pins σ H s) (h:SqL X.K H a xs):∃ its:List Value,Vals xs its/\PlainL s.heap a its.toArray/\xs.length <= sizeLine:=by
 rcases h with h | ⟨o,its,n,hk,hc,hd,hs,hz,r⟩
 ·obtain ⟨z,its,n,r,e⟩:=h.ok I.hok
  exact ⟨its,r,⟨_,n,e,rfl,rfl,rfl⟩,z⟩
 ·refine ⟨its.toList,r,⟨o,n,I.kIn a o hk,hc,hd,by simpa using hs⟩,?_⟩
  have e:=r.length
  simp only [Array.length_toList] at e
  omega
theorem Inv.tuple (I:Inv X pins σ H s) (h:SqT X.K H a xs):∃ its:List Value,Vals xs its/\IsTup s.heap a its.toArray/\xs.length <= sizeLine:=by
 rcases h with h | ⟨o,its,n,hk,hc,hs,hz,r⟩
 ·obtain ⟨z,its,r,p⟩:=h.ok I.hok
  exact ⟨its,r,p,z⟩
 ·refine ⟨its.toList,r,⟨o,I.kIn a o hk,hc,n,by simpa using hs⟩,?_⟩
  have e:=r.length
  simp only [Array.length_toList] at e
  omega
theorem Inv.list_inj (I:Inv X pins σ H s) (h:SqL X.K H a xs) (h':SqL X.K H a ys):xs = ys:=by
 obtain ⟨its,r,⟨o,n,e,_,_,d⟩,_⟩:=I.list h
 obtain ⟨its',r',⟨o',n',e',_,_,d'⟩,_⟩:=I.list h'
 rw [e] at e'; cases e'
 rw [d] at d'
 injection d' with d1 _
 have:its = its':=by simpa using congrArg Array.toList d1
 subst this
 exact r.inj r'
end
abbrev Cx.wish (X:Cx) (E:Value->Shared->Prop):Cx:={ X with xe:=E }
abbrev Cx.nox (X:Cx):Cx:=X.wish fun _ _=>False
theorem Cx.Ok.wish {X:Cx} (ok:X.Ok) (E:Value->Shared->Prop):(X.wish E).Ok :=
 ⟨ok.mod,ok.kind,ok.glob,ok.blt,ok.above,ok.inj,ok.has,ok.cab,ok.hd,ok.frames,ok.stk,ok.exf,ok.bs,ok.bsz,ok.noex,ok.exfs,ok.funs,ok.frf⟩
theorem Cx.Ok.unwish {X:Cx} {E:Value->Shared->Prop} (ok:(X.wish E).Ok):X.Ok :=
 ⟨ok.mod,ok.kind,ok.glob,ok.blt,ok.above,ok.inj,ok.has,ok.cab,ok.hd,ok.frames,ok.stk,ok.exf,ok.bs,ok.bsz,ok.noex,ok.exfs,ok.funs,ok.frf⟩
section
variable {X:Cx} {pins:List (Addr × Obj)} {σ:St} {H:Hp} {s:Shared} {E:Value->Shared->Prop}
theorem Inv.wish (I:Inv X pins σ H s) (E:Value->Shared->Prop):Inv (X.wish E) pins σ H s:=⟨I.ok.wish E,I.os,I.bare,I.base,I.loc,I.cell,I.free,I.freeC,I.pin,I.hok,I.len⟩
theorem Inv.unwish (I:Inv (X.wish E) pins σ H s):Inv X pins σ H s:=⟨I.ok.unwish,I.os,I.bare,I.base,I.loc,I.cell,I.free,I.freeC,I.pin,I.hok,I.len⟩
theorem SP.unwish {D:Ends} {f:Flow} {s':Shared} (h:SP (X.wish E) pins D f s'):SP X pins D f s':=by
 cases f with
 | next=>obtain ⟨σ',H',I,q⟩:=h; exact ⟨σ',H',I.unwish,q⟩
 | brk=>obtain ⟨σ',H',I,q⟩:=h; exact ⟨σ',H',I.unwish,q⟩
 | cont=>obtain ⟨σ',H',I,q⟩:=h; exact ⟨σ',H',I.unwish,q⟩
 | ret u=>obtain ⟨v,σ',H',I,r,q⟩:=h; exact ⟨v,σ',H',I.unwish,r,q⟩
theorem PSs.nox {st:List Stmt} {t:TS} (h:PSs X.nox st t):PSs X st t:=fun pins s σ H D I hw =>
 wpAny_mono (h pins s σ H D (I.wish _) hw) (fun _ _ q=>q.unwish) fun _ _ z=>False.elim z
end
section
variable {X:Cx} {st:Stmt} {rest:List Stmt} {t u:TS} {e:Expr} {te:TE} {pos:Pos}
def tNext:TS:=fun D σ H=>D.nx σ H
def tSeq (t u:TS):TS:=fun D σ H=>t { D with nx:=u D } σ H
theorem pss_nil:PSs X [] tNext:=fun _ _ σ H _ I h=>wpAny_execs_nil ⟨σ,H,I,h⟩
theorem pss_cons (h1 : PS X st t) (h2 : PSs X rest u) : PSs X (st :: rest) (tSeq t u) := by
  intro pins s σ H D I h
  refine wpAny_execs_cons (thn (h1 pins s σ H { D with nx := u D } I h) fun f s1 q => ?_)
  cases f with
  | next =>
    obtain ⟨σ', H', I', q⟩ := q
    exact h2 pins s1 σ' H' D I' q
  | ret v => exact q
  | brk => exact q
  | cont => exact q
theorem pss_one (h1:PS X st t):PSs X [st] t:=by
 intro pins s σ H D I h
 refine wpAny_execs_cons (thn (h1 pins s σ H D I h) fun f s1 q=>?_)
 cases f with
 | next=>exact wpAny_execs_nil q
 | ret v=>exact q
 | brk=>exact q
 | cont=>exact q
theorem Inv.quiet {pins:List (Addr × Obj)} {σ:St} {H:Hp} {s:Shared} (I:Inv X pins σ H s):interactive X.env = false:=by simp [interactive,I.ok.kind]
def tDrop (te:TE):TS:=fun D σ H=>te σ H fun _ H1=>D.nx σ H1
theorem ps_expr (he:PE X e te) (hs:swapsWith e none pos.line X.env = pure false:=by rfl):PS X (.Expr e pos) (tDrop te):=by
 intro pins s σ H D I h
 exact wpAny_Expr_any (thn (he pins s σ H _ I h) fun v s1 ⟨x,H1,I1,r1,q1⟩=>⟨σ,H1,I1,q1⟩) I.quiet hs
def tRet (te:TE):TS:=fun D σ H=>te σ H D.rt
theorem ps_ret (he:PE X e te):PS X (.Return (some e) pos) (tRet te):=by
 intro pins s σ H D I h
 exact wpAny_Return_some (thn (he pins s σ H _ I h) fun v s1 ⟨x,H1,I1,r1,q1⟩=>⟨x,σ,H1,I1,r1,q1⟩)
def tIfS (c:TT) (t u:TS):TS:=fun D σ H=>c σ H fun b H1=>if b = true then t D σ H1 else u D σ H1
theorem ps_if {c:Expr} {a b:List Stmt} {tc:TT} (hc:PT X c tc) (ha:PSs X a t) (hb:PSs X b u):PS X (.If c a b pos) (tIfS tc t u):=by
 intro pins s σ H D I h
 refine wpAny_If (thn (hc pins s σ H _ I h) fun d s1 ⟨H1,I1,q1⟩=>?_)
 cases d with
 | true=>exact ha pins s1 σ H1 D I1 q1
 | false=>exact hb pins s1 σ H1 D I1 q1
def tNever:TS:=fun _ _ _=>False
theorem ps_never:PS X st tNever:=fun _ _ _ _ _ _ h=>h.elim
end
abbrev TG:=V->St->Hp->(St->Hp->Prop)->Prop
abbrev TGs:=List V->St->Hp->(St->Hp->Prop)->Prop
def PG (X:Cx) (target:Expr) (t:TG):Prop :=
 ∀ (pins:List (Addr × Obj)) (s:Shared) (σ:St) (H:Hp) (v:V) (u:Value) (Q:St->Hp->Prop),Inv X pins σ H s->RelV v u->t v σ H Q ->
  wpAny (model X.prog X.w) X.A (assign target X.env u) (fun _ s'=>∃ σ' H',Inv X pins σ' H' s'/\Q σ' H') X.xe s
def PGs (X:Cx) (ts:List Expr) (t:TGs):Prop :=
 ∀ (pins:List (Addr × Obj)) (s:Shared) (σ:St) (H:Hp) (vs:List V) (us:List Value) (Q:St->Hp->Prop),Inv X pins σ H s->Vals vs us->t vs σ H Q ->
  wpAny (model X.prog X.w) X.A (assignInOrder ((assignEach ts X.env).map (·.2)) us) (fun _ s'=>∃ σ' H',Inv X pins σ' H' s'/\Q σ' H') X.xe s
abbrev TSet:=V->V->V->Hp->(Hp->Prop)->Prop
def PSet (X:Cx) (t:TSet):Prop :=
 ∀ (pins:List (Addr × Obj)) (s:Shared) (σ:St) (H:Hp) (o i v:V) (ov iv u:Value) (Q:Hp->Prop),Inv X pins σ H s->RelV o ov->RelV i iv->RelV v u->t o i v H Q ->
  wpAny (model X.prog X.w) X.A (setItem ov iv u) (fun _ s'=>∃ H',Inv X pins σ H' s'/\Q H') X.xe s
abbrev TIp:=V->V->Hp->VK->Prop
def PIp (X:Cx) (op:Operator) (t:TIp):Prop :=
 ∀ (pins:List (Addr × Obj)) (s:Shared) (σ:St) (H:Hp) (x y:V) (v u:Value) (Q:VK),Inv X pins σ H s->RelV x v->RelV y u->t x y H Q ->
  wpAny (model X.prog X.w) X.A (inplaceOp op v u) (EP X pins σ Q) X.xe s
section
variable {X:Cx} {pos:Pos}
def gName (i:Nat):TG:=fun v σ H Q=>Q (σ.set i (some v)) H
theorem pg_name {i:Nat} {x:Str} (hN:X.N.Nodup) (hi:X.N[i]? = some x) (hx:Loc X.env.scope x) (hf:X.fn x = true\/X.env.scope.names.lookup x = some .local:=by first | exact .inl rfl | exact .inr rfl | assumption):PG X (.Name x pos) (gName i):=by
 intro pins s σ H v u Q I r h
 exact wpAny_assign_Name (store_ok I hN hi hx r (fun s' I'=>⟨_,H,I',h⟩) hf)
def gNil:TGs:=fun vs σ H Q=>vs = []/\Q σ H
def gCons (t:TG) (u:TGs):TGs:=fun vs σ H Q=>∃ v r,vs = v :: r/\t v σ H fun σ' H'=>u r σ' H' Q
theorem pgs_nil:PGs X [] gNil:=by
 intro pins s σ H vs us Q I r h
 obtain ⟨e,h⟩:=h
 subst e
 cases r
 exact assignInOrder_nil ⟨σ,H,I,h⟩
theorem pgs_cons {e : Expr} {es : List Expr} {t : TG} {u : TGs} (h1 : PG X e t) (h2 : PGs X es u)
    (hs : (assignEach (e :: es) X.env).map (·.2) = assign e X.env :: (assignEach es X.env).map (·.2) := by rfl) : PGs X (e :: es) (gCons t u) := by
  intro pins s σ H vs us Q I r h
  obtain ⟨v, vr, e1, h⟩ := h
  subst e1
  cases r with
  | cons r rr =>
    rw [hs]
    refine assignInOrder_cons (thn (h1 pins s σ H _ _ _ I r h) fun _ s1 ⟨σ1, H1, I1, q1⟩ => ?_)
    exact h2 pins s1 σ1 H1 _ _ Q I1 rr q1
def gTup (K:PySem.W.Frag) (n:Nat) (t:TGs):TG:=fun v σ H Q=>∃ a xs,v = .ref a/\SqT K H a xs/\xs.length = n/\t xs σ H Q
theorem pg_tup {es:List Expr} {k:Nat} {t:TGs} {n:Nat} (hc:X.calm = true) (h:PGs X es t)
  (hn:(assignEach es X.env).length = n:=by rfl) (hst:(assignEach es X.env).findIdx? (·.1) = none:=by rfl):PG X (.Tuple es k pos) (gTup X.K n t):=by
 intro pins s σ H v u Q I r hw
 obtain ⟨a,xs,e1,hq,hl,hw⟩:=hw
 subst e1
 cases r
 obtain ⟨its,rv,ht,hz⟩:=I.tuple hq
 refine assign_Tuple_tuple (I.ok.hd hc) ht (by simp [hn,<- hl,rv.length]) hst fun h' hx=>?_
 have I1:Inv X pins σ H { s with heap:=h' }:=I.kept (t':=s.toks) fun b o e=>hx b o (Nat.ne_of_lt (Heap.lt_size e)) e
 exact h pins _ σ H xs _ Q I1 (by simpa using rv) hw
def gSub (to ti:TE) (t:TSet):TG:=fun v σ H Q=>to σ H fun o H1=>ti σ H1 fun i H2=>t o i v H2 fun H3=>Q σ H3
theorem pg_sub {o i : Expr} {to ti : TE} {t : TSet} (ho : PE X o to) (hi : PE X i ti) (hs : PSet X t)
  (ha : ∀ v, assign (.Subscript o i pos) X.env v = (do
   let ov <- holding [v] (eval o X.env)
   let iv <- holding [v, ov] (eval i X.env)
   standAt pos
   holding [v, ov, iv] (setItem ov iv v)
   release [v, ov, iv] []) := by intro _; rfl) : PG X (.Subscript o i pos) (gSub to ti t) := by
 intro pins s σ H v u Q I r h
 rw [ha]
 refine wpAny_bind (wpAny_holding (thn (ho pins s σ H _ I h) fun ov s1 ⟨x, H1, I1, r1, q1⟩ => ?_))
 refine wpAny_bind (wpAny_holding (thn (hi pins s1 σ H1 _ I1 q1) fun iv s2 ⟨y, H2, I2, r2, q2⟩ => ?_))
 refine wpAny_bind (wpAny_standAt (wpAny_bind (wpAny_holding (thn (hs pins s2 σ H2 x y v ov iv u _ I2 r1 r2 r q2) fun _ s3 ⟨H3, I3, q3⟩ => ?_))))
 exact wpAny_release ⟨σ, H3, I3, q3⟩
def tAsg (te:TE) (g:TG):TS:=fun D σ H=>te σ H fun x H1=>g x σ H1 D.nx
theorem ps_asg {tg e:Expr} {te:TE} {g:TG} (he:PE X e te) (hg:PG X tg g) (hs:swapsWithSole [tg] e pos.line X.env = pure false:=by rfl) (hw:swappedStores [tg] e X.env = pure none:=by rfl)
  (h1:(assignEach [tg] X.env).map (·.2) = [assign tg X.env]:=by rfl):PS X (.Assign [tg] e pos) (tAsg te g):=by
 intro pins s σ H D I h
 refine wpAny_Assign_stores (thn (he pins s σ H _ I h) fun v s1 ⟨x,H1,I1,r1,q1⟩=>?_) hs hw
 rw [h1]
 exact thn (hg pins s1 σ H1 x v _ I1 r1 q1) fun _ s2 q=>q
theorem ps_set {i:Nat} {x:Str} {e:Expr} {te:TE} {pos':Pos} (hN:X.N.Nodup) (hi:X.N[i]? = some x) (hx:Loc X.env.scope x) (he:PE X e te) (hs:swapsWith e (some (.Name x pos')) pos.line X.env = pure false:=by rfl) (hf:X.fn x = true\/X.env.scope.names.lookup x = some .local:=by first | exact .inl rfl | exact .inr rfl | assumption) :
  PS X (.Assign [.Name x pos'] e pos) (tAsg te (gName i)):=by
 intro pins s σ H D I h
 refine wpAny_Assign_Name (thn (he pins s σ H _ I h) fun v s1 ⟨y,H1,I1,r1,q1⟩=>?_) hs
 exact store_ok I1 hN hi hx r1 (fun s2 I2=>⟨_,H1,I2,q1⟩) hf
def tAugS (to ti te:TE) (tget:V->V->Hp->VK->Prop) (tip:TIp) (tset:TSet):TS:=fun D σ H=>to σ H fun o H1=>ti σ H1 fun i H2=>tget o i H2 fun x H3=>te σ H3 fun y H4=>tip x y H4 fun z H5=>tset o i z H5 fun H6=>D.nx σ H6
def PGet (X:Cx) (t:V->V->Hp->VK->Prop):Prop :=
 ∀ (pins:List (Addr × Obj)) (s:Shared) (σ:St) (H:Hp) (o i:V) (ov iv:Value) (Q:VK),Inv X pins σ H s->RelV o ov->RelV i iv->t o i H Q ->
  wpAny (model X.prog X.w) X.A (getItem ov iv) (EP X pins σ Q) X.xe s
theorem ps_augS {o i e:Expr} {to ti te:TE} {tget:V->V->Hp->VK->Prop} {tip:TIp} {tset:TSet} {op:Operator} {tpos:Pos} (ho:PE X o to) (hi:PE X i ti) (hg:PGet X tget) (he:PE X e te) (hp:PIp X op tip) (hs:PSet X tset)
  (ha:∀ ov iv new,augStore i ov iv new = (do holding [new,ov,iv] (setItem ov iv new); release [new,ov,iv] []; pure .next):=by intros; rfl):PS X (.AugAssign (.Subscript o i tpos) op e pos) (tAugS to ti te tget tip tset):=by
 intro pins s σ H D I h
 refine wpAny_AugAssign_SubscriptAny (thn (ho pins s σ H _ I h) fun ov s1 ⟨x1,H1,I1,r1,q1⟩=>?_) ha
 refine thn (hi pins s1 σ H1 _ I1 q1) fun iv s2 ⟨x2,H2,I2,r2,q2⟩=>?_
 refine thn (hg pins s2 σ H2 x1 x2 ov iv _ I2 r1 r2 q2) fun old s3 ⟨x3,H3,I3,r3,q3⟩=>?_
 refine thn (he pins s3 σ H3 _ I3 q3) fun v s4 ⟨x4,H4,I4,r4,q4⟩=>?_
 refine thn (hp pins s4 σ H4 x3 x4 old v _ I4 r3 r4 q4) fun new s5 ⟨x5,H5,I5,r5,q5⟩=>?_
 exact thn (hs pins s5 σ H5 x1 x2 x5 ov iv new _ I5 r1 r2 r5 q5) fun _ s6 ⟨H6,I6,q6⟩=>⟨σ,H6,I6,q6⟩
def ipI (f:Int->Int->Int):TIp:=fun x y H Q=>∃ i j,x = .int i/\y = .int j/\Q (.int (f i j)) H
theorem ip_add:PIp X .Add (ipI fun i j=>i + j):=by
 intro pins s σ H x y v u Q I r1 r2 h
 obtain ⟨i,j,e1,e2,q⟩:=h
 subst e1; subst e2
 obtain ⟨t,rfl⟩:=r1
 obtain ⟨t',rfl⟩:=r2
 exact iadd_int ⟨.int _,H,I.tok _,⟨_,rfl⟩,q⟩
end
section
variable {X:Cx} {pos:Pos}
end
structure It where
 go:Nat->Hp->Prop
 yld:Nat->Hp->V->Hp->Prop
 stop:Nat->Hp->Prop
def FpOk (X:Cx) (pins:List (Addr × Obj)) (H:Hp) (b:Addr):Prop :=
 H b = none/\b ≠ X.env.locals/\b ∉ X.fs/\(b ∈ X.ex\/X.s₀.heap.objs.size <= b)/\(∀ x c,X.env.cells.lookup x = some c->c ≠ b)/\∀ p ∈ X.pn ++ pins,p.1 ≠ b
theorem Inv.fpOk {X:Cx} {pins:List (Addr × Obj)} {σ:St} {H H':Hp} {s:Shared} {b:Addr} (I:Inv X pins σ H s) (hb:s.heap.objs.size <= b) (hn:H' b = none):FpOk X pins H' b:=by
 refine ⟨hn,Nat.ne_of_gt (Nat.lt_of_lt_of_le I.lt hb),I.nofs hb,.inr (Nat.le_trans I.sz hb),fun x c e z=>?_,fun p hp z=>?_⟩
 ·obtain ⟨v,q⟩:=I.cell x c e
  exact absurd (Nat.lt_of_lt_of_le q.lt (by rw [z]; exact hb)) (Nat.lt_irrefl _)
 ·exact absurd (Nat.lt_of_lt_of_le (Heap.lt_size (I.pin p hp).1) (by rw [z]; exact hb)) (Nat.lt_irrefl _)
structure Turn (P:Program) (w:World) (K:PySem.W.Frag) (tg:Expr) (J:It) (fp:List Addr) (it:Addr) (tn:Nat->Heap->Prop):Prop where
 mem:it ∈ fp
 obj:∀ i h,tn i h->∀ b ∈ fp,∃ o,h.get? b = some o/\∀ v,o.data ≠ .cell v
 keep:∀ i h h',tn i h->(∀ b ∈ fp,∀ o,h.get? b = some o->h'.get? b = some o)->tn i h'
 item:∀ (X:Cx),X.prog = P->X.w = w->X.K = K->X.calm = true->∀ (i:Nat) (pins:List (Addr × Obj)) (s:Shared) (σ:St) (H:Hp) (E:Value->Shared->Prop),Inv X pins σ H s->(∀ b ∈ fp,FpOk X pins H b)->tn i s.heap->J.go i H ->
  wpAny (model P w) X.A (pyNext (.ref it)) (fun r s1=>∃ u,r = some u /\
   wpAny (model P w) X.A (letOwnedTupleGo tg (.ref it) u) (fun _ s2=>∃ x H',Inv X pins σ H' s2/\RelV x u/\J.yld i H x H'/\tn (i + 1) s2.heap/\∀ b ∈ fp,H' b = none) E s1) E s
 done:∀ (X:Cx),X.prog = P->X.w = w->X.K = K->X.calm = true->∀ (i:Nat) (pins:List (Addr × Obj)) (s:Shared) (σ:St) (H:Hp) (E:Value->Shared->Prop),Inv X pins σ H s->(∀ b ∈ fp,FpOk X pins H b)->tn i s.heap->J.stop i H ->
  wpAny (model P w) X.A (pyNext (.ref it)) (fun r s1=>r = none/\Inv X pins σ H s1) E s
 self:∀ (A:Around) (i:Nat) (s:Shared) (Q:Value->Shared->Prop) (E:Value->Shared->Prop),tn i s.heap->Q (.ref it) s->wpAny (model P w) A (pyIter (.ref it)) Q E s
abbrev TI:=St->Hp->(It->Hp->Prop)->Prop
def PIE (X:Cx) (pins:List (Addr × Obj)) (σ:St) (tg:Expr) (R:It->Hp->Prop) (itv:Value) (s2:Shared):Prop :=
 ∃ (it:Addr) (fp:List Addr) (tn:Nat->Heap->Prop) (J:It) (H':Hp),itv = .ref it/\Inv X pins σ H' s2/\Turn X.prog X.w X.K tg J fp it tn/\tn 0 s2.heap/\(∀ b ∈ fp,FpOk X pins H' b)/\R J H'
def PI (X:Cx) (tg iter:Expr) (wi:TI):Prop :=
 ∀ (pins:List (Addr × Obj)) (s:Shared) (σ:St) (H:Hp) (R:It->Hp->Prop),Inv X pins σ H s->wi σ H R ->
  wpAny (model X.prog X.w) X.A (eval iter X.env) (fun v s1=>wpAny (model X.prog X.w) X.A (pyIter v) (PIE X pins σ tg R) X.xe s1) X.xe s
theorem go_of {M : Model} {A : Around} {E : Value -> Shared -> Prop} {s : Shared} {tg : Expr} {it : Addr} {u : Value} {o : Obj} {n : String} {vs : Array Value} {Q : Unit -> Shared -> Prop} (ho : s.heap.get? it = some o) (hc : o.cls = .type n) (hd : o.data = .fields vs)
    (hn : ["enumerate", "zip", "dict_itemiterator", "dict_reverseitemiterator", "odict_iterator", "itertools.zip_longest", "itertools.pairwise"].contains n = false) (hQ : Q () s) : wpAny M A (letOwnedTupleGo tg (.ref it) u) Q E s := by
  unfold letOwnedTupleGo
  cases tg <;> first
    | exact wpAny_pure hQ
    | (cases u <;> first
        | exact wpAny_pure hQ
        | (refine wpAny_bind (wpAny_load ho ?_)
           rw [hc, hd]
           show wpAny M A (if (["enumerate", "zip", "dict_itemiterator", "dict_reverseitemiterator", "odict_iterator", "itertools.zip_longest", "itertools.pairwise"].contains n && vs[0]? == some (rawInt _)) = true then _ else _) Q E s
           rw [if_neg (by intro h; rw [hn, Bool.false_and] at h; cases h)]
           exact wpAny_pure hQ))
def Itl (K:PySem.W.Frag) (a:Addr):It :=
 ⟨fun i H=>∃ xs x,SqL K H a xs/\xs[i]? = some x,fun i H x H'=>H' = H/\∀ xs,SqL K H a xs->xs[i]? = some x,fun i H=>∃ xs,SqL K H a xs/\xs.length <= i⟩
def Itr (lo:Int) (n:Nat):It:=⟨fun i _=>i < n,fun i H x H'=>H' = H/\x = .int (lo + i),fun i _=>n <= i⟩
theorem turn_list {P:Program} {w:World} {K:PySem.W.Frag} {tg:Expr} (a it:Addr):Turn P w K tg (Itl K a) [it] it (fun i h=>h.IsListIter it a i) where
 mem:=by simp
 obj:=fun i h st b hb=>by
  have e:b = it:=by simpa using hb
  subst e
  obtain ⟨o,e,c,d⟩:=st
  exact ⟨o,e,fun v z=>by rw [d] at z; cases z⟩
 keep:=fun i h h' st k=>st.at fun o e=>k it (by simp) o e
 item:=by
  intro X hP hw hK hc i pins s σ H E I hf st hg
  subst hP hw hK
  obtain ⟨xs,x,hq,hx⟩:=hg
  obtain ⟨its,rv,p,hz⟩:=I.list hq
  obtain ⟨u,hu,ru⟩:=rv.get hx
  obtain ⟨f0,f1,f2,f3,f4,f5⟩:=hf it (by simp)
  refine wpAny_pyNext_list_item st p.isList (x:=u) (by simpa using hu) fun h' st' sb=>?_
  have I1:Inv X pins σ H { s with heap:=h' }:=I.turned (t':=s.toks) (fun b o hb e=>(sb.2 b hb).trans e) f0 f1 f3 f4 f5
  obtain ⟨o,e,c,d⟩:=id st'
  exact ⟨u,rfl,go_of (s:={ s with heap:=h' }) e c d (by decide) ⟨x,H,I1,ru,⟨rfl,fun ys hy=>by rw [I.list_inj hy hq]; exact hx⟩,st',fun b hb=>(hf b hb).1⟩⟩
 done:=by
  intro X hP hw hK hc i pins s σ H E I hf st hg
  subst hP hw hK
  obtain ⟨xs,hq,hx⟩:=hg
  obtain ⟨its,rv,p,hz⟩:=I.list hq
  obtain ⟨f0,f1,f2,f3,f4,f5⟩:=hf it (by simp)
  have hl:=rv.length
  exact wpAny_pyNext_list_end (I.ok.hd hc) st p.isList (by simp; omega) fun h' eb=>⟨rfl,I.turned (t':=s.toks) (fun b o hb e=>eb b o hb e) f0 f1 f3 f4 f5⟩
 self:=fun _ _ _ _ _ st h=>wpAny_pyIter_listiter st h
theorem turn_range {P:Program} {w:World} {K:PySem.W.Frag} {tg:Expr} (it:Addr) (lo:Int) (n:Nat):Turn P w K tg (Itr lo n) [it] it (fun i h=>IsRangeIter h it (lo + (i:Nat) * 1) ((n:Int) - (i:Nat)) 1) where
 mem:=by simp
 obj:=fun i h st b hb=>by
  have e:b = it:=by simpa using hb
  subst e
  exact ⟨_,st,fun v z=>by
   have z':Data.fields _ = Data.cell v:=z
   cases z'⟩
 keep:=fun i h h' st k=>k it (by simp) _ st
 item:=by
  intro X hP hw hK hc i pins s σ H E I hf st hg
  subst hP hw hK
  obtain ⟨f0,f1,f2,f3,f4,f5⟩:=hf it (by simp)
  have W:=Walks.range (prog:=X.prog) (w:=X.w) (I.ok.hd hc) it lo 1 n
  refine W.item i s _ _ hg st fun v h' tk hv st' kk=>?_
  obtain ⟨t,rfl⟩:=hv
  have I1:Inv X pins σ H { s with heap:=h',toks:=tk }:=I.turned (fun b o hb e=>kk b o (by simpa using hb) e) f0 f1 f3 f4 f5
  refine ⟨_,rfl,go_of (s:={ s with heap:=h',toks:=tk }) (n:="range_iterator") st' rfl rfl (by decide) ⟨.int (lo + i),H,I1,⟨t,?_⟩,⟨rfl,rfl⟩,st',fun b hb=>(hf b hb).1⟩⟩
  rw [Int.mul_one]
 done:=by
  intro X hP hw hK hc i pins s σ H E I hf st hg
  subst hP hw hK
  obtain ⟨f0,f1,f2,f3,f4,f5⟩:=hf it (by simp)
  exact wpAny_pyNext_range_end (I.ok.hd hc) st (by have:n <= i:=hg; omega) fun h' eb=>⟨rfl,I.turned (t':=s.toks) (fun b o hb e=>eb b o hb e) f0 f1 f3 f4 f5⟩
 self:=fun _ _ _ _ _ st h=>wpAny_pyIter_rangeiter st h
end L2
namespace L2
open PySem PySem.Spec PyProof.Rows
section
variable {X:Cx} {tg:Expr}
def iList (K:PySem.W.Frag) (tl:TE):TI:=fun σ H R=>tl σ H fun x H1=>∃ a,x = .ref a/\(∃ xs,SqL K H1 a xs)/\R (Itl K a) H1
theorem pi_list {l:Expr} {tl:TE} (hl:PE X l tl):PI X tg l (iList X.K tl):=by
 intro pins s σ H R I h
 refine thn (hl pins s σ H _ I h) fun v s1 ⟨x,H1,I1,r1,q1⟩=>?_
 obtain ⟨a,e,⟨xs,hq⟩,q⟩:=q1
 subst e
 cases r1
 obtain ⟨its,rv,p,hz⟩:=I1.list hq
 refine wpAny_pyIter_list p.isList ?_
 refine ⟨s1.heap.objs.size,[s1.heap.objs.size],_,_,H1,rfl,I1.kept (t':=s1.toks) fun b o e=>Heap.get?_push_of_some _ e,turn_list a _,⟨_,Heap.get?_push_size _ rfl,rfl,rfl⟩,fun b hb=>?_,q⟩
 have e:b = s1.heap.objs.size:=by simpa using hb
 subst e
 exact I1.fpOk (Nat.le_refl _) (I1.hok.fresh (Nat.le_refl _))
theorem range_it {pins:List (Addr × Obj)} {σ:St} {H:Hp} {s:Shared} {R:It->Hp->Prop} {E:Value->Shared->Prop} {lo hi:Int} {t u v:Tok} {tk:Nat} (I:Inv X pins σ H s) (h1:-(2 ^ 62) <= lo) (h2:lo < 2 ^ 62) (h3:-(2 ^ 62) <= hi) (h4:hi < 2 ^ 62)
  (q:R (Itr lo (hi - lo).toNat) H):wpAny (model X.prog X.w) X.A (pyIter (.ref s.heap.objs.size)) (PIE X pins σ tg R) E { s with heap:=s.heap.push { cls:=.type "range",data:=.fields #[.int lo t,.int hi u,.int 1 v] },toks:=tk }:=by
 refine wpAny_pyIter_range (IsRange.new ..) (small_one h1 h2 h3 h4) ?_
 have I1:Inv X pins σ H { s with heap:=s.heap.push { cls:=.type "range",data:=.fields #[.int lo t,.int hi u,.int 1 v] },toks:=tk }:=I.kept fun b o e=>Heap.get?_push_of_some _ e
 refine ⟨(s.heap.push { cls:=.type "range",data:=.fields #[.int lo t,.int hi u,.int 1 v] }).objs.size,[(s.heap.push { cls:=.type "range",data:=.fields #[.int lo t,.int hi u,.int 1 v] }).objs.size],_,_,H,rfl,
  I1.kept (t':=tk) fun b o e=>Heap.get?_push_of_some _ e,turn_range _ lo (hi - lo).toNat,?_,fun b hb=>?_,q⟩
 ·have e1:lo + ((0:Nat):Int) * 1 = lo:=by simp
  have e2:(((hi - lo).toNat:Nat):Int) - ((0:Nat):Int) = Builtin.Range.rangeSize lo hi 1:=by rw [rangeSize_one]; split <;> omega
  show IsRangeIter _ _ (lo + ((0:Nat):Int) * 1) ((((hi - lo).toNat:Nat):Int) - ((0:Nat):Int)) 1
  rw [e1,e2]
  exact Heap.get?_push_size _ rfl
 ·have e:b = (s.heap.push { cls:=.type "range",data:=.fields #[.int lo t,.int hi u,.int 1 v] }).objs.size:=by simpa using hb
  subst e
  exact I1.fpOk (Nat.le_refl _) (I1.hok.fresh (Nat.le_refl _))
def iRng1 (ta:TA):TI:=fun σ H R=>ta σ H fun vs H1=>∃ j:Int,vs = [.int j]/\-(2 ^ 62) <= j/\j < 2 ^ 62/\R (Itr 0 j.toNat) H1
theorem pi_range1 {a : Expr} {ta : TA} {p pos : Pos} (hg : Gl X "range") (hm : X.mg "range" = none) (ha : PA X [a] ta) (hs : starEach [a] X.env = [(false, eval a X.env)] := by rfl) : PI X tg (.Call (.Name "range" p) [a] [] pos) (iRng1 ta) := by
  intro pins s σ H R I h
  refine Call_ (ld_blt I hg hm boot_range (PyProof.Rows.callWith_type1 (thn (ha pos pins s σ H _ I h) fun us s1 ⟨vs, H1, I1, r1, q1⟩ => ?_) hs rfl))
  obtain ⟨j, e, q1, q2, q⟩ := q1
  subst e
  cases r1 with
  | cons r rr =>
    cases rr
    obtain ⟨t, rfl⟩ := r
    exact call_range_1 (range_it I1 (by omega) (by omega) q1 q2 (by simpa using q))
def tFor (wi:TI) (g:TG) (tb:TS):TS:=fun D σ H=>wi σ H fun J H1=>∃ W:Nat->Nat->St->Hp->Prop,(∃ m,W 0 m σ H1)/\∀ i m σ H,W i m σ H ->
 (J.stop i H/\D.nx σ H)\/(J.go i H/\∃ N:St->Hp->Prop,(∀ σ' H',N σ' H'->∃ m',m' < m/\W (i + 1) m' σ' H')/\∀ x H',J.yld i H x H'->g x σ H' fun σ2 H2=>tb { D with nx:=N,ct:=N,bk:=D.nx } σ2 H2)
def pinsAt (fp:List Addr) (h:Heap):List (Addr × Obj):=fp.filterMap fun b=>(h.get? b).map fun o=>(b,o)
theorem mem_pinsAt {fp:List Addr} {h:Heap} {b:Addr} {o:Obj} (hb:b ∈ fp) (e:h.get? b = some o):(b,o) ∈ pinsAt fp h:=List.mem_filterMap.mpr ⟨b,hb,by rw [e]; rfl⟩
theorem of_pinsAt {fp : List Addr} {h : Heap} {p : Addr × Obj} (hp : p ∈ pinsAt fp h) : p.1 ∈ fp /\ h.get? p.1 = some p.2 := by
  obtain ⟨b, hb, e⟩ := List.mem_filterMap.mp hp
  cases q : h.get? b with
  | none => rw [q] at e; cases e
  | some o =>
    rw [q] at e
    have e' : (b, o) = p := Option.some.inj e
    subst e'
    exact ⟨hb, q⟩
theorem Inv.pinned {pins:List (Addr × Obj)} {σ:St} {H:Hp} {s:Shared} {fp:List Addr} (I:Inv X pins σ H s) (hf:∀ b ∈ fp,FpOk X pins H b) (ho:∀ b ∈ fp,∃ o,s.heap.get? b = some o/\∀ v,o.data ≠ .cell v):Inv X (pins ++ pinsAt fp s.heap) σ H s :=
 I.pins_of fun p hp=>(List.mem_append.mp hp).elim (fun z=>I.pin p (List.mem_append_right _ z)) fun z=>by
  obtain ⟨hb,e⟩:=of_pinsAt z
  obtain ⟨f0,f1,f2,_⟩:=hf p.1 hb
  obtain ⟨o,e',d⟩:=ho p.1 hb
  rw [e] at e'; cases e'
  exact ⟨e,f0,f1,f2,d⟩
theorem Inv.unpinned {pins pl:List (Addr × Obj)} {σ:St} {H:Hp} {s:Shared} (I:Inv X (pins ++ pl) σ H s):Inv X pins σ H s:=I.pins_of fun p hp=>I.pin p (List.mem_append_right _ (List.mem_append_left _ hp))
theorem ps_for {iter:Expr} {body:List Stmt} {wi:TI} {g:TG} {tb:TS} {pos:Pos} (hp:PassesOwn (model X.prog X.w) X.A X.env X.xe) (hc:X.calm = true) (hi:PI X tg iter wi) (hg:PG X tg g) (hb:PSs X body tb)
  (hs:∀ x,foldedSetIterable iter X.env x = pure x:=by intro _; rfl):PS X (.For tg iter body [] pos) (tFor wi g tb):=by
 intro pins s σ H D I h
 refine wpAny_For (thn (hi pins s σ H _ I h) fun v s1 h1=>thn h1 fun itv s2 h2=>?_) hs
 obtain ⟨it,fp,tn,J,H2,e,I2,T,st2,f2,W,⟨m0,w0⟩,turn⟩:=h2
 subst e
 have stat:∀ {H':Hp},(∀ b ∈ fp,H' b = none)->∀ b ∈ fp,FpOk X pins H' b:=fun hn b hb=>⟨hn b hb,(f2 b hb).2⟩
 refine codeAny_forLoop_any (fun n s'=>∃ i σ' H',Inv X pins σ' H' s'/\tn i s'.heap/\(∀ b ∈ fp,H' b = none)/\W i n σ' H') ?_ m0 ⟨0,σ,H2,I2,st2,fun b hb=>(f2 b hb).1,w0⟩
 rintro n s3 ⟨i,σ3,H3,I3,st3,fr3,w3⟩
 rcases turn i n σ3 H3 w3 with ⟨stop,qn⟩ | ⟨go,N,hN,step⟩
 ·refine wpAny_passesOwn hp (thn (T.done X rfl rfl rfl hc i pins s3 σ3 H3 X.xe I3 (stat fr3) st3 stop) fun r s4 ⟨hr,I4⟩=>?_)
  subst hr
  exact wpAny_execs_nil ⟨σ3,H3,I4,qn⟩
 ·refine wpAny_passesOwn hp (thn (T.item X rfl rfl rfl hc i pins s3 σ3 H3 X.xe I3 (stat fr3) st3 go) fun r s4 ⟨u,hr,h4⟩=>?_)
  subst hr
  refine wpAny_passesOwn hp (thn h4 fun _ s5 ⟨x,H5,I5,r5,y5,st5,fr5⟩=>?_)
  have I5':=I5.pinned (stat fr5) (T.obj _ _ st5)
  refine wpAny_passesOwn hp (thn (hg _ s5 σ3 H5 x u _ I5' r5 (step x H5 y5)) fun _ s6 ⟨σ6,H6,I6,q6⟩=>?_)
  refine wpAny_passesOwn hp (thn (hb _ s6 σ6 H6 _ I6 q6) fun f s7 q7=>?_)
  have again:∀ {σ7:St} {H7:Hp},Inv X (pins ++ pinsAt fp s5.heap) σ7 H7 s7->N σ7 H7->∃ m,m < n/\∃ i σ' H',Inv X pins σ' H' s7/\tn i s7.heap/\(∀ b ∈ fp,H' b = none)/\W i m σ' H':=fun {σ7 H7} I7 n7=>by
   obtain ⟨m',hm,w7⟩:=hN σ7 H7 n7
   refine ⟨m',hm,i + 1,σ7,H7,I7.unpinned,T.keep _ _ _ st5 fun b hb o e=>(I7.pin (b,o) (List.mem_append_right _ (List.mem_append_right _ (mem_pinsAt hb e)))).1,fun b hb=>?_,w7⟩
   obtain ⟨o,e,d⟩:=T.obj _ _ st5 b hb
   exact (I7.pin (b,o) (List.mem_append_right _ (List.mem_append_right _ (mem_pinsAt hb e)))).2.1
  cases f with
  | next=>obtain ⟨σ7,H7,I7,n7⟩:=q7; exact again I7 n7
  | cont=>obtain ⟨σ7,H7,I7,n7⟩:=q7; exact again I7 n7
  | brk=>obtain ⟨σ7,H7,I7,q7⟩:=q7; exact ⟨σ7,H7,I7.unpinned,q7⟩
  | ret v=>obtain ⟨x7,σ7,H7,I7,r7,q7⟩:=q7; exact ⟨x7,σ7,H7,I7.unpinned,r7,q7⟩
end
theorem for_range {lo:Int} {n:Nat} {g:TG} {tb:TS} {D:Ends} {σ:St} {H:Hp} (Pv:Nat->St->Hp->Prop) (h0:Pv 0 σ H)
  (hs:∀ i σ H,i < n->Pv i σ H->g (.int (lo + i)) σ H fun σ2 H2=>tb { D with nx:=Pv (i + 1),ct:=Pv (i + 1),bk:=D.nx } σ2 H2) (hd:∀ σ H,Pv n σ H->D.nx σ H) :
  ∃ W:Nat->Nat->St->Hp->Prop,(∃ m,W 0 m σ H)/\∀ i m σ H,W i m σ H ->
   ((Itr lo n).stop i H/\D.nx σ H)\/((Itr lo n).go i H/\∃ N:St->Hp->Prop,(∀ σ' H',N σ' H'->∃ m',m' < m/\W (i + 1) m' σ' H')/\∀ x H',(Itr lo n).yld i H x H'->g x σ H' fun σ2 H2=>tb { D with nx:=N,ct:=N,bk:=D.nx } σ2 H2):=by
 refine ⟨fun i m σ H=>m = n - i/\i <= n/\Pv i σ H,⟨n,by simp,Nat.zero_le _,h0⟩,?_⟩
 rintro i m σ H ⟨rfl,hi,p⟩
 by_cases hlt:i < n
 ·refine .inr ⟨hlt,Pv (i + 1),fun σ' H' p'=>⟨n - (i + 1),by omega,rfl,hlt,p'⟩,fun x H' y=>?_⟩
  obtain ⟨e,y⟩:=y
  subst e y
  exact hs i σ _ hlt p
 ·have e:i = n:=by omega
  subst e
  exact .inl ⟨Nat.le_refl _,hd σ H p⟩
end L2
namespace L2
open PySem PySem.Spec PyProof.Rows
abbrev R2:=V->V->Hp->VK->Prop
def OpR (X:Cx) (f:Value->Value->Sem Value) (r:R2):Prop :=
 ∀ (pins:List (Addr × Obj)) (s:Shared) (σ:St) (H:Hp) (x y:V) (v u:Value) (Q:VK),Inv X pins σ H s->RelV x v->RelV y u->r x y H Q ->
  wpAny (model X.prog X.w) X.A (f v u) (EP X pins σ Q) X.xe s
def UnR (X:Cx) (f:Value->Sem Value) (r:V->Hp->VK->Prop):Prop :=
 ∀ (pins:List (Addr × Obj)) (s:Shared) (σ:St) (H:Hp) (x:V) (v:Value) (Q:VK),Inv X pins σ H s->RelV x v->r x H Q ->
  wpAny (model X.prog X.w) X.A (f v) (EP X pins σ Q) X.xe s
def CallR (X:Cx) (f:Value) (r:List V->Hp->VK->Prop):Prop :=
 ∀ (pins:List (Addr × Obj)) (s:Shared) (σ:St) (H:Hp) (xs:List V) (us:List Value) (Q:VK),Inv X pins σ H s->Vals xs us->r xs H Q ->
  wpAny (model X.prog X.w) X.A (call f us) (EP X pins σ Q) X.xe s
def TruR (X:Cx) (r:V->Hp->(Bool->Hp->Prop)->Prop):Prop :=
 ∀ (pins:List (Addr × Obj)) (s:Shared) (σ:St) (H:Hp) (x:V) (v:Value) (Q:Bool->Hp->Prop),Inv X pins σ H s->RelV x v->r x H Q ->
  wpAny (model X.prog X.w) X.A (truthy v) (TP X pins σ Q) X.xe s
def tOp (r:R2) (ta tb:TE):TE:=fun σ H Q=>ta σ H fun x H1=>tb σ H1 fun y H2=>r x y H2 Q
def tUn (r:V->Hp->VK->Prop) (ta:TE):TE:=fun σ H Q=>ta σ H fun x H1=>r x H1 Q
def rI (C:Int->Int->Prop) (g:Int->Int->V):R2:=fun x y H Q=>∃ i j,x = .int i/\y = .int j/\C i j/\Q (g i j) H
def rI0 (g:Int->Int->V):R2:=fun x y H Q=>∃ i j,x = .int i/\y = .int j/\Q (g i j) H
def rU (g:Int->V):V->Hp->VK->Prop:=fun x H Q=>∃ i,x = .int i/\Q (g i) H
section
variable {X:Cx} {a b c:Expr} {ta tb tc:TE} {pos:Pos}
theorem binT (ha:PE X a ta) (hb:PE X b tb) {pins:List (Addr × Obj)} {s:Shared} {σ:St} {H:Hp} {R:V->V->Hp->Prop} (I:Inv X pins σ H s)
  (h:ta σ H fun x H1=>tb σ H1 fun y H2=>R x y H2) {Q:Value->Shared->Prop} {f:Value->Value->Sem Value}
  (hf:∀ v u s2 x y H2,Inv X pins σ H2 s2->RelV x v->RelV y u->R x y H2->wpAny (model X.prog X.w) X.A (f v u) Q X.xe s2) :
  wpAny (model X.prog X.w) X.A (eval a X.env) (fun v s₁=>wpAny (model X.prog X.w) X.A (eval b X.env) (fun u s₂=>wpAny (model X.prog X.w) X.A (f v u) Q X.xe s₂) X.xe s₁) X.xe s:=by
 refine thn (ha pins s σ H _ I h) fun v s1 ⟨x,H1,I1,r1,q1⟩=>?_
 refine thn (hb pins s1 σ H1 _ I1 q1) fun u s2 ⟨y,H2,I2,r2,q2⟩=>?_
 exact hf v u s2 x y H2 I2 r1 r2 q2
theorem pe_op {op:Operator} {r:R2} (ho:OpR X (binaryOp op) r) (ha:PE X a ta) (hb:PE X b tb):PE X (.BinOp a op b pos) (tOp r ta tb):=by
 intro pins s σ H Q I h
 exact wpAny_BinOp (binT ha hb I h fun v u s2 x y H2 I2 rx ry q=>ho pins s2 σ H2 x y v u Q I2 rx ry q)
theorem pe_un {op:UnaryOp} {r:V->Hp->VK->Prop} (ho:UnR X (unaryOp op) r) (ha:PE X a ta):PE X (.UnaryOp op a pos) (tUn r ta):=by
 intro pins s σ H Q I h
 exact UnaryOp_ (thn (ha pins s σ H _ I h) fun v s1 ⟨x,H1,I1,r1,q1⟩=>ho pins s1 σ H1 x v Q I1 r1 q1)
theorem opI {f:Value->Value->Sem Value} {C:Int->Int->Prop} {g:Int->Int->Int}
  (rule:∀ (i j:Int) (t u:Tok) (s:Shared) (Q:Value->Shared->Prop) (E:Value->Shared->Prop),C i j->Q (.int (g i j) s.toks) { s with toks:=s.toks + 1 }->wpAny (model X.prog X.w) X.A (f (.int i t) (.int j u)) Q E s) :
  OpR X f (rI C fun i j=>.int (g i j)):=by
 intro pins s σ H x y v u Q I rx ry h
 obtain ⟨i,j,rfl,rfl,hc,q⟩:=h
 obtain ⟨t,rfl⟩:=rx
 obtain ⟨t',rfl⟩:=ry
 exact rule i j t t' s _ _ hc ⟨.int (g i j),H,I.tok _,⟨_,rfl⟩,q⟩
theorem opI0 {f:Value->Value->Sem Value} {g:Int->Int->Int}
  (rule:∀ (i j:Int) (t u:Tok) (s:Shared) (Q:Value->Shared->Prop) (E:Value->Shared->Prop),Q (.int (g i j) s.toks) { s with toks:=s.toks + 1 }->wpAny (model X.prog X.w) X.A (f (.int i t) (.int j u)) Q E s) :
  OpR X f (rI0 fun i j=>.int (g i j)):=by
 intro pins s σ H x y v u Q I rx ry h
 obtain ⟨i,j,rfl,rfl,q⟩:=h
 obtain ⟨t,rfl⟩:=rx
 obtain ⟨t',rfl⟩:=ry
 exact rule i j t t' s _ _ ⟨.int (g i j),H,I.tok _,⟨_,rfl⟩,q⟩
theorem opB0 {f:Value->Value->Sem Value} {g:Int->Int->Bool}
  (rule:∀ (i j:Int) (t u:Tok) (s:Shared) (Q:Value->Shared->Prop) (E:Value->Shared->Prop),Q (.bool (g i j)) s->wpAny (model X.prog X.w) X.A (f (.int i t) (.int j u)) Q E s) :
  OpR X f (rI0 fun i j=>.bl (g i j)):=by
 intro pins s σ H x y v u Q I rx ry h
 obtain ⟨i,j,rfl,rfl,q⟩:=h
 obtain ⟨t,rfl⟩:=rx
 obtain ⟨t',rfl⟩:=ry
 exact rule i j t t' s _ _ ⟨.bl (g i j),H,I,rfl,q⟩
def CDiv (i j:Int):Prop:=0 < j/\j < 1073741824
def CPow (i j:Int):Prop:=0 <= j/\j <= 1000000/\i.natAbs < 2 ^ 64
def CMul (i j:Int):Prop:=(-(2 ^ 64) < i/\i < 2 ^ 64)\/(-(2 ^ 64) < j/\j < 2 ^ 64)
theorem CMul.ok {i j:Int} (h:CMul i j):IntMulOk i j:=by
 rcases h with ⟨h1,h2⟩ | ⟨h1,h2⟩
 ·exact .of_left (intBits_le_64 h1 h2)
 ·exact .of_right (intBits_le_64 h1 h2)
theorem op_add:OpR X (binaryOp .Add) (rI0 fun i j=>.int (i + j)):=opI0 fun _ _ _ _ _ _ _ q=>add_int q
theorem op_sub:OpR X (binaryOp .Sub) (rI0 fun i j=>.int (i - j)):=opI0 fun _ _ _ _ _ _ _ q=>sub_int q
theorem op_mul:OpR X (binaryOp .Mult) (rI CMul fun i j=>.int (i * j)):=opI fun _ _ _ _ _ _ _ hc q=>mul_int q hc.ok
theorem op_fdiv:OpR X (binaryOp .FloorDiv) (rI CDiv fun i j=>.int (i / j)):=opI fun i j _ _ _ _ _ hc q=>by
 have h1:(0:Int) < j:=hc.1
 have h2:j < 1073741824:=hc.2
 exact floordiv_int (by omega) (by rw [Int.fdiv_eq_ediv_of_nonneg i (by omega)]; exact q) (.inl (PyProof.noPylong_small (by omega)))
theorem op_mod:OpR X (binaryOp .Mod) (rI (fun _ j=>0 < j) fun i j=>.int (i % j)):=opI fun i j _ _ _ _ _ hc q=>by
 have h1:(0:Int) < j:=hc
 exact mod_int' (by omega) (by rw [Int.fmod_eq_emod_of_nonneg i (by omega)]; exact q)
theorem op_pow:OpR X (binaryOp .Pow) (rI CPow fun i j=>.int (i ^ j.toNat)):=opI fun _ _ _ _ _ _ _ hc q=>pow_int_small hc.1 hc.2.1 hc.2.2 q
theorem unI {f:Value->Sem Value} {g:Int->Int}
  (rule:∀ (i:Int) (t:Tok) (s:Shared) (Q:Value->Shared->Prop) (E:Value->Shared->Prop),Q (.int (g i) s.toks) { s with toks:=s.toks + 1 }->wpAny (model X.prog X.w) X.A (f (.int i t)) Q E s) :
  UnR X f (rU fun i=>.int (g i)):=by
 intro pins s σ H x v Q I rx h
 obtain ⟨i,rfl,q⟩:=h
 obtain ⟨t,rfl⟩:=rx
 exact rule i t s _ _ ⟨.int (g i),H,I.tok _,⟨_,rfl⟩,q⟩
theorem un_neg:UnR X (unaryOp .USub) (rU fun i=>.int (-i)):=unI fun _ _ _ _ _ q=>neg_int q
end
def scal:V->V->Bool
 | .non,.non=>true | .non,.int _=>true | .int _,.non=>true | .non,.bl _=>true | .bl _,.non=>true | .non,.str _=>true | .str _,.non=>true
 | .int _,.int _=>true | .bl _,.bl _=>true | .str _,.str _=>true | .byt _,.byt _=>true
 | .int _,.str _=>true | .str _,.int _=>true | .bl _,.str _=>true | .str _,.bl _=>true
 | _,_=>false
def rEq:R2:=fun x y H Q=>scal x y = true/\Q (.bl (decide (x = y))) H
def rNe:R2:=fun x y H Q=>scal x y = true/\Q (.bl (!decide (x = y))) H
theorem dec_int {i j:Int}:decide (V.int i = V.int j) = (i == j):=by
 rw [Bool.eq_iff_iff]
 simp
theorem dec_bl {i j:Bool}:decide (V.bl i = V.bl j) = (i == j):=by
 rw [Bool.eq_iff_iff]
 simp
theorem dec_str {i j:Str}:decide (V.str i = V.str j) = (i == j):=by
 rw [Bool.eq_iff_iff]
 simp
theorem dec_byt {i j:Array UInt8}:decide (V.byt i = V.byt j) = (i.toList == j.toList):=by
 rw [Bool.eq_iff_iff]
 cases i
 cases j
 simp
section
variable {X:Cx} {a b c:Expr} {ta tb tc:TE} {pos:Pos}
theorem fin_bl {pins:List (Addr × Obj)} {σ:St} {H:Hp} {s:Shared} {Q:VK} {k k':Bool} (I:Inv X pins σ H s) (q:Q (.bl k) H) (e:k = k'):EP X pins σ Q (.bool k') s:=by
 subst e
 exact ⟨.bl k,H,I,rfl,q⟩
theorem op_eq : OpR X (compareOp .Eq) rEq := by
  intro pins s σ H x y v u Q I rx ry h
  obtain ⟨hs, q⟩ := h
  cases x with
  | non =>
    cases rx
    cases y with
    | non => cases ry; exact PySem.EqNone.eq_none_none (fin_bl I q (by simp))
    | bl j => cases ry; exact PySem.EqNone.eq_none_bool (fin_bl I q (by simp))
    | int j => obtain ⟨t', rfl⟩ := ry; exact PySem.EqNone.eq_none_int (fin_bl I q (by simp))
    | str j => obtain ⟨t', rfl⟩ := ry; exact PySem.EqNone.eq_none_str (fin_bl I q (by simp))
    | _ => exact absurd (show false = true from hs) Bool.false_ne_true
  | bl i =>
    cases rx
    cases y with
    | non => cases ry; exact PySem.EqNone.eq_bool_none (fin_bl I q (by simp))
    | bl j => cases ry; exact eq_bool (fin_bl I q dec_bl)
    | str j => obtain ⟨t', rfl⟩ := ry; exact PySem.EqMixed.eq_bool_str (fin_bl I q (by simp))
    | _ => exact absurd (show false = true from hs) Bool.false_ne_true
  | int i =>
    obtain ⟨t, rfl⟩ := rx
    cases y with
    | non => cases ry; exact PySem.EqNone.eq_int_none (fin_bl I q (by simp))
    | int j => obtain ⟨t', rfl⟩ := ry; exact eq_int (fin_bl I q dec_int)
    | str j => obtain ⟨t', rfl⟩ := ry; exact PySem.EqMixed.eq_int_str (fin_bl I q (by simp))
    | _ => exact absurd (show false = true from hs) Bool.false_ne_true
  | str i =>
    obtain ⟨t, rfl⟩ := rx
    cases y with
    | non => cases ry; exact PySem.EqNone.eq_str_none (fin_bl I q (by simp))
    | bl j => cases ry; exact PySem.EqMixed.eq_str_bool (fin_bl I q (by simp))
    | int j => obtain ⟨t', rfl⟩ := ry; exact PySem.EqMixed.eq_str_int (fin_bl I q (by simp))
    | str j => obtain ⟨t', rfl⟩ := ry; exact eq_str (fin_bl I q dec_str)
    | _ => exact absurd (show false = true from hs) Bool.false_ne_true
  | byt i =>
    obtain ⟨t, rfl⟩ := rx
    cases y with
    | byt j => obtain ⟨t', rfl⟩ := ry; exact PySem.W.eq_bytes (fin_bl I q dec_byt)
    | _ => exact absurd (show false = true from hs) Bool.false_ne_true
  | _ => cases y <;> exact absurd (show false = true from hs) Bool.false_ne_true
theorem op_ne : OpR X (compareOp .NotEq) rNe := by
  intro pins s σ H x y v u Q I rx ry h
  obtain ⟨hs, q⟩ := h
  cases x with
  | non =>
    cases rx
    cases y with
    | non => cases ry; exact PySem.EqNone.ne_none_none (fin_bl I q (by simp))
    | bl j => cases ry; exact PySem.EqNone.ne_none_bool (fin_bl I q (by simp))
    | int j => obtain ⟨t', rfl⟩ := ry; exact PySem.EqNone.ne_none_int (fin_bl I q (by simp))
    | str j => obtain ⟨t', rfl⟩ := ry; exact PySem.EqNone.ne_none_str (fin_bl I q (by simp))
    | _ => exact absurd (show false = true from hs) Bool.false_ne_true
  | bl i =>
    cases rx
    cases y with
    | non => cases ry; exact PySem.EqNone.ne_bool_none (fin_bl I q (by simp))
    | bl j => cases ry; exact ne_bool (fin_bl I q (congrArg not dec_bl))
    | str j => obtain ⟨t', rfl⟩ := ry; exact PySem.EqMixed.ne_bool_str (fin_bl I q (by simp))
    | _ => exact absurd (show false = true from hs) Bool.false_ne_true
  | int i =>
    obtain ⟨t, rfl⟩ := rx
    cases y with
    | non => cases ry; exact PySem.EqNone.ne_int_none (fin_bl I q (by simp))
    | int j => obtain ⟨t', rfl⟩ := ry; exact ne_int (fin_bl I q (congrArg not dec_int))
    | str j => obtain ⟨t', rfl⟩ := ry; exact PySem.EqMixed.ne_int_str (fin_bl I q (by simp))
    | _ => exact absurd (show false = true from hs) Bool.false_ne_true
  | str i =>
    obtain ⟨t, rfl⟩ := rx
    cases y with
    | non => cases ry; exact PySem.EqNone.ne_str_none (fin_bl I q (by simp))
    | bl j => cases ry; exact PySem.EqMixed.ne_str_bool (fin_bl I q (by simp))
    | int j => obtain ⟨t', rfl⟩ := ry; exact PySem.EqMixed.ne_str_int (fin_bl I q (by simp))
    | str j => obtain ⟨t', rfl⟩ := ry; exact ne_str (fin_bl I q (congrArg not dec_str))
    | _ => exact absurd (show false = true from hs) Bool.false_ne_true
  | byt i =>
    obtain ⟨t, rfl⟩ := rx
    cases y with
    | byt j => obtain ⟨t', rfl⟩ := ry; exact PySem.W.ne_bytes (fin_bl I q (congrArg not dec_byt))
    | _ => exact absurd (show false = true from hs) Bool.false_ne_true
  | _ => cases y <;> exact absurd (show false = true from hs) Bool.false_ne_true
theorem op_lt:OpR X (compareOp .Lt) (rI0 fun i j=>.bl (decide (i < j))):=opB0 fun _ _ _ _ _ _ _ q=>lt_int q
theorem op_le:OpR X (compareOp .LtE) (rI0 fun i j=>.bl (decide (i <= j))):=opB0 fun _ _ _ _ _ _ _ q=>le_int q
theorem op_gt:OpR X (compareOp .Gt) (rI0 fun i j=>.bl (decide (j < i))):=opB0 fun _ _ _ _ _ _ _ q=>gt_int q
theorem op_ge:OpR X (compareOp .GtE) (rI0 fun i j=>.bl (decide (j <= i))):=opB0 fun _ _ _ _ _ _ _ q=>ge_int q
theorem op_in_str:OpR X (compareOp .In) (fun x y H Q=>∃ i j,x = .str i/\y = .str j/\Q (.bl (!(Builtin.Str.occurrences j i 0 j.length 1).isEmpty)) H):=by
 intro pins s σ H x y v u Q I rx ry h
 obtain ⟨i,j,rfl,rfl,q⟩:=h
 obtain ⟨t,rfl⟩:=rx
 obtain ⟨t',rfl⟩:=ry
 exact in_str (fin_bl I q rfl)
theorem OpR.or {f:Value->Value->Sem Value} {r r':R2} (h:OpR X f r) (h':OpR X f r'):OpR X f (fun x y H Q=>r x y H Q\/r' x y H Q):=by
 intro pins s σ H x y v u Q I rx ry q
 rcases q with q | q
 ·exact h pins s σ H x y v u Q I rx ry q
 ·exact h' pins s σ H x y v u Q I rx ry q
theorem nomark (b:Expr) {op:CmpOp} (h:op ≠ .In:=by decide) (h2:op ≠ .NotIn:=by decide):behindInMarks op b = false:=by
 have e1:(op == CmpOp.In) = false:=by cases op <;> first | rfl | exact absurd rfl h
 have e2:(op == CmpOp.NotIn) = false:=by cases op <;> first | rfl | exact absurd rfl h2
 cases b <;> simp [behindInMarks,e1,e2]
theorem pe_cmpR {op:CmpOp} {r:R2} (ho:OpR X (compareOp op) r) (ha:PE X a ta) (hb:PE X b tb) (hm:behindInMarks op b = false):PE X (.Compare a [op] [b] pos) (tOp r ta tb):=by
 intro pins s σ H Q I h
 exact wpAny_Compare1 (binT ha hb I h fun v u s2 x y H2 I2 rx ry q=>ho pins s2 σ H2 x y v u Q I2 rx ry q) hm
def tTest (t:TE):TT:=fun σ H Q=>t σ H fun x H'=>∃ k,x = .bl k/\Q k H'
theorem pt_cmpR {op:CmpOp} {r:R2} (ho:OpR X (compareOp op) r) (ha:PE X a ta) (hb:PE X b tb) (hm:behindInMarks op b = false):PT X (.Compare a [op] [b] pos) (tTest (tOp r ta tb)):=by
 intro pins s σ H Q I h
 refine wpAny_isTrue_Compare1 (thn (ha pins s σ H _ I h) fun v s1 ⟨x,H1,I1,r1,q1⟩=>thn (hb pins s1 σ H1 _ I1 q1) fun u s2 ⟨y,H2,I2,r2,q2⟩ =>
  thn (ho pins s2 σ H2 x y v u _ I2 r1 r2 q2) fun c s3 ⟨z,H3,I3,r3,k,e,q3⟩=>?_) hm
 subst e
 cases r3
 exact wpAny_truthy_bool ⟨H3,I3,q3⟩
def tChain (r r':R2) (ta tb tc:TE):TE:=fun σ H Q=>ta σ H fun x H1=>tb σ H1 fun y H2=>r x y H2 fun z H3=>∃ k,z = .bl k /\
 (if k = true then tc σ H3 fun w' H4=>r' y w' H4 Q else Q (.bl false) H3)
theorem pt_chain {op op' : CmpOp} {r r' : R2} (ho : OpR X (compareOp op) r) (ho' : OpR X (compareOp op') r') (ha : PE X a ta) (hb : PE X b tb) (hc : PE X c tc)
    (hm : lastMarks [op, op'] [b, c] = false := by with_unfolding_all rfl) : PT X (.Compare a [op, op'] [b, c] pos) (tTest (tChain r r' ta tb tc)) := by
  intro pins s σ H Q I h
  refine isTrue_chain (thn (ha pins s σ H _ I h) fun v s1 ⟨x, H1, I1, r1, q1⟩ => test_link (thn (hb pins s1 σ H1 _ I1 q1) fun u s2 ⟨y, H2, I2, r2, q2⟩ =>
    thn (ho pins s2 σ H2 x y v u _ I2 r1 r2 q2) fun d s3 ⟨z, H3, I3, r3, k, e, q3⟩ => ?_)) hm
  subst e
  cases r3
  refine wpAny_truthy_bool ?_
  cases k with
  | false =>
    obtain ⟨k', e', q'⟩ := q3
    cases e'
    exact ite_ff ⟨H3, I3, q'⟩
  | true =>
    refine ite_tt (test_last (thn (hc pins s3 σ H3 _ I3 q3) fun w' s4 ⟨z', H4, I4, r4, q4⟩ => thn (ho' pins s4 σ H4 y z' u w' _ I4 r2 r4 q4) fun d' s5 ⟨z2, H5, I5, r5, k2, e2, q5⟩ => ?_))
    subst e2
    cases r5
    exact wpAny_truthy_bool ⟨H5, I5, q5⟩
def TruV (K:PySem.W.Frag) (x:V) (H:Hp) (k:Bool):Prop :=
 match x with
 | .non=>k = false
 | .bl b=>k = b
 | .int i=>k = (i != 0)
 | .str y=>y.length <= sizeLine/\k = ((y.length:Int) != 0)
 | .byt y=>y.size <= sizeLine/\k = ((y.size:Int) != 0)
 | .ref p=>(∃ xs,SqL K H p xs/\k = !xs.isEmpty)\/(∃ xs,SqT K H p xs/\k = !xs.isEmpty)\/∃ kvs,H p = some (.dK kvs)/\k = !kvs.isEmpty
 | _=>False
theorem isEmpty_kv {κ:Type} {kvs:List (κ × V)} {vs:List (κ × Value)} (r:KV kvs vs):(!vs.isEmpty) = !kvs.isEmpty:=by
 cases r <;> rfl
theorem isEmpty_of {xs:List V} {its:List Value} (r:Vals xs its):(!its.toArray.isEmpty) = !xs.isEmpty:=by
 cases r <;> simp
theorem line63:(sizeLine:Nat) < 2 ^ 63:=by rw [sizeLine_eq]; decide
theorem tru_ok : TruR X (fun x H Q => ∃ k, TruV X.K x H k /\ Q k H) := by
  intro pins s σ H x v Q I rx h
  obtain ⟨k, e, q⟩ := h
  have hl := line63
  have hs : sizeLine = 16777216 := sizeLine_eq
  cases x with
  | non =>
    cases rx
    have e' : k = false := e
    subst e'
    exact truthy_none ⟨H, I, q⟩
  | bl b =>
    cases rx
    have e' : k = b := e
    subst e'
    exact wpAny_truthy_bool ⟨H, I, q⟩
  | int i =>
    obtain ⟨t, rfl⟩ := rx
    have e' : k = (i != 0) := e
    subst e'
    exact PySem.P.truthy_int ⟨H, I, q⟩
  | str y =>
    obtain ⟨t, rfl⟩ := rx
    obtain ⟨hy, e'⟩ : y.length <= sizeLine /\ k = ((y.length : Int) != 0) := e
    subst e'
    exact PySem.P.truthy_str (by omega) ⟨H, I.tok _, q⟩
  | byt y =>
    obtain ⟨t, rfl⟩ := rx
    obtain ⟨hy, e'⟩ : y.size <= sizeLine /\ k = ((y.size : Int) != 0) := e
    subst e'
    exact PySem.W.truthy_bytes (by omega) ⟨H, I.tok _, q⟩
  | ref p =>
    cases rx
    have e' : (∃ xs, SqL X.K H p xs /\ k = !xs.isEmpty) \/ (∃ xs, SqT X.K H p xs /\ k = !xs.isEmpty) \/ ∃ kvs, H p = some (.dK kvs) /\ k = !kvs.isEmpty := e
    rcases e' with ⟨xs, hx, e'⟩ | ⟨xs, hx, e'⟩ | ⟨kvs, hx, e'⟩
    · subst e'
      obtain ⟨its, r, pl, hz⟩ := I.list hx
      have hlen := r.length
      exact wpAny_truthy_list pl.isList (by simp only [List.size_toArray]; omega) ⟨H, I.tok _, by rw [isEmpty_of r]; exact q⟩
    · subst e'
      obtain ⟨its, r, pl, hz⟩ := I.tuple hx
      have hlen := r.length
      exact truthy_tuple pl (by simp only [List.size_toArray]; omega) ⟨H, I.tok _, by rw [isEmpty_of r]; exact q⟩
    · subst e'
      obtain ⟨hz, hS, vs, r, m⟩ : kvs.length <= sizeLine /\ (p == sysModules) = false /\ ∃ vs, KV kvs vs /\ s.heap.DictOf (mixKind X.prog X.w) p vs := I.hok p _ hx
      have hlen : kvs.length = vs.length := Paired.length r
      exact wpAny_truthy_dict hS m (by omega) ⟨H, I.tok _, by rw [isEmpty_kv r]; exact q⟩
  | _ => exact (show False from e).elim
theorem pt_truth (ha:PE X a ta) (he:∀ whole,isTrue a X.env whole = (do let v <- whole; standAt a.pos; holding [v] (truthy v))) :
  PT X a (fun σ H Q=>ta σ H fun x H'=>∃ k,TruV X.K x H' k/\Q k H'):=by
 intro pins s σ H Q I h
 exact isTrue_plain (thn (ha pins s σ H _ I h) fun v s1 ⟨x,H1,I1,r1,q1⟩=>tru_ok pins s1 σ H1 x v Q I1 r1 q1) (he _)
theorem op_add_str:OpR X (binaryOp .Add) (fun x y H Q=>∃ i j,x = .str i/\y = .str j/\i.length + j.length <= sizeLine/\Q (.str (i ++ j)) H):=by
 intro pins s σ H x y v u Q I rx ry h
 obtain ⟨i,j,rfl,rfl,hz,q⟩:=h
 obtain ⟨t,rfl⟩:=rx
 obtain ⟨t',rfl⟩:=ry
 exact add_str (fun t' tk=>⟨.str (i ++ j),H,I.tok _,⟨_,rfl⟩,q⟩) hz
theorem vals1 {x:V} {us:List Value} (r:Vals [x] us):∃ u,us = [u]/\RelV x u:=by
 cases r with
 | cons r1 r2=>cases r2; exact ⟨_,rfl,r1⟩
theorem vals2 {x y : V} {us : List Value} (r : Vals [x, y] us) : ∃ u w', us = [u, w'] /\ RelV x u /\ RelV y w' := by
  cases r with
  | cons r1 r2 =>
    cases r2 with
    | cons r3 r4 => cases r4; exact ⟨_, _, rfl, r1, r3⟩
theorem call_max2 (hc:X.calm = true):CallR X (.builtin "max") (fun xs H Q=>∃ i j,xs = [.int i,.int j]/\Q (.int (if j > i then j else i)) H):=by
 intro pins s σ H xs us Q I r h
 obtain ⟨i,j,rfl,q⟩:=h
 obtain ⟨u,w',rfl,⟨t,rfl⟩,⟨t',rfl⟩⟩:=vals2 r
 refine max_two_ints (I.ok.hd hc) fun h' tk k=>⟨_,H,I.kept k,?_,q⟩
 by_cases hj:j > i
 ·rw [if_pos hj,if_pos hj]; exact ⟨_,rfl⟩
 ·rw [if_neg hj,if_neg hj]; exact ⟨_,rfl⟩
theorem call_min2 (hc:X.calm = true):CallR X (.builtin "min") (fun xs H Q=>∃ i j,xs = [.int i,.int j]/\Q (.int (if j < i then j else i)) H):=by
 intro pins s σ H xs us Q I r h
 obtain ⟨i,j,rfl,q⟩:=h
 obtain ⟨u,w',rfl,⟨t,rfl⟩,⟨t',rfl⟩⟩:=vals2 r
 refine min_two_ints (I.ok.hd hc) fun h' tk k=>⟨_,H,I.kept k,?_,q⟩
 by_cases hj:j < i
 ·rw [if_pos hj,if_pos hj]; exact ⟨_,rfl⟩
 ·rw [if_neg hj,if_neg hj]; exact ⟨_,rfl⟩
theorem call_int1:CallR X (.type "int") (fun xs H Q=>(∃ i,xs = [.int i]/\Q (.int i) H)\/∃ k,xs = [.bl k]/\Q (.int (if k then 1 else 0)) H):=by
 intro pins s σ H xs us Q I r h
 rcases h with ⟨i,rfl,q⟩ | ⟨k,rfl,q⟩
 ·obtain ⟨u,rfl,t,rfl⟩:=vals1 r
  exact call_int_int ⟨.int i,H,I,⟨_,rfl⟩,q⟩
 ·obtain ⟨u,rfl,r1⟩:=vals1 r
  cases r1
  exact call_int_bool ⟨.int (if k then 1 else 0),H,I.tok _,⟨_,rfl⟩,q⟩
end
end L2
namespace L2
open PySem PySem.Spec PyProof.Rows
structure ObjM (h:Heap) (x dx C:Addr) (mA:Str->Option Value):Prop where
 obj:h.get? x = some (PySem.W.instObj C dx)
 ns:h.Ns1 dx mA
 ne:dx ≠ x
theorem lookIn_ns {h:Heap} {dx:Addr} {mA:Str->Option Value} (n:h.Ns1 dx mA):∃ od,h.get? dx = some od/\∀ name,PySem.W.lookIn name od = some (mA name):=by
 obtain ⟨o,es,ep,ho,hd,hk,_,hm⟩:=n
 refine ⟨o,ho,fun name=>?_⟩
 have e:=hm name
 unfold nsFind findBy at e
 rw [<- Array.find?_toList] at e
 unfold PySem.W.lookIn
 rw [hd]
 dsimp only
 split
 ·rename_i y q
  rw [q] at e
  exact congrArg some e
 ·rename_i q
  rw [q] at e
  have a:es.toList.any (·.refKey) = false:=by
   rw [List.any_eq_false]
   intro y hy
   obtain ⟨z,t,hkey⟩:=hk y (Array.mem_toList_iff.mp hy)
   simp [DictEntry.refKey,hkey]
  have a':¬ es.toList.any (·.refKey) = true:=by rw [a]; exact Bool.false_ne_true
  rw [if_neg a']
  exact congrArg some e
theorem ObjM.look {h:Heap} {x dx C:Addr} {mA:Str->Option Value} (I:ObjM h x dx C mA):∃ od,PySem.W.InstAt h x (PySem.W.instObj C dx) C (some od)/\∀ name,PySem.W.lookIn name od = some (mA name) :=
 let ⟨od,ho,hl⟩:=lookIn_ns I.ns
 ⟨od,⟨I.obj,rfl,rfl,ho⟩,hl⟩
section
variable {prog:Program} {w:World} {A:Around} {E:Value->Shared->Prop} {s:Shared} {K:PySem.W.Frag} {x dx C f:Addr} {mA:Str->Option Value} {name:Str} {v:Value}
theorem get_map {expr:Bool} {Q:Value->Shared->Prop} (X:K.In s.heap) (I:ObjM s.heap x dx C mA) (hg:PySem.W.plainGet K C name = true) (hh:PySem.W.hasDictIn K C = true)
  (ha:PySem.W.findIn K (.ref C) name = some none) (hv:mA name = some v) (hv':PySem.W.handedIn v = true) (h:Q v { s with toks:=s.toks + 1 }) :
  wpAny (model prog w) A (getAttr (.ref x) name expr) Q E s:=by
 obtain ⟨od,J,hl⟩:=I.look
 exact PySem.W.get_value X J (PySem.W.plainGet_of hg).1 (PySem.W.findObj_own hh ha rfl (by rw [hl,hv])) hv' h
theorem get_meth {pl:Sem Bool} {Q:Value × List Value->Shared->Prop} (X:K.In s.heap) (I:ObjM s.heap x dx C mA) (hg:PySem.W.plainGet K C name = true)
  (hf:PySem.W.findIn K (.ref C) name = some (some (.ref f))) (ht:PySem.W.isFn K (.ref f) = true) (hv:mA name = none) (h:Q (.ref f,[.ref x]) s) :
  wpAny (model prog w) A (getMethod (.ref x) name pl) Q E s:=by
 obtain ⟨od,J,hl⟩:=I.look
 exact PySem.W.method_fn X J (PySem.W.plainGet_of hg).1 (PySem.W.plainGet_of hg).2 hf (beq_iff_eq.mp ht) (by show (PySem.W.lookIn name od).map (·.isSome) = some false; rw [hl,hv]; rfl) h
theorem set_map {ns:List Str} {Q:Unit->Shared->Prop} (X:K.In s.heap) (I:ObjM s.heap x dx C mA)
  (hs:PySem.W.findIn K (.ref C) "__setattr__" = some (some (.builtin "object.__setattr__"))) (hp:PySem.W.plainOver K C = true) (ht:PySem.W.takerIn K C name = some none) (hh:PySem.W.hasDictIn K C = true)
  (hw:PySem.Within mA ns) (hsz:ns.length <= sizeLine)
  (h:∀ h',ObjM h' x dx C (fun y=>if y = name then some v else mA y)->Heap.SameBut dx s.heap h'->Q () { s with heap:=h',toks:=s.toks + 2 }) :
  wpAny (model prog w) A (setAttr (.ref x) name v) Q E s:=by
 obtain ⟨od,J,hl⟩:=I.look
 refine PySem.W.set_plain X J hs (PySem.W.osa_open (s:={ s with toks:=s.toks + 1 }) (r:=none) X J hp ht fun b=>?_)
 obtain ⟨cd,hc,hd'⟩:=PySem.W.any_some hh
 have hx:s.heap.get? x = some ⟨.ref C,some dx,.plain,#[]⟩:=I.obj
 refine wpAny_bind (wpAny_pure (wpAny_bind (wpAny_bind (wpAny_loadPart hx (wpAny_bind (PySem.W.Looks.here (s:={ s with toks:=s.toks + 1 }) (PySem.W.looks_clsIn X hc) ?_))))))
 rw [hd']
 refine wpAny_pure (a:=some dx) (wpAny_bind (wpAny_pure (wpAny_bind ?_)))
 refine wpAny_nsSet1 (s:={ s with toks:=s.toks + 1 }) I.ns fun h' hn2 hs2=>?_
 obtain ⟨oD,esD,epD,hoD,hdD,hcD⟩:=hn2.count (PySem.Within.cons name v hw)
 refine wpAny_bind (wpAny_lookBehind hoD (by rw [hdD]; exact pastItsLine_dict (Nat.le_trans hcD (by rw [List.length_cons]; omega))) ?_)
 exact wpAny_pure (h _ ⟨(hs2.2 _ (Ne.symm I.ne)).trans I.obj,hn2,I.ne⟩ hs2)
theorem make_map {R : Result -> Shared -> Prop} {vs : List Value} {kw : List (Str × Value)} (X : K.In s.heap) (hm : PySem.W.makesIn K C = true)
  (hi : PySem.W.findIn K (.ref C) "__init__" = some (some (.ref f))) (hf : PySem.W.typeIn K (.ref f) = some (.type "function"))
  (h : codeAny (model prog w) (A.under (.builtin "type.__call__" ⟨.ref C :: vs, kw⟩)) (.call (.ref f) ⟨.ref (s.heap.objs.size + 1) :: vs, kw⟩) (PySem.W.InitBack (s.heap.objs.size + 1) R)
   { s with heap := (s.heap.push PySem.W.emptyDict).push (PySem.W.instObj C s.heap.objs.size) }) :
  codeAny (model prog w) A (.call (.ref C) ⟨vs, kw⟩) R s := by
 obtain ⟨hh, g, d, t, os⟩ := s
 exact PySem.W.make_core (PySem.W.makes_of X hm) (PySem.W.looks_findIn X hi) (fun self => PySem.W.bind_fn X self hf) (.inl rfl) h
end
def putF (f:Str) (v:V):List (Str × V)->List (Str × V)
 | []=>[(f,v)]
 | (g,x) :: r=>if g = f then (g,v) :: r else (g,x) :: putF f v r
theorem lookup_putF (f g : Str) (v : V) : ∀ fs : List (Str × V), (putF f v fs).lookup g = if g = f then some v else fs.lookup g
  | [] => by
    show List.lookup g [(f, v)] = _
    by_cases h : g = f
    · have hb : (g == f) = true := beq_iff_eq.mpr h
      simp only [List.lookup, hb, if_pos h]
    · have hb : (g == f) = false := beq_eq_false_iff_ne.mpr h
      simp only [List.lookup, hb, if_neg h]
  | (k, x) :: r => by
    have ih := lookup_putF f g v r
    rw [show putF f v ((k, x) :: r) = (if k = f then (k, v) :: r else (k, x) :: putF f v r) from rfl]
    by_cases hk : k = f
    · rw [if_pos hk]
      by_cases h : g = k
      · have hb : (g == k) = true := beq_iff_eq.mpr h
        simp only [List.lookup, hb, if_pos (h.trans hk)]
      · have hb : (g == k) = false := beq_eq_false_iff_ne.mpr h
        simp only [List.lookup, hb, if_neg (fun e : g = f => h (e.trans hk.symm))]
    · rw [if_neg hk]
      by_cases h : g = k
      · have hb : (g == k) = true := beq_iff_eq.mpr h
        simp only [List.lookup, hb, if_neg (fun e : g = f => hk (h.symm.trans e))]
      · have hb : (g == k) = false := beq_eq_false_iff_ne.mpr h
        simp only [List.lookup, hb]
        exact ih
theorem keys_putF (f : Str) (v : V) : ∀ fs : List (Str × V), f ∈ (putF f v fs).map (·.1) /\ ∀ g, g ∈ fs.map (·.1) -> g ∈ (putF f v fs).map (·.1)
  | [] => ⟨by simp [putF], fun g h => by simp at h⟩
  | (k, x) :: r => by
    obtain ⟨i1, i2⟩ := keys_putF f v r
    rw [show putF f v ((k, x) :: r) = (if k = f then (k, v) :: r else (k, x) :: putF f v r) from rfl]
    by_cases hk : k = f
    · rw [if_pos hk]
      subst hk
      exact ⟨by simp, fun g h => by simpa using h⟩
    · rw [if_neg hk]
      refine ⟨?_, fun g h => ?_⟩
      · rw [List.map_cons]
        exact List.mem_cons_of_mem _ i1
      · rw [List.map_cons] at h ⊢
        rcases List.mem_cons.mp h with e | e
        · exact List.mem_cons.mpr (.inl e)
        · exact List.mem_cons_of_mem _ (i2 g e)
theorem length_putF (f : Str) (v : V) : ∀ fs : List (Str × V), (putF f v fs).length <= fs.length + 1
  | [] => by simp [putF]
  | (k, x) :: r => by
    have ih := length_putF f v r
    rw [show putF f v ((k, x) :: r) = (if k = f then (k, v) :: r else (k, x) :: putF f v r) from rfl]
    by_cases hk : k = f
    · rw [if_pos hk, List.length_cons, List.length_cons]; omega
    · rw [if_neg hk, List.length_cons, List.length_cons]; omega
theorem RelO.some_of {v:V} {o:Option Value} (r:RelO (some v) o):∃ u,o = some u/\RelV v u:=by
 cases o with
 | none=>exact (show False from r).elim
 | some u=>exact ⟨u,rfl,r⟩
theorem RelO.none_of {o:Option Value} (r:RelO none o):o = none:=by
 cases o with
 | none=>rfl
 | some u=>exact (show False from r).elim
theorem handed_of {v:V} {u:Value} (r:RelV v u):PySem.W.handedIn u = true:=by
 cases v with
 | non=>cases (show u = Value.none from r); rfl
 | bl b=>cases (show u = Value.bool b from r); rfl
 | int i=>obtain ⟨t,e⟩:=(show ∃ t,u = Value.int i t from r); cases e; rfl
 | str x=>obtain ⟨t,e⟩:=(show ∃ t,u = Value.str x t from r); cases e; rfl
 | byt b=>obtain ⟨t,e⟩:=(show ∃ t,u = Value.bytes b t from r); cases e; rfl
 | flt b=>obtain ⟨t,e⟩:=(show ∃ t,u = Value.float b t from r); cases e; rfl
 | ref a=>cases (show u = Value.ref a from r); rfl
 | ty n=>cases (show u = Value.type n from r); rfl
section
variable {P:Program} {w:World} {H H':Hp} {h h':Heap} {a C dx:Addr} {fs fs':List (Str × V)}
theorem ins_get (hok:HOk P w H h) (e:H a = some (.ins C dx fs)):∃ mA,ObjM h a dx C mA/\(∀ f,RelO (fs.lookup f) (mA f))/\PySem.Within mA (fs.map (·.1))/\fs.length <= 1000/\H dx = some (.own a):=by
 obtain ⟨d,z,ne,ob,mA,n,r,q⟩:=(show ObjOk P w H h a (.ins C dx fs) from hok a _ e)
 exact ⟨mA,⟨ob,n,ne⟩,r,q,z,d⟩
end
structure Cls (K:PySem.W.Frag) (C:Addr):Prop where
 pg:PySem.W.plainGet K C Str.empty = true
 hd:PySem.W.hasDictIn K C = true
 po:PySem.W.plainOver K C = true
 sa:PySem.W.findIn K (.ref C) "__setattr__" = some (some (.builtin "object.__setattr__"))
theorem Cls.get {K:PySem.W.Frag} {C:Addr} (c:Cls K C) (f:Str):PySem.W.plainGet K C f = true:=c.pg
def NoAttr (K:PySem.W.Frag) (C:Addr) (f:Str):Prop:=PySem.W.findIn K (.ref C) f = some none
theorem NoAttr.taker {K:PySem.W.Frag} {C:Addr} {f:Str} (n:NoAttr K C f):PySem.W.takerIn K C f = some none:=by
 unfold PySem.W.takerIn
 rw [show PySem.W.findIn K (.ref C) f = some none from n]
 rfl
structure Meth (K:PySem.W.Frag) (C:Addr) (m:Str) (f:Addr):Prop where
 at_:PySem.W.findIn K (.ref C) m = some (some (.ref f))
 fn:PySem.W.isFn K (.ref f) = true
 kp:PySem.W.keepIn K (.ref f) = true
section
variable {X:Cx} {pins:List (Addr × Obj)} {σ:St} {H:Hp} {s:Shared} {a C dx:Addr} {fs:List (Str × V)} {f:Str} {v:V} {A:Around} {E:Value->Shared->Prop}
theorem getattr_ok {b:Bool} {Q:Value->Shared->Prop} (I:Inv X pins σ H s) (e:H a = some (.ins C dx fs)) (c:Cls X.K C) (n:NoAttr X.K C f) (l:fs.lookup f = some v)
  (h:∀ u s',Inv X pins σ H s'->RelV v u->Q u s'):wpAny (model X.prog X.w) A (getAttr (.ref a) f b) Q E s:=by
 obtain ⟨mA,O,r,_,_,_⟩:=ins_get I.hok e
 obtain ⟨u,hu,ru⟩:=RelO.some_of (v:=v) (o:=mA f) (by rw [<- l]; exact r f)
 exact get_map I.kIn O (c.get f) c.hd n hu (handed_of ru) (h u _ (I.tok _) ru)
theorem getmeth_ok {m:Str} {g:Addr} {pl:Sem Bool} {Q:Value × List Value->Shared->Prop} (I:Inv X pins σ H s) (e:H a = some (.ins C dx fs)) (c:Cls X.K C) (k:Meth X.K C m g) (l:fs.lookup m = none)
  (h:Q (.ref g,[.ref a]) s):wpAny (model X.prog X.w) A (getMethod (.ref a) m pl) Q E s:=by
 obtain ⟨mA,O,r,_,_,_⟩:=ins_get I.hok e
 have hn:mA m = none:=RelO.none_of (by rw [<- l]; exact r m)
 exact get_meth I.kIn O (c.get m) k.at_ k.fn hn h
theorem setattr_ok {y:V} {u:Value} {Q:Unit->Shared->Prop} (I:Inv X pins σ H s) (e:H a = some (.ins C dx fs)) (c:Cls X.K C) (n:NoAttr X.K C f) (hl:fs.length < 1000) (ry:RelV y u)
  (h:∀ s',Inv X pins σ (upd H a (.ins C dx (putF f y fs))) s'->Q () s'):wpAny (model X.prog X.w) A (setAttr (.ref a) f u) Q E s:=by
 obtain ⟨mA,O,r,wi,_,ho⟩:=ins_get I.hok e
 have hz:(fs.map (·.1)).length <= sizeLine:=by rw [List.length_map,sizeLine_eq]; omega
 refine set_map I.kIn O c.sa c.po n.taker c.hd wi hz fun h' O' sb=>h _ ?_
 have hd:∃ o,h'.get? dx = some o:=let ⟨o,_,_,e',_⟩:=O'.ns; ⟨o,e'⟩
 refine I.write (x:=a) (e:=dx) (by rw [e]; exact True.intro) (.inr ho) (fun b q hb z=>(sb.2 b hb).trans z) hd ?_
 refine ⟨by rw [upd_ne O.ne]; exact ho,?_,O.ne,O'.obj,_,O'.ns,fun g=>?_,fun g hg=>?_⟩
 ·have:=length_putF f y fs; omega
 ·show RelO ((putF f y fs).lookup g) (if g = f then some u else mA g)
  rw [lookup_putF]
  by_cases q:g = f
  ·rw [if_pos q,if_pos q]; exact ry
  ·rw [if_neg q,if_neg q]; exact r g
 ·by_cases q:g = f
  ·rw [q]; exact (keys_putF f y fs).1
  ·refine (keys_putF f y fs).2 g (wi g fun z=>hg ?_)
   show (if g = f then some u else mA g) = none
   rw [if_neg q]; exact z
theorem Inv.made (I:Inv X pins σ H s):Inv X pins σ (upd (upd H s.heap.objs.size (.own (s.heap.objs.size + 1))) (s.heap.objs.size + 1) (.ins C s.heap.objs.size []))
  { s with heap:=(s.heap.push PySem.W.emptyDict).push (PySem.W.instObj C s.heap.objs.size) }:=by
 have e1:(s.heap.push PySem.W.emptyDict).get? s.heap.objs.size = some PySem.W.emptyDict:=Heap.get?_push_size s.heap rfl
 have e2:((s.heap.push PySem.W.emptyDict).push (PySem.W.instObj C s.heap.objs.size)).get? (s.heap.objs.size + 1) = some (PySem.W.instObj C s.heap.objs.size):=by
  have:=Heap.get?_push_size (s.heap.push PySem.W.emptyDict) (o:=PySem.W.instObj C s.heap.objs.size) rfl
  rwa [Heap.size_push] at this
 have e3:(s.heap.push PySem.W.emptyDict).Ns s.heap.objs.size (fun _=>none):=⟨PySem.W.emptyDict,#[],_,e1,rfl,(fun e he=>absurd he (by simp)),fun _=>rfl⟩
 have I1:=I.laid (a:=s.heap.objs.size) (o:=.own (s.heap.objs.size + 1)) (h':=s.heap.push PySem.W.emptyDict) (t':=s.toks) (fun b u q=>Heap.get?_push_of_some _ q) (Nat.le_refl _) ⟨_,e1⟩
 refine I1.laid (a:=s.heap.objs.size + 1) (o:=.ins C s.heap.objs.size []) (t':=s.toks) (fun b u q=>Heap.get?_push_of_some _ q) (Nat.le_of_eq (Heap.size_push _ _)) ?_
 have ne:s.heap.objs.size ≠ s.heap.objs.size + 1:=Nat.ne_of_lt (Nat.lt_succ_self _)
 refine ⟨by rw [upd_ne ne,upd_same],Nat.zero_le _,ne,e2,fun _=>none,(Heap.Ns1.of_empty e3).at fun o q=>Heap.get?_push_of_some _ q,fun _=>True.intro,fun y hy=>absurd rfl hy⟩
theorem attr_of {prog:Program} {w:World} {env:Env} {e:Expr} {f:Str} {pos:Pos} {s:Shared} {Q:Value->Shared->Prop} (hb:attributeBase e f env (eval e env) = eval e env)
  (h:wpAny (model prog w) A (eval e env) (fun o s₁=>wpAny (model prog w) A (getAttr o f true) Q E s₁) E s):wpAny (model prog w) A (eval (.Attribute e f pos) env) Q E s :=
 Attribute_any_ h (by rw [arm_eval_Attribute,hb])
end
def tFld (K:PySem.W.Frag) (ta:TE) (f:Str):TE:=fun σ H Q=>ta σ H fun x H1=>∃ a C dx fs v,x = .ref a/\H1 a = some (.ins C dx fs)/\Cls K C/\NoAttr K C f/\fs.lookup f = some v/\Q v H1
def sFld (K:PySem.W.Frag) (ta tv:TE) (f:Str):TS:=fun D σ H=>tv σ H fun y H1=>ta σ H1 fun x H2=>∃ a C dx fs,x = .ref a/\H2 a = some (.ins C dx fs)/\Cls K C/\NoAttr K C f/\fs.length < 1000 /\
 D.nx σ (upd H2 a (.ins C dx (putF f y fs)))
def InOp (X:Cx) (op:Operator) (rd:V->V->Hp->VK->Prop):Prop :=
 ∀ (pins:List (Addr × Obj)) (s:Shared) (σ:St) (H:Hp) (x y:V) (u v:Value) (Q:VK),Inv X pins σ H s->RelV x u->RelV y v->rd x y H Q->wpAny (model X.prog X.w) X.A (inplaceOp op u v) (EP X pins σ Q) X.xe s
def sFldAug (K:PySem.W.Frag) (ta tv:TE) (rd:V->V->Hp->VK->Prop) (f:Str):TS:=fun D σ H=>ta σ H fun x H1=>∃ a C dx fs v,x = .ref a/\H1 a = some (.ins C dx fs)/\Cls K C/\NoAttr K C f/\fs.lookup f = some v /\
 tv σ H1 fun y H2=>rd v y H2 fun z H3=>∃ dx' fs',H3 a = some (.ins C dx' fs')/\fs'.length < 1000/\D.nx σ (upd H3 a (.ins C dx' (putF f z fs')))
section
variable {X:Cx} {o e value:Expr} {f:Str} {pos pos' tpos:Pos} {ta tv:TE}
theorem pe_fld (he:PE X e ta) (hb:attributeBase e f X.env (eval e X.env) = eval e X.env):PE X (.Attribute e f pos) (tFld X.K ta f):=by
 intro pins s σ H Q I h
 refine attr_of hb (thn (he pins s σ H _ I h) fun u s1 ⟨x,H1,I1,rx,a,C,dx,fs,v,ex,ea,c,n,l,q⟩=>?_)
 subst ex
 obtain rfl:u = Value.ref a:=rx
 exact getattr_ok I1 ea c n l fun u' s2 I2 ru=>⟨v,H1,I2,ru,q⟩
theorem ps_fld (ha:PE X o ta) (hv:PE X value tv) (hs:swapsWith value (some (.Attribute o f pos')) pos.line X.env = pure false):PS X (.Assign [.Attribute o f pos'] value pos) (sFld X.K ta tv f):=by
 intro pins s σ H D I h
 refine plainObj_wpAny_Assign_Attribute (thn (hv pins s σ H _ I h) fun u s1 ⟨y,H1,I1,ry,q⟩=>thn (ha pins s1 σ H1 _ I1 q) fun ov s2 ⟨x,H2,I2,rx,a,C,dx,fs,ex,ea,c,n,l,q2⟩=>?_) hs
 subst ex
 obtain rfl:ov = Value.ref a:=rx
 exact setattr_ok I2 ea c n l ry fun s3 I3=>⟨σ,_,I3,q2⟩
theorem ps_fldaug {op:Operator} {rd:V->V->Hp->VK->Prop} (ha:PE X o ta) (hv:PE X value tv) (hop:InOp X op rd):PS X (.AugAssign (.Attribute o f tpos) op value pos) (sFldAug X.K ta tv rd f):=by
 intro pins s σ H D I h
 refine wpAny_AugAssign_AttributeAny (thn (ha pins s σ H _ I h) fun ov s1 ⟨x,H1,I1,rx,a,C,dx,fs,v,ex,ea,c,n,l,q⟩=>?_)
 subst ex
 obtain rfl:ov = Value.ref a:=rx
 refine getattr_ok I1 ea c n l fun u s2 I2 ru=>thn (hv pins s2 σ H1 _ I2 q) fun w3 s3 ⟨y,H2,I3,ry,q3⟩=>thn (hop pins s3 σ H2 v y u w3 _ I3 ru ry q3) fun w4 s4 ⟨z,H3,I4,rz,dx',fs',ea',l',q4⟩=>?_
 exact setattr_ok I4 ea' c n l' rz fun s5 I5=>⟨σ,_,I5,q4⟩
def rAdd:V->V->Hp->VK->Prop:=fun x y H Q=>∃ i j,x = .int i/\y = .int j/\Q (.int (i + j)) H
theorem in_add:InOp X .Add rAdd:=by
 rintro pins s σ H x y u v Q I rx ry ⟨i,j,rfl,rfl,q⟩
 obtain ⟨t,rfl⟩:=(show ∃ t,u = Value.int i t from rx)
 obtain ⟨t',rfl⟩:=(show ∃ t',v = Value.int j t' from ry)
 exact PyProof.Rows.iadd_int ⟨.int (i + j),H,I.tok _,⟨_,rfl⟩,q⟩
end
section
variable {X:Cx} {pins:List (Addr × Obj)} {σ:St} {H:Hp} {s:Shared} {A:Around} {E:Value->Shared->Prop} {Q:Value->Shared->Prop} {c:Value} {b:Bool}
inductive TyOf (K : PySem.W.Frag) (H : Hp) : V -> Value -> Prop where
 | non : TyOf K H .non (.type "NoneType")
 | bl (x : Bool) : TyOf K H (.bl x) (.type "bool")
 | int (i : Int) : TyOf K H (.int i) (.type "int")
 | str (x : Str) : TyOf K H (.str x) (.type "str")
 | flt (x : UInt64) : TyOf K H (.flt x) (.type "float")
 | lst {a : Addr} {xs : List V} (e : H a = some (.lst xs)) : TyOf K H (.ref a) (.type "list")
 | frz {a : Addr} {o : Obj} {xs : List V} (e : H a = some (.frz o (.lst xs))) : TyOf K H (.ref a) (.type "list")
 | tup {a : Addr} {xs : List V} (e : H a = some (.tup xs)) : TyOf K H (.ref a) (.type "tuple")
 | dK {a : Addr} {kvs : List (Key × V)} (e : H a = some (.dK kvs)) : TyOf K H (.ref a) (.type "dict")
 | dT {a : Addr} {kvs : List (List Key × V)} (e : H a = some (.dT kvs)) : TyOf K H (.ref a) (.type "dict")
 | ins {a C dx : Addr} {fs : List (Str × V)} (e : H a = some (.ins C dx fs)) (cl : Cls K C) (ha : PySem.W.findIn K (.ref C) "__class__" = some (some (.builtin "object.__class__")))
   (hn : PySem.W.specialIn K (.builtin "object.__class__") "__get__" = some (some (.builtin "getset_descriptor.__get__"))) (htk : PySem.W.takesIn K (.builtin "object.__class__") = some true)
   (hm : PySem.W.mroIn K C (.type "object") = some true) : TyOf K H (.ref a) (.ref C)
theorem isinst_ok {x : V} {u t : Value} (I : Inv X pins σ H s) (rx : RelV x u) (ty : TyOf X.K H x t) (e : PySem.W.kitOne X.K t c = some b) (h : ∀ tk, Q (.bool b) { s with toks := tk }) :
    wpAny (model X.prog X.w) A (call (.builtin "isinstance") [u, c]) Q E s := by
  cases ty with
  | non => cases (show u = Value.none from rx); exact PySem.W.kia_one PySem.W.kitx_none I.kIn True.intro e (fun z => nomatch z) h
  | bl y => cases (show u = Value.bool y from rx); exact PySem.W.kia_one PySem.W.kitx_bool I.kIn True.intro e (fun z => nomatch z) h
  | int i => obtain ⟨t, q⟩ := (show ∃ t, u = Value.int i t from rx); cases q; exact PySem.W.kia_one PySem.W.kitx_int I.kIn True.intro e (fun z => nomatch z) h
  | str y => obtain ⟨t, q⟩ := (show ∃ t, u = Value.str y t from rx); cases q; exact PySem.W.kia_one PySem.W.kitx_str I.kIn True.intro e (fun z => nomatch z) h
  | flt y => obtain ⟨t, q⟩ := (show ∃ t, u = Value.float y t from rx); cases q; exact PySem.W.kia_one PySem.W.kitx_float I.kIn True.intro e (fun z => nomatch z) h
  | @lst a xs ea =>
    cases (show u = Value.ref a from rx)
    obtain ⟨_, _, n, _, h1⟩ := (show ObjOk X.prog X.w H s.heap a (.lst xs) from I.hok a _ ea)
    exact PySem.W.kia_one PySem.W.kitx_list I.kIn ⟨_, h1, rfl⟩ e (fun z => nomatch z) h
  | @frz a ob xs ea =>
    cases (show u = Value.ref a from rx)
    obtain ⟨_, _, _, n, _, h1⟩ := (show ObjOk X.prog X.w H s.heap a (.frz ob (.lst xs)) from I.hok a _ ea)
    exact PySem.W.kia_one PySem.W.kitx_list I.kIn ⟨_, h1, rfl⟩ e (fun z => nomatch z) h
  | @tup a xs ea =>
    cases (show u = Value.ref a from rx)
    obtain ⟨_, _, _, p⟩ := (show ObjOk X.prog X.w H s.heap a (.tup xs) from I.hok a _ ea)
    obtain ⟨o, h1, h2, _⟩ := p
    exact PySem.W.kia_one PySem.W.kitx_tuple I.kIn ⟨o, h1, h2⟩ e (fun z => nomatch z) h
  | @dK a kvs ea =>
    cases (show u = Value.ref a from rx)
    obtain ⟨_, _, vs, _, p⟩ := (show ObjOk X.prog X.w H s.heap a (.dK kvs) from I.hok a _ ea)
    obtain ⟨o, es, ep, h1, h2, _⟩ := p
    exact PySem.W.kia_one PySem.W.kitx_dict I.kIn ⟨o, h1, h2.1⟩ e (fun z => nomatch z) h
  | @dT a kvs ea =>
    cases (show u = Value.ref a from rx)
    obtain ⟨_, _, xs, _, o, es, ep, h1, h2, _⟩ := (show ObjOk X.prog X.w H s.heap a (.dT kvs) from I.hok a _ ea)
    exact PySem.W.kia_one PySem.W.kitx_dict I.kIn ⟨o, h1, h2.1⟩ e (fun z => nomatch z) h
  | @ins a C dx fs ea cl ha hn htk hm =>
    cases (show u = Value.ref a from rx)
    obtain ⟨mA, O, _⟩ := ins_get I.hok ea
    obtain ⟨od, J, _⟩ := O.look
    exact PySem.W.kia_one (PySem.W.kitx_own (cl.get _) cl.hd ha hn htk hm) I.kIn J e (fun z => nomatch z) h
end
end L2
namespace L2
open PySem PySem.Spec PyProof.Rows
structure Room (k:Nat) (A:Around):Prop where
 hd:A.handled = none
 dp:A.depth + 3 * k + 5 < recursionLimit
 un:A.units + 16 * k + 200 < cLine
 gd:A.guards = some []
theorem Room.mono {j k:Nat} {A:Around} (r:Room k A) (h:j <= k):Room j A:=⟨r.hd,by have:=r.dp; omega,by have:=r.un; omega,by first | exact r.gd | simpa [Around.deeper,Around.under,Code.guards,Code.isGuard,guardIds,pushGuards] using r.gd⟩
theorem Room.deeper {k:Nat} {A:Around} (r:Room (k + 1) A) (env:Env):Room k (A.deeper env) :=
 ⟨r.hd,by have:=r.dp; show A.depth + 1 + 3 * k + 5 < _; omega,by have:=r.un; show A.units + 3 + 16 * k + 200 < _; omega,by first | exact r.gd | simpa [Around.deeper,Around.under,Code.guards,Code.isGuard,guardIds,pushGuards] using r.gd⟩
theorem make_depth {A:Around} {C:Addr} {us:List Value} {kw:List (Str × Value)}:(A.under (.builtin "type.__call__" ⟨.ref C :: us,kw⟩)).depth = A.depth + 1:=by
 first | rfl | simp [Around.under,Code.weight,Code.isCreation,Code.isGuard,Code.isCaller,Code.frames,Code.isFrame,guardIds]
theorem make_units {A:Around} {C:Addr} {us:List Value} {kw:List (Str × Value)}:(A.under (.builtin "type.__call__" ⟨.ref C :: us,kw⟩)).units = A.units + 1:=by
 first | rfl | simp [Around.under,Code.cUnits,Code.frames,Code.isFrame]
theorem Room.make {k:Nat} {A:Around} (r:Room (k + 1) A) (C:Addr) (us:List Value) (kw:List (Str × Value)):Room k (A.under (.builtin "type.__call__" ⟨.ref C :: us,kw⟩)) :=
 ⟨r.hd,by have:=r.dp; rw [make_depth]; omega,by have:=r.un; rw [make_units]; omega,by first | exact r.gd | simpa [Around.deeper,Around.under,Code.guards,Code.isGuard,guardIds,pushGuards] using r.gd⟩
theorem Room.depth {k:Nat} {A:Around} (r:Room k A):A.depth < recursionLimit:=by have:=r.dp; omega
theorem Room.units {k:Nat} {A:Around} (r:Room k A):A.units + 64 < cLine:=by have:=r.un; omega
theorem Room.units0 {k:Nat} {A:Around} (r:Room k A):A.units < cLine:=by have:=r.un; omega
def tNil:TA:=fun _ H Q=>Q [] H
def tCons (ta:TE) (tr:TA):TA:=fun σ H Q=>ta σ H fun x H1=>tr σ H1 fun xs H2=>Q (x :: xs) H2
section
variable {X:Cx} {e:Expr} {es:List Expr} {te:TE} {t:TA} {pos:Pos}
theorem pa_nil:PA X [] tNil:=fun _ _ _ _ H Q I h=>Calls.spliced_nil ⟨[],H,I,.nil,h⟩
theorem pa_cons (ha:PE X e te) (hr:PA X es t) (hs:starEach (e :: es) X.env = (false,eval e X.env) :: starEach es X.env:=by rfl):PA X (e :: es) (tCons te t):=by
 intro pos pins s σ H Q I h
 rw [hs]
 show wpAny _ _ (spliced ((false,eval e X.env) :: backTo pos (starEach es X.env))) _ _ s
 refine Calls.spliced_cons (thn (ha pins s σ H _ I h) fun u s1 ⟨x,H1,I1,r1,q1⟩=>?_)
 exact thn (hr pos pins s1 σ H1 _ I1 q1) fun us s2 ⟨xs,H2,I2,r2,q2⟩=>⟨x :: xs,H2,I2,.cons r1 r2,q2⟩
def tTup (t:TA):TE:=fun σ H Q=>t σ H fun xs H1=>xs.length <= sizeLine/\∀ p,H1 p = none->Q (.ref p) (upd H1 p (.tup xs))
def tLst (t:TA):TE:=fun σ H Q=>t σ H fun xs H1=>xs.length <= sizeLine/\∀ p,H1 p = none->Q (.ref p) (upd H1 p (.lst xs))
theorem pe_tup {x1} (h:PA X es t):PE X (.Tuple es x1 pos) (tTup t):=by
 intro pins s σ H Q I hq
 refine wpAny_Tuple_spliced (thn (h pos pins s σ H _ I hq) fun us s1 ⟨xs,H1,I1,r,z,q⟩=>⟨by rw [<- r.length]; exact z,?_⟩)
 have hf:H1 s1.heap.objs.size = none:=I1.hok.fresh (Nat.le_refl _)
 refine ⟨.ref s1.heap.objs.size,upd H1 s1.heap.objs.size (.tup xs),I1.laid (t':=s1.toks) (fun b u e=>Heap.get?_push_of_some _ e) (Nat.le_refl _) ?_,rfl,q _ hf⟩
 exact ⟨z,us,r,⟨_,Heap.get?_push_size _ rfl,rfl,_,rfl⟩⟩
theorem pe_lst (h:PA X es t):PE X (.List es pos) (tLst t):=by
 intro pins s σ H Q I hq
 refine wpAny_List_spliced (thn (h pos pins s σ H _ I hq) fun us s1 ⟨xs,H1,I1,r,z,q⟩=>⟨by rw [<- r.length]; exact z,?_⟩)
 have hf:H1 s1.heap.objs.size = none:=I1.hok.fresh (Nat.le_refl _)
 refine ⟨.ref s1.heap.objs.size,upd H1 s1.heap.objs.size (.lst xs),I1.laid (t':=s1.toks) (fun b u e=>Heap.get?_push_of_some _ e) (Nat.le_refl _) ?_,rfl,q _ hf⟩
 exact ⟨z,us,0,r,Heap.get?_push_size _ rfl⟩
end
abbrev Sp:=List V->Hp->VK->XK->Prop
abbrev CXT:=List Env->Hp->Shared->XK->Value->Shared->Prop
structure Env0 (P:Program) (w:World) (K:PySem.W.Frag) (mg:Str->Option Value) (base:Heap) (A:Around) (outer:List Env) (s:Shared) (H:Hp):Prop where
 frames:A.frames = some outer
 mod:Mod K mg base
 bs:∀ b o,base.get? b = some o->s.heap.get? b = some o/\H b = none
 bsz:base.objs.size <= s.heap.objs.size
 funs:s.heap.FunFrames base outer
 frf:∀ b ∈ frs outer,H b = none
 hok:HOk P w H s.heap
 bare:AllBare s.gens
def CE (outer:List Env) (P:Program) (w:World) (H:Hp) (s:Shared) (Q:VK) (u:Value) (s':Shared):Prop :=
 ∃ v H',s'.os = s.os/\AllBare s'.gens/\Un (frs outer) [] H H' s.heap s'.heap/\HOk P w H' s'.heap/\RelV v u/\Q v H'
def CR (CX:CXT) (outer:List Env) (P:Program) (w:World) (H:Hp) (s:Shared) (Q:VK) (E:XK) (r:Result) (s':Shared):Prop :=
 match r with
 | .ok (.ret u)=>CE outer P w H s Q u s'
 | .ok _=>False
 | .error e=>CX outer H s E e s'
structure FnOk (P:Program) (w:World) (K:PySem.W.Frag) (mg:Str->Option Value) (base:Heap) (CX:CXT) (k:Nat) (f:Addr) (fd:FuncData) (ps:List Str) (sp:Sp):Prop where
 len:∀ vs H Q E,sp vs H Q E->vs.length = ps.length
 run:∀ (A:Around) (outer:List Env) (s:Shared) (H:Hp) (args:Args) (us:List Value) (vs:List V) (Q:VK) (E:XK),Room k A->Env0 P w K mg base A outer s H->BindsTo s fd args (ps.zip us)->Vals vs us->sp vs H Q E ->
  codeAny (model P w) A (.call (.ref f) args) (CR CX outer P w H s Q E) s
theorem FnOk.mono {P:Program} {w:World} {K:PySem.W.Frag} {mg:Str->Option Value} {base:Heap} {CX:CXT} {j k:Nat} {f:Addr} {fd:FuncData} {ps:List Str} {sp:Sp} (F:FnOk P w K mg base CX j f fd ps sp) (h:j <= k) :
  FnOk P w K mg base CX k f fd ps sp:=⟨F.len,fun A outer s H args us vs Q E hr=>F.run A outer s H args us vs Q E (hr.mono h)⟩
theorem Env0.make {P:Program} {w:World} {K:PySem.W.Frag} {mg:Str->Option Value} {base:Heap} {A:Around} {outer:List Env} {s:Shared} {H:Hp} (e:Env0 P w K mg base A outer s H) (C:Addr) (us:List Value) (kw:List (Str × Value)) :
  Env0 P w K mg base (A.under (.builtin "type.__call__" ⟨.ref C :: us,kw⟩)) outer s H:=⟨by first | exact e.frames | (simpa [Around.under,Code.envs,Code.isFrame,pushEnvs] using e.frames),e.mod,e.bs,e.bsz,e.funs,e.frf,e.hok,e.bare⟩
section
variable {X:Cx} {pins:List (Addr × Obj)} {σ:St} {H:Hp} {s s':Shared}
theorem Inv.env0 (I:Inv X pins σ H s):Env0 X.prog X.w X.K X.mg X.base X.A X.stack s H :=
 ⟨I.ok.frames,I.ok.mod,I.bs,Nat.le_trans I.ok.bsz I.sz,I.stack,I.stkFree,I.hok,I.bare⟩
theorem Inv.after {Q:VK} {u:Value} (I:Inv X pins σ H s) (h:CE X.stack X.prog X.w H s Q u s'):EP X pins σ Q u s':=by
 obtain ⟨v,H',os,bare,un,hok,r,q⟩:=h
 obtain ⟨hh,g,d,t,os'⟩:=s'
 obtain rfl:os' = s.os:=os
 exact ⟨v,H',I.call (h':=hh) (g':=g) (d':=d) (t':=t) (ch:=[]) un hok bare (fun b z=>absurd z (by simp)),r,q⟩
end
def tCall (sp:Sp) (dvs:List V) (E:XK) (t:TA):TE:=fun σ H Q=>t σ H fun vs H1=>sp (vs ++ dvs) H1 Q E
def tMeth (C:Addr) (m:Str) (sp:Sp) (dvs:List V) (E:XK) (ta:TE) (t:TA):TE:=fun σ H Q=>ta σ H fun x H1=>∃ a dx fs,x = .ref a/\H1 a = some (.ins C dx fs)/\fs.lookup m = none /\
 t σ H1 fun vs H2=>sp (x :: (vs ++ dvs)) H2 Q E
def Binds (K:PySem.W.Frag) (fd:FuncData) (ps:List Str) (ds:List Value):Prop :=
 ∀ (s:Shared) (us:List Value),K.In s.heap->(us ++ ds).length = ps.length->BindsTo s fd ⟨us,[]⟩ (ps.zip (us ++ ds))
theorem Binds.all {K:PySem.W.Frag} {fd:FuncData} {ps:List Str} (h:∀ us:List Value,us.length = ps.length->bindArgs fd ⟨us,[]⟩ = pure (ps.zip us)):Binds K fd ps []:=fun s us _ hl=>by
 rw [List.append_nil] at hl ⊢
 exact .of_eq (h us hl)
def Passes (CX:CXT) (X:Cx) (E:XK):Prop:=∀ (pins:List (Addr × Obj)) (σ:St) (H:Hp) (s:Shared) (e:Value) (s':Shared),Inv X pins σ H s->CX X.stack H s E e s'->X.xe e s'
section
variable {X:Cx} {CX:CXT} {k:Nat} {f C:Addr} {fd:FuncData} {ps:List Str} {sp:Sp} {dvs:List V} {ds:List Value} {E:XK} {x m:Str} {p pos apos:Pos} {e o:Expr} {es:List Expr} {ta:TE} {t:TA}
theorem run_fn {pins : List (Addr × Obj)} {σ : St} {H : Hp} {s : Shared} {Q : VK} {us : List Value} {vs : List V} (F : FnOk X.prog X.w X.K X.mg X.base CX k f fd ps sp) (hr : Room k X.A) (hb : Binds X.K fd ps ds) (hd : Vals dvs ds) (hx : Passes CX X E)
    (I : Inv X pins σ H s) (r : Vals vs us) (h : sp (vs ++ dvs) H Q E) : wpAny (model X.prog X.w) X.A (call (.ref f) us) (EP X pins σ Q) X.xe s := by
  have r2 : Vals (vs ++ dvs) (us ++ ds) := r.append hd
  have hl : (us ++ ds).length = ps.length := by rw [<- r2.length]; exact F.len _ _ _ _ h
  refine wpAny_call (codeAny_mono (F.run X.A X.stack s H ⟨us, []⟩ (us ++ ds) (vs ++ dvs) Q E hr I.env0 (hb s us I.kIn hl) r2 h) fun r s' hq => ?_)
  cases r with
  | error e => exact hx pins σ H s e s' I hq
  | ok fl =>
    cases fl with
    | ret u => exact I.after hq
    | next => exact False.elim hq
    | brk => exact False.elim hq
    | cont => exact False.elim hq
theorem pe_call (F:FnOk X.prog X.w X.K X.mg X.base CX k f fd ps sp) (hr:Room k X.A) (hg:Gl X x) (hm:X.mg x = some (.ref f)) (hk:PySem.W.keepIn X.K (.ref f) = true) (hb:Binds X.K fd ps ds) (hd:Vals dvs ds) (hx:Passes CX X E)
  (ha:PA X (e :: es) t) (hdb:(x == ("__debug__" : Str)) = false:=by decide) (he:starEach (e :: es) X.env = (false,eval e X.env) :: starEach es X.env:=by rfl) (hpl:(backTo pos (starEach es X.env)).any (·.1) = false:=by rfl) :
  PE X (.Call (.Name x p) (e :: es) [] pos) (tCall sp dvs E t):=by
 intro pins s σ H Q I h
 refine wpAny_Call_Name_kw (ld_glob I hg hm ?_ hdb)
 refine PySem.W.callWith_K (h₀:=X.base) I.ok.mod.kin hk (thn (ha pos pins s σ H _ I h) fun us s1 ⟨vs,H1,I1,r,q⟩=>⟨I1.kIn,?_⟩) he hpl
 exact run_fn F hr hb hd hx I1 r q
theorem pe_meth0 {pl : Sem Bool} (he : PE X o ta) (c : Cls X.K C) (hm : Meth X.K C m f) (F : FnOk X.prog X.w X.K X.mg X.base CX k f fd ps sp) (hr : Room k X.A) (hb : Binds X.K fd ps ds) (hd : Vals dvs ds) (hx : Passes CX X E)
  (ht : eval (.Call (.Attribute o m apos) [] [] pos) X.env = (do
   let ov <- eval o X.env
   standAt apos.atName
   let (f, first) <- holding [ov] (getMethod ov m pl)
   callWith pos f first (backTo pos (starEach [] X.env)) (backToKw pos (keywordEach [] X.env))) := by rfl) :
  PE X (.Call (.Attribute o m apos) [] [] pos) (tMeth C m sp dvs E ta tNil) := by
 intro pins s σ H Q I h
 refine PySem.W.methodCall_KW (pl := pl) (thn (he pins s σ H _ I h) fun u s1 ⟨x, H1, I1, rx, a, dx, fs, ex, ea, l, q⟩ => ?_) ht
 subst ex
 obtain rfl : u = Value.ref a := rx
 refine getmeth_ok I1 ea c hm l ?_
 exact PySem.W.callWith_K0 (first := [.ref a]) I1.kIn hm.kp (run_fn (us := [.ref a]) (vs := [.ref a]) F hr hb hd hx I1 (.cons rfl .nil) q)
structure Mk (K:PySem.W.Frag) (C f:Addr):Prop where
 makes:PySem.W.makesIn K C = true
 init:PySem.W.findIn K (.ref C) "__init__" = some (some (.ref f))
 fn:PySem.W.isFn K (.ref f) = true
 kp:PySem.W.keepIn K (.ref C) = true
end
section
variable {X:Cx} {CX:CXT} {k:Nat} {f C:Addr} {fd:FuncData} {ps ks:List Str} {sp:Sp} {E:XK} {x m:Str} {p pos apos kpos:Pos} {e o:Expr} {es:List Expr} {kws:List Keyword} {te ta:TE} {t tk:TA} {nm:Option Str}
variable {g:List Value->List Value->List Value} {gV:List V->List V->List V}
end
structure FnScope (N P:List Str) (sc:Scope):Prop where
 kind:sc.kind = .function
 co:sc.isCoroutine = false
 gen:sc.isGenerator = false
 nd:N.Nodup
 pre:N.take P.length = P
 par:∀ x ∈ P,sc.names.lookup x = some .local\/sc.names.lookup x = some .cell
 nofree:∀ y ∈ sc.names,y.2 ≠ .free
theorem bindL_out {kindOf : Str -> Option NameKind} {x : Str} : ∀ {binds : List (Str × Value)} {m : Str -> Option Value}, (∀ v, (x, v) ∉ binds) -> bindL kindOf binds m x = m x
  | [], _, _ => rfl
  | (n, v) :: r, m, h => by
    unfold bindL
    rw [bindL_out fun w hw => h w (List.mem_cons_of_mem _ hw)]
    split
    · have : x ≠ n := by rintro rfl; exact h v List.mem_cons_self
      simp [this]
    · rfl
theorem bindC_out {kindOf : Str -> Option NameKind} {x : Str} : ∀ {binds : List (Str × Value)} {m : Str -> Option Value}, (∀ v, (x, v) ∉ binds) -> bindC kindOf binds m x = m x
  | [], _, _ => rfl
  | (n, v) :: r, m, h => by
    unfold bindC
    rw [bindC_out fun w hw => h w (List.mem_cons_of_mem _ hw)]
    split
    · rfl
    · have : x ≠ n := by rintro rfl; exact h v List.mem_cons_self
      simp [this]
theorem bindL_get {kindOf : Str -> Option NameKind} {x : Str} {v : Value} : ∀ {P : List Str} {vs : List Value} {i : Nat} {m : Str -> Option Value}, P.Nodup -> P[i]? = some x -> vs[i]? = some v -> kindOf x = some .local ->
    bindL kindOf (P.zip vs) m x = some v
  | [], _, _, _, _, h, _, _ => by simp at h
  | _ :: _, [], _, _, _, _, h, _ => by simp at h
  | p :: P, w :: vs, 0, m, nd, h1, h2, hk => by
    simp at h1 h2; subst h1; subst h2
    show bindL kindOf ((p, w) :: P.zip vs) m p = _
    unfold bindL
    rw [bindL_out fun v hv => (List.nodup_cons.mp nd).1 (List.of_mem_zip hv).1, if_pos hk]
    simp
  | p :: P, w :: vs, i + 1, m, nd, h1, h2, hk => by
    show bindL kindOf ((p, w) :: P.zip vs) m x = _
    unfold bindL
    exact bindL_get (i := i) (List.nodup_cons.mp nd).2 (by simpa using h1) (by simpa using h2) hk
theorem bindC_get {kindOf : Str -> Option NameKind} {x : Str} {v : Value} : ∀ {P : List Str} {vs : List Value} {i : Nat} {m : Str -> Option Value}, P.Nodup -> P[i]? = some x -> vs[i]? = some v -> kindOf x ≠ some .local ->
    bindC kindOf (P.zip vs) m x = some v
  | [], _, _, _, _, h, _, _ => by simp at h
  | _ :: _, [], _, _, _, _, h, _ => by simp at h
  | p :: P, w :: vs, 0, m, nd, h1, h2, hk => by
    simp at h1 h2; subst h1; subst h2
    show bindC kindOf ((p, w) :: P.zip vs) m p = _
    unfold bindC
    rw [bindC_out fun v hv => (List.nodup_cons.mp nd).1 (List.of_mem_zip hv).1, if_neg hk]
    simp
  | p :: P, w :: vs, i + 1, m, nd, h1, h2, hk => by
    show bindC kindOf ((p, w) :: P.zip vs) m x = _
    unfold bindC
    exact bindC_get (i := i) (List.nodup_cons.mp nd).2 (by simpa using h1) (by simpa using h2) hk
def start (N:List Str) (vs:List V):St:=vs.map some ++ List.replicate (N.length - vs.length) none
def cxOf (CX:CXT) (P:Program) (w:World) (K:PySem.W.Frag) (mg:Str->Option Value) (base:Heap) (N:List Str) (qual:Str) (scope:Scope) (f:Addr) (cd:Value) (A:Around) (outer:List Env) (s:Shared) (H:Hp) (E:XK):Cx where
 prog:=P
 w:=w
 K:=K
 mg:=mg
 base:=base
 A:=A.deeper (envOfC qual scope s.heap.objs.size f cd)
 N:=N
 s₀:=s
 H₀:=H
 env:=envOfC qual scope s.heap.objs.size f cd
 outer:=outer
 stack:=envOfC qual scope s.heap.objs.size f cd :: outer
 ex:=[]
 calm:=true
 fn:=fun _=>true
 pn:=[]
 xe:=fun e s'=>wpAny (model P w) (A.deeper (envOfC qual scope s.heap.objs.size f cd)) (leaving (envOfC qual scope s.heap.objs.size f cd) e) (fun _ s''=>CX outer H s E e s'') (fun e' s''=>CX outer H s E e' s'') s'
theorem cell_has {sc:Scope} {n:Nat} {x:Str} (h:sc.names.lookup x = some .cell):∃ c,(cellsFrom n sc.names []).lookup x = some c:=by
 have q:=PySem.W.cellsFrom_some sc.names n [] (.inl h)
 exact Option.isSome_iff_exists.mp q
theorem inv_start {CX:CXT} {P:Program} {w:World} {K:PySem.W.Frag} {mg:Str->Option Value} {base:Heap} {N ps:List Str} {qual:Str} {scope:Scope} {f:Addr} {cd:Value} {A:Around} {outer:List Env} {s s1:Shared} {H:Hp} {E:XK} {us:List Value} {vs:List V}
  (S:FnScope N ps scope) (hd:A.handled = none) (e0:Env0 P w K mg base A outer s H) (hl:vs.length = ps.length) (r:Vals vs us)
  (x:InCallC s s.heap.objs.size (bindL (envOfC qual scope s.heap.objs.size f cd).kindOf (ps.zip us) fun _=>none) (cellsFrom (s.heap.objs.size + 1) scope.names []) (bindC (envOfC qual scope s.heap.objs.size f cd).kindOf (ps.zip us) fun _=>none) s1) :
  Inv (cxOf CX P w K mg base N qual scope f cd A outer s H E) [] (start N vs) H s1:=by
 have hpl:ps.length <= N.length:=by have:=congrArg List.length S.pre; rw [List.length_take] at this; omega
 obtain ⟨h1,tk,rfl,hk⟩:=x.done
 have noA:∀ b:Addr,b ∉ (cxOf CX P w K mg base N qual scope f cd A outer s H E).ex:=fun b z=>absurd (show b ∈ ([]:List Addr) from z) (by simp)
 refine ⟨⟨e0.mod,S.kind,rfl,rfl,Nat.le_refl _,fun y z c h1 h2=>?_,fun y hy=>?_,fun y c _ h=>?_,fun _=>hd,Around.frames_deeper e0.frames,.inr ⟨rfl,rfl⟩,fun b z=>absurd z (noA b),e0.bs,e0.bsz,fun b _ _=>noA b,fun b z=>absurd z (noA b),e0.funs,e0.frf⟩,
  rfl,e0.bare,Un.kept hk,⟨_,x.toInCall.ns,fun i y v h1 h2 h3=>?_⟩,fun y c h=>⟨_,x.cell y c h⟩,e0.hok.fresh (Nat.le_refl _),fun y c h=>?_,fun p hp=>absurd (show p ∈ ([]:List (Addr × Obj)) from hp) (by simp),e0.hok.kept hk,?_⟩
 ·exact name_of_addr x.apart (PySem.mem_of_lookup h1) (PySem.mem_of_lookup h2)
 ·have hy:scope.names.lookup y = some .cell\/scope.names.lookup y = some .free:=hy
  rcases hy with hy | hy
  ·exact cell_has hy
  ·exact absurd rfl (S.nofree _ (PySem.mem_of_lookup hy))
 ·exact Nat.le_of_lt (x.above y c (PySem.mem_of_lookup h))
 ·have hi:i < vs.length:=by
   unfold start at h2
   by_cases hi:i < vs.length
   ·exact hi
   ·rw [List.getElem?_append_right (by simpa using hi)] at h2
    rw [List.getElem?_replicate] at h2
    split at h2 <;> cases h2
  have ha:vs[i]? = some v:=by
   unfold start at h2
   rw [List.getElem?_append_left (by simpa using hi),List.getElem?_map] at h2
   cases e:vs[i]? with
   | none=>rw [e] at h2; cases h2
   | some a=>rw [e] at h2; cases h2; rfl
  obtain ⟨u,hu,rv⟩:=r.get ha
  have hp:ps[i]? = some y:=by
   rw [<- S.pre,List.getElem?_take_of_lt (by omega)]; exact h1
  have ndP:ps.Nodup:=by rw [<- S.pre]; exact S.nd.sublist (List.take_sublist _ _)
  refine ⟨u,rv,?_⟩
  rcases S.par y (List.mem_of_getElem? hp) with k | k
  ·exact .inl ⟨k,bindL_get ndP hp hu k⟩
  ·obtain ⟨c,e⟩:=cell_has (n:=s.heap.objs.size + 1) k
   refine .inr ⟨.inl k,c,e,?_⟩
   have q:=x.cell y c e
   rw [bindC_get ndP hp hu (by show scope.names.lookup y ≠ _; rw [k]; decide)] at q
   exact q
 ·exact e0.hok.fresh (Nat.le_of_lt (x.above y c (PySem.mem_of_lookup h)))
 ·unfold start
  show _ = N.length
  rw [List.length_append,List.length_map,List.length_replicate]
  omega
theorem fn_of {CX : CXT} {P : Program} {w : World} {K : PySem.W.Frag} {mg : Str -> Option Value} {base : Heap} {k : Nat} {f : Addr} {name qual : Str} {params : Arguments} {body : List Stmt} {scope : Scope} {dV kV doc pm cdv ct oc : Value} {an od : Option Addr}
    {osl : Array (Option Value)} {N ps : List Str} {sp : Sp} (lk : K.lookup f = some ⟨oc, od, .func (PySem.W.fnOf name qual params body scope dV kV doc pm an cdv ct), osl⟩) (hcd : PySem.W.codeIn K cdv qual = true) (S : FnScope N ps scope)
    (len : ∀ vs H Q E, sp vs H Q E -> vs.length = ps.length)
    (hbody : ∀ (A : Around) (outer : List Env) (s : Shared) (H : Hp) (vs : List V) (Q : VK) (E : XK), Room k (A.deeper (envOfC qual scope s.heap.objs.size f cdv)) -> sp vs H Q E ->
      ∃ t, PSs (cxOf CX P w K mg base N qual scope f cdv A outer s H E) body t /\ t { nx := fun _ H' => Q .non H', rt := Q } (start N vs) H) :
    FnOk P w K mg base CX (k + 1) f (PySem.W.fnOf name qual params body scope dV kV doc pm an cdv ct) ps sp := by
  refine ⟨len, fun A outer s H args us vs Q E hr e0 hb r hsp => ?_⟩
  have hl := len _ _ _ _ hsp
  have KX : K.In s.heap := e0.mod.kin.keeps fun b o e => (e0.bs b o e).1
  have lim : s.heap.NoLimit := e0.mod.nolimit.keeps fun b o e => (e0.bs b o e).1
  have hkind : ∀ y ∈ ps.zip us, scope.names.lookup y.1 = some .local \/ (scope.names.lookup y.1 = some .cell /\ ((cellsFrom (s.heap.objs.size + 1) scope.names []).lookup y.1).isSome = true) := fun ⟨n, v⟩ hy => by
    rcases S.par n (List.of_mem_zip hy).1 with q | q
    · exact .inl q
    · exact .inr ⟨q, PySem.W.cellsFrom_some _ _ _ (.inl q)⟩
  refine codeAny_call_function hr.depth (KX _ _ lk) rfl S.co S.gen rfl (PySem.W.codeRec_of KX hcd) (hb _ _ _ _ ?_)
  refine wpAny_newFunctionEnv_cells S.kind hkind fun env he s1 x => ?_
  subst he
  refine ⟨lim.keeps x.toInCall.keep, codeAny_func ?_⟩
  obtain ⟨t, ht, hq⟩ := hbody A outer s H vs Q E (hr.deeper _) hsp
  have I : Inv (cxOf CX P w K mg base N qual scope f cdv A outer s H E) [] (start N vs) H s1 := inv_start S hr.hd e0 hl r x
  refine wpAny_mono (ht [] s1 (start N vs) H _ I hq) (fun fl s' hs => ?_) fun e s' hs => hs
  have fin : ∀ {σ' : St} {H' : Hp} {v : V} {u : Value}, Inv (cxOf CX P w K mg base N qual scope f cdv A outer s H E) [] σ' H' s' -> RelV v u -> Q v H' -> CE outer P w H s Q u s' :=
    fun {σ' H' v u} J rv q => ⟨v, H', J.os, J.bare, J.base, J.hok, rv, q⟩
  cases fl with
  | ret u =>
    obtain ⟨v, σ', H', J, rv, q⟩ := hs
    exact fin J rv q
  | next =>
    obtain ⟨σ', H', J, q⟩ := hs
    exact fin (v := V.non) (u := Value.none) J rfl q
  | brk =>
    obtain ⟨_, _, _, q⟩ := hs
    exact False.elim q
  | cont =>
    obtain ⟨_, _, _, q⟩ := hs
    exact False.elim q
end L2
namespace L2
open PySem PySem.Spec PyProof.Rows
section
variable {X:Cx} {x:Str} {p pos:Pos} {e:Expr} {es:List Expr} {t:TA} {id T:String} {r:List V->Hp->VK->Prop}
def tCB (r:List V->Hp->VK->Prop) (t:TA):TE:=fun σ H Q=>t σ H fun vs H1=>r vs H1 Q
theorem pe_callB (hc:CallR X (.builtin id) r) (hg:Gl X x) (hm:X.mg x = none) (hv:bootBuiltins x = some (.builtin id)) (ha:PA X (e :: es) t) (hn:x ≠ "__name__":=by decide) (hdb:(x == ("__debug__" : Str)) = false:=by decide)
  (he:starEach (e :: es) X.env = (false,eval e X.env) :: starEach es X.env:=by rfl) (hpl:(backTo pos (starEach es X.env)).any (·.1) = false:=by rfl):PE X (.Call (.Name x p) (e :: es) [] pos) (tCB r t):=by
 intro pins s σ H Q I h
 refine wpAny_Call_Name_kw (ld_blt I hg hm hv ?_ hn hdb)
 exact PyProof.Rows.callWith_builtin1 (thn (ha pos pins s σ H _ I h) fun us s1 ⟨vs,H1,I1,r1,q1⟩=>hc pins s1 σ H1 vs us Q I1 r1 q1) he hpl
theorem pe_callTy (hc:CallR X (.type T) r) (hg:Gl X x) (hm:X.mg x = none) (hv:bootBuiltins x = some (.type T)) (ha:PA X (e :: es) t) (hn:x ≠ "__name__":=by decide) (hdb:(x == ("__debug__" : Str)) = false:=by decide)
  (he:starEach (e :: es) X.env = (false,eval e X.env) :: starEach es X.env:=by rfl) (hpl:(backTo pos (starEach es X.env)).any (·.1) = false:=by rfl):PE X (.Call (.Name x p) (e :: es) [] pos) (tCB r t):=by
 intro pins s σ H Q I h
 refine wpAny_Call_Name_kw (ld_blt I hg hm hv ?_ hn hdb)
 exact PyProof.Rows.callWith_type1 (thn (ha pos pins s σ H _ I h) fun us s1 ⟨vs,H1,I1,r1,q1⟩=>hc pins s1 σ H1 vs us Q I1 r1 q1) he hpl
end
end L2
namespace HT
open PySem PyProof.Rows
section
open PySem.SeqAt
open PySem.AutoSeq1 (wpAny_loadPart')
open PySem.MeetsSeq PySem.MeetsSeq2 PySem.MeetsSeq3
end
section
variable {prog:Program} {w:World} {A:Around} {E:Value->Shared->Prop} {s:Shared}
def sIx (n d:Nat):Option Int->Nat
 | none=>d
 | some v=>if v < 0 then (v + (n:Int)).toNat else min v.toNat n
theorem sIx_none (n d:Nat):sIx n d none = d:=rfl
theorem sIx_nat (n d k:Nat):sIx n d (some (k:Int)) = min k n:=by
 show (if (k:Int) < 0 then ((k:Int) + (n:Int)).toNat else min (k:Int).toNat n) = min k n
 rw [if_neg (by omega),Int.toNat_natCast]
theorem sIx_le (n d : Nat) (hd : d <= n) (o : Option Int) : sIx n d o <= n := by
  cases o with
  | none => exact hd
  | some v =>
    show (if v < 0 then (v + (n : Int)).toNat else min v.toNat n) <= n
    by_cases hv : v < 0
    · rw [if_pos hv]; omega
    · rw [if_neg hv]; exact Nat.min_le_right _ _
end
end HT
namespace L2
open PySem PySem.Spec PyProof.Rows
abbrev TO:=St->Hp->(Option Int->Hp->Prop)->Prop
def PO (X:Cx) (e:Option Expr) (t:TO):Prop :=
 ∀ (pins:List (Addr × Obj)) (s:Shared) (σ:St) (H:Hp) (Q:Option Int->Hp->Prop),Inv X pins σ H s->t σ H Q ->
  wpAny (model X.prog X.w) X.A (evalPart e X.env) (fun u s'=>∃ o H',Inv X pins σ H' s'/\IsPart u o/\Q o H') X.xe s
def tNoPart:TO:=fun _ H Q=>Q none H
def tPart (t:TE):TO:=fun σ H Q=>t σ H fun x H1=>∃ i,x = .int i/\Q (some i) H1
theorem intsAre_of {ns : List Int} : ∀ {us : List Value}, Vals (ns.map V.int) us -> IntsAre us ns := by
  induction ns with
  | nil => intro us r; rw [List.map_nil] at r; cases r; exact .nil
  | cons n ns ih =>
    intro us r
    rw [List.map_cons] at r
    cases r with
    | cons r1 r2 =>
      obtain ⟨t, e⟩ := r1
      subst e
      exact .cons n t (ih r2)
section
variable {X:Cx} {e:Expr} {te:TE} {lo hi:Option Expr} {tl th:TO} {pos p2:Pos}
theorem po_none:PO X none tNoPart:=by
 intro pins s σ H Q I h
 rw [evalPart_none]
 exact wpAny_pure ⟨none,H,I,.none,h⟩
theorem po_some (h:PE X e te):PO X (some e) (tPart te):=by
 intro pins s σ H Q I hw
 rw [evalPart_some]
 refine thn (h pins s σ H _ I hw) fun u s1 ⟨x,H1,I1,r1,q1⟩=>?_
 obtain ⟨i,rfl,q⟩:=q1
 obtain ⟨t,rfl⟩:=r1
 exact ⟨some i,H1,I1,.int i t,q⟩
def SlR (X:Cx) (r:V->Option Int->Option Int->Hp->VK->Prop):Prop :=
 ∀ (pins:List (Addr × Obj)) (s:Shared) (σ:St) (H:Hp) (x:V) (v vl vu:Value) (lo hi:Option Int) (sl:Addr) (Q:VK),Inv X pins σ H s->RelV x v->s.heap.IsSliceOf sl vl vu .none->IsPart vl lo->IsPart vu hi->r x lo hi H Q ->
  ∃ T id,typeLookup (.type T) "__getitem__" = pure (some (.builtin id))/\s.TypeIs v T/\wpAny (model X.prog X.w) X.A (getItem v (.ref sl)) (EP X pins σ Q) X.xe s
theorem SlR.or {r r':V->Option Int->Option Int->Hp->VK->Prop} (h:SlR X r) (h':SlR X r'):SlR X (fun x lo hi H Q=>r x lo hi H Q\/r' x lo hi H Q):=by
 intro pins s σ H x v vl vu lo hi sl Q I rx hs pl pu q
 rcases q with q | q
 ·exact h pins s σ H x v vl vu lo hi sl Q I rx hs pl pu q
 ·exact h' pins s σ H x v vl vu lo hi sl Q I rx hs pl pu q
def tSl (r:V->Option Int->Option Int->Hp->VK->Prop) (te:TE) (tl th:TO):TE:=fun σ H Q=>te σ H fun x H1=>tl σ H1 fun l H2=>th σ H2 fun u H3=>r x l u H3 Q
theorem pe_slice {r:V->Option Int->Option Int->Hp->VK->Prop} (hr:SlR X r) (he:PE X e te) (hl:PO X lo tl) (hu:PO X hi th):PE X (.Subscript e (.Slice lo hi none p2) pos) (tSl r te tl th):=by
 intro pins s σ H Q I h
 refine Subscript_ (thn (he pins s σ H _ I h) fun v s1 ⟨x,H1,I1,r1,q1⟩=>?_)
 refine wpAny_Slice (thn (hl pins s1 σ H1 _ I1 q1) fun vl s2 ⟨l,H2,I2,pl,q2⟩=>thn (hu pins s2 σ H2 _ I2 q2) fun vu s3 ⟨u,H3,I3,pu,q3⟩=>?_)
 rw [evalPart_none]
 refine wpAny_pure ?_
 have I4:Inv X pins σ H3 { s3 with heap:=s3.heap.push { cls:=.type "slice",data:=.fields #[vl,vu,.none] } }:=I3.kept (t':=s3.toks) fun b ob q=>Heap.get?_push_of_some _ q
 obtain ⟨T,id,hT,ht,hg⟩:=hr pins { s3 with heap:=s3.heap.push { cls:=.type "slice",data:=.fields #[vl,vu,.none] } } σ H3 x v vl vu l u s3.heap.objs.size Q I4 r1 (Heap.IsSliceOf.new ..) pl pu q3
 show wpAny (model X.prog X.w) X.A (subscriptTail e (.Slice lo hi none p2) v (.ref s3.heap.objs.size)) (EP X pins σ Q) X.xe { s3 with heap:=s3.heap.push { cls:=.type "slice",data:=.fields #[vl,vu,.none] } }
 exact tail_any (ops:=[.ref s3.heap.objs.size,v]) ht hT hg (by with_unfolding_all rfl)
def cutV (xs:List V) (lo hi:Option Int):List V:=(xs.drop (HT.sIx xs.length 0 lo)).take (HT.sIx xs.length xs.length hi - HT.sIx xs.length 0 lo)
theorem cutV_length (xs:List V) (lo hi:Option Int):(cutV xs lo hi).length <= xs.length:=by
 unfold cutV
 rw [List.length_take,List.length_drop]
 omega
end
end L2
namespace L2
open PySem PySem.Spec PyProof.Rows
def ixN (n:Nat) (i:Int):Option Nat:=if 0 <= i then (if i < n then some i.toNat else none) else if -(n:Int) <= i then some (i + n).toNat else none
def atI {α:Type} (xs:List α) (i:Int):Option α:=(ixN xs.length i).bind fun j=>xs[j]?
theorem ixN_seq {n:Nat} {i:Int} {j:Nat} (h:ixN n i = some j):seqIndex? i n = some j/\j < n/\-(n:Int) <= i/\i < n:=by
 unfold ixN at h
 by_cases h0:0 <= i
 ·rw [if_pos h0] at h
  by_cases h1:i < n
  ·rw [if_pos h1] at h
   have e:i.toNat = j:=Option.some.inj h
   exact ⟨by rw [seqIndex_of h0 h1,e],by omega,by omega,h1⟩
  ·rw [if_neg h1] at h; cases h
 ·rw [if_neg h0] at h
  by_cases h1:-(n:Int) <= i
  ·rw [if_pos h1] at h
   have e:(i + n).toNat = j:=Option.some.inj h
   exact ⟨by rw [seqIndex_neg (by omega) h1,e],by omega,h1,by omega⟩
  ·rw [if_neg h1] at h; cases h
theorem atI_get {α : Type} {xs : List α} {i : Int} {v : α} (h : atI xs i = some v) : ∃ j, seqIndex? i xs.length = some j /\ xs[j]? = some v /\ j < xs.length /\ -(xs.length : Int) <= i /\ i < xs.length := by
  unfold atI at h
  cases e : ixN xs.length i with
  | none => rw [e] at h; cases h
  | some j =>
    rw [e] at h
    obtain ⟨h1, h2, h3, h4⟩ := ixN_seq e
    exact ⟨j, h1, h, h2, h3, h4⟩
theorem atI_nat {α:Type} {xs:List α} {j:Nat} {v:α} (h:xs[j]? = some v):atI xs (j:Int) = some v:=by
 have hj:j < xs.length:=(List.getElem?_eq_some_iff.mp h).1
 have e:ixN xs.length (j:Int) = some j:=by
  unfold ixN
  rw [if_pos (by omega),if_pos (by omega)]; simp
 unfold atI; rw [e]; exact h
def PlainIx (b:Expr):Prop:=∀ o i,subscripted b false o i = operate [o,i] (getItem o i)
def IxR (X:Cx) (r:R2):Prop :=
 ∀ (value slice:Expr) (pins:List (Addr × Obj)) (s:Shared) (σ:St) (H:Hp) (x y:V) (v u:Value) (Q:VK),Inv X pins σ H s->RelV x v->RelV y u->r x y H Q ->
  subscripted slice false v u = operate [v,u] (getItem v u)->wpAny (model X.prog X.w) X.A (subscriptTail value slice v u) (EP X pins σ Q) X.xe s
def MtR (X:Cx) (id:String) (r:V->List V->Hp->VK->Prop):Prop :=
 ∀ (pins:List (Addr × Obj)) (s:Shared) (σ:St) (H:Hp) (x:V) (xs:List V) (v:Value) (us:List Value) (Q:VK),Inv X pins σ H s->RelV x v->Vals xs us->r x xs H Q ->
  wpAny (model X.prog X.w) X.A (call (.builtin id) (v :: us)) (EP X pins σ Q) X.xe s
section
variable {X:Cx} {a b:Expr} {ta tb:TE} {pos:Pos}
theorem IxR.or {r r':R2} (h:IxR X r) (h':IxR X r'):IxR X (fun x y H Q=>r x y H Q\/r' x y H Q):=by
 intro value slice pins s σ H x y v u Q I rx ry q hs
 rcases q with q | q
 ·exact h value slice pins s σ H x y v u Q I rx ry q hs
 ·exact h' value slice pins s σ H x y v u Q I rx ry q hs
theorem pe_ix {r:R2} (hr:IxR X r) (ha:PE X a ta) (hb:PE X b tb) (hs:PlainIx b):PE X (.Subscript a b pos) (tOp r ta tb):=by
 intro pins s σ H Q I h
 exact Subscript_ (binT ha hb I h fun v u s2 x y H2 I2 rx ry q=>hr a b pins s2 σ H2 x y v u Q I2 rx ry q (hs _ _))
def rIxL (K:PySem.W.Frag):R2:=fun x y H Q=>∃ p xs i v,x = .ref p/\y = .int i/\SqL K H p xs/\atI xs i = some v/\Q v H
def rIxT (K:PySem.W.Frag):R2:=fun x y H Q=>∃ p xs i v,x = .ref p/\y = .int i/\SqT K H p xs/\atI xs i = some v/\Q v H
def rIxS:R2:=fun x y H Q=>∃ z i c,x = .str z/\y = .int i/\z.length <= sizeLine/\atI z.cps.toList i = some c/\Q (.str ⟨#[c]⟩) H
theorem ix_list:IxR X (rIxL X.K):=by
 intro value slice pins s σ H x y v u Q I rx ry h hs
 obtain ⟨p,xs,i,z,rfl,rfl,hq,he,q⟩:=h
 cases rx
 obtain ⟨t,rfl⟩:=ry
 obtain ⟨its,r,pl,hz⟩:=I.list hq
 obtain ⟨j,h1,h2,h3,h4,h5⟩:=atI_get he
 obtain ⟨w,ew,rw'⟩:=r.get h2
 have hl:=r.length
 have hn:=line63
 have fin:EP X pins σ Q w s:=⟨z,H,I,rw',q⟩
 by_cases h0:0 <= i
 ·have hj:i.toNat = j:=by
   rw [seqIndex_of h0 h5] at h1
   exact Option.some.inj h1
  exact item_listR pl.isList h0 (by omega) (by rw [hj]; simpa using ew) fin hs
 ·have hj:(i + (its.toArray.size:Int)).toNat = j:=by
   rw [seqIndex_neg (by omega) h4] at h1
   rw [List.size_toArray,<- hl]
   exact Option.some.inj h1
  exact subscriptTail_builtinR (x:=w) pl.isList.typeIs slot_list_getitem.lookup
   (wpAny_getItem_list_neg (Q:=fun r s'=>r = w/\EP X pins σ Q r s') pl.isList (by omega) (by rw [List.size_toArray] <;> omega) (by omega) (by rw [hj]; simpa using ew) ⟨rfl,fin⟩) hs
theorem ix_tup:IxR X (rIxT X.K):=by
 intro value slice pins s σ H x y v u Q I rx ry h hs
 obtain ⟨p,xs,i,z,rfl,rfl,hq,he,q⟩:=h
 cases rx
 obtain ⟨t,rfl⟩:=ry
 obtain ⟨its,r,pl,hz⟩:=I.tuple hq
 obtain ⟨j,h1,h2,h3,h4,h5⟩:=atI_get he
 obtain ⟨w,ew,rw'⟩:=r.get h2
 have hl:=r.length
 have hn:=line63
 have fin:EP X pins σ Q w s:=⟨z,H,I,rw',q⟩
 exact subscriptTail_builtinR (x:=w) pl.typeIs slot_tuple_getitem.lookup
  (getItem_tuple (j:=j) (Q:=fun r s'=>r = w/\EP X pins σ Q r s') pl (by omega) (by omega) (by rw [List.size_toArray,<- hl]; exact h1) (by simpa using ew) ⟨rfl,fin⟩) hs
theorem ix_str:IxR X rIxS:=by
 intro value slice pins s σ H x y v u Q I rx ry h hs
 obtain ⟨z,i,c,rfl,rfl,hz,he,q⟩:=h
 obtain ⟨t,rfl⟩:=rx
 obtain ⟨t',rfl⟩:=ry
 obtain ⟨j,h1,h2,h3,h4,h5⟩:=atI_get he
 have hl:z.cps.toList.length = z.length:=by simp [Str.length]
 rw [hl] at h1 h4 h5
 have hn:=line63
 exact tail_any (typeIs_str s z t) slot_str_getitem.lookup (getItem_str (c:=c) (by
  have e1:decide (i < -(2 ^ 63:Int)) = false:=decide_eq_false (by omega)
  have e2:decide (i >= 2 ^ 63) = false:=decide_eq_false (by omega)
  rw [e1,e2,Bool.or_false]) (by rw [h1]; simpa using h2) ⟨.str ⟨#[c]⟩,H,I.tok _,⟨_,rfl⟩,q⟩) hs
theorem mapSeq_set (its:List Value) (n j:Nat) (u:Value):Obj.mapSeq (·.setIfInBounds j u) { cls:=.type "list",data:=.seq its.toArray n } = { cls:=.type "list",data:=.seq (its.set j u).toArray n }:=by
 simp [Obj.mapSeq]
theorem Inv.lst {pins:List (Addr × Obj)} {σ:St} {H:Hp} {s:Shared} {p:Addr} {xs:List V} (I:Inv X pins σ H s) (h:H p = some (.lst xs)) :
  ∃ (its:List Value) (n:Nat),Vals xs its/\s.heap.get? p = some { cls:=.type "list",data:=.seq its.toArray n }/\xs.length <= sizeLine:=by
 obtain ⟨z,its,n,r,e⟩:=I.hok p _ h
 exact ⟨its,n,r,e,z⟩
theorem Inv.lstUpd {pins:List (Addr × Obj)} {σ:St} {H:Hp} {s:Shared} {p:Addr} {xs ys:List V} {its its':List Value} {n n':Nat} {f:Obj->Obj} (I:Inv X pins σ H s) (h:H p = some (.lst xs))
  (ho:s.heap.get? p = some { cls:=.type "list",data:=.seq its.toArray n }) (hf:f { cls:=.type "list",data:=.seq its.toArray n } = { cls:=.type "list",data:=.seq its'.toArray n' }) (r:Vals ys its') (hz:ys.length <= sizeLine) (t:Nat) :
  Inv X pins σ (upd H p (.lst ys)) { s with heap:=s.heap.update p f,toks:=t }:=by
 have e:(s.heap.update p f).get? p = some { cls:=.type "list",data:=.seq its'.toArray n' }:=by
  rw [Heap.get?_update_self f ho (by rw [hf] <;> rfl),hf]
 refine I.write (x:=p) (e:=p) (by rw [h]; trivial) (.inl rfl) (fun b u hb q=>(Heap.get?_update_other _ _ (Ne.symm hb)).trans q) ⟨_,e⟩ ?_
 exact ⟨hz,its',n',r,e⟩
def rSetL:V->V->V->Hp->(Hp->Prop)->Prop:=fun o i v H Q=>∃ p xs k j,o = .ref p/\i = .int k/\H p = some (.lst xs)/\ixN xs.length k = some j/\Q (upd H p (.lst (xs.set j v)))
theorem set_list:PSet X rSetL:=by
 intro pins s σ H o i v ov iv u Q I ro ri rv h
 obtain ⟨p,xs,k,j,rfl,rfl,hp,hj,q⟩:=h
 cases ro
 obtain ⟨t,rfl⟩:=ri
 obtain ⟨its,n,r,ho,hz⟩:=I.lst hp
 obtain ⟨h1,h2,h3,h4⟩:=ixN_seq hj
 have hl:=r.length
 have hn:=line63
 have I':Inv X pins σ (upd H p (.lst (xs.set j v))) { s with heap:=s.heap.update p (Obj.mapSeq (·.setIfInBounds j u)) } :=
  I.lstUpd hp ho (mapSeq_set its n j u) (r.set rv j) (by rw [List.length_set]; exact hz) s.toks
 by_cases h0:0 <= k
 ·have hk:k.toNat = j:=by
   rw [seqIndex_of h0 h4] at h1
   exact Option.some.inj h1
  exact PySem.W.ki_setAt ho h0 (by omega) (by rw [List.size_toArray,<- hl]; exact h4) (by rw [hk]; exact ⟨_,I',q⟩)
 ·have hk:(k + (its.toArray.size:Int)).toNat = j:=by
   rw [seqIndex_neg (by omega) h3] at h1
   rw [List.size_toArray,<- hl]
   exact Option.some.inj h1
  exact PySem.W.ki_setBack ho (by omega) (by rw [List.size_toArray,<- hl]; exact h3) (by omega) (by rw [hk]; exact ⟨_,I',q⟩)
theorem slice_bounds (lo hi : Option Int) (n : Nat) : (sliceBounds lo hi none n).1 = ((HT.sIx n 0 lo : Nat) : Int) /\ (sliceBounds lo hi none n).2.1 = ((HT.sIx n n hi : Nat) : Int) /\ (sliceBounds lo hi none n).2.2 = 1 := by
  refine ⟨?_, ?_, rfl⟩
  · cases lo with
    | none => simp [sliceBounds, HT.sIx]
    | some i =>
      simp only [sliceBounds, HT.sIx, Option.getD_none, show (1 : Int) > 0 by decide, if_true]
      by_cases h : i < 0
      · simp only [h, if_true] <;> omega
      · simp only [h, if_false] <;> omega
  · cases hi with
    | none => simp [sliceBounds, HT.sIx]
    | some i =>
      simp only [sliceBounds, HT.sIx, Option.getD_none, show (1 : Int) > 0 by decide, if_true]
      by_cases h : i < 0
      · simp only [h, if_true] <;> omega
      · simp only [h, if_false] <;> omega
theorem slicePick_cut (its:List Value) (lo hi:Option Int):slicePick its.toArray lo hi none = ((its.drop (HT.sIx its.length 0 lo)).take (HT.sIx its.length its.length hi - HT.sIx its.length 0 lo)).toArray:=by
 obtain ⟨h1,h2,h3⟩:=slice_bounds lo hi its.toArray.size
 unfold slicePick
 rw [h1,h2,h3]
 simp only [sliceRange_one,pick_run,List.size_toArray] <;> rfl
def rSlL (K:PySem.W.Frag):V->Option Int->Option Int->Hp->VK->Prop:=fun x lo hi H Q=>∃ a xs,x = .ref a/\SqL K H a xs/\∀ p,H p = none->Q (.ref p) (upd H p (.lst (cutV xs lo hi)))
theorem sl_list:SlR X (rSlL X.K):=by
 intro pins s σ H x v vl vu lo hi sl Q I rx hs pl pu h
 obtain ⟨a,xs,rfl,hx,q⟩:=h
 cases rx
 obtain ⟨its,r,ht,hz⟩:=I.list hx
 have hlen:=r.length
 refine ⟨"list",_,slot_list_getitem.lookup,ht.isList.typeIs,?_⟩
 refine wpAny_getItem_list_slice ht.isList hs pl pu .none (by simp) ?_ (by rw [List.size_toArray] <;> omega)
 rw [slicePick_cut,<- hlen]
 refine ⟨.ref s.heap.objs.size,_,I.laid (t':=s.toks) (o:=.lst (cutV xs lo hi)) (fun b ob q=>Heap.get?_push_of_some _ q) (Nat.le_refl _) ?_,rfl,q _ (I.hok.fresh (Nat.le_refl _))⟩
 exact ⟨Nat.le_trans (cutV_length xs lo hi) hz,_,0,(r.drop (HT.sIx xs.length 0 lo)).take (HT.sIx xs.length xs.length hi - HT.sIx xs.length 0 lo),Heap.get?_push_size _ rfl⟩
def flatV:V->Bool
 | .non=>true
 | .bl _=>true
 | .int _=>true
 | .str _=>true
 | _=>false
def eqV:V->V->Bool
 | .non,.non=>true
 | .bl a,.bl b=>a == b
 | .bl a,.int b=>(if a then 1 else 0) == b
 | .int a,.bl b=>a == (if b then 1 else 0)
 | .int a,.int b=>a == b
 | .str a,.str b=>a == b
 | _,_=>false
theorem eqAt_V {A : Around} {s : Shared} {y x : V} {u v : Value} (ry : RelV y u) (rx : RelV x v) (fy : flatV y = true) (fx : flatV x = true) : SeqAt.EqAt A s u v (eqV y x) := by
  cases y with
  | non =>
    cases ry
    cases x with
    | non => cases rx; exact SeqAt.EqAt.same _
    | bl b => cases rx; exact SeqAt.EqAt.none_bool b
    | int b => obtain ⟨t, rfl⟩ := rx; exact SeqAt.EqAt.none_int b t
    | str b => obtain ⟨t, rfl⟩ := rx; exact SeqAt.EqAt.none_str b t
    | _ => exact absurd (show false = true from fx) Bool.false_ne_true
  | bl a =>
    cases ry
    cases x with
    | non => cases rx; exact SeqAt.EqAt.bool_none a
    | bl b => cases rx; exact SeqAt.EqAt.bool_bool a b
    | int b => obtain ⟨t, rfl⟩ := rx; exact SeqAt.EqAt.bool_int a b t
    | str b => obtain ⟨t, rfl⟩ := rx; exact SeqAt.EqAt.bool_str a b t
    | _ => exact absurd (show false = true from fx) Bool.false_ne_true
  | int a =>
    obtain ⟨t', rfl⟩ := ry
    cases x with
    | non => cases rx; exact SeqAt.EqAt.int_none a t'
    | bl b => cases rx; exact SeqAt.EqAt.int_bool a t' b
    | int b => obtain ⟨t, rfl⟩ := rx; exact SeqAt.EqAt.int_int a t' b t
    | str b => obtain ⟨t, rfl⟩ := rx; exact SeqAt.EqAt.int_str a t' b t
    | _ => exact absurd (show false = true from fx) Bool.false_ne_true
  | str a =>
    obtain ⟨t', rfl⟩ := ry
    cases x with
    | non => cases rx; exact SeqAt.EqAt.str_none a t'
    | bl b => cases rx; exact SeqAt.EqAt.str_bool a t' b
    | int b => obtain ⟨t, rfl⟩ := rx; exact SeqAt.EqAt.str_int a t' b t
    | str b => obtain ⟨t, rfl⟩ := rx; exact SeqAt.EqAt.str_str a t' b t
    | _ => exact absurd (show false = true from fx) Bool.false_ne_true
  | _ => exact absurd (show false = true from fy) Bool.false_ne_true
def eqU (x:V) (u:Value):Bool:=match u with
 | .none=>eqV .non x
 | .bool b=>eqV (.bl b) x
 | .int i _=>eqV (.int i) x
 | .str z _=>eqV (.str z) x
 | _=>false
theorem eqU_of {x y:V} {u:Value} (r:RelV y u) (f:flatV y = true):eqU x u = eqV y x:=by
 cases y with
 | non=>cases r; rfl
 | bl b=>cases r; rfl
 | int i=>obtain ⟨t,rfl⟩:=r; rfl
 | str z=>obtain ⟨t,rfl⟩:=r; rfl
 | _=>exact absurd (show false = true from f) Bool.false_ne_true
theorem any_eqU {x : V} : ∀ {xs : List V} {us : List Value}, Vals xs us -> xs.all flatV = true -> us.any (eqU x) = xs.any fun y => eqV y x
  | _, _, .nil, _ => rfl
  | y :: xs, u :: us, .cons r t, f => by
    rw [List.all_cons, Bool.and_eq_true] at f
    rw [List.any_cons, List.any_cons, eqU_of r f.1, any_eqU t f.2]
theorem mem_eqAt {A : Around} {s : Shared} {x : V} {v : Value} (rx : RelV x v) (fx : flatV x = true) : ∀ {xs : List V} {us : List Value}, Vals xs us -> xs.all flatV = true -> ∀ u ∈ us, SeqAt.EqAt A s u v (eqU x u)
  | _, _, .nil, _ => fun u hu => by cases hu
  | y :: xs, u :: us, .cons r t, f => fun u' hu => by
    rw [List.all_cons, Bool.and_eq_true] at f
    rcases List.mem_cons.mp hu with rfl | hu
    · rw [eqU_of r f.1]; exact eqAt_V r rx f.1 fx
    · exact mem_eqAt rx fx t f.2 u' hu
def inV (x:V) (xs:List V):Bool:=xs.any fun y=>eqV y x
def rIn (K:PySem.W.Frag) (neg:Bool):R2:=fun x y H Q=>∃ p xs,y = .ref p/\(SqL K H p xs\/SqT K H p xs)/\flatV x = true/\xs.all flatV = true/\Q (.bl (if neg then !inV x xs else inV x xs)) H
theorem op_in_seq:OpR X (compareOp .In) (rIn X.K false):=by
 intro pins s σ H x y v u Q I rx ry h
 obtain ⟨p,xs,rfl,hq,fx,fs,q⟩:=h
 cases ry
 rcases hq with hq | hq
 ·obtain ⟨its,r,pl,hz⟩:=I.list hq
  refine SeqAt.in_listAt (eqU x) pl.isList (fun w hw=>mem_eqAt rx fx r fs w (by simpa using hw)) ⟨.bl _,H,I,rfl,?_⟩
  rw [show its.toArray.any (eqU x) = its.any (eqU x) by simp,any_eqU r fs]
  exact q
 ·obtain ⟨its,r,pl,hz⟩:=I.tuple hq
  refine SeqAt.in_tupleAt (eqU x) pl (fun w hw=>mem_eqAt rx fx r fs w (by simpa using hw)) ⟨.bl _,H,I,rfl,?_⟩
  rw [show its.toArray.any (eqU x) = its.any (eqU x) by simp,any_eqU r fs]
  exact q
theorem call_len_seq:CallR X (.builtin "len") (fun xs H Q=>∃ p ys,xs = [.ref p]/\(SqL X.K H p ys\/SqT X.K H p ys)/\Q (.int ys.length) H):=by
 intro pins s σ H xs us Q I r h
 obtain ⟨p,ys,rfl,hq,q⟩:=h
 obtain ⟨u,rfl,rx⟩:=vals1 r
 cases rx
 have hn:=line63
 rcases hq with hq | hq
 ·obtain ⟨its,r',pl,hz⟩:=I.list hq
  have hlen:=r'.length
  exact Calls.call_len_list pl.isList (by simp only [List.size_toArray] <;> omega) ⟨.int ys.length,H,I.tok _,⟨s.toks + 1,by rw [List.size_toArray,hlen]⟩,q⟩
 ·obtain ⟨its,r',pl,hz⟩:=I.tuple hq
  have hlen:=r'.length
  exact len_tuple pl (by simp only [List.size_toArray] <;> omega) ⟨.int ys.length,H,I.tok _,⟨s.toks + 1,by rw [List.size_toArray,hlen]⟩,q⟩
theorem call_len_str:CallR X (.builtin "len") (fun xs H Q=>∃ z,xs = [.str z]/\z.length <= sizeLine/\Q (.int z.length) H):=by
 intro pins s σ H xs us Q I r h
 obtain ⟨z,rfl,hz,q⟩:=h
 obtain ⟨u,rfl,t,rfl⟩:=vals1 r
 have hn:=line63
 exact len_str (by omega) ⟨.int z.length,H,I.tok _,⟨_,rfl⟩,q⟩
theorem CallR.or {f:Value} {r r':List V->Hp->VK->Prop} (h:CallR X f r) (h':CallR X f r'):CallR X f (fun xs H Q=>r xs H Q\/r' xs H Q):=by
 intro pins s σ H xs us Q I rs q
 rcases q with q | q
 ·exact h pins s σ H xs us Q I rs q
 ·exact h' pins s σ H xs us Q I rs q
theorem call_list_of:CallR X (.type "list") (fun xs H Q=>∃ p ys,xs = [.ref p]/\(SqL X.K H p ys\/SqT X.K H p ys)/\∀ l,H l = none->Q (.ref l) (upd H l (.lst ys))):=by
 intro pins s σ H xs us Q I r h
 obtain ⟨p,ys,rfl,hq,q⟩:=h
 obtain ⟨u,rfl,rx⟩:=vals1 r
 cases rx
 have fin:∀ (its:List Value),Vals ys its->ys.length <= sizeLine->∀ (h':Heap) (c':Nat),(∀ b o',s.heap.get? b = some o'->h'.get? b = some o') ->
   h'.get? s.heap.objs.size = some { cls:=.type "list",dict:=none,data:=.seq its.toArray c',slots:=#[] }->EP X pins σ Q (.ref s.heap.objs.size) { s with heap:=h' }:=fun its r' hz h' c' kp e =>
  ⟨.ref s.heap.objs.size,_,I.laid (t':=s.toks) kp (Nat.le_refl _) (show ObjOk X.prog X.w _ h' _ (.lst ys) from ⟨hz,its,c',r',e⟩),rfl,q _ (I.hok.fresh (Nat.le_refl _))⟩
 rcases hq with hq | hq
 ·obtain ⟨its,r',pl,hz⟩:=I.list hq
  have hlen:=r'.length
  obtain ⟨o,ho,hc,n,hd⟩:=pl.isList
  exact call_list_seq p (.inl rfl) ho hc hd (fun h' c' kp e=>fin its r' hz h' c' kp e) (by simp only [List.size_toArray] <;> omega)
 ·obtain ⟨its,r',pl,hz⟩:=I.tuple hq
  have hlen:=r'.length
  obtain ⟨o,ho,hc,n,hd⟩:=pl
  exact call_list_seq p (.inr rfl) ho hc hd (fun h' c' kp e=>fin its r' hz h' c' kp e) (by simp only [List.size_toArray] <;> omega)
def tyV (K : PySem.W.Frag) (T : String) (x : V) (H : Hp) : Prop := match x with
 | .str _ => T = "str"
 | .int _ => T = "int"
 | .ref p => (T = "list" /\ ∃ xs, SqL K H p xs) \/ (T = "tuple" /\ ∃ o, K.lookup p = some o /\ o.cls = .type "tuple" /\ o.dict = none) \/
   (T = "dict" /\ ((∃ kvs, H p = some (.dK kvs)) \/ ∃ kvs, H p = some (.dT kvs))) \/ (T = "set" /\ ∃ S n, H p = some (.set S n))
 | _ => False
theorem tyV_is {pins : List (Addr × Obj)} {σ : St} {H : Hp} {s : Shared} {T : String} {x : V} {v : Value} (I : Inv X pins σ H s) (r : RelV x v) (ty : tyV X.K T x H) :
    s.TypeIs v T /\ ∀ a, v = .ref a -> ∃ ob, s.heap.get? a = some ob /\ ob.dict = none := by
  cases x with
  | str z =>
    obtain ⟨t, rfl⟩ := r
    cases (show T = "str" from ty)
    exact ⟨typeIs_str s z t, fun _ e => nomatch e⟩
  | int i =>
    obtain ⟨t, rfl⟩ := r
    cases (show T = "int" from ty)
    exact ⟨typeIs_int s i t, fun _ e => nomatch e⟩
  | ref p =>
    cases r
    rcases ty with ⟨rfl, xs, hq⟩ | ⟨rfl, o, hk, hc, hd⟩ | ⟨rfl, hk⟩ | ⟨rfl, S, n, hk⟩
    · obtain ⟨its, _, pl, _⟩ := I.list hq
      refine ⟨pl.isList.typeIs, fun a e => ?_⟩
      cases e
      obtain ⟨o, n, e, c, hd, _⟩ := pl
      exact ⟨o, e, hd⟩
    · refine ⟨⟨o, I.kIn p o hk, hc⟩, fun a e => ?_⟩
      cases e
      exact ⟨o, I.kIn _ o hk, hd⟩
    · have z : ∃ o, s.heap.get? p = some o /\ o.ExactDict := by
        rcases hk with ⟨kvs, hk⟩ | ⟨kvs, hk⟩
        · obtain ⟨_, _, _, _, o, _, _, e, ex, _⟩ := I.hok p _ hk
          exact ⟨o, e, ex⟩
        · obtain ⟨_, _, _, _, o, _, _, e, ex, _⟩ := I.hok p _ hk
          exact ⟨o, e, ex⟩
      obtain ⟨o, e, ex⟩ := z
      refine ⟨⟨o, e, ex.1⟩, fun a e2 => ?_⟩
      cases e2
      exact ⟨o, e, ex.2.1⟩
    · obtain ⟨o, _, _, _, e, ex, _⟩ := I.hok p _ hk
      refine ⟨⟨o, e, ex.1⟩, fun a e2 => ?_⟩
      cases e2
      exact ⟨o, e, ex.2.1⟩
  | _ => exact False.elim ty
def tBM0 (K:PySem.W.Frag) (T:String) (r:V->List V->Hp->VK->Prop) (to:TE):TE:=fun σ H Q=>to σ H fun x H1=>tyV K T x H1/\r x [] H1 Q
def tBM (K:PySem.W.Frag) (T:String) (r:V->List V->Hp->VK->Prop) (to:TE) (t:TA):TE:=fun σ H Q=>to σ H fun x H1=>tyV K T x H1/\t σ H1 fun xs H2=>r x xs H2 Q
variable {o e:Expr} {es:List Expr} {to:TE} {t:TA} {name:Str} {apos cpos:Pos} {T id:String} {r:V->List V->Hp->VK->Prop}
theorem pe_bm0 (pa:PlainAttrs T) (slot:Slot T name id) (hty:typeOf (.builtin id) = pure (.type "method_descriptor")) (hm:MtR X id r) (ho:PE X o to)
  (hbase:attributeBase o name X.env (eval o X.env) = eval o X.env:=by rfl) (hline:(apos.endLine == cpos.line) = true:=by rfl):PE X (.Call (.Attribute o name apos) [] [] cpos) (tBM0 X.K T r to):=by
 intro pins s σ H Q I h
 refine wpAny_Call_method0_late hbase hline (thn (ho pins s σ H _ I h) fun v s1 ⟨x,H1,I1,r1,ty,q1⟩=>?_)
 obtain ⟨h1,h2⟩:=tyV_is I1 r1 ty
 exact ⟨T,id,pa,slot,hty,h1,h2,Calls.callWith_builtin rfl (PySem.evalArgs_none (hm pins s1 σ H1 x [] v [] Q I1 r1 .nil q1))⟩
theorem pe_bm (pa : PlainAttrs T) (slot : Slot T name id) (hty : typeOf (.builtin id) = pure (.type "method_descriptor")) (hm : MtR X id r) (ho : PE X o to) (ha : PA X (e :: es) t)
  (hbase : attributeBase o name X.env (eval o X.env) = eval o X.env := by rfl)
  (hfew : ((backTo cpos (starEach (e :: es) X.env)).all (fun x => !x.1) && (backToKw cpos (keywordEach [] X.env)).all (fun x => x.1.isSome)
   && decide ((e :: es).length + ([] : List Keyword).length + (if ([] : List Keyword).isEmpty then 0 else 1) < 30)) = true := by rfl)
  (hline : (apos.endLine == cpos.line) = true := by rfl) (hs : starEach (e :: es) X.env = (false, eval e X.env) :: starEach es X.env := by rfl) (hplain : (backTo cpos (starEach es X.env)).any (·.1) = false := by rfl) :
  PE X (.Call (.Attribute o name apos) (e :: es) [] cpos) (tBM X.K T r to t) := by
 intro pins s σ H Q I h
 refine wpAny_Call_method_late hbase hfew hline rfl (thn (ho pins s σ H _ I h) fun v s1 ⟨x, H1, I1, r1, ty, q1⟩ => ?_)
 obtain ⟨h1, h2⟩ := tyV_is I1 r1 ty
 refine ⟨T, id, pa, slot, hty, h1, h2, ?_⟩
 have hA := ha cpos pins s1 σ H1 _ I1 q1
 rw [hs] at hA ⊢
 refine Calls.callWith_builtin (by show (false || (backTo cpos (starEach es X.env)).any (·.1)) = false; rw [hplain] <;> rfl) (Calls.evalArgs_plain ?_)
 exact thn hA fun us s2 ⟨vs, H2, I2, r2, q2⟩ => hm pins s2 σ H2 x vs v us Q I2 r1 r2 q2
end
end L2
namespace L2
open PySem PySem.Spec PyProof.Rows
def MtM (X:Cx) (id:String) (r:V->List V->Hp->VK->Prop):Prop :=
 ∀ (pins:List (Addr × Obj)) (s:Shared) (σ:St) (H:Hp) (x:V) (xs:List V) (v:Value) (us:List Value) (Q:VK),Inv X pins σ H s->RelV x v->Vals xs us->r x xs H Q ->
  wpAny (model X.prog X.w) X.A (call (.builtin id) (v :: us)) (EP X pins σ Q) X.xe s
theorem Vals.one:∀ {x:V} {us:List Value},Vals [x] us->∃ u,us = [u]/\RelV x u
 | _,_,.cons r .nil=>⟨_,rfl,r⟩
theorem Vals.zero:∀ {us:List Value},Vals [] us->us = []
 | _,.nil=>rfl
theorem Vals.reverse {xs:List V} {us:List Value} (h:Vals xs us):Vals xs.reverse us.reverse:=by
 induction h with
 | nil=>exact .nil
 | cons r t ih=>rw [List.reverse_cons,List.reverse_cons]; exact Vals.append ih (.cons r .nil)
theorem Vals.rep {xs : List V} {us : List Value} (h : Vals xs us) : ∀ k : Nat, Vals (List.replicate k xs).flatten (List.replicate k us).flatten
  | 0 => .nil
  | k + 1 => by
    rw [List.replicate_succ, List.replicate_succ, List.flatten_cons, List.flatten_cons]
    exact Vals.append h (Vals.rep h k)
theorem foldl_rep (its : List Value) : ∀ (k : Nat) (acc : List Value),
    List.foldl (fun x1 x2 => x1 ++ x2) acc.toArray (List.replicate k its.toArray) = (acc ++ (List.replicate k its).flatten).toArray
  | 0, acc => by simp
  | k + 1, acc => by
    have e : acc.toArray ++ its.toArray = (acc ++ its).toArray := by simp
    have e2 : (acc ++ its) ++ (List.replicate k its).flatten = acc ++ (List.replicate (k + 1) its).flatten := by
      rw [List.replicate_succ, List.flatten_cons, List.append_assoc]
    rw [<- e2, <- foldl_rep its k (acc ++ its), <- e, List.replicate_succ, List.foldl_cons]
section
variable {X:Cx} {pins:List (Addr × Obj)} {σ:St} {H:Hp} {s:Shared} {l b:Addr} {xs ys zs:List V}
theorem Inv.lset {its its':List Value} {n:Nat} {f:Array Value->Array Value} {t':Nat} (I:Inv X pins σ H s) (hH:H l = some (.lst xs))
  (e:s.heap.get? l = some { cls:=.type "list",data:=.seq its.toArray n }) (hf:f its.toArray = its'.toArray) (hv:Vals ys its') (hz:ys.length <= sizeLine) :
  Inv X pins σ (upd H l (.lst ys)) { s with heap:=s.heap.update l (Obj.mapSeq f),toks:=t' }:=by
 have q:=PySem.IsL.update e f
 rw [hf] at q
 refine I.write (x:=l) (e:=l) (by rw [hH]; exact trivial) (.inl rfl) (fun b' u hb hu=>(Heap.get?_update_other s.heap (Obj.mapSeq f) (Ne.symm hb)).trans hu) ⟨_,q⟩ ?_
 exact ⟨hz,its',_,hv,q⟩
theorem Inv.lnew {its:List Value} {t':Nat} (I:Inv X pins σ H s) (hv:Vals ys its) (hz:ys.length <= sizeLine) :
  Inv X pins σ (upd H s.heap.objs.size (.lst ys)) { s with heap:=s.heap.push { cls:=.type "list",data:=.seq its.toArray },toks:=t' } :=
 I.laid (fun _ _ q=>Heap.get?_push_of_some _ q) (Nat.le_refl _) ⟨hz,its,0,hv,Heap.get?_push_size _ rfl⟩
theorem Inv.fresh (I:Inv X pins σ H s):H s.heap.objs.size = none:=I.hok.fresh (Nat.le_refl _)
theorem Inv.lstM (I:Inv X pins σ H s) (hH:H l = some (.lst xs)):xs.length <= sizeLine/\∃ (its:List Value) (n:Nat),Vals xs its/\xs.length = its.length/\s.heap.get? l = some { cls:=.type "list",data:=.seq its.toArray n }:=by
 obtain ⟨z,its,n,r,e⟩:=I.hok l _ hH
 exact ⟨z,its,n,r,r.length,e⟩
theorem notLongL {n:Nat} (h:n <= sizeLine):Builtin.List.listTooLong n = false:=by
 unfold Builtin.List.listTooLong
 exact decide_eq_false (by omega)
end
section
variable {X:Cx}
def rAppend:V->List V->Hp->VK->Prop:=fun x vs H Q=>∃ l xs y,x = .ref l/\vs = [y]/\H l = some (.lst xs)/\xs.length < sizeLine/\Q .non (upd H l (.lst (xs ++ [y])))
theorem mt_append:MtM X "list.append" rAppend:=by
 intro pins s σ H x vs v us Q I rx rv h
 obtain ⟨l,xs,y,rfl,rfl,hH,hz,q⟩:=h
 cases rx
 obtain ⟨u,rfl,ru⟩:=rv.one
 obtain ⟨z,its,n,r,hl,e⟩:=I.lstM hH
 refine call_meets F.slot_list_append ⟨_,e,rfl⟩ F.entry_list_append (F.args_list_append_2 _ _) (PySem.list_append l its.toArray n u (by rw [List.size_toArray]; omega)) ⟨e,?_⟩
 refine ⟨.non,_,I.lset (its':=its ++ [u]) hH e (by simp) (r.append (.cons ru .nil)) ?_,rfl,q⟩
 rw [List.length_append,List.length_singleton]
 omega
def rReverse:V->List V->Hp->VK->Prop:=fun x vs H Q=>∃ l xs,x = .ref l/\vs = []/\H l = some (.lst xs)/\Q .non (upd H l (.lst xs.reverse))
theorem mt_reverse:MtM X "list.reverse" rReverse:=by
 intro pins s σ H x vs v us Q I rx rv h
 obtain ⟨l,xs,rfl,rfl,hH,q⟩:=h
 cases rx
 have hus:=rv.zero
 subst hus
 obtain ⟨z,its,n,r,hl,e⟩:=I.lstM hH
 refine call_meets F.slot_list_reverse ⟨_,e,rfl⟩ F.entry_list_reverse (F.args_list_reverse_1 _) (AutoSeq1.list_reverse_list_0 l its.toArray n (by rw [List.size_toArray]; omega)) ⟨e,?_⟩
 refine ⟨.non,_,I.lset (its':=its.reverse) hH e (by simp) r.reverse ?_,rfl,q⟩
 rw [List.length_reverse]
 omega
def rClear:V->List V->Hp->VK->Prop:=fun x vs H Q=>∃ l xs,x = .ref l/\vs = []/\H l = some (.lst xs)/\Q .non (upd H l (.lst []))
theorem mt_clear:MtM X "list.clear" rClear:=by
 intro pins s σ H x vs v us Q I rx rv h
 obtain ⟨l,xs,rfl,rfl,hH,q⟩:=h
 cases rx
 have hus:=rv.zero
 subst hus
 obtain ⟨z,its,n,r,hl,e⟩:=I.lstM hH
 refine call_meets F.slot_list_clear ⟨_,e,rfl⟩ F.entry_list_clear (F.args_list_clear_1 _) (AutoSeq1.list_clear_list_0 l its.toArray n (by rw [List.size_toArray]; omega)) ⟨e,?_⟩
 exact ⟨.non,_,I.lset (its':=[]) (ys:=[]) hH e rfl .nil (Nat.zero_le _),rfl,q⟩
def rCat:R2:=fun x y H Q=>∃ l b xs zs,x = .ref l/\y = .ref b/\H l = some (.lst xs)/\H b = some (.lst zs)/\xs.length + zs.length <= sizeLine/\∀ p,H p = none->Q (.ref p) (upd H p (.lst (xs ++ zs)))
theorem op_cat:OpR X (binaryOp .Add) rCat:=by
 intro pins s σ H x y v u Q I rx ry h
 obtain ⟨l,b,xs,zs,rfl,rfl,hH,hB,hz,q⟩:=h
 cases rx
 cases ry
 obtain ⟨z,its,n,r,hl,e⟩:=I.lstM hH
 obtain ⟨z2,its2,n2,r2,hl2,e2⟩:=I.lstM hB
 refine PySem.P.add_list e e2 ?_ (by rw [List.size_toArray,List.size_toArray]; omega)
 have ea:its.toArray ++ its2.toArray = (its ++ its2).toArray:=by simp
 rw [ea]
 exact ⟨.ref _,_,I.lnew (t':=s.toks) (r.append r2) (by rw [List.length_append]; omega),rfl,q _ I.fresh⟩
def rRep:R2:=fun x y H Q=>∃ l k xs,x = .ref l/\y = .int k/\H l = some (.lst xs)/\-(2 ^ 63) <= k/\k < 2 ^ 63/\xs.length * k.toNat <= sizeLine /\
 ∀ p,H p = none->Q (.ref p) (upd H p (.lst (List.replicate k.toNat xs).flatten))
theorem len_rep {α:Type} (xs:List α) (k:Nat):(List.replicate k xs).flatten.length = k * xs.length:=by
 induction k with
 | zero=>simp
 | succ k ih=>rw [List.replicate_succ,List.flatten_cons,List.length_append,ih,Nat.succ_mul,Nat.add_comm]
theorem op_rep : OpR X (binaryOp .Mult) rRep := by
 intro pins s σ H x y v u Q I rx ry h
 obtain ⟨l, k, xs, rfl, rfl, hH, h1, h2, hz, q⟩ := h
 cases rx
 obtain ⟨t, rfl⟩ := ry
 obtain ⟨z, its, n, r, hl, e⟩ := I.lstM hH
 have hlen : its.toArray.size * k.toNat <= sizeLine := by rw [List.size_toArray, <- hl]; exact hz
 have hcap : ¬ its.toArray.size * k.toNat > (2 ^ 63 - 1) / 8 := by
  have : (sizeLine : Nat) <= (2 ^ 63 - 1) / 8 := by decide
  omega
 have hfit : ¬ (!Builtin.List.listFitsIndex k) = true := by
  rw [fitsIndex_both h1 h2]
  exact Bool.false_ne_true
 have hlong : ¬ Builtin.List.listTooLong (its.toArray.size * k.toNat) = true := by
  rw [notLongL hlen]
  exact Bool.false_ne_true
 have hnew : List.foldl (fun x1 x2 => x1 ++ x2) #[] (List.replicate (if its.toArray.isEmpty = true then 0 else k.toNat) its.toArray) = (List.replicate k.toNat its).flatten.toArray := by
  have f0 : ∀ m : Nat, List.foldl (fun x1 x2 => x1 ++ x2) #[] (List.replicate m its.toArray) = (List.replicate m its).flatten.toArray := fun m => by
   have := foldl_rep its m []
   rw [List.nil_append] at this
   exact this
  rw [f0]
  cases its with
  | nil => simp
  | cons a r' => rw [if_neg (by simp)]
 refine wpAny_binaryOp_repeat_ref (T := "list") (U := "int") (by decide) ⟨_, e, rfl⟩ (fun s' => typeIs_int s' k t) noFill_list_mul F.fills_int_mul F.slot_int_rmul repeat_list F.slot_int_index.lookup
  (call_meets F.slot_int_rmul (typeIs_int s k t) F.entry_int_rmul (F.args_int_rmul_2 _ _) (int___rmul___int_list k t l its.toArray n)
   ⟨e, rfl, ⟨_, e, rfl⟩, call_meets F.slot_list_mul ⟨_, e, rfl⟩ F.entry_list_mul (F.args_list_mul_2 _ _) (AutoListH.list___mul___list_int_3 l its.toArray n k t hfit hcap hlong) ⟨e, ?_⟩⟩)
 rw [hnew]
 exact ⟨.ref _, _, I.lnew (t' := s.toks) (r.rep k.toNat) (by rw [len_rep, Nat.mul_comm]; exact hz), rfl, q _ I.fresh⟩
end
section
variable {prog:Program} {w:World} {A:Around} {E:Value->Shared->Prop} {s:Shared}
end
section
variable {X:Cx}
end
end L2
namespace Att
open PySem PySem.W PySem.Calls PyProof.Rows
theorem ints_of_wellAll {P : Params} {h : Heap} : ∀ (ns : List Int) (vs : List Value), WellAll P h vs (ns.map WData.int) -> IntsAre vs ns := by
  intro ns
  induction ns with
  | nil =>
    intro vs w
    rw [List.map_nil] at w
    cases w
    exact .nil
  | cons n ns ih =>
    intro vs w
    rw [List.map_cons] at w
    cases w with
    | cons a b =>
      cases a
      exact .cons _ _ (ih _ b)
theorem script_of {l : OpenLaw} {n : Nat} (hn : l.most = some n) {P : Params} {h : Heap} {args : List WData} {vals : List Value}
    (hpre : l.row.toRowW.claim.pre args = true) (hwl : WellAll P h vals args) :
    ∃ a vs ns, vals = [Value.ref a] /\ args = [WData.list (ns.map WData.int)] /\ h.get? a = some { cls := .type "list", data := .seq vs.toArray } /\ IntsAre vs ns /\ ns.length <= n := by
  have hsh : WShape.hasAll [] args [.list .int] = true := (pre_splitW hpre).1
  have hc : l.pre.holds [] { args := args } = true := (pre_splitW hpre).2
  obtain ⟨d, r, rfl, h1, h2⟩ := hasAllW_cons hsh
  obtain rfl := hasAllW_nil h2
  obtain ⟨xs, rfl, h3⟩ := hasW_list h1
  obtain ⟨ns, rfl⟩ := items_int h3
  have hlen : ns.length <= n := by
    unfold OpenLaw.pre at hc
    have h4 : (WTm.not (.lt (.lit (.int (n : Int))) (.len (.arg 0)))).holds [] { args := [.list (ns.map .int)] } = true := by
      have h4 := (holds_andW hc).1
      rw [hn] at h4
      exact h4
    have h5 := condW_of h4 (w_not (w_lt w_lit (w_len_list (w_arg rfl))))
    rw [List.length_map] at h5
    refine Nat.le_of_not_lt fun q => ?_
    have q' : (n : Int) < ((ns.length : Nat) : Int) := by omega
    first
      | (rw [decide_eq_true q'] at h5; exact absurd h5 (by decide))
      | (simp at h5; omega)
  cases hwl with
  | cons w1 w2 =>
    cases w2
    cases w1 with
    | list ho hall => exact ⟨_, _, ns, rfl, rfl, ho, ints_of_wellAll ns _ hall, hlen⟩
theorem post_true (l:OpenLaw) (args:List WData):l.row.toRowW.claim.post args (.bool true) args = true :=
 postW_of (r:=l.row.toRowW) (X:=(true == true))
  (show WShape.has [] (.bool true) .bool = true by first | rfl | decide | simp [WShape.has,WShape.arms,WShape.armsAll])
  (show (WTm.eq .res (.lit (.bool true))).value [] { args:=args,res:=some (.bool true),after:=args } = some (.bool (true == true)) from w_eq_bool (w_res rfl) w_lit) rfl
theorem attach_call {l : OpenLaw} {n : Nat} {q : Program} {loose : List Str} {XP : (Str -> Option Value) -> Heap -> Prop} {YP : World -> Heap -> Prop} {d : DefRec}
  (hn : l.most = some n) (hdf : d.params.defaults = [])
  (call : ∀ (w : World) (s₀ s₁ : Shared) (mg mb : Str -> Option Value) (fa : Addr) (o : Obj) (pm cd doc : Value) (a : Addr) (vs : List Value) (ns : List Int),
   Ground q loose [] XP w s₀ mg mb s₁.heap -> YP w s₁.heap ->
   s₁.heap.get? fa = some o -> o.data = .func (docDef d.name d.params d.body d.scope pm cd doc) -> s₁.heap.CodeRec cd d.name -> mg d.name = some (.ref fa) ->
   s₁.heap.get? a = some { cls := .type "list", data := .seq vs.toArray } -> IntsAre vs ns -> ns.length <= n -> s₁.gens = #[] ->
   codeAny (model l.prog w) callerA (.call (.ref fa) ⟨[.ref a], []⟩) (fun r s' => r = .ok (.ret (.bool true)) /\ OldK s₁.heap s'.heap /\ s'.os = s₁.os /\ AllBare s'.gens) s₁) :
  WalkO q loose XP YP l.row.toRowW d [] (fun f vs => PySem.call f vs) := by
 intro w s₀ s₁ mg mb G Y fa o pm cd doc dV kV ho hd hcd hD hmg hg args vals as hpre hlay hrd hwl hlo
 obtain rfl : dV = .none := Dflts.none hD hdf
 obtain rfl : kV = .none := Dflts.noKw hD
 obtain ⟨a, vs, ns, rfl, rfl, hobj, hints, hlen⟩ := script_of hn hpre hwl
 refine enter_call (codeAny_mono (call w s₀ s₁ mg mb fa o pm cd doc a vs ns G Y ho (fd_plain hd) hcd hmg hobj hints hlen hg) fun r s' hq => ?_)
 obtain ⟨rfl, h2, h3, h4⟩ := hq
 exact ⟨.inl ⟨.bool true, .bool true, [], rfl, fun _ => rfl, .bool true, post_true l _, fun _ => ⟨List.Pairwise.nil, fun _ hm => (nomatch hm)⟩⟩, h2, h3, h4⟩
section
variable {prog:Program} {w:World} {A:Around} {E:Value->Shared->Prop} {s:Shared} {K:Frag}
end
end Att
namespace L2
open PySem PySem.Spec PyProof.Rows
theorem vals_ints:∀ {vs:List Value} {ns:List Int},IntsAre vs ns->Vals (ns.map V.int) vs
 | _,_,.nil=>.nil
 | _,_,.cons n t h=>.cons ⟨t,rfl⟩ (vals_ints h)
def Only (H:Hp):Prop:=∀ b,H b = none\/∃ o xs,H b = some (.frz o (.lst xs))
theorem law_call {P : Program} {w : World} {K : PySem.W.Frag} {mg mb : Str -> Option Value} {CX : CXT} {k : Nat} {fa a : Addr} {fd : FuncData} {x : Str} {sp : Sp} {s₁ : Shared} {vs : List Value} {ns : List Int}
    (KX : K.In s₁.heap) (hns : s₁.heap.Ns mainGlobals mg) (hb : s₁.heap.Ns builtinsNs mb) (hbb : ∀ x : Str, x ≠ "__name__" -> mb x = bootBuiltins x) (hlim : s₁.heap.NoLimit) (hg : s₁.gens = #[])
    (ha : s₁.heap.get? a = some { cls := .type "list", data := .seq vs.toArray }) (hi : IntsAre vs ns) (hl : ns.length <= sizeLine) (hr : Room k callerA)
    (F : ∀ base : Heap, K.In base -> base.Ns mainGlobals mg -> FnOk P w K mg base CX k fa fd [x] sp) (hbind : ∀ (s : Shared) (u : Value), BindsTo s fd ⟨[u], []⟩ [(x, u)])
    (hsp : ∀ H : Hp, Only H -> SqL K H a (ns.map V.int) -> sp [.ref a] H (fun v _ => v = .bl true) fun _ _ _ => False)
    (hCX : ∀ H e s', CX [] H s₁ (fun _ _ _ => False) e s' -> False) :
    codeAny (model P w) callerA (.call (.ref fa) ⟨[.ref a], []⟩) (fun r s' => r = .ok (.ret (.bool true)) /\ OldK s₁.heap s'.heap /\ s'.os = s₁.os /\ AllBare s'.gens) s₁ := by
  have rv := vals_ints hi
  have lenV := hi.length
  have core : ∀ H : Hp, Only H -> SqL K H a (ns.map V.int) -> HOk P w H s₁.heap -> (∀ b, H b ≠ none -> b = a) -> (H a ≠ none -> K.lookup a = none) ->
      codeAny (model P w) callerA (.call (.ref fa) ⟨[.ref a], []⟩) (fun r s' => r = .ok (.ret (.bool true)) /\ OldK s₁.heap s'.heap /\ s'.os = s₁.os /\ AllBare s'.gens) s₁ := by
    intro H hO hS hok hA hK
    have base_of : ∀ {b : Addr} {o : Obj}, s₁.heap.get? b = some o -> H b = none -> (hidT s₁.heap H).get? b = some o := fun e n => hidT_get e n
    have noA : ∀ {b : Addr} {o : Obj} {es : Array DictEntry} {ep : Nat}, s₁.heap.get? b = some o -> o.data = .dict es ep -> H b = none := fun {b o es ep} e d => by
      cases q : H b with
      | none => rfl
      | some u =>
        have e' : b = a := hA b (by rw [q]; simp)
        subst e'
        rw [ha] at e; cases e
        have d' : Data.seq vs.toArray _ = Data.dict es ep := d
        cases d'
    have nsK : ∀ {b : Addr} {m : Str -> Option Value}, s₁.heap.Ns b m -> (hidT s₁.heap H).Ns b m := fun {b m} ⟨o, es, ep, e, d, r⟩ => ⟨o, es, ep, base_of e (noA e d), d, r⟩
    have hKb : K.In (hidT s₁.heap H) := fun b o e => base_of (KX b o e) (by
      cases q : H b with
      | none => rfl
      | some u =>
        have e' : b = a := hA b (by rw [q]; simp)
        subst e'
        rw [hK (by rw [q]; simp)] at e; cases e)
    have hM : Mod K mg (hidT s₁.heap H) := ⟨hKb, nsK hns, ⟨mb, nsK hb, hbb⟩, let ⟨mc, h1, h2⟩ := hlim; ⟨mc, nsK h1, h2⟩⟩
    have e0 : Env0 P w K mg (hidT s₁.heap H) callerA [] s₁ H := ⟨rfl, hM, fun b o e => of_hidT e, Nat.le_of_eq (hidT_size _ _), trivial, fun b hb => absurd (show b ∈ ([] : List Addr) from hb) (by simp), hok, .of_eq hg⟩
    refine codeAny_mono ((F _ hKb (nsK hns)).run callerA [] s₁ H ⟨[.ref a], []⟩ [.ref a] [.ref a] _ _ hr e0 (hbind s₁ (.ref a)) (.cons rfl .nil) (hsp H hO hS)) fun r s' h => ?_
    cases r with
    | error e => exact (hCX H e s' h).elim
    | ok fl =>
      cases fl with
      | next => exact False.elim h
      | brk => exact False.elim h
      | cont => exact False.elim h
      | ret u =>
        obtain ⟨v, H', os, bare, un, hok', r', q⟩ := h
        have q' : v = .bl true := q
        subst q'
        obtain rfl : u = Value.bool true := r'
        refine ⟨rfl, OldK.of_keep fun b o e => ?_, os, bare⟩
        cases q : H b with
        | none => exact un.keep b o e q (by intro z; exact absurd (show b ∈ ([] : List Addr) from z) (by simp)) (by simp)
        | some u =>
          rcases hO b with z | ⟨ob, xs, z⟩
          · rw [q] at z; cases z
          · have z2 := un.frzs b ob _ z
            obtain ⟨e1, _⟩ := hok b _ z
            obtain ⟨e2, _⟩ := hok' b _ z2
            rw [e] at e1; cases e1
            exact e2
  cases hk : K.lookup a with
  | some o =>
    have e := KX a o hk
    rw [ha] at e
    cases e
    refine core (fun _ => none) (fun _ => .inl rfl) (.inr ⟨_, vs.toArray, _, hk, rfl, rfl, rfl, by rw [List.size_toArray, lenV]; exact hl, by simpa using rv⟩) ⟨(fun b u z => by have z' : (none : Option HO) = some u := z; cases z'), (fun u z => nomatch (show (none : Option HO) = some u from z)), let ⟨o, _, _, e, _⟩ := hns; ⟨mainGlobals, o, by decide, e⟩⟩ (fun b z => absurd rfl z) fun z => absurd rfl z
  | none =>
    refine core (fun b => if b = a then some (.frz { cls := .type "list", data := .seq vs.toArray } (.lst (ns.map V.int))) else none) (fun b => ?_) (.inl (.inr ⟨{ cls := .type "list", data := .seq vs.toArray }, if_pos rfl⟩)) ⟨fun b u z => ?_, (fun u z => by
      by_cases hb : sysModules = a
      · have z' := (if_pos hb).symm.trans z
        cases z'; exact ⟨_, _, rfl⟩
      · have z' := (if_neg hb).symm.trans z
        cases z'), let ⟨o, _, _, e, _⟩ := hns; ⟨mainGlobals, o, by decide, e⟩⟩ (fun b z => ?_) fun _ => hk
    · by_cases hb : b = a
      · exact .inr ⟨_, _, if_pos hb⟩
      · exact .inl (if_neg hb)
    · by_cases hb : b = a
      · have z' := (if_pos hb).symm.trans z
        cases z'
        subst hb
        exact ⟨ha, by rw [List.length_map]; exact hl, vs, _, rv, ha⟩
      · have z' := (if_neg hb).symm.trans z
        cases z'
    · by_cases hb : b = a
      · exact hb
      · exact absurd (if_neg hb) z
end L2
namespace L2
open PySem PySem.Spec PyProof.Rows
theorem walk_of {l : PySem.W.OpenLaw} {n k : Nat} {q : Program} {loose : List Str} {XP : (Str -> Option Value) -> Heap -> Prop} {YP : World -> Heap -> Prop} {d : DefRec} {K : Params -> PySem.W.Frag} {CX : World -> CXT} {sp : World -> Sp} {x : Str}
  (hn : l.most = some n) (hn2 : n <= sizeLine) (hdf : d.params.defaults = []) (hr : Room k callerA)
  (hY : ∀ (w : World) (h : Heap), YP w h -> (K w.params).In h)
  (F : ∀ (w : World) (mg : Str -> Option Value) (fa : Addr) (h : Heap), (K w.params).In h -> h.Ns mainGlobals mg -> mg d.name = some (.ref fa) ->
   ∃ fd : FuncData, (∀ (s : Shared) (u : Value), BindsTo s fd ⟨[u], []⟩ [(x, u)]) /\
    ∀ base : Heap, (K w.params).In base -> base.Ns mainGlobals mg -> FnOk l.prog w (K w.params) mg base (CX w) k fa fd [x] (sp w))
  (hsp : ∀ (w : World) (H : Hp) (a : Addr) (ns : List Int), ns.length <= n -> Only H -> SqL (K w.params) H a (ns.map V.int) -> sp w [.ref a] H (fun v _ => v = .bl true) fun _ _ _ => False)
  (hCX : ∀ (w : World) (H : Hp) (s : Shared) (e : Value) (s' : Shared), CX w [] H s (fun _ _ _ => False) e s' -> False) :
  PySem.W.WalkO q loose XP YP l.row.toRowW d [] (fun f vs => PySem.call f vs) := by
 refine Att.attach_call hn hdf fun w s₀ s₁ mg mb fa o pm cd doc a vs ns G Y ho hd hcd hmg hobj hints hlen hg => ?_
 have KX := hY w _ Y
 obtain ⟨fd, hb, hF⟩ := F w mg fa _ KX G.T.g hmg
 exact law_call KX G.T.g G.T.b G.T.builtins G.T.nolimit hg hobj hints (Nat.le_trans hlen hn2) hr hF hb (fun H hO hS => hsp w H a ns hlen hO hS) fun H e s' => hCX w H s₁ e s'
end L2
namespace L2
open PySem PySem.Spec PyProof.Rows
def inClass (s:Stmt) (j:Nat):Stmt:=match s with
 | .ClassDef _ _ _ body _ _ _ _ _ _ _=>body.getD j (.Pass ⟨0,0,0,0⟩)
 | _=>.Pass ⟨0,0,0,0⟩
def defArgs (s:Stmt):Arguments:=match s with
 | .FunctionDef _ a _ _ _ _ _ _ _ _=>a
 | _=>{ posonlyargs:=[],args:=[],vararg:=none,kwonlyargs:=[],kw_defaults:=[],kwarg:=none,defaults:=[] }
def defBody (s:Stmt):List Stmt:=match s with
 | .FunctionDef _ _ b _ _ _ _ _ _ _=>b
 | _=>[]
def defScope (s:Stmt):Scope:=match s with
 | .FunctionDef _ _ _ _ _ _ sc _ _ _=>sc
 | _=>{ kind:=.function,names:=[],isGenerator:=false,isCoroutine:=false }
abbrev CX0:CXT:=fun _ _ _ _ _ _=>False
abbrev E0:XK:=fun _ _ _=>False
theorem pass0 {X:Cx}:Passes CX0 X E0:=fun _ _ _ _ _ _ _ h=>h.elim
structure Fun (K:PySem.W.Frag) (x qual:Str) (st:Stmt) (f:Addr) (fd:FuncData):Prop where
 ex:∃ (oc:Value) (od:Option Addr) (kV doc pm:Value) (an:Option Addr) (cdv ct:Value) (osl:Array (Option Value)),
  fd = PySem.W.fnOf x qual (defArgs st) (defBody st) (defScope st) .none kV doc pm an cdv ct/\K.lookup f = some ⟨oc,od,.func fd,osl⟩/\PySem.W.codeIn K cdv qual = true
 kp:PySem.W.keepIn K (.ref f) = true
section
variable {P:Program} {w:World} {K:PySem.W.Frag} {mg:Str->Option Value} {base:Heap}
theorem Fun.ok {x qual : Str} {st : Stmt} {f : Addr} {fd : FuncData} {N ps : List Str} {k : Nat} {sp : Sp} (F : Fun K x qual st f fd) (S : FnScope N ps (defScope st)) (len : ∀ vs H Q E, sp vs H Q E -> vs.length = ps.length)
  (hbody : ∀ (cdv : Value) (A : Around) (outer : List Env) (s : Shared) (H : Hp) (vs : List V) (Q : VK) (E : XK), Room k (A.deeper (envOfC qual (defScope st) s.heap.objs.size f cdv)) -> sp vs H Q E ->
   ∃ t, PSs (cxOf CX0 P w K mg base N qual (defScope st) f cdv A outer s H E).nox (defBody st) t /\ t { nx := fun _ H' => Q .non H', rt := Q } (start N vs) H) : FnOk P w K mg base CX0 (k + 1) f fd ps sp := by
 obtain ⟨oc, od, kV, doc, pm, an, cdv, ct, osl, rfl, lk, hcd⟩ := F.ex
 refine fn_of lk hcd S len fun A outer s H vs Q E hr hsp => ?_
 obtain ⟨t, h, q⟩ := hbody cdv A outer s H vs Q E hr hsp
 exact ⟨t, h.nox, q⟩
theorem Fun.binds {x qual:Str} {st:Stmt} {f:Addr} {fd:FuncData} {ps:List Str} (F:Fun K x qual st f fd)
  (h:∀ (kV doc pm:Value) (an:Option Addr) (cdv ct:Value) (us:List Value),us.length = ps.length->bindArgs (PySem.W.fnOf x qual (defArgs st) (defBody st) (defScope st) .none kV doc pm an cdv ct) ⟨us,[]⟩ = pure (ps.zip us)):Binds K fd ps []:=by
 obtain ⟨oc,od,kV,doc,pm,an,cdv,ct,osl,rfl,lk,hcd⟩:=F.ex
 exact .all (h kV doc pm an cdv ct)
theorem fun_mk {x qual:Str} {st:Stmt} {f:Addr} {oc:Value} {od an:Option Addr} {osl:Array (Option Value)} {kV doc pm cdv ct:Value} (l:K.lookup f = some ⟨oc,od,.func (PySem.W.fnOf x qual (defArgs st) (defBody st) (defScope st) .none kV doc pm an cdv ct),osl⟩)
  (c:PySem.W.codeIn K cdv qual = true) (k:PySem.W.keepIn K (.ref f) = true):Fun K x qual st f (PySem.W.fnOf x qual (defArgs st) (defBody st) (defScope st) .none kV doc pm an cdv ct):=⟨⟨oc,od,kV,doc,pm,an,cdv,ct,osl,rfl,l,c⟩,k⟩
end
theorem small1000 {n:Nat} (h:n <= 1000):n < sizeLine:=Nat.lt_of_le_of_lt h (by decide)
section
variable {X:Cx}
theorem pv (i:Nat) {x:Str} {pos:Pos} (hN:X.N[i]? = some x:=by rfl) (hv:Vis X.env.scope x:=by first | exact Or.inl rfl | exact Or.inr (Or.inl rfl) | exact Or.inr (Or.inr rfl)) (hd:(x == ("__debug__" : Str)) = false:=by decide)
  (hcd:(x == ("__classdict__" : Str)) = false:=by decide):PE X (.Name x pos) (tVar i):=pe_var hN hv hd hcd
end
theorem iteF {A B:Prop} (h:B):if false = true then A else B:=by
 rw [if_neg Bool.false_ne_true]
 exact h
theorem iteT {A B:Prop} (h:A):if true = true then A else B:=by
 rw [if_pos rfl]
 exact h
def Same (H H':Hp):Prop:=∀ b o,H b = some o->H' b = some o
theorem Same.refl (H:Hp):Same H H:=fun _ _ h=>h
theorem Same.trans {H H1 H2:Hp} (a:Same H H1) (b:Same H1 H2):Same H H2:=fun c o h=>b c o (a c o h)
theorem Same.free {H H' : Hp} (e : Same H H') {l : Addr} (h : H' l = Option.none) : H l = Option.none := by
  cases q : H l with
  | none => rfl
  | some o =>
    rw [e l o q] at h
    cases h
theorem Same.seq {K:PySem.W.Frag} {H H':Hp} {a:Addr} {xs:List V} (e:Same H H') (h:SqL K H a xs):SqL K H' a xs:=by
 rcases h with (h | ⟨o,h⟩) | h
 ·exact .inl (.inl (e _ _ h))
 ·exact .inl (.inr ⟨o,e _ _ h⟩)
 ·exact .inr h
end L2
set_option maxHeartbeats 8000000
namespace L2
open PySem PySem.Spec PyProof.Rows
theorem clos_go {env : Env} : ∀ (ns : List (Str × NameKind)) (acc : List (Str × Addr)), (∀ y ∈ ns, y.2 = .free -> ∃ c, env.cells.lookup y.1 = some c) -> (∀ x c, acc.lookup x = some c -> env.cells.lookup x = some c) ->
    ∃ cl, (forIn ns acc fun (y : Str × NameKind) cs => (if (y.2 == .free) = true then (do let c <- cellOf env y.1; pure (ForInStep.yield ((y.1, c) :: cs))) else pure (ForInStep.yield cs) : Sem (ForInStep (List (Str × Addr))))) = pure cl /\
      (∀ x c, cl.lookup x = some c -> env.cells.lookup x = some c) /\ (∀ y ∈ ns, y.2 = .free -> ∃ c, cl.lookup y.1 = some c) /\ ∀ x c, acc.lookup x = some c -> ∃ c', cl.lookup x = some c'
  | [], acc, _, ha => ⟨acc, rfl, ha, (fun _ h => nomatch h), fun x c e => ⟨c, e⟩⟩
  | (n, k) :: r, acc, hf, ha => by
    rw [List.forIn_cons]
    by_cases hk : k = .free
    · subst hk
      obtain ⟨c, hc⟩ := hf (n, .free) List.mem_cons_self rfl
      have hcell : cellOf env n = pure c := by unfold cellOf; rw [hc]
      have ha' : ∀ x c', List.lookup x ((n, c) :: acc) = some c' -> env.cells.lookup x = some c' := fun x c' e => by
        rw [List.lookup_cons] at e
        cases hx : x == n with
        | true => rw [hx] at e; simp at e; subst e; rw [eq_of_beq hx]; exact hc
        | false => rw [hx] at e; exact ha x c' e
      obtain ⟨cl, e1, e2, e3, e4⟩ := clos_go r ((n, c) :: acc) (fun y hy => hf y (List.mem_cons_of_mem _ hy)) ha'
      refine ⟨cl, ?_, e2, fun y hy hyf => ?_, fun x c' e => ?_⟩
      · simp only [beq_self_eq_true, if_true, hcell, pure_bind]
        exact e1
      · rcases List.mem_cons.mp hy with rfl | hy
        · exact e4 n c (by simp [List.lookup_cons])
        · exact e3 y hy hyf
      · cases hx : x == n with
        | true => rw [eq_of_beq hx]; exact e4 n c (by simp [List.lookup_cons])
        | false => exact e4 x c' (by rw [List.lookup_cons, hx]; exact e)
    · have hb : (k == NameKind.free) = false := by simpa using hk
      obtain ⟨cl, e1, e2, e3, e4⟩ := clos_go r acc (fun y hy => hf y (List.mem_cons_of_mem _ hy)) ha
      refine ⟨cl, ?_, e2, fun y hy hyf => ?_, e4⟩
      · simp only [hb, Bool.false_eq_true, if_false, pure_bind]
        exact e1
      · rcases List.mem_cons.mp hy with rfl | hy
        · exact absurd hyf hk
        · exact e3 y hy hyf
theorem clos_ex {scope:Scope} {env:Env} (h:∀ y ∈ scope.names,y.2 = .free->∃ c,env.cells.lookup y.1 = some c) :
  ∃ cl,closureFor scope env = pure cl/\(∀ x c,cl.lookup x = some c->env.cells.lookup x = some c)/\∀ y ∈ scope.names,y.2 = .free->∃ c,cl.lookup y.1 = some c:=by
 obtain ⟨cl,e1,e2,e3,_⟩:=clos_go (env:=env) scope.names [] h (fun x c e=>nomatch e)
 refine ⟨cl,?_,e2,e3⟩
 have e:closureFor scope env = (forIn scope.names ([]:List (Str × Addr)) fun (y:Str × NameKind) cs=>(if (y.2 == .free) = true then (do let c <- cellOf env y.1; pure (ForInStep.yield ((y.1,c) :: cs))) else pure (ForInStep.yield cs):Sem (ForInStep (List (Str × Addr))))) >>= pure:=by
  rfl
 rw [e,e1,pure_bind]
def cxIn (X:Cx) (own:List Str) (sel:List Nat) (scope:Scope) (cl:List (Str × Addr)) (C:Addr) (s2:Shared) (H2:Hp) (fp:List Addr):Cx where
 prog:=X.prog
 w:=X.w
 K:=X.K
 mg:=X.mg
 base:=X.base
 A:=X.A
 N:=own ++ sel.map fun j=>X.N.getD j Str.empty
 s₀:=s2
 H₀:=H2
 env:=compEnvC scope cl C X.env
 outer:=X.stack
 stack:=X.stack
 ex:=fp
 fn:=fun _=>false
 calm:=X.calm
 pn:=[]
 xe:=fun _ _=>False
def inSt (own:List Str) (sel:List Nat) (σ:St):St:=own.map (fun _=>none) ++ sel.map fun j=>σ.getD j none
structure CompOk (osc:Scope) (N:List Str) (own:List Str) (sel:List Nat) (scope:Scope):Prop where
 kind:scope.kind = .function
 cell:∀ y ∈ scope.names,y.2 ≠ .cell
 names:∀ y ∈ scope.names,y.2 = .local->scope.names.lookup y.1 = some .local
 free:∀ y ∈ scope.names,y.2 = .free->osc.names.lookup y.1 = some .cell\/osc.names.lookup y.1 = some .free
 seln:∀ j ∈ sel,j < N.length/\scope.names.lookup (N.getD j Str.empty) = some .free/\(osc.names.lookup (N.getD j Str.empty) = some .cell\/osc.names.lookup (N.getD j Str.empty) = some .free)
def PIf (Y:Cx) (ifs:List Expr) (t:TT):Prop :=
 ∀ (pins:List (Addr × Obj)) (s:Shared) (σ:St) (H:Hp) (Q:Bool->Hp->Prop),Inv Y pins σ H s->t σ H Q ->
  wpAny (model Y.prog Y.w) Y.A (forIn ifs true fun c r=>if r = true then do let ok <- isTrue c Y.env (eval c Y.env); pure (ForInStep.yield ok) else pure (ForInStep.yield r)) (TP Y pins σ Q) Y.xe s
def tYes:TT:=fun _ H Q=>Q true H
theorem pif_nil {Y:Cx}:PIf Y [] tYes:=fun pins s σ H Q I h=>wpAny_tests_nil ⟨H,I,h⟩
theorem pif_one {Y:Cx} {c:Expr} {t:TT} (h:PT Y c t):PIf Y [c] t:=fun pins s σ H Q I hw=>wpAny_tests_one (h pins s σ H Q I hw)
def GK (n:Nat) (g:TG):Prop:=∀ v σ H Q,g v σ H Q->g v σ H fun σ' H'=>Q σ' H'/\σ'.length = σ.length/\∀ i,n <= i->σ'[i]? = σ[i]?
def GKs (n:Nat) (g:TGs):Prop:=∀ vs σ H Q,g vs σ H Q->g vs σ H fun σ' H'=>Q σ' H'/\σ'.length = σ.length/\∀ i,n <= i->σ'[i]? = σ[i]?
theorem gk_name {n i:Nat} (h:i < n):GK n (gName i):=fun v σ H Q q=>⟨q,by simp,fun j hj=>by rw [List.getElem?_set_ne (by omega)]⟩
theorem gk_nil {n:Nat}:GKs n gNil:=fun vs σ H Q q=>⟨q.1,q.2,rfl,fun _ _=>rfl⟩
def GM (g:TG):Prop:=∀ v σ H Q Q',(∀ σ' H',Q σ' H'->Q' σ' H')->g v σ H Q->g v σ H Q'
def GMs (g:TGs):Prop:=∀ vs σ H Q Q',(∀ σ' H',Q σ' H'->Q' σ' H')->g vs σ H Q->g vs σ H Q'
theorem gm_name {i:Nat}:GM (gName i):=fun _ _ _ _ _ h q=>h _ _ q
theorem gm_nil:GMs gNil:=fun _ _ _ _ _ h q=>⟨q.1,h _ _ q.2⟩
theorem gm_cons {t:TG} {u:TGs} (h1:GM t) (h2:GMs u):GMs (gCons t u):=fun vs σ H Q Q' h ⟨v,r,e,q⟩=>⟨v,r,e,h1 _ _ _ _ _ (fun σ' H' z=>h2 _ _ _ _ _ h z) q⟩
theorem gk_cons {n:Nat} {t:TG} {u:TGs} (m1:GM t) (m2:GMs u) (h1:GK n t) (h2:GKs n u):GKs n (gCons t u):=fun vs σ H Q ⟨v,r,e,q⟩=>by
 refine ⟨v,r,e,m1 _ _ _ _ _ (fun σ' H' z=>?_) (h1 _ _ _ _ q)⟩
 obtain ⟨q',l,k⟩:=z
 exact m2 _ _ _ _ _ (fun σ2 H2 ⟨a,b,c⟩=>⟨a,b.trans l,fun i hi=>(c i hi).trans (k i hi)⟩) (h2 _ _ _ _ q')
theorem gk_tup {K:PySem.W.Frag} {n m:Nat} {t:TGs} (h:GKs n t):GK n (gTup K m t):=fun v σ H Q ⟨a,xs,e1,e2,e3,q⟩=>⟨a,xs,e1,e2,e3,h _ _ _ _ q⟩
def tComp (own : List Str) (sel : List Nat) (wi : TI) (g : TG) (tt : TT) (te : TE) : TE := fun σ H Q => wi σ H fun J H1 => ∀ D, H1 D = none ->
 ∃ W : Nat -> Nat -> Hp -> Prop, (∃ m, W 0 m (upd H1 D (.lst []))) /\ ∀ i m H2, W i m H2 ->
  (J.stop i H2 /\ Q (.ref D) H2) \/ (J.go i H2 /\ ∀ x H3, J.yld i H2 x H3 -> g x (inSt own sel σ) H3 fun σ4 H4 => tt σ4 H4 fun b H5 =>
   if b = true then te σ4 H5 fun v H6 => ∃ ys, H6 D = some (.lst ys) /\ ys.length < sizeLine /\ ∃ m', m' < m /\ W (i + 1) m' (upd H6 D (.lst (ys ++ [v])))
   else ∃ m', m' < m /\ W (i + 1) m' H5)
section
variable {prog:Program} {w:World} {A:Around} {R:Result->Shared->Prop} {s:Shared}
theorem comp_turns {elt target iter : Expr} {ifs : List Expr} {scope : Scope} {pos : Pos} {it acc : Value} {env : Env} (I : Nat -> Shared -> Prop)
    (turn : ∀ n s, I n s -> wpAny (model prog w) A (pyNext it) (fun r s1 => match r with
      | none => R (.ok .next) s1
      | some v => wpAny (model prog w) A (letOwnedTupleGo target it v) (fun _ s0 => wpAny (model prog w) A (assign target env v) (fun _ s2 =>
          wpAny (model prog w) A (forIn ifs true fun c r => if r = true then do let ok <- isTrue c env (eval c env); pure (ForInStep.yield ok) else pure (ForInStep.yield r)) (fun ok s3 =>
            if ok = true then wpAny (model prog w) A (eval elt env) (fun x s4 => wpAny (model prog w) A (call (.builtin "list.append") [acc, x]) (fun _ s5 => ∃ m, m < n /\ I m s5) (fun _ _ => False) s4) (fun _ _ => False) s3
            else ∃ m, m < n /\ I m s3) (fun _ _ => False) s2) (fun _ _ => False) s0) (fun _ _ => False) s1) (fun _ _ => False) s)
    (n : Nat) (h : I n s) :
    codeAny (model prog w) A (.compLoop (.ListComp elt [⟨target, iter, ifs, 0⟩] scope pos) 0 it acc env) R s := by
  refine codeAny_loop rfl I (fun n s hI => ?_) n h
  show wpAny _ A ((compTurn (.ListComp elt [⟨target, iter, ifs, 0⟩] scope pos) 0 it acc env).onRaise (fun x => do noteFrame x env; theTreesLotGoes x)) _ _ s
  refine wpAny_noted ?_
  rw [compTurn_list]
  refine wpAny_bind (wpAny_standAt (wpAny_bind (wpAny_mono (turn n s hI) (fun r s1 h1 => ?_) fun _ _ z => z.elim)))
  cases r with
  | none => exact wpAny_pure h1
  | some v =>
    refine wpAny_bind (wpAny_mono h1 (fun _ s0 h0 => wpAny_bind (wpAny_mono h0 (fun _ s2 h2 => wpAny_bind (wpAny_mono h2 (fun ok s3 h3 => ?_) fun _ _ z => z.elim)) fun _ _ z => z.elim)) fun _ _ z => z.elim)
    cases ok with
    | false => exact wpAny_pure ⟨rfl, h3⟩
    | true =>
      exact wpAny_bind (wpAny_bind (wpAny_mono h3 (fun x s4 h4 => wpAny_bind (wpAny_mono h4 (fun _ s5 h5 => wpAny_pure (wpAny_pure ⟨rfl, h5⟩)) fun _ _ z => z.elim)) fun _ _ z => z.elim))
end
section
variable {X:Cx}
theorem relabel_lookup {env : Env} : ∀ {names : List (Str × NameKind)} {x : Str} {k : NameKind},
    (names.map fun (n, k) => if (k == NameKind.free && env.scope.kind == .function && env.kindOf n == some .cell) then (n, NameKind.cell) else (n, k)).lookup x = some k ->
    names.lookup x = some k \/ names.lookup x = some .free
  | [], _, _, h => by simp at h
  | (n, k') :: r, x, k, h => by
    have ih := @relabel_lookup env r x k
    have h' : List.lookup x ((if (k' == NameKind.free && env.scope.kind == .function && env.kindOf n == some .cell) = true then (n, NameKind.cell) else (n, k')) :: r.map fun (n, k) => if (k == NameKind.free && env.scope.kind == .function && env.kindOf n == some .cell) then (n, NameKind.cell) else (n, k)) = some k := h
    cases hx : x == n with
    | true =>
      rw [List.lookup_cons, hx]
      by_cases hc : (k' == NameKind.free && env.scope.kind == .function && env.kindOf n == some .cell) = true
      · have : k' = .free := by simp only [Bool.and_eq_true, beq_iff_eq] at hc; exact hc.1.1
        subst this
        exact .inr rfl
      · rw [if_neg hc, List.lookup_cons, hx] at h'
        exact .inl h'
    | false =>
      rw [List.lookup_cons, hx]
      by_cases hc : (k' == NameKind.free && env.scope.kind == .function && env.kindOf n == some .cell) = true
      · rw [if_pos hc, List.lookup_cons, hx] at h'; exact ih h'
      · rw [if_neg hc, List.lookup_cons, hx] at h'; exact ih h'
theorem relabel_free {env : Env} (hk : env.scope.kind = .function) : ∀ {names : List (Str × NameKind)} {x : Str}, names.lookup x = some .free ->
    (names.map fun (n, k) => if (k == NameKind.free && env.scope.kind == .function && env.kindOf n == some .cell) then (n, NameKind.cell) else (n, k)).lookup x = some .cell \/
    (names.map fun (n, k) => if (k == NameKind.free && env.scope.kind == .function && env.kindOf n == some .cell) then (n, NameKind.cell) else (n, k)).lookup x = some .free
  | [], _, h => by simp at h
  | (n, k') :: r, x, h => by
    have ih := @relabel_free env hk r x
    show List.lookup x ((if (k' == NameKind.free && env.scope.kind == .function && env.kindOf n == some .cell) = true then (n, NameKind.cell) else (n, k')) :: _) = _ \/ List.lookup x ((if (k' == NameKind.free && env.scope.kind == .function && env.kindOf n == some .cell) = true then (n, NameKind.cell) else (n, k')) :: _) = _
    cases hx : x == n with
    | true =>
      rw [List.lookup_cons, hx] at h
      by_cases hc : (k' == NameKind.free && env.scope.kind == .function && env.kindOf n == some .cell) = true
      · rw [if_pos hc, List.lookup_cons, hx]; exact .inl rfl
      · rw [if_neg hc, List.lookup_cons, hx]; exact .inr h
    | false =>
      rw [List.lookup_cons, hx] at h
      by_cases hc : (k' == NameKind.free && env.scope.kind == .function && env.kindOf n == some .cell) = true
      · rw [if_pos hc, List.lookup_cons, hx]; exact ih h
      · rw [if_neg hc, List.lookup_cons, hx]; exact ih h
end
end L2
namespace L2
open PySem PySem.Spec PyProof.Rows
section
variable {X:Cx}
theorem inSt_own {own:List Str} {sel:List Nat} {σ:St} {i:Nat} (h:i < own.length):(inSt own sel σ)[i]? = some none:=by
 unfold inSt
 rw [List.getElem?_append_left (by simpa using h),List.getElem?_map,List.getElem?_eq_getElem h]
 rfl
theorem inSt_sel {own : List Str} {sel : List Nat} {σ : St} {i : Nat} {v : V} (h : (inSt own sel σ)[i]? = some (some v)) : ∃ k j, i = own.length + k /\ sel[k]? = some j /\ σ[j]? = some (some v) := by
  by_cases hi : i < own.length
  · rw [inSt_own hi] at h; cases h
  · unfold inSt at h
    rw [List.getElem?_append_right (by simpa using hi), List.getElem?_map] at h
    rw [List.length_map] at h
    cases e : sel[i - own.length]? with
    | none => rw [e] at h; cases h
    | some j =>
      rw [e] at h
      simp only [Option.map_some, Option.some.injEq] at h
      refine ⟨i - own.length, j, by omega, e, ?_⟩
      rw [List.getD_eq_getElem?_getD] at h
      cases q : σ[j]? with
      | none => rw [q] at h; cases h
      | some u => rw [q] at h; simp at h; rw [h]
theorem inSt_len {own:List Str} {sel:List Nat} {σ:St}:(inSt own sel σ).length = own.length + sel.length:=by
 unfold inSt; simp
structure Far (X:Cx) (pins:List (Addr × Obj)) (H:Hp) (C:Addr):Prop where
 nt:H C = none
 nl:C ≠ X.env.locals
 up:X.s₀.heap.objs.size <= C
 nc:∀ x c,X.env.cells.lookup x = some c->c ≠ C
 np:∀ p ∈ X.pn ++ pins,p.1 ≠ C
theorem Inv.far {pins:List (Addr × Obj)} {σ:St} {H:Hp} {s:Shared} {h':Heap} {C:Addr} (I:Inv X pins σ H s) (f:Far X pins H C) (k:Heap.SameBut C s.heap h'):Inv X pins σ H { s with heap:=h' } :=
 I.turned (t':=s.toks) (fun b o hb e=>(k.2 b hb).trans e) f.nt f.nl (.inr f.up) f.nc f.np
theorem comp_core {elt tg iter : Expr} {ifs : List Expr} {scope : Scope} {pos : Pos} {own : List Str} {sel : List Nat} {wi : TI} {g : TG} {tt : TT} {te : TE} {use : Option (Value -> Sem Unit)} {Qo : Value -> Shared -> Prop}
    (S : CompOk X.env.scope X.N own sel scope) (hc : X.calm = true) (hi : PI X tg iter wi)
    (hg : ∀ cl C s2 H2 fp, PG (cxIn X own sel scope cl C s2 H2 fp) tg g) (hk : GK own.length g)
    (ht : ∀ cl C s2 H2 fp, PIf (cxIn X own sel scope cl C s2 H2 fp) ifs tt) (he : ∀ cl C s2 H2 fp, PE (cxIn X own sel scope cl C s2 H2 fp) elt te)
    (hs : ∀ x, foldedSetIterable iter X.env x = pure x) {pins : List (Addr × Obj)} {s : Shared} {σ : St} {H : Hp} {Q : VK} {ps : Pos} (I0 : Inv X pins σ H s) (h : tComp own sel wi g tt te σ H Q)
    (fin : ∀ (D C : Addr) (H' : Hp) (s' : Shared) (m : Str -> Option Value), Inv X pins σ H' s' -> s'.heap.Ns C m -> Far X pins H' C -> Q (.ref D) H' -> compPost (model X.prog X.w) X.A X.xe use Qo (.ref D) C (.ok .next) s') :
    wpAny (model X.prog X.w) X.A (comprehension (.ListComp elt [⟨tg, iter, ifs, 0⟩] scope pos) scope X.env ps (newList []) false (eval iter X.env) use) Qo X.xe s := by
  obtain ⟨cl, hclos, hcl, hfree⟩ := clos_ex (scope := scope) (env := X.env) fun y hy e => I0.ok.has y.1 (S.free y hy e)
  refine wpAny_comprehension_free (use := use) rfl hs hclos S.kind S.names (thn (hi pins s σ H _ I0 h) fun v s1 h1 => thn h1 fun itv s2 h2 => ?_)
  obtain ⟨it, fp, tn, J, H2, e, I, T, st2, f2, h3⟩ := h2
  subst e
  clear h h1 I0
  refine wpAny_newObj_type (wpAny_newFunctionEnv S.cell (by intro y hy; simp at hy) (fun h1 hns1 hsb1 => ?_) S.kind)
  dsimp only at hns1 hsb1 ⊢
  generalize hP : s2.heap.push { cls := .type "list", dict := none, data := .seq ([] : List Value).toArray } = P1 at hns1 hsb1 ⊢
  generalize hD : s2.heap.objs.size = D at hns1 hsb1 ⊢
  generalize hC : P1.objs.size = C at hns1 hsb1 ⊢
  have hCD : C = D + 1 := by rw [<- hC, <- hP, Heap.size_push, hD]
  have hlt : D < C := by rw [hCD]; exact Nat.lt_succ_self D
  have hDC : D ≠ C := Nat.ne_of_lt hlt
  have neC : ∀ b : Addr, b < D -> b ≠ C := fun b hb => Nat.ne_of_lt (Nat.lt_trans hb hlt)
  have neD : ∀ b : Addr, b < D -> b ≠ D := fun b hb => Nat.ne_of_lt hb
  have hsD : s2.heap.objs.size <= D := Nat.le_of_eq hD
  have hsC : s2.heap.objs.size <= C := Nat.le_trans hsD (Nat.le_of_lt hlt)
  have fresh : ∀ a, D <= a -> H2 a = none := fun a ha => I.hok.fresh (by rw [hD]; exact ha)
  have hnD : H2 D = none := fresh D (Nat.le_refl _)
  have hnC : H2 C = none := fresh C (Nat.le_of_lt hlt)
  have below : ∀ b o, s2.heap.get? b = some o -> b < D := fun b o e => by rw [<- hD]; exact Heap.lt_size e
  have keep1 : ∀ b o, s2.heap.get? b = some o -> h1.get? b = some o := fun b o e =>
    hsb1.extBut b o (neC b (below b o e)) (Heap.get?_push_of_some _ (hP ▸ Heap.get?_push_of_some _ e))
  have gD : h1.get? D = some { cls := .type "list", dict := none, data := .seq ([] : List Value).toArray } := by
    refine hsb1.extBut _ _ hDC (Heap.get?_push_of_some _ ?_)
    rw [<- hP, <- hD]
    exact Heap.get?_push_size _ rfl
  obtain ⟨W, ⟨m0, w0⟩, turn⟩ := h3 D hnD
  have fpb : ∀ b ∈ fp, b < D := fun b hb => by obtain ⟨o, e, _⟩ := T.obj _ _ st2 b hb; exact below b o e
  generalize hY : cxIn X own sel scope cl C s2 H2 fp = Y
  have hg := hg cl C s2 H2 fp
  have ht := ht cl C s2 H2 fp
  have he := he cl C s2 H2 fp
  rw [hY] at hg ht he
  have okY : Y.Ok := by
    subst hY
    refine ⟨I.ok.mod, S.kind, I.ok.glob, I.ok.blt, ?_, fun x y c a b => I.ok.inj x y c (hcl _ _ a) (hcl _ _ b), fun x hx => ?_, (fun _ _ z => nomatch z), fun z => I.ok.hd z, I.ok.frames, .inl rfl, fun b hb => ⟨?_, fun x c e => (f2 b hb).2.2.2.2.1 x c (hcl _ _ e)⟩, I.bs,
      Nat.le_trans I.ok.bsz I.sz, fun b o e hb => ?_, fun b hb z => ?_, I.stack, I.stkFree⟩
    · exact hsC
    · have hx' : (relabel scope X.env).names.lookup x = some .cell \/ (relabel scope X.env).names.lookup x = some .free := hx
      have hf : scope.names.lookup x = some .free := by
        rcases hx' with z | z
        · rcases relabel_lookup z with q | q
          · exact absurd rfl (S.cell _ (PySem.mem_of_lookup q))
          · exact q
        · rcases relabel_lookup z with q | q <;> exact q
      exact hfree _ (PySem.mem_of_lookup hf) rfl
    · exact neC b (fpb b hb)
    · rcases (f2 b hb).2.2.2.1 with z | z
      · exact I.ok.noex b o e z
      · exact absurd (Nat.lt_of_lt_of_le (Heap.lt_size e) (Nat.le_trans I.ok.bsz z)) (Nat.lt_irrefl _)
    · rcases List.mem_cons.mp (I.stkSub b z) with q | q
      · exact (f2 b hb).2.1 q
      · exact (f2 b hb).2.2.1 q
  have eo : ObjOk X.prog X.w (upd H2 D (.lst [])) h1 D (.lst []) := ⟨by decide, [], _, .nil, gD⟩
  have I1 : Inv Y [] (inSt own sel σ) (upd H2 D (.lst [])) { s2 with heap := h1, toks := s2.toks + ([] : List (Str × Value)).length } := by
    subst hY
    refine ⟨okY, rfl, I.bare, Un.laid keep1 hsD hnD, ⟨_, hns1, fun i x v e1 e2 e3 => ?_⟩, fun x c e => ?_, ?_, fun x c e => ?_, fun p hp => absurd (show p ∈ ([] : List (Addr × Obj)) from hp) (by simp), I.hok.laid keep1 hsD eo, ?_⟩
    · obtain ⟨k, j, ei, ej, es⟩ := inSt_sel e2
      subst ei
      have e1' : (own ++ sel.map fun j => X.N.getD j Str.empty)[own.length + k]? = some x := e1
      rw [List.getElem?_append_right (by omega), List.getElem?_map, show own.length + k - own.length = k by omega, ej] at e1'
      simp only [Option.map_some, Option.some.injEq] at e1'
      obtain ⟨hj, hfx, hkd⟩ := S.seln j (List.mem_of_getElem? ej)
      have hN : X.N[j]? = some x := by rw [<- e1', List.getD_eq_getElem?_getD, List.getElem?_eq_getElem hj]; rfl
      rw [e1'] at hkd hfx
      obtain ⟨m, _, hl⟩ := I.loc
      obtain ⟨u, r, lk⟩ := hl j x v hN es (.inr hkd)
      refine ⟨u, r, .inr ⟨relabel_free I.ok.kind hfx, ?_⟩⟩
      rcases lk with ⟨z1, _⟩ | ⟨_, c, hc1, hc2⟩
      · have z1' : X.env.scope.names.lookup x = some .local := z1
        rcases hkd with q | q <;> (rw [z1'] at q; cases q)
      · obtain ⟨c', q⟩ := hfree _ (PySem.mem_of_lookup hfx) rfl
        have q2 := hcl _ _ q
        rw [hc1] at q2
        cases q2
        exact ⟨c, q, hc2.keeps keep1⟩
    · obtain ⟨u, z⟩ := I.cell x c (hcl _ _ e)
      exact ⟨u, z.keeps keep1⟩
    · show upd H2 D (.lst []) C = none
      rw [upd_ne (Ne.symm hDC)]; exact hnC
    · have q := I.freeC x c (hcl _ _ e)
      obtain ⟨u, o, z, _⟩ := I.cell x c (hcl _ _ e)
      rw [upd_ne (neD c (below c o z))]
      exact q
    · show (inSt own sel σ).length = (own ++ sel.map fun j => X.N.getD j Str.empty).length
      rw [inSt_len]; simp
  have fin : ∀ (σ' : St) (H' : Hp) (s' : Shared), Inv Y [] σ' H' s' -> Q (.ref D) H' -> compPost (model X.prog X.w) X.A X.xe use Qo (.ref D) C (.ok .next) s' := by
    intro σ' H' s' I' q
    subst hY
    obtain ⟨m, hn, _⟩ := I'.loc
    have J' : Inv X pins σ H' s' := I.call' I'.os I'.base I'.hok I'.bare fun b hb => ⟨(f2 b hb).2.2.2.1, (f2 b hb).2.1, (f2 b hb).2.2.2.2.1, (f2 b hb).2.2.2.2.2⟩
    refine fin D C H' s' m J' hn ⟨I'.free, Ne.symm (neC _ (by rw [<- hD]; exact I.lt)), Nat.le_trans I.sz hsC, fun x c e => ?_, fun p hp => ?_⟩ q
    · obtain ⟨u, o, z, _⟩ := I.cell x c e
      exact neC c (below c o z)
    · exact neC p.1 (below p.1 p.2 (I.pin p hp).1)
  have stat : ∀ {H' : Hp}, (∀ b ∈ fp, H' b = none) -> ∀ b ∈ fp, FpOk Y [] H' b := fun {H'} hn b hb => by
    subst hY
    refine ⟨hn b hb, neC b (fpb b hb), fun z => ?_, .inl hb, fun x c e => (f2 b hb).2.2.2.2.1 x c (hcl _ _ e), fun p hp => absurd (show p ∈ ([] : List (Addr × Obj)) from hp) (by simp)⟩
    rcases List.mem_cons.mp (I.stkSub b z) with q | q
    · exact (f2 b hb).2.1 q
    · exact (f2 b hb).2.2.1 q
  have loop : ∀ s3 : Shared, s3 = { s2 with heap := h1, toks := s2.toks + ([] : List (Str × Value)).length } ->
      codeAny (model X.prog X.w) X.A (.compLoop (.ListComp elt [⟨tg, iter, ifs, 0⟩] scope pos) 0 (.ref it) (.ref D) (compEnvC scope cl C X.env)) (compPost (model X.prog X.w) X.A X.xe use Qo (.ref D) C) s3 := by
    rintro s3 rfl
    have eP : Y.prog = X.prog := by subst hY; rfl
    have eW : Y.w = X.w := by subst hY; rfl
    have eA : Y.A = X.A := by subst hY; rfl
    have eK : Y.K = X.K := by subst hY; rfl
    have eE : Y.env = compEnvC scope cl C X.env := by subst hY; rfl
    have eX : Y.xe = fun _ _ => False := by subst hY; rfl
    have eC : Y.calm = true := by subst hY; exact hc
    refine comp_turns (fun n s' => ∃ i H', Inv Y [] (inSt own sel σ) H' s' /\ tn i s'.heap /\ (∀ b ∈ fp, H' b = none) /\ W i n H') ?_ m0
      ⟨0, _, I1, T.keep _ _ _ st2 fun b _ o e => keep1 b o e, fun b hb => by rw [upd_ne (neD b (fpb b hb))]; exact (f2 b hb).1, w0⟩
    rintro n s4 ⟨i, H4, I4, st4, fr4, w4⟩
    rcases turn i n H4 w4 with ⟨stop, q⟩ | ⟨go, step⟩
    · have dn := T.done Y eP eW eK eC i [] s4 _ H4 (fun _ _ => False) I4 (stat fr4) st4 stop
      rw [eA] at dn
      refine thn dn fun r s5 ⟨hr, I5⟩ => ?_
      subst hr
      exact fin _ _ _ I5 q
    · have im := T.item Y eP eW eK eC i [] s4 _ H4 (fun _ _ => False) I4 (stat fr4) st4 go
      rw [eA] at im
      refine thn im fun r s5 ⟨u, hr, h5⟩ => ?_
      subst hr
      refine thn h5 fun _ s6 ⟨x, H6, I6, r6, y6, st6, fr6⟩ => ?_
      have I6' := I6.pinned (stat fr6) (T.obj _ _ st6)
      have back : ∀ {σ7 : St} {H7 : Hp} {s7 : Shared} {k : Nat}, Inv Y ([] ++ pinsAt fp s6.heap) σ7 H7 s7 -> σ7.length = (inSt own sel σ).length -> (∀ j, own.length <= j -> σ7[j]? = (inSt own sel σ)[j]?) -> (∃ m', m' < n /\ W (i + 1) m' H7) ->
          ∃ m', m' < n /\ ∃ i H', Inv Y [] (inSt own sel σ) H' s7 /\ tn i s7.heap /\ (∀ b ∈ fp, H' b = none) /\ W i m' H' := fun {σ7 H7 s7 k} I7 l7 k7 w7 => by
        obtain ⟨m', hm, w7⟩ := w7
        refine ⟨m', hm, i + 1, H7, I7.unpinned.weak l7.symm fun j v e => ?_, T.keep _ _ _ st6 fun b hb o e => (I7.pin (b, o) (List.mem_append_right _ (List.mem_append_right _ (mem_pinsAt hb e)))).1, fun b hb => ?_, w7⟩
        · by_cases hj : j < own.length
          · rw [inSt_own hj] at e; cases e
          · rw [k7 j (Nat.le_of_not_lt hj)]; exact e
        · obtain ⟨o, e, d⟩ := T.obj _ _ st6 b hb
          exact (I7.pin (b, o) (List.mem_append_right _ (List.mem_append_right _ (mem_pinsAt hb e)))).2.1
      have ga := hg _ s6 _ H6 x u _ I6' r6 (hk _ _ _ _ (step x H6 y6))
      rw [eP, eW, eA, eE, eX] at ga
      refine thn ga fun _ s7 ⟨σ7, H7, I7, q7, l7, k7⟩ => ?_
      have ta := ht _ s7 σ7 H7 _ I7 q7
      rw [eP, eW, eA, eE, eX] at ta
      refine thn ta fun b s8 ⟨H8, I8, q8⟩ => ?_
      cases b with
      | false =>
        rw [if_neg Bool.false_ne_true] at q8 ⊢
        exact back (k := 0) I8 l7 k7 q8
      | true =>
        rw [if_pos rfl] at q8 ⊢
        have ea := he _ s8 σ7 H8 _ I8 q8
        rw [eP, eW, eA, eE, eX] at ea
        refine thn ea fun v s9 ⟨x9, H9, I9, r9, ys, hD9, hz9, q9⟩ => ?_
        have aa := mt_append (X := Y) _ s9 σ7 H9 (.ref D) [x9] (.ref D) [v] (fun _ H' => ∃ m', m' < n /\ W (i + 1) m' H') I9 rfl (.cons r9 .nil) ⟨D, ys, x9, rfl, rfl, hD9, hz9, q9⟩
        rw [eP, eW, eA, eX] at aa
        exact thn aa fun _ s10 ⟨_, H10, I10, _, q10⟩ => back (k := 0) I10 l7 k7 q10
  exact codeAny_compStart_list (loop _ rfl) (T.self X.A 0 _ _ _ (T.keep _ _ _ st2 fun b _ o e => keep1 b o e) (loop _ rfl))
theorem pe_comp {elt tg iter:Expr} {ifs:List Expr} {scope:Scope} {pos:Pos} {own:List Str} {sel:List Nat} {wi:TI} {g:TG} {tt:TT} {te:TE}
  (S:CompOk X.env.scope X.N own sel scope) (hc:X.calm = true) (hi:PI X tg iter wi)
  (hg:∀ cl C s2 H2 fp,PG (cxIn X own sel scope cl C s2 H2 fp) tg g) (hk:GK own.length g)
  (ht:∀ cl C s2 H2 fp,PIf (cxIn X own sel scope cl C s2 H2 fp) ifs tt) (he:∀ cl C s2 H2 fp,PE (cxIn X own sel scope cl C s2 H2 fp) elt te)
  (hs:∀ x,foldedSetIterable iter X.env x = pure x:=by intro _; rfl) :
  PE X (.ListComp elt [⟨tg,iter,ifs,0⟩] scope pos) (tComp own sel wi g tt te):=by
 intro pins s σ H Q I h
 rw [eval_ListComp]
 refine comp_core (use:=none) S hc hi hg hk ht he hs I h fun D C H' s' m I' hn f q=>?_
 exact ⟨m,hn,fun h' k=>⟨.ref D,H',I'.far f k,rfl,q⟩⟩
theorem ps_setComp {i:Nat} {x:Str} {pos' spos:Pos} {elt tg iter:Expr} {ifs:List Expr} {scope:Scope} {pos:Pos} {own:List Str} {sel:List Nat} {wi:TI} {g:TG} {tt:TT} {te:TE}
  (hN:X.N.Nodup) (hix:X.N[i]? = some x) (hx:Loc X.env.scope x)
  (S:CompOk X.env.scope X.N own sel scope) (hc:X.calm = true) (hi:PI X tg iter wi)
  (hg:∀ cl C s2 H2 fp,PG (cxIn X own sel scope cl C s2 H2 fp) tg g) (hk:GK own.length g)
  (ht:∀ cl C s2 H2 fp,PIf (cxIn X own sel scope cl C s2 H2 fp) ifs tt) (he:∀ cl C s2 H2 fp,PE (cxIn X own sel scope cl C s2 H2 fp) elt te)
  (hs:∀ x,foldedSetIterable iter X.env x = pure x:=by intro _; rfl)
  (hsw:swapsWith (.ListComp elt [⟨tg,iter,ifs,0⟩] scope pos) (some (.Name x pos')) spos.line X.env = pure true:=by rfl)
  (hf:X.fn x = true\/X.env.scope.names.lookup x = some .local:=by first | exact .inl rfl | exact .inr rfl | assumption) :
  PS X (.Assign [.Name x pos'] (.ListComp elt [⟨tg,iter,ifs,0⟩] scope pos) spos) (tAsg (tComp own sel wi g tt te) (gName i)):=by
 intro pins s σ H D0 I h
 rw [exec_Assign_Name_used _ _ _ _ hsw]
 refine wpAny_bind (wpAny_standAt (wpAny_bind ?_))
 show wpAny _ X.A (do let _ <- comprehension (.ListComp elt [⟨tg,iter,ifs,0⟩] scope pos) scope X.env _ (newList []) false (eval iter X.env) (some (assign (.Name x pos') X.env))) _ _ s
 refine wpAny_bind (wpAny_mono (comp_core (use:=some (assign (.Name x pos') X.env)) (Qo:=fun _ s'=>SP X pins D0 .next s') S hc hi hg hk ht he hs I h fun D C H' s' m I' hn f q=>?_) (fun _ s' hq=>wpAny_pure (wpAny_pure hq)) fun _ _ e=>e)
 show wpAny _ X.A (assign (.Name x pos') X.env (.ref D)) _ _ _
 refine wpAny_assign_Name (store_ok2 (v:=V.ref D) I' hN hix hx rfl (fun s2 I2 ⟨a,k,ha⟩=>?_) hf)
 have haC:C ≠ a:=by
  rcases ha with rfl | ha
  ·exact f.nl
  ·exact Ne.symm (f.nc x a ha)
 exact ⟨m,hn.sameBut k haC,fun h' k'=>⟨_,H',I2.far f k',q⟩⟩
end
end L2
namespace L2
open PySem PySem.Spec PyProof.Rows
section
variable {X:Cx} {pins:List (Addr × Obj)} {σ:St} {H:Hp} {s:Shared} {h':Heap}
theorem Inv.bigAfter {ch:List Addr} (I:Inv X pins σ H s) (hf:∀ b ∈ ch,FpOk X pins H b) (k:∀ b u,b ∉ ch->s.heap.get? b = some u->h'.get? b = some u):∃ b o,1 < b/\h'.get? b = some o:=by
 obtain ⟨o,_,_,e,_⟩:=I.ok.mod.glob
 refine ⟨mainGlobals,o,by decide,k _ _ (fun z=>?_) (I.bk _ _ e)⟩
 rcases (hf _ z).2.2.2.1 with q | q
 ·exact I.ok.noex _ _ e q
 ·exact absurd (Nat.lt_of_lt_of_le (Heap.lt_size e) (Nat.le_trans I.ok.bsz q)) (Nat.lt_irrefl _)
theorem Inv.turnedAll {t':Nat} {ch:List Addr} (I:Inv X pins σ H s) (hf:∀ b ∈ ch,FpOk X pins H b) (k:∀ b u,b ∉ ch->s.heap.get? b = some u->h'.get? b = some u):Inv X pins σ H { s with heap:=h',toks:=t' }:=by
 have nt:∀ b u,H b = some u->b ∉ ch:=fun b u e z=>by rw [(hf b z).1] at e; cases e
 refine I.step (g':=s.gens) (d':=s.drawn) (ch:=ch) (fun b hb=>⟨(hf b hb).2.2.2.1,(hf b hb).2.1,(hf b hb).2.2.2.2.1,(hf b hb).2.2.2.2.2⟩) (fun b u _ _ hc e _=>k b u hc e) (fun b u _ _ hc e _=>⟨u.slots,k b u hc e⟩)
  (fun b u _ e n=>n) (fun b u hc e=>⟨u,k b u hc e⟩) (fun b xs e=>e) (fun b u xs e=>e) (fun b ps e=>⟨#[],by rw [e]; simp⟩) (fun m hm=>?_) ⟨fun b u e=>?_,I.hok.sm,I.bigAfter hf k⟩ I.bare
 ·obtain ⟨ob,es,ep,ho,r⟩:=hm
  exact ⟨ob,es,ep,k _ ob (fun z=>(hf _ z).2.1 rfl) ho,r⟩
 ·refine (I.hok b u e).stay (fun c v hc q=>k c v ?_ q) (fun c q=>q) fun c xs q=>q
  rcases hc with z | z
  ·rw [z]; exact nt b u e
  ·exact nt c _ z
end
def Its (x:Str):It:=⟨fun i _=>i < x.cps.size,fun i H v H'=>H' = H/\∃ c,x.cps[i]? = some c/\v = .str ⟨#[c]⟩,fun i _=>i = x.cps.size⟩
section
variable {P:Program} {w:World} {K:PySem.W.Frag} {tg:Expr}
theorem turn_str {x:Str} {t:Tok} {T:String} {it:Addr} (hT:T = "str_ascii_iterator"\/T = "str_iterator")
  (W:∀ A:Around,A.handled = none->Walks P w A it [it] [it] x.cps.size (SignAt x) (fun i h=>h.IsStrIter it T x t i))
  (sf:∀ (A:Around) (i:Nat) (s:Shared) (Q:Value->Shared->Prop) (E:Value->Shared->Prop),s.heap.IsStrIter it T x t i->Q (.ref it) s->wpAny (model P w) A (pyIter (.ref it)) Q E s) :
  Turn P w K tg (Its x) [it] it (fun i h=>h.IsStrIter it T x t i) where
 mem:=by simp
 obj:=fun i h st b hb=>by
  obtain ⟨o,ho,_,hd⟩:=st
  have e:b = it:=by simpa using hb
  subst e
  exact ⟨o,ho,fun v z=>by rw [hd] at z; cases z⟩
 keep:=fun i h h' st k=>by
  obtain ⟨o,ho,r⟩:=st
  exact ⟨o,k it (by simp) o ho,r⟩
 item:=by
  intro X hP hw hK hc i pins s σ H E I hf st hg
  subst hP hw hK
  refine (W X.A (I.ok.hd hc)).item i s _ _ hg st fun v h' tk hv st' kk=>?_
  obtain ⟨c,u,hx,rfl⟩:=hv
  obtain ⟨o,ho,hcl,hd⟩:=id st'
  have I1:Inv X pins σ H { s with heap:=h',toks:=tk }:=I.turnedAll hf kk
  refine ⟨_,rfl,go_of (s:={ s with heap:=h',toks:=tk }) (n:=T) ho hcl hd (by rcases hT with rfl | rfl <;> decide) ⟨.str ⟨#[c]⟩,H,I1,⟨u,rfl⟩,⟨rfl,c,hx,rfl⟩,st',fun b hb=>(hf b hb).1⟩⟩
 done:=by
  intro X hP hw hK hc i pins s σ H E I hf st hg
  subst hP hw hK
  have e:i = x.cps.size:=hg
  subst e
  exact (W X.A (I.ok.hd hc)).done s _ _ st fun h' tk kk=>⟨rfl,I.turnedAll hf kk⟩
 self:=fun A i s Q E st h=>sf A i s Q E st h
end
def iStr (tl:TE):TI:=fun σ H R=>tl σ H fun x H1=>∃ z,x = .str z/\R (Its z) H1
theorem pi_str {X:Cx} {tg l:Expr} {tl:TE} (hl:PE X l tl):PI X tg l (iStr tl):=by
 intro pins s σ H R I h
 refine thn (hl pins s σ H _ I h) fun v s1 ⟨x,H1,I1,r1,q1⟩=>?_
 obtain ⟨z,rfl,q⟩:=q1
 obtain ⟨t,rfl⟩:=r1
 have side:∀ b ∈ [s1.heap.objs.size],FpOk X pins H1 b:=fun b hb=>by
  have e:b = s1.heap.objs.size:=by simpa using hb
  subst e
  exact I1.fpOk (Nat.le_refl _) (I1.hok.fresh (Nat.le_refl _))
 cases ha:z.cps.all (· < 128)
 ·refine wpAny_pyIter_wide ha ⟨s1.heap.objs.size,[s1.heap.objs.size],_,_,H1,rfl,I1.kept (t':=s1.toks) fun b o e=>Heap.get?_push_of_some _ e,turn_str (t:=t) (T:="str_iterator") (.inr rfl) (fun A hh=>Walks.strWide hh _ z t) (fun A i s Q E st h=>wpAny_pyIter_striter_wide st h),⟨_,Heap.get?_push_size _ rfl,rfl,rfl⟩,side,q⟩
 ·refine wpAny_pyIter_ascii ha ⟨s1.heap.objs.size,[s1.heap.objs.size],_,_,H1,rfl,I1.kept (t':=s1.toks) fun b o e=>Heap.get?_push_of_some _ e,turn_str (t:=t) (T:="str_ascii_iterator") (.inl rfl) (fun A hh=>Walks.strAscii hh _ z t) (fun A i s Q E st h=>wpAny_pyIter_striter_ascii st h),⟨_,Heap.get?_push_size _ rfl,rfl,rfl⟩,side,q⟩
section
variable {P:Program} {w:World} {K:PySem.W.Frag} {elts:List Expr} {k:Nat} {tpos:Pos}
end
section
variable {X:Cx} {a:Expr} {ta:TA} {p pos:Pos} {elts:List Expr} {k:Nat} {tpos:Pos}
end
end L2
namespace L2
open PySem PySem.Spec PyProof.Rows
def tx (l:List Nat):V:=.str ⟨l.toArray⟩
theorem tx_inj {a b:List Nat}:tx a = tx b ↔ a = b:=by
 unfold tx
 constructor
 ·intro h
  injection h with h
  injection h with h
  simpa using congrArg Array.toList h
 ·rintro rfl; rfl
theorem tx_len (a:List Nat):(⟨a.toArray⟩:Str).length = a.length:=by simp [Str.length]
theorem eqV_tx (a b:List Nat):eqV (tx a) (tx b) = decide (a = b):=by
 have e:eqV (tx a) (tx b) = ((⟨a.toArray⟩:Str) == ⟨b.toArray⟩):=rfl
 rw [e]
 by_cases h:a = b
 ·subst h; simp
 ·rw [decide_eq_false h,beq_eq_false_iff_ne]
  intro q
  exact h (tx_inj.mp (congrArg V.str q))
theorem dec_tx (a b:List Nat):decide (tx a = tx b) = decide (a = b):=by
 by_cases h:a = b
 ·subst h; simp
 ·rw [decide_eq_false h,decide_eq_false (fun q=>h (tx_inj.mp q))]
section
variable {X:Cx}
theorem pe_tx {x:Str} {l:List Nat} {j pos} (h:x = ⟨l.toArray⟩):PE X (.Constant (.str x) j pos) (tC (tx l)):=by
 subst h
 exact pe_str
theorem op_addT:OpR X (binaryOp .Add) (fun x y H Q=>∃ a b,x = tx a/\y = tx b/\a.length + b.length <= sizeLine/\Q (tx (a ++ b)) H):=by
 intro pins s σ H x y v u Q I rx ry ⟨a,b,e1,e2,hz,q⟩
 subst e1 e2
 refine op_add_str pins s σ H _ _ v u Q I rx ry ⟨_,_,rfl,rfl,by rw [tx_len,tx_len]; exact hz,?_⟩
 have e:(V.str ((⟨a.toArray⟩:Str) ++ ⟨b.toArray⟩)) = tx (a ++ b):=by
  unfold tx
  congr 1
  show (⟨a.toArray ++ b.toArray⟩:Str) = _
  simp
 rw [e]; exact q
def rIxT':R2:=fun x y H Q=>∃ a i c,x = tx a/\y = .int i/\a.length <= sizeLine/\atI a i = some c/\Q (tx [c]) H
theorem ix_T:IxR X rIxT':=by
 intro value slice pins s σ H x y v u Q I rx ry ⟨a,i,c,e1,e2,hz,he,q⟩ hs
 subst e1 e2
 exact ix_str value slice pins s σ H _ _ v u Q I rx ry ⟨_,i,c,rfl,rfl,by rw [tx_len]; exact hz,by simpa using he,q⟩ hs
theorem call_lenT:CallR X (.builtin "len") (fun xs H Q=>∃ a,xs = [tx a]/\a.length <= sizeLine/\Q (.int a.length) H):=by
 intro pins s σ H xs us Q I r ⟨a,e,hz,q⟩
 subst e
 refine call_len_str pins s σ H _ us Q I r ⟨_,rfl,by rw [tx_len]; exact hz,?_⟩
 rw [tx_len]; exact q
theorem op_inT:OpR X (compareOp .In) (fun x y H Q=>∃ c l,x = tx [c]/\y = tx l/\Q (.bl (decide (c ∈ l))) H):=by
 intro pins s σ H x y v u Q I rx ry ⟨c,l,e1,e2,q⟩
 subst e1 e2
 refine op_in_str pins s σ H _ _ v u Q I rx ry ⟨_,_,rfl,rfl,?_⟩
 have e:=PySem.StrLaws.found_one (⟨l.toArray⟩:Str) c
 simp only at e
 rw [show (⟨[c].toArray⟩:Str) = ⟨#[c]⟩ from rfl,e]
 exact q
theorem rep_fold (a : List Nat) : ∀ (n : Nat) (acc : Array Nat), ((List.replicate n a.toArray).foldl (· ++ ·) acc) = (acc.toList ++ (List.replicate n a).flatten).toArray
  | 0, acc => by simp
  | n + 1, acc => by
    rw [List.replicate_succ, List.foldl_cons, rep_fold a n, List.replicate_succ, List.flatten_cons]
    simp
theorem op_mulT:OpR X (binaryOp .Mult) (fun x y H Q=>∃ a k,x = tx a/\y = .int k/\0 <= k/\k <= 1000/\a.length <= 1000/\Q (tx (List.replicate k.toNat a).flatten) H):=by
 intro pins s σ H x y v u Q I rx ry ⟨a,k,e1,e2,h0,h1,hl,q⟩
 subst e1 e2
 obtain ⟨t,rfl⟩:=rx
 obtain ⟨t',rfl⟩:=ry
 have e:Txt.mul ⟨a.toArray⟩ k = ⟨((List.replicate k.toNat a).flatten).toArray⟩:=by
  unfold Txt.mul
  by_cases hk:k < 1
  ·have:k = 0:=by omega
   subst this
   rfl
  ·rw [if_neg hk]
   split
   ·rename_i hc
    rw [tx_len] at hc
    simp only [Bool.or_eq_true,beq_iff_eq] at hc
    rcases hc with hc | hc
    ·subst hc; simp
    ·have:a = []:=List.length_eq_zero_iff.mp hc
     subst this
     simp
   ·simp only
    rw [rep_fold]
    simp
 refine SB.mul ⟨by simp; omega,fun h2 _=>?_,fun h2 _=>?_⟩ fun t2 tk=>⟨tx (List.replicate k.toNat a).flatten,H,I.tok tk,⟨t2,by rw [e]⟩,q⟩
 ·rw [tx_len]
  have:(1000:Int) <= (2 ^ 63 - 1) / k:=by
   refine Int.le_ediv_of_mul_le (by omega) ?_
   omega
  omega
 ·rw [tx_len]
  unfold Builtin.Str.tooLong
  have hs:sizeLine = 16777216:=sizeLine_eq
  have:a.length * k.toNat <= 1000 * 1000:=Nat.mul_le_mul hl (by omega)
  simp; omega
def cutL {α:Type} (xs:List α) (lo hi:Option Int):List α:=(xs.drop (HT.sIx xs.length 0 lo)).take (HT.sIx xs.length xs.length hi - HT.sIx xs.length 0 lo)
theorem clipS (v : Option Int) (n d : Nat) (hd : d <= n) : (match v with | none => (d : Int) | some i => max 0 (min (if i < 0 then i + (n : Int) else i) (n : Int))) = ((HT.sIx n d v : Nat) : Int) := by
  cases v with
  | none => rfl
  | some i =>
    show max 0 (min (if i < 0 then i + (n : Int) else i) (n : Int)) = (((if i < 0 then (i + (n : Int)).toNat else min i.toNat n) : Nat) : Int)
    by_cases hv : i < 0
    · simp only [if_pos hv]; omega
    · simp only [if_neg hv]; omega
theorem idx_run (lo hi:Option Int) (n:Nat):Builtin.Str.strSliceIndices lo hi 1 n = (List.range (HT.sIx n n hi - HT.sIx n 0 lo)).map fun k=>HT.sIx n 0 lo + k:=by
 have h1:(1:Int) > 0:=by omega
 have key:Builtin.Str.strSliceIndices lo hi 1 n = sliceRange ((HT.sIx n 0 lo:Nat):Int) ((HT.sIx n n hi:Nat):Int) 1:=by
  unfold Builtin.Str.strSliceIndices
  simp only [h1,if_true]
  congr 1
  ·cases lo with
   | none=>rfl
   | some i=>exact clipS (some i) n 0 (Nat.zero_le _)
  ·cases hi with
   | none=>rfl
   | some i=>exact clipS (some i) n n (Nat.le_refl _)
 rw [key]
 unfold sliceRange
 simp only [h1,if_true]
 have e3:(if ((HT.sIx n 0 lo:Nat):Int) < ((HT.sIx n n hi:Nat):Int) then (((HT.sIx n n hi:Nat):Int) - ((HT.sIx n 0 lo:Nat):Int) + 1 - 1) / 1 else 0).toNat = HT.sIx n n hi - HT.sIx n 0 lo:=by
  split <;> omega
 rw [e3]
 refine List.map_congr_left fun k _=>?_
 omega
theorem pick_cut (a : List Nat) (i k : Nat) : ((List.range k).map fun m => i + m).filterMap (fun j => a.toArray[j]?) = (a.drop i).take k := by
  rw [List.filterMap_map]
  induction k generalizing i with
  | zero => simp
  | succ k ih =>
    rw [List.range_succ, List.filterMap_append, ih i, List.take_add_one]
    congr 1
    simp only [List.filterMap_cons, List.filterMap_nil, Function.comp]
    rw [List.getElem?_drop]
    simp only [List.getElem?_toArray]
    cases a[i + k]? <;> rfl
theorem cut_le {α:Type} (a:List α) (lo hi:Option Int):(cutL a lo hi).length <= a.length:=by
 unfold cutL; rw [List.length_take,List.length_drop]; omega
def rSlS:V->Option Int->Option Int->Hp->VK->Prop:=fun x lo hi H Q=>∃ a,x = tx a/\a.length <= sizeLine/\Q (tx (cutL a lo hi)) H
theorem sl_T:SlR X rSlS:=by
 intro pins s σ H x v vl vu lo hi sl Q I rx hs pl pu ⟨a,e,hz,q⟩
 subst e
 obtain ⟨t,rfl⟩:=rx
 refine ⟨"str",_,F.slot_str_getitem.lookup,typeIs_str _ _ _,?_⟩
 obtain ⟨l,el,ml⟩:∃ l:Option (Int × Tok),vl = partValue l/\l.map (·.1) = lo:=by
  cases pl with
  | none=>exact ⟨none,rfl,rfl⟩
  | int i t=>exact ⟨some (i,t),rfl,rfl⟩
 obtain ⟨u,eu,mu⟩:∃ u:Option (Int × Tok),vu = partValue u/\u.map (·.1) = hi:=by
  cases pu with
  | none=>exact ⟨none,rfl,rfl⟩
  | int i t=>exact ⟨some (i,t),rfl,rfl⟩
 subst el eu
 refine wpAny_getItem_str_slice (l:=l) (u:=u) (st:=none) hs rfl ?_
 have hle:=cut_le a lo hi
 have ep:slicePicked ⟨a.toArray⟩ l u none = (List.range (HT.sIx a.length a.length hi - HT.sIx a.length 0 lo)).map fun k=>HT.sIx a.length 0 lo + k:=by
  unfold slicePicked
  rw [ml,mu,tx_len]
  exact idx_run lo hi a.length
 have ec:((slicePicked ⟨a.toArray⟩ l u none).filterMap (a.toArray[·]?)) = cutL a lo hi:=by
  rw [ep]; exact pick_cut a _ _
 unfold sliceMade
 refine post_val_or_str ?_
 have fin:(if ((Option.map (fun x=>x.1) (none:Option (Int × Tok))).getD 1 == 1 && (slicePicked ⟨a.toArray⟩ l u none).length == (⟨a.toArray⟩:Str).length) = true then (⟨a.toArray⟩:Str) else ⟨((slicePicked ⟨a.toArray⟩ l u none).filterMap (a.toArray[·]?)).toArray⟩) = ⟨(cutL a lo hi).toArray⟩:=by
  rw [ec]
  split
  ·rename_i hc
   rw [ep,tx_len] at hc
   simp only [Option.map_none,Option.getD_none,beq_self_eq_true,Bool.true_and,List.length_map,List.length_range,beq_iff_eq] at hc
   have hl:HT.sIx a.length a.length hi <= a.length:=HT.sIx_le _ _ (Nat.le_refl _) _
   have h0:HT.sIx a.length 0 lo = 0\/a.length = 0:=by omega
   unfold cutL
   rw [hc]
   rcases h0 with h0 | h0
   ·rw [h0,List.drop_zero,List.take_length]
   ·have:a = []:=List.length_eq_zero_iff.mp h0
    subst this
    simp
  ·rfl
 have fin':=fin
 simp only at fin' ⊢
 rw [fin']
 refine ⟨by rw [tx_len]; omega,fun t' k=>⟨tx (cutL a lo hi),H,I.tok k,⟨t',rfl⟩,q⟩⟩
theorem call_isi:CallR X (.builtin "isinstance") (fun xs H Q=>∃ x T t b,xs = [x,.ty T]/\TyOf X.K H x t/\PySem.W.kitOne X.K t (.type T) = some b/\Q (.bl b) H):=by
 intro pins s σ H xs us Q I r ⟨x,T,t,b,e,ty,hk,q⟩
 subst e
 obtain ⟨u,w',rfl,ru,rw'⟩:=vals2 r
 cases rw'
 exact isinst_ok I ru ty hk fun tk=>⟨.bl b,H,I.tok tk,rfl,q⟩
theorem call_allL:CallR X (.builtin "all") (fun xs H Q=>X.calm = true/\∃ (a:Addr) (bs:List Bool),xs = [.ref a]/\SqL X.K H a (bs.map V.bl)/\Q (.bl (bs.all id)) H):=by
 intro pins s σ H xs us Q I r ⟨hc,a,bs,e,hq,q⟩
 subst e
 obtain ⟨u,rfl,ru⟩:=vals1 r
 cases ru
 obtain ⟨its,rv,pl,hz⟩:=I.list hq
 obtain ⟨ol,hol,_⟩:=id pl.isList
 have hl:a < s.heap.objs.size:=Heap.lt_size hol
 have hlen:=rv.length
 rw [List.length_map] at hlen
 refine call_all_walk (wpAny_pyIter_list pl.isList ⟨s.heap.objs.size,_,_,_,_,_,fun i=>bs.getD i false,rfl,Walks.list (A:=X.A.in1) (I.ok.hd hc) s.heap.objs.size a (Nat.ne_of_lt hl) its.toArray,⟨⟨_,Heap.get?_push_size _ rfl,rfl,rfl⟩,pl.isList.at fun o e=>Heap.get?_push_of_some _ e⟩,?_,fun h' tk kk=>?_⟩)
 ·intro i v s' Q' E' hv hQ'
  have hv':its[i]? = some v:=by simpa using hv
  have hi:i < bs.length:=by rw [hlen]; exact (List.getElem?_eq_some_iff.mp hv').1
  obtain ⟨w',e1,e2⟩:=rv.get (i:=i) (x:=V.bl bs[i]) (by simp [hi])
  rw [hv'] at e1
  cases e1
  cases e2
  have:bs.getD i false = bs[i]:=by simp [List.getD_eq_getElem?_getD,hi]
  simp only [this] at hQ'
  exact wpAny_truthy_bool hQ'
 ·have e:(List.range its.toArray.size).all (fun i=>bs.getD i false) = bs.all id:=by
   rw [List.size_toArray,<- hlen]
   rw [Bool.eq_iff_iff]
   simp only [List.all_eq_true,List.mem_range,id]
   constructor
   ·intro h b hb
    obtain ⟨i,hi,rfl⟩:=List.mem_iff_getElem.mp hb
    have:=h i hi
    simpa [List.getD_eq_getElem?_getD,hi] using this
   ·intro h i hi
    have:=h bs[i] (List.getElem_mem hi)
    simpa [List.getD_eq_getElem?_getD,hi] using this
  rw [e]
  have I1:Inv X pins σ H { s with heap:=s.heap.push { cls:=.type "list_iterator",data:=.fields #[.ref a,.int 0 0] } }:=I.kept (t':=s.toks) fun b o z=>Heap.get?_push_of_some _ z
  refine ⟨.bl (bs.all id),H,I.kept (t':=tk) fun b o z=>kk b o (fun y=>?_) (Heap.get?_push_of_some _ z),rfl,q⟩
  exact absurd (Heap.lt_size z) (by rw [List.mem_singleton.mp y]; exact Nat.lt_irrefl _)
def eqVs:List V->List V->Bool
 | [],[]=>true
 | x :: xs,y :: ys=>eqV x y && eqVs xs ys
 | _,_=>false
theorem eqVs_len : ∀ {xs ys : List V}, xs.length ≠ ys.length -> eqVs xs ys = false
  | [], [], h => absurd rfl h
  | [], _ :: _, _ => rfl
  | _ :: _, [], _ => rfl
  | x :: xs, y :: ys, h => by
    have : eqVs xs ys = false := eqVs_len (by simpa using h)
    show (eqV x y && eqVs xs ys) = false
    rw [this, Bool.and_false]
theorem eqVs_range : ∀ (xs ys : List V), xs.length = ys.length -> (List.range xs.length).all (fun i => eqV (xs.getD i .non) (ys.getD i .non)) = eqVs xs ys
  | [], [], _ => rfl
  | x :: xs, y :: ys, h => by
    have ih := eqVs_range xs ys (by simpa using h)
    rw [List.length_cons, List.range_succ_eq_map, List.all_cons, List.all_map]
    show (eqV x y && _) = (eqV x y && eqVs xs ys)
    rw [<- ih]
    rfl
  | [], _ :: _, h => by simp at h
  | _ :: _, [], h => by simp at h
theorem eqVs_at {A:Around} {s:Shared} {xs ys:List V} {us ws:List Value} (r1:Vals xs us) (r2:Vals ys ws) (f1:xs.all flatV = true) (f2:ys.all flatV = true) :
  ∀ j (h1:j < us.toArray.size) (h2:j < ws.toArray.size),SeqAt.EqAt A s us.toArray[j] ws.toArray[j] (eqV (xs.getD j .non) (ys.getD j .non)):=by
 intro j h1 h2
 have l1:=r1.length
 have l2:=r2.length
 rw [List.size_toArray] at h1 h2
 have k1:j < xs.length:=by omega
 have k2:j < ys.length:=by omega
 obtain ⟨u,e1,q1⟩:=r1.get (i:=j) (x:=xs[j]) (by simp [k1])
 obtain ⟨w',e2,q2⟩:=r2.get (i:=j) (x:=ys[j]) (by simp [k2])
 have eu:us.toArray[j] = u:=by
  have:=List.getElem?_eq_getElem (l:=us) (i:=j) h1
  rw [e1] at this
  simpa using (Option.some.inj this).symm
 have ew:ws.toArray[j] = w':=by
  have:=List.getElem?_eq_getElem (l:=ws) (i:=j) h2
  rw [e2] at this
  simpa using (Option.some.inj this).symm
 rw [eu,ew]
 have g1:xs.getD j .non = xs[j]:=by simp [List.getD_eq_getElem?_getD,k1]
 have g2:ys.getD j .non = ys[j]:=by simp [List.getD_eq_getElem?_getD,k2]
 rw [g1,g2]
 exact eqAt_V q1 q2 (List.all_eq_true.mp f1 _ (List.getElem_mem k1)) (List.all_eq_true.mp f2 _ (List.getElem_mem k2))
def rEqL (K:PySem.W.Frag) (neg:Bool):R2:=fun x y H Q=>∃ a b xs ys,x = .ref a/\y = .ref b/\SqL K H a xs/\SqL K H b ys/\xs.all flatV = true/\ys.all flatV = true/\Q (.bl (if neg then !eqVs xs ys else eqVs xs ys)) H
theorem op_eqL (hu:X.A.units < cLine):OpR X (compareOp .Eq) (rEqL X.K false):=by
 intro pins s σ H x y v u Q I rx ry ⟨a,b,xs,ys,e1,e2,q1,q2,f1,f2,q⟩
 subst e1 e2
 cases rx
 cases ry
 obtain ⟨us,r1,p1,z1⟩:=I.list q1
 obtain ⟨ws,r2,p2,z2⟩:=I.list q2
 have l1:=r1.length
 have l2:=r2.length
 by_cases hl:xs.length = ys.length
 ·refine SeqAt.eq_listAt p1.isList p2.isList (by simp; omega) hu (eqVs_at r1 r2 f1 f2) ⟨.bl _,H,I,rfl,?_⟩
  rw [List.size_toArray,<- l1,eqVs_range xs ys hl]
  exact q
 ·refine SeqAt.eq_list_lengthsAt p1.isList p2.isList (by simp; omega) hu ⟨.bl _,H,I,rfl,?_⟩
  rw [<- eqVs_len hl]
  exact q
theorem op_neL (hu:X.A.units < cLine):OpR X (compareOp .NotEq) (rEqL X.K true):=by
 intro pins s σ H x y v u Q I rx ry ⟨a,b,xs,ys,e1,e2,q1,q2,f1,f2,q⟩
 subst e1 e2
 cases rx
 cases ry
 obtain ⟨us,r1,p1,z1⟩:=I.list q1
 obtain ⟨ws,r2,p2,z2⟩:=I.list q2
 have l1:=r1.length
 have l2:=r2.length
 by_cases hl:xs.length = ys.length
 ·refine SeqAt.RcNeAt.lists p1.isList p2.isList (by simp; omega) hu (eqVs_at r1 r2 f1 f2) _ _ _ _ ⟨.bl _,H,I,rfl,?_⟩
  rw [List.size_toArray,<- l1,eqVs_range xs ys hl]
  exact q
 ·refine SeqAt.RcNeAt.lists_lengths p1.isList p2.isList (by simp; omega) hu _ _ _ _ ⟨.bl _,H,I,rfl,?_⟩
  have:eqVs xs ys = false:=eqVs_len hl
  rw [if_pos rfl,this] at q
  exact q
def litV:V->Bool
 | .non=>true
 | .bl _=>true
 | _=>false
theorem op_isNotB:OpR X (compareOp .IsNot) (fun x y H Q=>litV y = true/\Q (.bl (!decide (x = y))) H):=by
 intro pins s σ H x y v u Q I rx ry ⟨hl,q⟩
 refine wpAny_isNot_plain ?_ ⟨.bl _,H,I,?_,q⟩
 ·cases y <;> first
   | (exact absurd hl Bool.false_ne_true)
   | (cases ry; cases x <;> first | (cases rx; rfl) | (obtain ⟨t,rfl⟩:=rx; rfl))
 ·cases y <;> first
   | (exact absurd hl Bool.false_ne_true)
   | (cases ry; cases x <;> first | (cases rx; rfl) | (obtain ⟨t,rfl⟩:=rx; rfl) | (cases rx; rename_i b1 _ b2; cases b1 <;> cases b2 <;> rfl) | (cases rx; rename_i b1 b2; cases b1 <;> cases b2 <;> rfl) | (cases rx; rename_i b1 _ b2 _; cases b1 <;> cases b2 <;> rfl))
end
end L2
namespace L2
open PySem PySem.Spec PyProof.Rows
section
variable {X:Cx}
def rPlus:R2:=fun x y H Q=>(∃ i j,x = .int i/\y = .int j/\Q (.int (i + j)) H)\/(∃ a b,x = tx a/\y = tx b/\a.length + b.length <= sizeLine/\Q (tx (a ++ b)) H)\/rCat x y H Q
theorem op_plus:OpR X (binaryOp .Add) rPlus:=op_add.or (op_addT.or op_cat)
def rMulT:R2:=fun x y H Q=>∃ a k,x = tx a/\y = .int k/\0 <= k/\k <= 1000/\a.length <= 1000/\Q (tx (List.replicate k.toNat a).flatten) H
def rTimes:R2:=fun x y H Q=>(∃ i j,x = .int i/\y = .int j/\CMul i j/\Q (.int (i * j)) H)\/rRep x y H Q\/rMulT x y H Q
theorem op_times:OpR X (binaryOp .Mult) rTimes:=op_mul.or (op_rep.or op_mulT)
def rEqA (K:PySem.W.Frag):R2:=fun x y H Q=>rEq x y H Q\/rEqL K false x y H Q
theorem op_eqA (K:PySem.W.Frag) (hu:X.A.units < cLine) (hK:X.K = K:=by rfl):OpR X (compareOp .Eq) (rEqA K):=by subst hK; exact op_eq.or (op_eqL hu)
def rNeA (K:PySem.W.Frag):R2:=fun x y H Q=>rNe x y H Q\/rEqL K true x y H Q
theorem op_neA (K:PySem.W.Frag) (hu:X.A.units < cLine) (hK:X.K = K:=by rfl):OpR X (compareOp .NotEq) (rNeA K):=by subst hK; exact op_ne.or (op_neL hu)
def rInA (K:PySem.W.Frag):R2:=fun x y H Q=>(∃ c l,x = tx [c]/\y = tx l/\Q (.bl (decide (c ∈ l))) H)\/rIn K false x y H Q
theorem op_inA (K:PySem.W.Frag) (hK:X.K = K:=by rfl):OpR X (compareOp .In) (rInA K):=by subst hK; exact op_inT.or op_in_seq
def rIsNotA:R2:=fun x y H Q=>litV y = true/\Q (.bl (!decide (x = y))) H
theorem op_isnotA:OpR X (compareOp .IsNot) rIsNotA:=op_isNotB
def rIxA (K:PySem.W.Frag):R2:=fun x y H Q=>rIxT' x y H Q\/rIxL K x y H Q\/rIxT K x y H Q
theorem ix_A (K:PySem.W.Frag) (hK:X.K = K:=by rfl):IxR X (rIxA K):=by subst hK; exact ix_T.or (ix_list.or ix_tup)
def rSlA (K:PySem.W.Frag):V->Option Int->Option Int->Hp->VK->Prop:=fun x lo hi H Q=>rSlS x lo hi H Q\/rSlL K x lo hi H Q
theorem sl_A (K:PySem.W.Frag) (hK:X.K = K:=by rfl):SlR X (rSlA K):=by subst hK; exact sl_T.or sl_list
def rLen (K:PySem.W.Frag):List V->Hp->VK->Prop:=fun xs H Q=>(∃ a,xs = [tx a]/\a.length <= sizeLine/\Q (.int a.length) H)\/∃ p ys,xs = [.ref p]/\(SqL K H p ys\/SqT K H p ys)/\Q (.int ys.length) H
theorem call_lenA (K:PySem.W.Frag) (hK:X.K = K:=by rfl):CallR X (.builtin "len") (rLen K):=by subst hK; exact call_lenT.or call_len_seq
def rAll (K:PySem.W.Frag):List V->Hp->VK->Prop:=fun xs H Q=>∃ (a:Addr) (bs:List Bool),xs = [.ref a]/\SqL K H a (bs.map V.bl)/\Q (.bl (bs.all id)) H
theorem call_allA (K:PySem.W.Frag) (hc:X.calm = true) (hK:X.K = K:=by rfl):CallR X (.builtin "all") (rAll K):=by subst hK; exact fun pins s σ H xs us Q I r h=>call_allL pins s σ H xs us Q I r ⟨hc,h⟩
def rIsi (K:PySem.W.Frag):List V->Hp->VK->Prop:=fun xs H Q=>∃ x T t b,xs = [x,.ty T]/\TyOf K H x t/\PySem.W.kitOne K t (.type T) = some b/\Q (.bl b) H
theorem call_isiA (K:PySem.W.Frag) (hK:X.K = K:=by rfl):CallR X (.builtin "isinstance") (rIsi K):=by subst hK; exact call_isi
def rMax:List V->Hp->VK->Prop:=fun xs H Q=>∃ i j,xs = [.int i,.int j]/\Q (.int (if j > i then j else i)) H
def rMin:List V->Hp->VK->Prop:=fun xs H Q=>∃ i j,xs = [.int i,.int j]/\Q (.int (if j < i then j else i)) H
theorem call_maxA (hc:X.calm = true):CallR X (.builtin "max") rMax:=call_max2 hc
theorem call_minA (hc:X.calm = true):CallR X (.builtin "min") rMin:=call_min2 hc
def rInt:List V->Hp->VK->Prop:=fun xs H Q=>(∃ i,xs = [.int i]/\Q (.int i) H)\/∃ k,xs = [.bl k]/\Q (.int (if k then 1 else 0)) H
theorem call_intA:CallR X (.type "int") rInt:=call_int1
def tTru (K:PySem.W.Frag) (ta:TE):TT:=fun σ H Q=>ta σ H fun x H'=>∃ k,TruV K x H' k/\Q k H'
theorem pt_tru (K:PySem.W.Frag) {a:Expr} {ta:TE} (ha:PE X a ta) (he:∀ whole,isTrue a X.env whole = (do let v <- whole; standAt a.pos; holding [v] (truthy v)):=by intro _; rfl) (hK:X.K = K:=by rfl):PT X a (tTru K ta):=by subst hK; exact pt_truth ha he
theorem pi_listK (K:PySem.W.Frag) {tg l:Expr} {tl:TE} (hl:PE X l tl) (hK:X.K = K:=by rfl):PI X tg l (iList K tl):=by subst hK; exact pi_list hl
theorem pg_tupK (K:PySem.W.Frag) {es:List Expr} {k:Nat} {t:TGs} {n:Nat} {pos:Pos} (hc:X.calm = true) (h:PGs X es t)
  (hn:(assignEach es X.env).length = n:=by rfl) (hst:(assignEach es X.env).findIdx? (·.1) = none:=by rfl) (hK:X.K = K:=by rfl):PG X (.Tuple es k pos) (gTup K n t):=by subst hK; exact pg_tup hc h hn hst
theorem pe_bm0K (K:PySem.W.Frag) {o:Expr} {to:TE} {name:Str} {apos cpos:Pos} {T id:String} {r:V->List V->Hp->VK->Prop} (pa:PlainAttrs T) (slot:Slot T name id) (hty:typeOf (.builtin id) = pure (.type "method_descriptor")) (hm:MtR X id r) (ho:PE X o to)
  (hbase:attributeBase o name X.env (eval o X.env) = eval o X.env:=by rfl) (hline:(apos.endLine == cpos.line) = true:=by rfl) (hK:X.K = K:=by rfl):PE X (.Call (.Attribute o name apos) [] [] cpos) (tBM0 K T r to):=by subst hK; exact pe_bm0 pa slot hty hm ho hbase hline
theorem pe_bmK (K : PySem.W.Frag) {o e : Expr} {es : List Expr} {to : TE} {t : TA} {name : Str} {apos cpos : Pos} {T id : String} {r : V -> List V -> Hp -> VK -> Prop} (pa : PlainAttrs T) (slot : Slot T name id) (hty : typeOf (.builtin id) = pure (.type "method_descriptor")) (hm : MtR X id r) (ho : PE X o to) (ha : PA X (e :: es) t)
  (hbase : attributeBase o name X.env (eval o X.env) = eval o X.env := by rfl)
  (hfew : ((backTo cpos (starEach (e :: es) X.env)).all (fun x => !x.1) && (backToKw cpos (keywordEach [] X.env)).all (fun x => x.1.isSome)
   && decide ((e :: es).length + ([] : List Keyword).length + (if ([] : List Keyword).isEmpty then 0 else 1) < 30)) = true := by rfl)
  (hline : (apos.endLine == cpos.line) = true := by rfl) (hs : starEach (e :: es) X.env = (false, eval e X.env) :: starEach es X.env := by rfl) (hplain : (backTo cpos (starEach es X.env)).any (·.1) = false := by rfl) (hK : X.K = K := by rfl) :
  PE X (.Call (.Attribute o name apos) (e :: es) [] cpos) (tBM K T r to t) := by subst hK; exact pe_bm pa slot hty hm ho ha hbase hfew hline hs hplain
theorem pe_gl {x:Str} {v:V} {pos:Pos} (h:∃ u,X.mg x = some u/\RelV v u) (hg:Gl X x:=by rfl) (hd:(x == ("__debug__" : Str)) = false:=by decide):PE X (.Name x pos) (tC v):=by
 obtain ⟨u,hm,r⟩:=h
 exact pe_glob hg hm r hd
theorem pe_ty {x:Str} {T:String} {pos:Pos} (hm:X.mg x = none) (hv:bootBuiltins x = some (.type T)) (hg:Gl X x:=by rfl) (hn:x ≠ "__name__":=by decide) (hd:(x == ("__debug__" : Str)) = false:=by decide):PE X (.Name x pos) (tC (.ty T)) :=
 pe_bltn hg hm hv rfl hn hd
structure FnU (P:Program) (w:World) (K:PySem.W.Frag) (mg:Str->Option Value) (base:Heap) (k:Nat) (x:Str) (ps:List Str) (sp:Sp):Prop where
 ex:∃ f fd,FnOk P w K mg base CX0 k f fd ps sp/\mg x = some (.ref f)/\PySem.W.keepIn K (.ref f) = true/\Binds K fd ps []
theorem FnU.mono {P:Program} {w:World} {K:PySem.W.Frag} {mg:Str->Option Value} {base:Heap} {j k:Nat} {x:Str} {ps:List Str} {sp:Sp} (U:FnU P w K mg base j x ps sp) (h:j <= k):FnU P w K mg base k x ps sp:=by
 obtain ⟨f,fd,F,a,b,c⟩:=U.ex
 exact ⟨f,fd,F.mono h,a,b,c⟩
theorem pe_fn {k:Nat} {x:Str} {ps:List Str} {sp:Sp} {e:Expr} {es:List Expr} {t:TA} {p pos:Pos} (U:FnU X.prog X.w X.K X.mg X.base k x ps sp) (hr:Room k X.A) (ha:PA X (e :: es) t) (hg:Gl X x:=by rfl)
  (hdb:(x == ("__debug__" : Str)) = false:=by decide) (he:starEach (e :: es) X.env = (false,eval e X.env) :: starEach es X.env:=by rfl) (hpl:(backTo pos (starEach es X.env)).any (·.1) = false:=by rfl) :
  PE X (.Call (.Name x p) (e :: es) [] pos) (tCall sp [] E0 t):=by
 obtain ⟨f,fd,F,hm,hk,hb⟩:=U.ex
 exact pe_call F hr hg hm hk hb .nil pass0 ha hdb he hpl
end
section
variable {σ:St} {H:Hp} {Q:VK} {D:Ends} {K:PySem.W.Frag}
theorem s_seq {t u:TS} (h:t { D with nx:=u D } σ H):tSeq t u D σ H:=h
theorem s_if {c:TT} {t u:TS} (h:c σ H fun b H1=>if b = true then t D σ H1 else u D σ H1):tIfS c t u D σ H:=h
theorem s_asg {te:TE} {g:TG} (h:te σ H fun x H1=>g x σ H1 D.nx):tAsg te g D σ H:=h
theorem s_ipI {f:Int->Int->Int} {i j:Int} (h:Q (.int (f i j)) H):ipI f (.int i) (.int j) H Q:=⟨i,j,rfl,rfl,h⟩
theorem s_ret {te:TE} (h:te σ H D.rt):tRet te D σ H:=h
theorem s_drop {te:TE} (h:te σ H fun _ H1=>D.nx σ H1):tDrop te D σ H:=h
theorem s_next (h:D.nx σ H):tNext D σ H:=h
theorem s_name {i:Nat} {v:V} {R:St->Hp->Prop} (h:R (σ.set i (some v)) H):gName i v σ H R:=h
theorem s_gnil {R:St->Hp->Prop} (h:R σ H):gNil [] σ H R:=⟨rfl,h⟩
theorem s_gcons {t:TG} {u:TGs} {v:V} {r:List V} {R:St->Hp->Prop} (h:t v σ H fun σ' H'=>u r σ' H' R):gCons t u (v :: r) σ H R:=⟨v,r,rfl,h⟩
theorem s_gsub {to ti:TE} {t:TSet} {v:V} {R:St->Hp->Prop} (h:to σ H fun o H1=>ti σ H1 fun i H2=>t o i v H2 fun H3=>R σ H3):gSub to ti t v σ H R:=h
theorem s_var {i:Nat} {v:V} (e:σ[i]? = some (some v)) (q:Q v H):tVar i σ H Q:=⟨v,e,q⟩
theorem s_c {v:V} (q:Q v H):tC v σ H Q:=q
theorem s_op {r:R2} {ta tb:TE} (h:ta σ H fun x H1=>tb σ H1 fun y H2=>r x y H2 Q):tOp r ta tb σ H Q:=h
theorem s_un {r:V->Hp->VK->Prop} {ta:TE} (h:ta σ H fun x H1=>r x H1 Q):tUn r ta σ H Q:=h
theorem s_neg {i:Int} {g:Int->V} (h:Q (g i) H):rU g (.int i) H Q:=⟨i,rfl,h⟩
theorem s_call {sp:Sp} {dvs:List V} {E:XK} {t:TA} (h:t σ H fun vs H1=>sp (vs ++ dvs) H1 Q E):tCall sp dvs E t σ H Q:=h
theorem s_cons {ta:TE} {tr:TA} {R:List V->Hp->Prop} (h:ta σ H fun x H1=>tr σ H1 fun xs H2=>R (x :: xs) H2):tCons ta tr σ H R:=h
theorem s_nil {R:List V->Hp->Prop} (h:R [] H):tNil σ H R:=h
theorem s_cb {r:List V->Hp->VK->Prop} {t:TA} (h:t σ H fun vs H1=>r vs H1 Q):tCB r t σ H Q:=h
theorem s_lst {t:TA} (h:t σ H fun xs H1=>xs.length <= sizeLine/\∀ p,H1 p = none->Q (.ref p) (upd H1 p (.lst xs))):tLst t σ H Q:=h
theorem s_tup {t:TA} (h:t σ H fun xs H1=>xs.length <= sizeLine/\∀ p,H1 p = none->Q (.ref p) (upd H1 p (.tup xs))):tTup t σ H Q:=h
theorem s_ifE {t:TT} {ta tb:TE} (h:t σ H fun c H1=>if c = true then ta σ H1 Q else tb σ H1 Q):tIf t ta tb σ H Q:=h
theorem s_and {t u:TT} {R:Bool->Hp->Prop} (h:t σ H fun c H1=>if c = true then u σ H1 R else R false H1):tAnd t u σ H R:=h
theorem s_or {t u:TT} {R:Bool->Hp->Prop} (h:t σ H fun c H1=>if c = true then R true H1 else u σ H1 R):tOr t u σ H R:=h
theorem s_not {t:TT} {R:Bool->Hp->Prop} (h:t σ H fun c H1=>R (!c) H1):tNot t σ H R:=h
theorem s_andV {ta tb:TE} (h:ta σ H fun x H1=>∃ c,x = .bl c/\if c = true then tb σ H1 Q else Q (.bl false) H1):tAndV ta tb σ H Q:=h
theorem s_notV {ta:TE} (h:ta σ H fun x H1=>∃ c,x = .bl c/\Q (.bl (!c)) H1):tNotV ta σ H Q:=h
theorem s_test {t:TE} {R:Bool->Hp->Prop} (h:t σ H fun x H'=>∃ k,x = .bl k/\R k H'):tTest t σ H R:=h
theorem s_tru {ta:TE} {R:Bool->Hp->Prop} (h:ta σ H fun x H'=>∃ k,TruV K x H' k/\R k H'):tTru K ta σ H R:=h
theorem s_chain {r r':R2} {ta tb tc:TE} (h:ta σ H fun x H1=>tb σ H1 fun y H2=>r x y H2 fun z H3=>∃ k,z = .bl k/\(if k = true then tc σ H3 fun w' H4=>r' y w' H4 Q else Q (.bl false) H3)):tChain r r' ta tb tc σ H Q:=h
theorem s_bl {c:Bool} {R:Bool->Prop} (h:R c):∃ k,V.bl c = V.bl k/\R k:=⟨c,rfl,h⟩
theorem s_truB {c:Bool} {R:Bool->Prop} (h:R c):∃ k,TruV K (.bl c) H k/\R k:=⟨c,rfl,h⟩
theorem s_truT {a : List Nat} {R : Bool -> Prop} (hz : a.length <= sizeLine) (h : R (!decide (a = []))) : ∃ k, TruV K (tx a) H k /\ R k := by
  refine ⟨!decide (a = []), ⟨by rw [tx_len]; exact hz, ?_⟩, h⟩
  rw [tx_len]
  cases a with
  | nil => rfl
  | cons c r =>
    have : ((c :: r).length : Int) ≠ 0 := by simp; omega
    rw [decide_eq_false (by simp)]
    exact (bne_iff_ne.mpr this).symm
theorem s_truL {a:Addr} {xs:List V} {R:Bool->Prop} (hq:SqL K H a xs) (h:R (!xs.isEmpty)):∃ k,TruV K (.ref a) H k/\R k:=⟨_,.inl ⟨xs,hq,rfl⟩,h⟩
theorem s_addI {i j:Int} (h:Q (.int (i + j)) H):rPlus (.int i) (.int j) H Q:=.inl ⟨i,j,rfl,rfl,h⟩
theorem s_addT {a b:List Nat} (hz:a.length + b.length <= sizeLine) (h:Q (tx (a ++ b)) H):rPlus (tx a) (tx b) H Q:=.inr (.inl ⟨a,b,rfl,rfl,hz,h⟩)
theorem s_addL {a b:Addr} {xs ys:List V} (h1:H a = some (.lst xs)) (h2:H b = some (.lst ys)) (hz:xs.length + ys.length <= sizeLine) (h:∀ p,H p = none->Q (.ref p) (upd H p (.lst (xs ++ ys)))):rPlus (.ref a) (.ref b) H Q:=.inr (.inr ⟨a,b,xs,ys,rfl,rfl,h1,h2,hz,h⟩)
theorem s_subI {g:Int->Int->V} {i j:Int} (h:Q (g i j) H):rI0 g (.int i) (.int j) H Q:=⟨i,j,rfl,rfl,h⟩
theorem s_rI {C:Int->Int->Prop} {g:Int->Int->V} {i j:Int} (hc:C i j) (h:Q (g i j) H):rI C g (.int i) (.int j) H Q:=⟨i,j,rfl,rfl,hc,h⟩
theorem s_mulI {i j:Int} (hc:CMul i j) (h:Q (.int (i * j)) H):rTimes (.int i) (.int j) H Q:=.inl ⟨i,j,rfl,rfl,hc,h⟩
theorem s_rep {a:Addr} {k:Int} {xs:List V} (h1:H a = some (.lst xs)) (h2:-(2 ^ 63) <= k) (h3:k < 2 ^ 63) (hz:xs.length * k.toNat <= sizeLine) (h:∀ p,H p = none->Q (.ref p) (upd H p (.lst (List.replicate k.toNat xs).flatten))):rTimes (.ref a) (.int k) H Q:=.inr (.inl ⟨a,k,xs,rfl,rfl,h1,h2,h3,hz,h⟩)
theorem s_mulT {a:List Nat} {k:Int} (h0:0 <= k) (h1:k <= 1000) (hl:a.length <= 1000) (h:Q (tx (List.replicate k.toNat a).flatten) H):rTimes (tx a) (.int k) H Q:=.inr (.inr ⟨a,k,rfl,rfl,h0,h1,hl,h⟩)
theorem s_eqI {i j:Int} (h:Q (.bl (decide (i = j))) H):rEqA K (.int i) (.int j) H Q:=.inl ⟨rfl,by rw [show decide (V.int i = V.int j) = decide (i = j) from by rw [dec_int]; exact (Bool.beq_eq_decide_eq i j)]; exact h⟩
theorem s_eqT {a b:List Nat} (h:Q (.bl (decide (a = b))) H):rEqA K (tx a) (tx b) H Q:=.inl ⟨rfl,by rw [dec_tx]; exact h⟩
theorem s_eqL {a b:Addr} {xs ys:List V} (h1:SqL K H a xs) (h2:SqL K H b ys) (f1:xs.all flatV = true) (f2:ys.all flatV = true) (h:Q (.bl (eqVs xs ys)) H):rEqA K (.ref a) (.ref b) H Q:=.inr ⟨a,b,xs,ys,rfl,rfl,h1,h2,f1,f2,h⟩
theorem s_neI {i j:Int} (h:Q (.bl (!decide (i = j))) H):rNeA K (.int i) (.int j) H Q:=.inl ⟨rfl,by rw [show decide (V.int i = V.int j) = decide (i = j) from by rw [dec_int]; exact (Bool.beq_eq_decide_eq i j)]; exact h⟩
theorem s_neB {i j:Bool} (h:Q (.bl (!decide (i = j))) H):rNeA K (.bl i) (.bl j) H Q:=.inl ⟨rfl,by rw [show decide (V.bl i = V.bl j) = decide (i = j) from by rw [dec_bl]; exact (Bool.beq_eq_decide_eq i j)]; exact h⟩
theorem s_neT {a b:List Nat} (h:Q (.bl (!decide (a = b))) H):rNeA K (tx a) (tx b) H Q:=.inl ⟨rfl,by rw [dec_tx]; exact h⟩
theorem s_neL {a b:Addr} {xs ys:List V} (h1:SqL K H a xs) (h2:SqL K H b ys) (f1:xs.all flatV = true) (f2:ys.all flatV = true) (h:Q (.bl (!eqVs xs ys)) H):rNeA K (.ref a) (.ref b) H Q:=.inr ⟨a,b,xs,ys,rfl,rfl,h1,h2,f1,f2,h⟩
theorem s_inT {c:Nat} {l:List Nat} (h:Q (.bl (decide (c ∈ l))) H):rInA K (tx [c]) (tx l) H Q:=.inl ⟨c,l,rfl,rfl,h⟩
theorem s_inS {x:V} {a:Addr} {xs:List V} (h1:SqL K H a xs\/SqT K H a xs) (f1:flatV x = true) (f2:xs.all flatV = true) (h:Q (.bl (inV x xs)) H):rInA K x (.ref a) H Q:=.inr ⟨a,xs,rfl,h1,f1,f2,h⟩
theorem s_ixT {a:List Nat} {i:Int} {c:Nat} (hz:a.length <= sizeLine) (he:atI a i = some c) (h:Q (tx [c]) H):rIxA K (tx a) (.int i) H Q:=.inl ⟨a,i,c,rfl,rfl,hz,he,h⟩
theorem s_ixL {p:Addr} {xs:List V} {i:Int} {v:V} (hq:SqL K H p xs) (he:atI xs i = some v) (h:Q v H):rIxA K (.ref p) (.int i) H Q:=.inr (.inl ⟨p,xs,i,v,rfl,rfl,hq,he,h⟩)
theorem s_sl {r:V->Option Int->Option Int->Hp->VK->Prop} {te:TE} {tl th:TO} (h:te σ H fun x H1=>tl σ H1 fun l H2=>th σ H2 fun u H3=>r x l u H3 Q):tSl r te tl th σ H Q:=h
theorem s_nopart {R:Option Int->Hp->Prop} (h:R none H):tNoPart σ H R:=h
theorem s_part {t:TE} {R:Option Int->Hp->Prop} (h:t σ H fun x H1=>∃ i,x = .int i/\R (some i) H1):tPart t σ H R:=h
theorem s_partI {i:Int} {R:Int->Prop} (h:R i):∃ j,V.int i = V.int j/\R j:=⟨i,rfl,h⟩
theorem s_slT {a:List Nat} {lo hi:Option Int} (hz:a.length <= sizeLine) (h:Q (tx (cutL a lo hi)) H):rSlA K (tx a) lo hi H Q:=.inl ⟨a,rfl,hz,h⟩
theorem s_lenT {a:List Nat} (hz:a.length <= sizeLine) (h:Q (.int a.length) H):rLen K [tx a] H Q:=.inl ⟨a,rfl,hz,h⟩
theorem s_lenL {p:Addr} {ys:List V} (hq:SqL K H p ys\/SqT K H p ys) (h:Q (.int ys.length) H):rLen K [.ref p] H Q:=.inr ⟨p,ys,rfl,hq,h⟩
theorem s_all {a:Addr} {bs:List Bool} (hq:SqL K H a (bs.map V.bl)) (h:Q (.bl (bs.all id)) H):rAll K [.ref a] H Q:=⟨a,bs,rfl,hq,h⟩
theorem s_isi {x:V} {T:String} {t:Value} {b:Bool} (ty:TyOf K H x t) (e:PySem.W.kitOne K t (.type T) = some b) (h:Q (.bl b) H):rIsi K [x,.ty T] H Q:=⟨x,T,t,b,rfl,ty,e,h⟩
theorem s_max {i j:Int} (h:Q (.int (if j > i then j else i)) H):rMax [.int i,.int j] H Q:=⟨i,j,rfl,h⟩
theorem s_min {i j:Int} (h:Q (.int (if j < i then j else i)) H):rMin [.int i,.int j] H Q:=⟨i,j,rfl,h⟩
theorem s_intB {k:Bool} (h:Q (.int (if k then 1 else 0)) H):rInt [.bl k] H Q:=.inr ⟨k,rfl,h⟩
theorem s_bm {T:String} {r:V->List V->Hp->VK->Prop} {to:TE} {t:TA} (h:to σ H fun x H1=>tyV K T x H1/\t σ H1 fun xs H2=>r x xs H2 Q):tBM K T r to t σ H Q:=h
theorem s_bm0 {T:String} {r:V->List V->Hp->VK->Prop} {to:TE} (h:to σ H fun x H1=>tyV K T x H1/\r x [] H1 Q):tBM0 K T r to σ H Q:=h
end
section
variable {g:TG} {tb:TS} {D:Ends} {σ:St} {H:Hp}
def ForW (J:It) (g:TG) (tb:TS) (D:Ends) (σ:St) (H:Hp):Prop:=∃ W:Nat->Nat->St->Hp->Prop,(∃ m,W 0 m σ H)/\∀ i m σ H,W i m σ H ->
 (J.stop i H/\D.nx σ H)\/(J.go i H/\∃ N:St->Hp->Prop,(∀ σ' H',N σ' H'->∃ m',m' < m/\W (i + 1) m' σ' H')/\∀ x H',J.yld i H x H'->g x σ H' fun σ2 H2=>tb { D with nx:=N,ct:=N,bk:=D.nx } σ2 H2)
theorem s_for {wi:TI} (h:wi σ H fun J H1=>ForW J g tb D σ H1):tFor wi g tb D σ H:=h
theorem s_irng1 {ta:TA} {R:It->Hp->Prop} (h:ta σ H fun vs H1=>∃ j:Int,vs = [.int j]/\-(2 ^ 62) <= j/\j < 2 ^ 62/\R (Itr 0 j.toNat) H1):iRng1 ta σ H R:=h
theorem s_ilist {K:PySem.W.Frag} {tl:TE} {R:It->Hp->Prop} (h:tl σ H fun x H1=>∃ a,x = .ref a/\(∃ xs,SqL K H1 a xs)/\R (Itl K a) H1):iList K tl σ H R:=h
theorem s_istr {tl:TE} {R:It->Hp->Prop} (h:tl σ H fun x H1=>∃ z,x = .str z/\R (Its z) H1):iStr tl σ H R:=h
theorem s_istrT {a:List Nat} {R:Str->Prop} (h:R ⟨a.toArray⟩):∃ z,tx a = .str z/\R z:=⟨_,rfl,h⟩
theorem for_rng {lo:Int} {n:Nat} (Pv:Nat->St->Hp->Prop) (h0:Pv 0 σ H)
  (hs:∀ i σ H,i < n->Pv i σ H->g (.int (lo + i)) σ H fun σ2 H2=>tb { D with nx:=Pv (i + 1),ct:=Pv (i + 1),bk:=D.nx } σ2 H2) (hd:∀ σ H,Pv n σ H->D.nx σ H):ForW (Itr lo n) g tb D σ H:=for_range Pv h0 hs hd
theorem for_of {J:It} {n:Nat} (Pv:Nat->St->Hp->Prop) (h0:Pv 0 σ H) (hgo:∀ i σ H,i < n->Pv i σ H->J.go i H) (hst:∀ σ H,Pv n σ H->J.stop n H)
  (hs:∀ i x σ H H',i < n->Pv i σ H->J.yld i H x H'->g x σ H' fun σ2 H2=>tb { D with nx:=Pv (i + 1),ct:=Pv (i + 1),bk:=D.nx } σ2 H2) (hd:∀ σ H,Pv n σ H->D.nx σ H):ForW J g tb D σ H:=by
 refine ⟨fun i m σ H=>m = n - i/\i <= n/\Pv i σ H,⟨n,by simp,Nat.zero_le _,h0⟩,?_⟩
 rintro i m σ H ⟨rfl,hi,p⟩
 by_cases hlt:i < n
 ·exact .inr ⟨hgo i σ H hlt p,Pv (i + 1),fun σ' H' p'=>⟨n - (i + 1),by omega,rfl,hlt,p'⟩,fun x H' y=>hs i x σ H H' hlt p y⟩
 ·have e:i = n:=by omega
  subst e
  exact .inl ⟨hst σ H p,hd σ H p⟩
theorem for_str {a:List Nat} (Pv:Nat->St->Hp->Prop) (h0:Pv 0 σ H)
  (hs:∀ i c σ H,a[i]? = some c->Pv i σ H->g (tx [c]) σ H fun σ2 H2=>tb { D with nx:=Pv (i + 1),ct:=Pv (i + 1),bk:=D.nx } σ2 H2) (hd:∀ σ H,Pv a.length σ H->D.nx σ H):ForW (Its ⟨a.toArray⟩) g tb D σ H:=by
 refine for_of (n:=a.length) Pv h0 (fun i σ H hi _=>by simpa [Its] using hi) (fun σ H _=>by simp [Its]) (fun i x σ H H' hi p y=>?_) hd
 obtain ⟨rfl,c,e,rfl⟩:=y
 exact hs i c σ H' (by simpa using e) p
def CW (D:Addr) (n:Nat) (Pv:Nat->List V->Hp->Prop) (i m:Nat) (H:Hp):Prop:=m = n - i/\i <= n/\∃ ys,H D = some (.lst ys)/\ys.length <= i/\Pv i ys H
def CompW (J : It) (own : List Str) (sel : List Nat) (σ : St) (g : TG) (tt : TT) (te : TE) (Q : VK) (H1 : Hp) : Prop := ∀ D, H1 D = none ->
 ∃ W : Nat -> Nat -> Hp -> Prop, (∃ m, W 0 m (upd H1 D (.lst []))) /\ ∀ i m H2, W i m H2 ->
  (J.stop i H2 /\ Q (.ref D) H2) \/ (J.go i H2 /\ ∀ x H3, J.yld i H2 x H3 -> g x (inSt own sel σ) H3 fun σ4 H4 => tt σ4 H4 fun b H5 =>
   if b = true then te σ4 H5 fun v H6 => ∃ ys, H6 D = some (.lst ys) /\ ys.length < sizeLine /\ ∃ m', m' < m /\ W (i + 1) m' (upd H6 D (.lst (ys ++ [v])))
   else ∃ m', m' < m /\ W (i + 1) m' H5)
theorem s_comp {own:List Str} {sel:List Nat} {wi:TI} {tt:TT} {te:TE} {Q:VK} (h:wi σ H fun J H1=>CompW J own sel σ g tt te Q H1):tComp own sel wi g tt te σ H Q:=h
theorem comp_of {J : It} {n : Nat} {own : List Str} {sel : List Nat} {tt : TT} {te : TE} {Q : VK} {H1 : Hp} (Pv : Addr -> Nat -> List V -> Hp -> Prop) (h0 : ∀ D, H1 D = none -> Pv D 0 [] (upd H1 D (.lst [])))
  (hgo : ∀ D i ys H, H1 D = none -> i < n -> H D = some (.lst ys) -> Pv D i ys H -> J.go i H) (hst : ∀ D ys H, H1 D = none -> H D = some (.lst ys) -> ys.length <= n -> Pv D n ys H -> J.stop n H /\ Q (.ref D) H)
  (hs : ∀ D i ys H x H3, H1 D = none -> i < n -> H D = some (.lst ys) -> ys.length <= i -> Pv D i ys H -> J.yld i H x H3 -> g x (inSt own sel σ) H3 fun σ4 H4 => tt σ4 H4 fun b H5 =>
   if b = true then te σ4 H5 fun v H6 => ∃ ys, H6 D = some (.lst ys) /\ ys.length < sizeLine /\ ∃ m', m' < n - i /\ CW D n (Pv D) (i + 1) m' (upd H6 D (.lst (ys ++ [v])))
   else ∃ m', m' < n - i /\ CW D n (Pv D) (i + 1) m' H5) : CompW J own sel σ g tt te Q H1 := by
 intro D hD
 refine ⟨CW D n (Pv D), ⟨n, by simp, Nat.zero_le _, [], upd_same, Nat.le_refl _, h0 D hD⟩, ?_⟩
 rintro i m H2 ⟨rfl, hi, ys, hy, hl, p⟩
 by_cases hlt : i < n
 ·exact .inr ⟨hgo D i ys H2 hD hlt hy p, fun x H3 y => hs D i ys H2 x H3 hD hlt hy hl p y⟩
 ·have e : i = n := by omega
  subst e
  exact .inl (hst D ys H2 hD hy hl p)
theorem comp_next {D:Addr} {n i:Nat} {Pv:Nat->List V->Hp->Prop} {ys:List V} {v:V} {H:Hp} (hi:i < n) (hn:n <= sizeLine) (hD:H D = some (.lst ys)) (hl:ys.length <= i) (p:Pv (i + 1) (ys ++ [v]) (upd H D (.lst (ys ++ [v])))) :
  ∃ ys,H D = some (.lst ys)/\ys.length < sizeLine/\∃ m',m' < n - i/\CW D n Pv (i + 1) m' (upd H D (.lst (ys ++ [v]))) :=
 ⟨ys,hD,by omega,n - (i + 1),by omega,rfl,hi,ys ++ [v],upd_same,by simp; omega,p⟩
theorem s_yes {R:Bool->Hp->Prop} (h:R true H):tYes σ H R:=h
end
theorem small {n:Nat} (h:n <= 1000):n <= sizeLine:=Nat.le_of_lt (small1000 h)
theorem same_new {H:Hp} {p:Addr} (h:H p = none) (o:HO):Same H (upd H p o):=fun b u q=>by rw [upd_ne (ne_of_none q h)]; exact q
def SameBut1 (p:Addr) (H H':Hp):Prop:=∀ b o,H b = some o->b ≠ p->H' b = some o
theorem SameBut1.refl (p:Addr) (H:Hp):SameBut1 p H H:=fun _ _ h _=>h
theorem SameBut1.trans {p:Addr} {H H1 H2:Hp} (a:SameBut1 p H H1) (b:SameBut1 p H1 H2):SameBut1 p H H2:=fun c o h n=>b c o (a c o h n) n
theorem SameBut1.of {p:Addr} {H H':Hp} (a:Same H H'):SameBut1 p H H':=fun c o h _=>a c o h
theorem SameBut1.upd {p:Addr} {H:Hp} {o:HO}:SameBut1 p H (upd H p o):=fun c u h n=>by rw [upd_ne n]; exact h
end L2
namespace L2
open PySem PySem.Spec PyProof.Rows
def compOkB (osc:Scope) (N:List Str) (own:List Str) (sel:List Nat) (scope:Scope):Bool :=
 (scope.kind == .function) && scope.names.all (fun y=>y.2 != .cell) && scope.names.all (fun y=>y.2 != .local || scope.names.lookup y.1 == some .local) &&
 scope.names.all (fun y=>y.2 != .free || osc.names.lookup y.1 == some .cell || osc.names.lookup y.1 == some .free) &&
 sel.all (fun j=>decide (j < N.length) && scope.names.lookup (N.getD j Str.empty) == some .free && (osc.names.lookup (N.getD j Str.empty) == some .cell || osc.names.lookup (N.getD j Str.empty) == some .free))
theorem compOk_of {osc:Scope} {N:List Str} {own:List Str} {sel:List Nat} {scope:Scope} (h:compOkB osc N own sel scope = true):CompOk osc N own sel scope:=by
 unfold compOkB at h
 simp only [Bool.and_eq_true,List.all_eq_true] at h
 obtain ⟨⟨⟨⟨h1,h2⟩,h3⟩,h4⟩,h5⟩:=h
 refine ⟨by simpa using h1,fun y hy=>by simpa using h2 y hy,fun y hy e=>?_,fun y hy e=>?_,fun j hj=>?_⟩
 ·have:=h3 y hy
  simp only [Bool.or_eq_true,bne_iff_ne,beq_iff_eq] at this
  rcases this with q | q
  ·exact absurd e q
  ·exact q
 ·have:=h4 y hy
  simp only [Bool.or_eq_true,bne_iff_ne,beq_iff_eq] at this
  rcases this with (q | q) | q
  ·exact absurd e q
  ·exact .inl q
  ·exact .inr q
 ·have:=h5 j hj
  simp only [Bool.or_eq_true,beq_iff_eq,decide_eq_true_eq] at this
  exact ⟨this.1.1,this.1.2,this.2⟩
structure DefAt (K:PySem.W.Frag) (mg:Str->Option Value) (x:Str) (st:Stmt) (ps:List Str) (f:Addr) (fd:FuncData):Prop where
 F:Fun K x x st f fd
 m:mg x = some (.ref f)
 b:Binds K fd ps []
theorem DefAt.fnU {P:Program} {w:World} {K:PySem.W.Frag} {mg:Str->Option Value} {base:Heap} {x:Str} {st:Stmt} {ps:List Str} {f:Addr} {fd:FuncData} {k:Nat} {sp:Sp} (d:DefAt K mg x st ps f fd) (ok:FnOk P w K mg base CX0 k f fd ps sp):FnU P w K mg base k x ps sp :=
 ⟨f,fd,ok,d.m,d.F.kp,d.b⟩
theorem atI_0 {α:Type} (x:α) (r:List α):atI (x :: r) 0 = some x:=by simp [atI,ixN]
theorem s_setL {p:Addr} {xs:List V} {k:Int} {j:Nat} {v:V} {H:Hp} {R:Hp->Prop} (h:H p = some (.lst xs)) (e:ixN xs.length k = some j) (q:R (upd H p (.lst (xs.set j v)))):rSetL (.ref p) (.int k) v H R:=⟨p,xs,k,j,rfl,rfl,h,e,q⟩
theorem rel_of_abs {u:Value} {x:V} (h:absV u = some x):RelV x u:=by
 cases u <;> first
  | (cases h; rfl)
  | (cases h; exact ⟨_,rfl⟩)
  | (exact absurd h (by intro z; cases z))
def tupIs (its:Array Value) (xs:List V):Bool:=decide (its.toList.map absV = xs.map some)
theorem vals_of_abs : ∀ {xs : List V} {us : List Value}, us.map absV = xs.map some -> Vals xs us
  | [], [], _ => .nil
  | x :: xs, u :: us, h => by
    rw [List.map_cons, List.map_cons] at h
    injection h with h1 h2
    exact .cons (rel_of_abs h1) (vals_of_abs h2)
  | [], _ :: _, h => by cases h
  | _ :: _, [], h => by cases h
theorem tupIs_vals {its:Array Value} {xs:List V} (h:tupIs its xs = true):Vals xs its.toList:=vals_of_abs (of_decide_eq_true h)
theorem tupIs_size {its:Array Value} {xs:List V} (h:tupIs its xs = true) (hx:xs.length <= 1000):its.size <= sizeLine:=by
 have e:=(tupIs_vals h).length
 have e2:its.toList.length = its.size:=by simp
 exact Nat.le_of_lt (small1000 (by omega))
theorem s_isnot {x y:V} {H:Hp} {Q:VK} (hl:litV y = true) (h:Q (.bl (!decide (x = y))) H):rIsNotA x y H Q:=⟨hl,h⟩
theorem ifd {c A B:Prop} [Decidable c] (h1:c->A) (h2:¬ c->B):if decide c = true then A else B:=by
 by_cases h:c
 ·rw [if_pos (decide_eq_true h)]; exact h1 h
 ·rw [if_neg (by rw [decide_eq_false h]; exact Bool.false_ne_true)]; exact h2 h
theorem ifp {c:Bool} {A B:Prop} (hc:c = true) (h:A):if c = true then A else B:=by rw [if_pos hc]; exact h
theorem ifq {c:Bool} {A B:Prop} (hc:c = false) (h:B):if c = true then A else B:=by rw [if_neg (by rw [hc]; exact Bool.false_ne_true)]; exact h
theorem atI_ints {ns:List Int} {k:Int} (h0:0 <= k) (h:k < (ns.length:Int)):∃ v:Int,atI (ns.map V.int) k = some (.int v):=by
 have hk:k.toNat < ns.length:=by omega
 have ek:k = ((k.toNat:Nat):Int):=by omega
 have q:atI (ns.map V.int) ((k.toNat:Nat):Int) = some (.int ns[k.toNat]):=atI_nat (by rw [List.getElem?_map,List.getElem?_eq_getElem hk]; rfl)
 rw [<- ek] at q
 exact ⟨_,q⟩
end L2
namespace BrM
open L2
def opn:List Nat:=[40,91,123,60]
def cls:List Nat:=[41,93,125,62]
def clo (c:Nat):Nat:=if c = 40 then 41 else if c = 91 then 93 else if c = 123 then 125 else 62
def stp (st:List Nat) (c:Nat):Option (List Nat) :=
 if c ∈ opn then some (clo c :: st) else match st with
  | d :: r=>if c = d then some r else none
  | []=>none
def run:List Nat->List Nat->Option (List Nat)
 | st,[]=>some st
 | st,c :: r=>(stp st c).bind fun s=>run s r
def Rt (row:List Nat):Prop:=run [] row = some []
end BrM
namespace BrM
open L2
def sg (c:Nat):Int:=if c ∈ opn then 1 else -1
def hg:List Nat->Int
 | []=>0
 | c :: r=>sg c + hg r
def ht (a:List Nat) (i:Nat):Int:=hg (a.take i)
def Pr (a:List Nat) (x y:Nat):Prop:=x < y/\y < a.length/\ht a (y + 1) = ht a x/\∀ m,x < m->m <= y->ht a x < ht a m
inductive WS (a:List Nat) (i:Nat):List Nat->List Nat->Prop where
 | nil:WS a i [] []
 | cons {w c:Nat} {ws st:List Nat}:w < i->a[w]? = some c->c ∈ opn->ht a w = ws.length->(∀ m,w < m->m <= i->ht a w < ht a m)->WS a i ws st->WS a i (w :: ws) (clo c :: st)
theorem WS.len {a ws st:List Nat} {i:Nat} (h:WS a i ws st):ws.length = st.length:=by
 induction h with
 | nil=>rfl
 | cons _ _ _ _ _ _ ih=>simp [ih]
structure MI (a:List Nat) (i:Nat) (st ws:List Nat) (xs:List V):Prop where
 rn:run [] (a.take i) = some st
 wk:WS a i ws st
 len:xs.length = a.length
 don:∀ k,k < i->k ∈ ws\/∃ p:Nat,xs[k]? = some (.int p)/\(Pr a k p\/Pr a p k)
theorem MI.top {a st:List Nat} {w:Nat} {ws:List Nat} {xs:List V} {i:Nat} (m:MI a i st (w :: ws) xs):∃ c r,a[w]? = some c/\c ∈ opn/\st = clo c :: r/\w < i:=by
 have h:=m.wk
 cases h with
 | cons h1 h2 h3 h4 h5 h6=>exact ⟨_,_,h2,h3,rfl,h1⟩
end BrM
namespace BrM
open L2 PySem
def plainTy:List String:=["NoneType","bool","int","str","list","tuple","dict"]
def spWhole (K:PySem.W.Frag):Sp:=fun vs H Q _=>∃ x T,vs = [x]/\TyOf K H x (.type T)/\T ∈ plainTy/\Q (.bl (decide (T = "int"))) H
theorem whole_int {K:PySem.W.Frag} {H:Hp} {i:Int} {Q:VK} {E:XK} (q:Q (.bl true) H):spWhole K ([.int i] ++ []) H Q E:=⟨.int i,"int",rfl,.int i,by decide,q⟩
def spKinds:Sp:=fun vs H Q _=>∃ k,vs = [.int k]/\1 <= k/\k <= 4/\Q .non H
theorem kinds_use {H:Hp} {k:Int} {Q:VK} {E:XK} (h1:1 <= k) (h2:k <= 4) (q:Q .non H):spKinds ([.int k] ++ []) H Q E:=⟨k,rfl,h1,h2,q⟩
def sgn (k:Int):List Nat:=opn.take k.toNat ++ cls.take k.toNat ++ [63]
def isRow (k:Int) (a:List Nat):Bool:=decide (a.length <= 40) && a.all fun c=>decide (c ∈ sgn k)
def spLine (K:PySem.W.Frag):Sp:=fun vs H Q _=>∃ k x,vs = [.int k,x]/\1 <= k/\k <= 4 /\
 ((∃ a,x = tx a/\a.length <= 1000/\∀ H',Same H H'->Q (.bl (isRow k a)) H')\/(∃ T,TyOf K H x (.type T)/\T ∈ plainTy/\T ≠ "str"/\Q (.bl false) H))
theorem line_use {K:PySem.W.Frag} {H:Hp} {k:Int} {a:List Nat} {Q:VK} {E:XK} (h1:1 <= k) (h2:k <= 4) (ha:a.length <= 1000) (q:∀ H',Same H H'->Q (.bl (isRow k a)) H'):spLine K ([.int k,tx a] ++ []) H Q E:=⟨k,_,rfl,h1,h2,.inl ⟨a,rfl,ha,q⟩⟩
def spCheckLine:Sp:=fun vs H Q _=>∃ k a,vs = [.int k,tx a]/\1 <= k/\k <= 4/\isRow k a = true/\∀ H',Same H H'->Q .non H'
theorem checkLine_use {H:Hp} {k:Int} {a:List Nat} {Q:VK} {E:XK} (h1:1 <= k) (h2:k <= 4) (ha:isRow k a = true) (q:∀ H',Same H H'->Q .non H'):spCheckLine ([.int k,tx a] ++ []) H Q E:=⟨k,a,rfl,h1,h2,ha,q⟩
instance (a:List Nat):Decidable (Rt a):=by unfold Rt; infer_instance
def spLaw (K:PySem.W.Frag):Sp:=fun vs H Q _=>∃ (a:Addr) (ns:List Int),vs = [.ref a]/\SqL K H a (ns.map V.int)/\ns.length <= 63/\∀ H',Q (.bl true) H'
theorem isRow_len {k:Int} {a:List Nat} (h:isRow k a = true):a.length <= 40:=by
 unfold isRow at h
 simp only [Bool.and_eq_true,decide_eq_true_eq] at h
 exact h.1
theorem cut_to {α:Type} (xs:List α) {k:Int} (h:0 <= k):cutL xs none (some k) = xs.take k.toNat:=by
 unfold cutL
 obtain ⟨n,rfl⟩:∃ n:Nat,k = n:=⟨k.toNat,by omega⟩
 rw [HT.sIx_nat,HT.sIx_none,List.drop_zero,Nat.sub_zero,Int.toNat_natCast]
 rcases Nat.le_total n xs.length with z | z
 ·rw [Nat.min_eq_left z]
 ·rw [Nat.min_eq_right z,List.take_length,List.take_of_length_le z]
theorem Same.but {H H1 H2:Hp} {p:Addr} (a:Same H H1) (b:SameBut1 p H1 H2) (h:H p = none):Same H H2:=fun c o z=>b c o (a c o z) (ne_of_none z h)
theorem SameBut1.at {H H1:Hp} {p b:Addr} {o:HO} (s:SameBut1 p H H1) (h:H b = some o) (n:b ≠ p):H1 b = some o:=s b o h n
end BrM
namespace BrM
open L2 PySem
def mx (a:List Nat):Nat->Int
 | 0=>0
 | i + 1=>if ht a (i + 1) > mx a i then ht a (i + 1) else mx a i
def deep (a:List Nat):Int:=mx a a.length
def piece (a:List Nat) (b e:Nat):List Nat:=cutL a (some (b:Int)) (some (e:Int))
def ct (a:List Nat):Nat->List (List Nat) × Nat
 | 0=>([],0)
 | i + 1=>if ht a (i + 1) = 0 then ((ct a i).1 ++ [piece a (ct a i).2 (i + 1)],i + 1) else ct a i
def pts (a:List Nat):List (List Nat):=(ct a a.length).1
end BrM
namespace BrM
open L2 PySem
theorem isRow_mem {k:Int} {a:List Nat} (h:isRow k a = true):∀ c ∈ a,c ∈ sgn k:=by
 unfold isRow at h
 simp only [Bool.and_eq_true,List.all_eq_true,decide_eq_true_eq] at h
 exact h.2
theorem isRow_mk {k:Int} {a:List Nat} (hl:a.length <= 40) (h:∀ c ∈ a,c ∈ sgn k):isRow k a = true:=by
 unfold isRow
 simp only [Bool.and_eq_true,List.all_eq_true,decide_eq_true_eq]
 exact ⟨hl,h⟩
end BrM
namespace BrR
open PySem PySem.Spec PyProof.Rows
open PySem.Builtin
end BrR
namespace BrR
open PySem PySem.Spec PyProof.Rows L2
open PySem.Builtin
section
variable {prog:Program} {w:World} {A:Around} {E:Value->Shared->Prop} {s:Shared}
end
end BrR
namespace L2
open PySem PySem.Spec PyProof.Rows BrR
section
variable {X:Cx}
theorem strs_of {xss : List (List Nat)} : ∀ {us : List Value}, Vals (xss.map tx) us -> StrsAre us (xss.map fun a => ⟨a.toArray⟩) := by
  induction xss with
  | nil => intro us r; cases r; exact .nil
  | cons a r ih =>
    intro us h
    cases h with
    | cons h1 h2 =>
      obtain ⟨t, rfl⟩ := h1
      exact .cons _ t (ih h2)
theorem join_flat : ∀ (xss : List (List Nat)), Str.join ⟨([] : List Nat).toArray⟩ (xss.map fun a => ⟨a.toArray⟩) = ⟨xss.flatten.toArray⟩
  | [] => rfl
  | [a] => by simp [Str.join]
  | a :: b :: r => by
    have ih := join_flat (b :: r)
    rw [List.map_cons, List.map_cons] at *
    show (⟨a.toArray⟩ : Str) ++ ⟨([] : List Nat).toArray⟩ ++ Str.join ⟨([] : List Nat).toArray⟩ (⟨b.toArray⟩ :: r.map fun a => ⟨a.toArray⟩) = _
    rw [ih]
    show (⟨a.toArray ++ ([] : List Nat).toArray ++ (b :: r).flatten.toArray⟩ : Str) = _
    simp
def rJoin (K:PySem.W.Frag):V->List V->Hp->VK->Prop:=fun x vs H Q=>∃ (p:Addr) (xss:List (List Nat)),x = tx []/\vs = [.ref p]/\SqL K H p (xss.map tx)/\xss.flatten.length + xss.length <= 1000000/\Q (tx xss.flatten) H
theorem mt_join (K:PySem.W.Frag) (hK:X.K = K:=by rfl):MtR X "str.join" (rJoin K):=by
 subst hK
 intro pins s σ H x vs v us Q I rx rv h
 obtain ⟨p,xss,rfl,rfl,hq,hw,q⟩:=h
 obtain ⟨t,rfl⟩:=rx
 obtain ⟨u,rfl,ru⟩:=rv.one
 cases ru
 obtain ⟨its,r,ht,hz⟩:=I.list hq
 have hs:((xss.map fun a=>(⟨a.toArray⟩:Str)).map (·.length)).sum = xss.flatten.length:=by
  rw [List.map_map,List.length_flatten]
  congr 1
 refine join_listW ht.isList (strs_of r) (by rw [tx_len]; decide) (by rw [hs,List.length_map]; omega) fun t' k=>?_
 have e:Txt.join ⟨([]:List Nat).toArray⟩ (xss.map fun a=>⟨a.toArray⟩) = ⟨xss.flatten.toArray⟩:=by
  show Builtin.Str.glued _ _ = _
  rw [StrLaws.glued_eq_join,join_flat]
 rw [e]
 exact ⟨tx xss.flatten,H,I.tok k,⟨t',rfl⟩,q⟩
end
section
variable {σ:St} {H:Hp} {Q:VK} {K:PySem.W.Frag}
theorem s_tyT {a:List Nat} {P:Prop} (h:P):tyV K "str" (tx a) H/\P:=⟨rfl,h⟩
theorem s_join {p:Addr} {xss:List (List Nat)} (hq:SqL K H p (xss.map tx)) (hw:xss.flatten.length + xss.length <= 1000000) (h:Q (tx xss.flatten) H):rJoin K (tx []) [.ref p] H Q:=⟨p,xss,rfl,rfl,hq,hw,h⟩
theorem comp_rng {lo : Int} {n : Nat} {own : List Str} {sel : List Nat} {g : TG} {tt : TT} {te : TE} (hn : n <= sizeLine) (Pv : Addr -> Nat -> List V -> Hp -> Prop) (h0 : ∀ D, H D = none -> Pv D 0 [] (upd H D (.lst [])))
  (hst : ∀ D ys H', H D = none -> H' D = some (.lst ys) -> Pv D n ys H' -> Q (.ref D) H')
  (hs : ∀ D i ys H', H D = none -> i < n -> H' D = some (.lst ys) -> ys.length <= i -> Pv D i ys H' -> g (.int (lo + i)) (inSt own sel σ) H' fun σ4 H4 => tt σ4 H4 fun b H5 =>
   if b = true then te σ4 H5 fun v H6 => ∃ ys, H6 D = some (.lst ys) /\ ys.length < sizeLine /\ ∃ m', m' < n - i /\ CW D n (Pv D) (i + 1) m' (upd H6 D (.lst (ys ++ [v])))
   else ∃ m', m' < n - i /\ CW D n (Pv D) (i + 1) m' H5) : CompW (Itr lo n) own sel σ g tt te Q H := by
 refine comp_of (n := n) Pv h0 (fun D i ys H' hD hi _ p => hi) (fun D ys H' hD hy hl p => ⟨Nat.le_refl _, hst D ys H' hD hy p⟩) (fun D i ys H' x H3 hD hi hy hl p y => ?_)
 obtain ⟨rfl, rfl⟩ := y
 exact hs D i ys _ hD hi hy hl p
end
end L2
namespace BrM
open L2 PySem BrR
def oth (c:Nat):Nat:=if c = 40 then 41 else if c = 91 then 93 else if c = 123 then 125 else if c = 60 then 62 else if c = 41 then 40 else if c = 93 then 91 else if c = 125 then 123 else if c = 62 then 60 else c
def trn (a:List Nat):List Nat:=a.reverse.map oth
theorem at_mem {l:List Nat} {i:Int} (h0:0 <= i) (h1:i < (l.length:Int)):∃ c,atI l i = some c/\c ∈ l:=by
 have hk:i.toNat < l.length:=by omega
 have ek:i = ((i.toNat:Nat):Int):=by omega
 have q:atI l ((i.toNat:Nat):Int) = some l[i.toNat]:=atI_nat (List.getElem?_eq_getElem hk)
 rw [<- ek] at q
 exact ⟨_,q,List.getElem_mem hk⟩
end BrM
namespace L2
open PySem PySem.Spec PyProof.Rows BrR
section
variable {X:Cx}
end
section
variable {σ:St} {H:Hp} {Q:VK} {K:PySem.W.Frag}
end
end L2
namespace BrM
open L2 PySem
structure PtsOk (a:List Nat):Prop where
 flat:(pts a).flatten = a
 form:∀ p ∈ pts a,∃ o M,p = [o] ++ M ++ [clo o]/\o ∈ opn/\Rt M
 le:∀ p ∈ pts a,deep p <= deep a
 top:deep a = 0\/∃ p ∈ pts a,deep p = deep a
 back:pts (trn a) = ((pts a).map trn).reverse
theorem len_mem_flat {p : List Nat} : ∀ {l : List (List Nat)}, p ∈ l -> p.length <= l.flatten.length
  | q :: r, h => by
    rw [List.flatten_cons, List.length_append]
    rcases List.mem_cons.mp h with z | z
    · subst z; omega
    · have := len_mem_flat z; omega
theorem PtsOk.len {a:List Nat} (h:PtsOk a) {p:List Nat} (hp:p ∈ pts a):p.length <= a.length:=by
 have:=len_mem_flat hp
 rwa [h.flat] at this
end BrM
namespace L2
open PySem PySem.Spec PyProof.Rows BrR
section
variable {σ:St} {H:Hp} {Q:VK} {K:PySem.W.Frag}
theorem comp_none {a:Addr} {xs:List V} {own:List Str} {sel:List Nat} {g:TG} {tt:TT} {te:TE} (ha:H a = some (.lst xs))
  (hst:∀ D H',H D = none->Same H H'->H' D = some (.lst [])->Q (.ref D) H')
  (hs:∀ (D:Addr) (i:Nat) (x:V) (H':Hp) (R:St->Bool->Hp->Prop),H D = none->xs[i]? = some x->Same H H'->(∀ σ4 H5,Same H' H5->R σ4 false H5)->g x (inSt own sel σ) H' fun σ4 H4=>tt σ4 H4 (R σ4)):CompW (Itl K a) own sel σ g tt te Q H:=by
 intro D hD
 refine ⟨fun i m H'=>m = xs.length - i/\i <= xs.length/\H' D = some (.lst [])/\Same H H',⟨_,rfl,Nat.zero_le _,upd_same,same_new hD _⟩,?_⟩
 rintro i m H2 ⟨rfl,hi,hy,sH⟩
 by_cases hlt:i < xs.length
 ·refine .inr ⟨⟨xs,xs[i],SqL.of (sH _ _ ha),List.getElem?_eq_getElem hlt⟩,fun x H3 y=>?_⟩
  obtain ⟨rfl,hx⟩:=y
  refine hs D i x H3 (fun σ4 b H5=>if b = true then te σ4 H5 fun v H6=>∃ ys,H6 D = some (.lst ys)/\ys.length < sizeLine/\∃ m',m' < xs.length - i/\(m' = xs.length - (i + 1)/\i + 1 <= xs.length/\(upd H6 D (.lst (ys ++ [v]))) D = some (.lst [])/\Same H (upd H6 D (.lst (ys ++ [v])))) else ∃ m',m' < xs.length - i/\(m' = xs.length - (i + 1)/\i + 1 <= xs.length/\H5 D = some (.lst [])/\Same H H5)) hD (hx _ (SqL.of (sH _ _ ha))) sH (fun σ4 H5 s5=>?_)
  rw [if_neg Bool.false_ne_true]
  exact ⟨xs.length - (i + 1),by omega,rfl,hlt,s5 _ _ hy,sH.trans s5⟩
 ·have e:i = xs.length:=by omega
  subst e
  exact .inl ⟨⟨_,SqL.of (sH _ _ ha),Nat.le_refl _⟩,hst D H2 hD sH hy⟩
end
end L2
namespace BrM
open L2 PySem
end BrM
namespace L2
open PySem PySem.Spec PyProof.Rows
theorem cf_split : ∀ (names : List (Str × NameKind)) (h : Heap) (acc : List (Str × Addr)) (x : Str) (c : Addr), (cellsFrom h.objs.size names acc).lookup x = some c ->
    ((x, NameKind.cell) ∈ names /\ h.objs.size <= c /\ (pushCells h names).IsCell c none) \/ acc.lookup x = some c
  | [], _, _, _, _, e => .inr e
  | (nm, k) :: r, h, acc, x, c, e => by
    unfold cellsFrom at e
    unfold pushCells
    by_cases hk : (k == NameKind.cell) = true
    · rw [if_pos hk] at e ⊢
      rw [<- Heap.size_push h { cls := .type "cell", data := .cell none }] at e
      rcases cf_split r _ _ x c e with ⟨a, b, d⟩ | q
      · refine .inl ⟨List.mem_cons_of_mem _ a, ?_, d⟩
        rw [Heap.size_push] at b; omega
      · rw [List.lookup_cons] at q
        cases hx : x == nm with
        | true =>
          rw [hx] at q
          cases q
          have e1 := eq_of_beq hx
          have e2 : k = .cell := by simpa using hk
          subst e1; subst e2
          exact .inl ⟨List.mem_cons_self, Nat.le_refl _, ⟨_, pushCells_keeps _ _ _ _ (Heap.get?_push_size _ rfl), rfl⟩⟩
        | false => rw [hx] at q; exact .inr q
    · rw [if_neg hk] at e ⊢
      rcases cf_split r h acc x c e with ⟨a, b, d⟩ | q
      · exact .inl ⟨List.mem_cons_of_mem _ a, b, d⟩
      · exact .inr q
theorem cf_old : ∀ (names : List (Str × NameKind)) (n : Nat) (acc : List (Str × Addr)) (x : Str), (x, NameKind.cell) ∉ names -> (cellsFrom n names acc).lookup x = acc.lookup x
  | [], _, _, _, _ => rfl
  | (nm, k) :: r, n, acc, x, hx => by
    unfold cellsFrom
    have hr : (x, NameKind.cell) ∉ r := fun z => hx (List.mem_cons_of_mem _ z)
    by_cases hk : (k == NameKind.cell) = true
    · rw [if_pos hk, cf_old r _ _ x hr, List.lookup_cons]
      have : (x == nm) = false := by
        cases q : x == nm with
        | false => rfl
        | true =>
          have e1 := eq_of_beq q
          have e2 : k = .cell := by simpa using hk
          subst e1; subst e2
          exact absurd List.mem_cons_self hx
      rw [this]
    · rw [if_neg hk]; exact cf_old r n acc x hr
theorem cf_new : ∀ (names : List (Str × NameKind)) (n : Nat) (acc : List (Str × Addr)) (x : Str), ((x, NameKind.cell) ∈ names \/ ∃ c, acc.lookup x = some c /\ n <= c) -> ∃ c, (cellsFrom n names acc).lookup x = some c /\ n <= c
  | [], n, acc, x, h => by
    rcases h with z | z
    · cases z
    · exact z
  | (nm, k) :: r, n, acc, x, h => by
    unfold cellsFrom
    by_cases hk : (k == NameKind.cell) = true
    · rw [if_pos hk]
      by_cases hr : (x, NameKind.cell) ∈ r
      · obtain ⟨c, e, l⟩ := cf_new r (n + 1) ((nm, n) :: acc) x (.inl hr)
        exact ⟨c, e, by omega⟩
      · rw [cf_old r _ _ x hr, List.lookup_cons]
        cases hx : x == nm with
        | true => exact ⟨n, rfl, Nat.le_refl _⟩
        | false =>
          rcases h with z | z
          · rcases List.mem_cons.mp z with q | q
            · cases q; simp at hx
            · exact absurd q hr
          · exact z
    · rw [if_neg hk]
      refine cf_new r n acc x ?_
      rcases h with z | z
      · rcases List.mem_cons.mp z with q | q
        · cases q; exact absurd rfl hk
        · exact .inl q
      · exact .inr z
theorem cf_inj : ∀ (names : List (Str × NameKind)) (n : Nat) (acc : List (Str × Addr)), (∀ x y c, acc.lookup x = some c -> acc.lookup y = some c -> x = y) -> (∀ x c, acc.lookup x = some c -> c < n) ->
    ∀ x y c, (cellsFrom n names acc).lookup x = some c -> (cellsFrom n names acc).lookup y = some c -> x = y
  | [], _, _, h, _ => h
  | (nm, k) :: r, n, acc, h, hb => by
    unfold cellsFrom
    by_cases hk : (k == NameKind.cell) = true
    · rw [if_pos hk]
      refine cf_inj r (n + 1) ((nm, n) :: acc) (fun x y c a b => ?_) fun x c a => ?_
      · rw [List.lookup_cons] at a b
        cases hx : x == nm <;> cases hy : y == nm <;> rw [hx] at a <;> rw [hy] at b
        · exact h x y c a b
        · cases b; exact absurd (hb x _ a) (Nat.lt_irrefl _)
        · cases a; exact absurd (hb y _ b) (Nat.lt_irrefl _)
        · rw [eq_of_beq hx, eq_of_beq hy]
      · rw [List.lookup_cons] at a
        cases hx : x == nm <;> rw [hx] at a
        · exact Nat.lt_succ_of_lt (hb x c a)
        · cases a; exact Nat.lt_succ_self _
    · rw [if_neg hk]; exact cf_inj r n acc h hb
theorem wp_envC {M : Model} {A : Around} {E : Value -> Shared -> Prop} {s : Shared} {scope : Scope} {cl : List (Str × Addr)} {env : Env} {Q : Env -> Shared -> Prop}
  (h : Q { scope := scope, locals := s.heap.objs.size, globals := env.globals, cells := cellsFrom (s.heap.objs.size + 1) scope.names cl, qual := env.qual, func := none, code := env.code, frame := env.frame, builtins := env.builtins }
   { s with heap := pushCells (s.heap.push { cls := .type "dict", data := .dict #[] }) scope.names }) :
  wpAny M A (newFunctionEnv scope env.globals cl [] env.qual none .none (some env)) Q E s := by
 simp only [newFunctionEnv, Option.isSome_some, if_true]
 refine wpAny_bind (wpAny_alloc ?_)
 refine wpAny_bind (wpAny_layCells _ (fun name kind cells => by cases hkc : kind == NameKind.cell <;> simp [hkc]) _ _ _ _ ?_)
 rw [show ({ s with heap := s.heap.push { cls := .type "dict", data := .dict #[] } } : Shared).heap.objs.size = s.heap.objs.size + 1 from Heap.size_push ..]
 rw [List.forIn_nil]
 exact wpAny_bind (wpAny_pure (wpAny_pure h))
def cxInC (X:Cx) (own:List Str) (sel:List Nat) (scope:Scope) (cl:List (Str × Addr)) (C:Addr) (s2:Shared) (H2:Hp) (fp:List Addr):Cx where
 prog:=X.prog
 w:=X.w
 K:=X.K
 mg:=X.mg
 base:=X.base
 A:=X.A
 N:=own ++ sel.map fun j=>X.N.getD j Str.empty
 s₀:=s2
 H₀:=H2
 env:=compEnvC scope cl C X.env
 outer:=X.stack
 stack:=X.stack
 ex:=fp
 fn:=fun x=>scope.names.lookup x == some .cell
 calm:=X.calm
 pn:=[]
 xe:=fun _ _=>False
structure CompOkC (osc:Scope) (N:List Str) (own:List Str) (sel:List Nat) (scope:Scope):Prop where
 kind:scope.kind = .function
 cell:∀ y ∈ scope.names,y.2 = .cell->scope.names.lookup y.1 = some .cell
 names:∀ y ∈ scope.names,y.2 = .local->scope.names.lookup y.1 = some .local
 free:∀ y ∈ scope.names,y.2 = .free->osc.names.lookup y.1 = some .cell\/osc.names.lookup y.1 = some .free
 seln:∀ j ∈ sel,j < N.length/\scope.names.lookup (N.getD j Str.empty) = some .free/\(osc.names.lookup (N.getD j Str.empty) = some .cell\/osc.names.lookup (N.getD j Str.empty) = some .free)
section
variable {X:Cx}
theorem comp_coreC {elt tg iter : Expr} {ifs : List Expr} {scope : Scope} {pos : Pos} {own : List Str} {sel : List Nat} {wi : TI} {g : TG} {tt : TT} {te : TE} {use : Option (Value -> Sem Unit)} {Qo : Value -> Shared -> Prop}
    (S : CompOkC X.env.scope X.N own sel scope) (hc : X.calm = true) (hi : PI X tg iter wi)
    (hg : ∀ cl C s2 H2 fp, PG (cxInC X own sel scope cl C s2 H2 fp) tg g) (hk : GK own.length g)
    (ht : ∀ cl C s2 H2 fp, PIf (cxInC X own sel scope cl C s2 H2 fp) ifs tt) (he : ∀ cl C s2 H2 fp, PE (cxInC X own sel scope cl C s2 H2 fp) elt te)
    (hs : ∀ x, foldedSetIterable iter X.env x = pure x) {pins : List (Addr × Obj)} {s : Shared} {σ : St} {H : Hp} {Q : VK} {ps : Pos} (I0 : Inv X pins σ H s) (h : tComp own sel wi g tt te σ H Q)
    (fin : ∀ (D C : Addr) (H' : Hp) (s' : Shared) (m : Str -> Option Value), Inv X pins σ H' s' -> s'.heap.Ns C m -> Far X pins H' C -> Q (.ref D) H' -> compPost (model X.prog X.w) X.A X.xe use Qo (.ref D) C (.ok .next) s') :
    wpAny (model X.prog X.w) X.A (comprehension (.ListComp elt [⟨tg, iter, ifs, 0⟩] scope pos) scope X.env ps (newList []) false (eval iter X.env) use) Qo X.xe s := by
  obtain ⟨cl0, hclos, hcl0, hfree0⟩ := clos_ex (scope := scope) (env := X.env) fun y hy e => I0.ok.has y.1 (S.free y hy e)
  refine wpAny_comprehension_free (use := use) rfl hs hclos S.kind S.names (thn (hi pins s σ H _ I0 h) fun v s1 h1 => thn h1 fun itv s2 h2 => ?_)
  obtain ⟨it, fp, tn, J, H2, e, I, T, st2, f2, h3⟩ := h2
  subst e
  clear h h1 I0
  refine wpAny_newObj_type (wp_envC ?_)
  dsimp only
  generalize hP : s2.heap.push { cls := .type "list", dict := none, data := .seq ([] : List Value).toArray } = P1
  generalize hD : s2.heap.objs.size = D
  generalize hC : P1.objs.size = C
  have hCD : C = D + 1 := by rw [<- hC, <- hP, Heap.size_push, hD]
  have hlt : D < C := by rw [hCD]; exact Nat.lt_succ_self D
  have hDC : D ≠ C := Nat.ne_of_lt hlt
  have neC : ∀ b : Addr, b < D -> b ≠ C := fun b hb => Nat.ne_of_lt (Nat.lt_trans hb hlt)
  have neD : ∀ b : Addr, b < D -> b ≠ D := fun b hb => Nat.ne_of_lt hb
  have hsD : s2.heap.objs.size <= D := Nat.le_of_eq hD
  have hsC : s2.heap.objs.size <= C := Nat.le_trans hsD (Nat.le_of_lt hlt)
  have fresh : ∀ a, D <= a -> H2 a = none := fun a ha => I.hok.fresh (by rw [hD]; exact ha)
  have hnD : H2 D = none := fresh D (Nat.le_refl _)
  have hnC : H2 C = none := fresh C (Nat.le_of_lt hlt)
  have below : ∀ b o, s2.heap.get? b = some o -> b < D := fun b o e => by rw [<- hD]; exact Heap.lt_size e
  generalize hh1 : pushCells (P1.push { cls := .type "dict", data := .dict #[] }) scope.names = h1
  have keepP : ∀ b o, P1.get? b = some o -> h1.get? b = some o := fun b o e => by rw [<- hh1]; exact pushCells_keeps _ _ b o (Heap.get?_push_of_some _ e)
  have keep1 : ∀ b o, s2.heap.get? b = some o -> h1.get? b = some o := fun b o e => keepP b o (hP ▸ Heap.get?_push_of_some _ e)
  have hns1 : h1.Ns C (fun _ => none) := by rw [<- hh1, <- hC]; exact (Heap.Ns.new P1 (.type "dict")).keeps (pushCells_keeps _ _)
  have gD : h1.get? D = some { cls := .type "list", dict := none, data := .seq ([] : List Value).toArray } := by
    refine keepP _ _ ?_
    rw [<- hP, <- hD]
    exact Heap.get?_push_size _ rfl
  have szP : (P1.push { cls := .type "dict", data := .dict #[] }).objs.size = C + 1 := by rw [Heap.size_push, hC]
  have hcb : ∀ x c, cl0.lookup x = some c -> c < D := fun x c e => by
    obtain ⟨u, o, z, _⟩ := I.cell x c (hcl0 _ _ e)
    exact below c o z
  generalize hcs : cellsFrom (C + 1) scope.names cl0 = cl
  have hsplit : ∀ x c, cl.lookup x = some c -> ((x, NameKind.cell) ∈ scope.names /\ C + 1 <= c /\ h1.IsCell c none) \/ X.env.cells.lookup x = some c := fun x c e => by
    rw [<- hcs, <- szP] at e
    rcases cf_split _ _ _ x c e with ⟨a, b, d⟩ | q
    · rw [szP] at b; rw [hh1] at d; exact .inl ⟨a, b, d⟩
    · exact .inr (hcl0 _ _ q)
  have hinj : ∀ x y c, cl.lookup x = some c -> cl.lookup y = some c -> x = y := by
    rw [<- hcs]
    exact cf_inj _ _ _ (fun x y c a b => I.ok.inj x y c (hcl0 _ _ a) (hcl0 _ _ b)) fun x c e => Nat.lt_succ_of_lt (Nat.lt_trans (hcb x c e) hlt)
  have hcell : ∀ x, (x, NameKind.cell) ∈ scope.names -> ∃ c, cl.lookup x = some c /\ C + 1 <= c := fun x hx => by rw [<- hcs]; exact cf_new _ _ _ x (.inl hx)
  have hfree : ∀ y ∈ scope.names, y.2 = .free -> ∃ c, cl.lookup y.1 = some c := fun y hy e => by
    by_cases hm : (y.1, NameKind.cell) ∈ scope.names
    · obtain ⟨c, q, _⟩ := hcell _ hm; exact ⟨c, q⟩
    · rw [<- hcs, cf_old _ _ _ _ hm]; exact hfree0 y hy e
  have hold : ∀ x, scope.names.lookup x = some .free -> ∃ c, cl.lookup x = some c /\ X.env.cells.lookup x = some c := fun x hx => by
    have hm : (x, NameKind.cell) ∉ scope.names := fun z => by have := S.cell _ z rfl; rw [hx] at this; cases this
    obtain ⟨c, q⟩ := hfree0 _ (PySem.mem_of_lookup hx) rfl
    exact ⟨c, by rw [<- hcs, cf_old _ _ _ _ hm]; exact q, hcl0 _ _ q⟩
  obtain ⟨W, ⟨m0, w0⟩, turn⟩ := h3 D hnD
  have fpb : ∀ b ∈ fp, b < D := fun b hb => by obtain ⟨o, e, _⟩ := T.obj _ _ st2 b hb; exact below b o e
  generalize hY : cxInC X own sel scope cl C s2 H2 fp = Y
  have hg := hg cl C s2 H2 fp
  have ht := ht cl C s2 H2 fp
  have he := he cl C s2 H2 fp
  rw [hY] at hg ht he
  have okY : Y.Ok := by
    subst hY
    refine ⟨I.ok.mod, S.kind, I.ok.glob, I.ok.blt, ?_, hinj, fun x hx => ?_, fun x c hf e => ?_, fun z => I.ok.hd z, I.ok.frames, .inl rfl, fun b hb => ⟨?_, fun x c e => ?_⟩, I.bs,
      Nat.le_trans I.ok.bsz I.sz, fun b o e hb => ?_, fun b hb z => ?_, I.stack, I.stkFree⟩
    · exact hsC
    · have hx' : (relabel scope X.env).names.lookup x = some .cell \/ (relabel scope X.env).names.lookup x = some .free := hx
      have hf : scope.names.lookup x = some .cell \/ scope.names.lookup x = some .free := by
        rcases hx' with z | z
        · rcases relabel_lookup z with q | q
          · exact .inl q
          · exact .inr q
        · rcases relabel_lookup z with q | q <;> exact .inr q
      rcases hf with hf | hf
      · obtain ⟨c, q, _⟩ := hcell _ (PySem.mem_of_lookup hf); exact ⟨c, q⟩
      · exact hfree _ (PySem.mem_of_lookup hf) rfl
    · have hf' : scope.names.lookup x = some .cell := by
        have : (scope.names.lookup x == some NameKind.cell) = true := hf
        exact eq_of_beq this
      obtain ⟨c', q, l⟩ := hcell x (PySem.mem_of_lookup hf')
      have e' : cl.lookup x = some c := e
      rw [q] at e'
      cases e'
      exact Nat.le_trans hsC (by omega)
    · exact neC b (fpb b hb)
    · rcases hsplit x c e with ⟨_, l, _⟩ | q
      · have := fpb b hb; intro z; subst z; exact absurd (Nat.lt_of_lt_of_le this (Nat.le_of_lt hlt)) (by omega)
      · exact (f2 b hb).2.2.2.2.1 x c q
    · rcases (f2 b hb).2.2.2.1 with z | z
      · exact I.ok.noex b o e z
      · exact absurd (Nat.lt_of_lt_of_le (Heap.lt_size e) (Nat.le_trans I.ok.bsz z)) (Nat.lt_irrefl _)
    · rcases List.mem_cons.mp (I.stkSub b z) with q | q
      · exact (f2 b hb).2.1 q
      · exact (f2 b hb).2.2.1 q
  have eo : ObjOk X.prog X.w (upd H2 D (.lst [])) h1 D (.lst []) := ⟨by decide, [], _, .nil, gD⟩
  have I1 : Inv Y [] (inSt own sel σ) (upd H2 D (.lst [])) { s2 with heap := h1 } := by
    subst hY
    refine ⟨okY, rfl, I.bare, Un.laid keep1 hsD hnD, ⟨_, hns1, fun i x v e1 e2 e3 => ?_⟩, fun x c e => ?_, ?_, fun x c e => ?_, fun p hp => absurd (show p ∈ ([] : List (Addr × Obj)) from hp) (by simp), I.hok.laid keep1 hsD eo, ?_⟩
    · obtain ⟨k, j, ei, ej, es⟩ := inSt_sel e2
      subst ei
      have e1' : (own ++ sel.map fun j => X.N.getD j Str.empty)[own.length + k]? = some x := e1
      rw [List.getElem?_append_right (by omega), List.getElem?_map, show own.length + k - own.length = k by omega, ej] at e1'
      simp only [Option.map_some, Option.some.injEq] at e1'
      obtain ⟨hj, hfx, hkd⟩ := S.seln j (List.mem_of_getElem? ej)
      have hN : X.N[j]? = some x := by rw [<- e1', List.getD_eq_getElem?_getD, List.getElem?_eq_getElem hj]; rfl
      rw [e1'] at hkd hfx
      obtain ⟨m, _, hl⟩ := I.loc
      obtain ⟨u, r, lk⟩ := hl j x v hN es (.inr hkd)
      refine ⟨u, r, .inr ⟨relabel_free I.ok.kind hfx, ?_⟩⟩
      rcases lk with ⟨z1, _⟩ | ⟨_, c, hc1, hc2⟩
      · have z1' : X.env.scope.names.lookup x = some .local := z1
        rcases hkd with q | q <;> (rw [z1'] at q; cases q)
      · obtain ⟨c', q, q2⟩ := hold _ hfx
        rw [hc1] at q2
        cases q2
        exact ⟨c, q, hc2.keeps keep1⟩
    · rcases hsplit x c e with ⟨_, _, z⟩ | q
      · exact ⟨_, z⟩
      · obtain ⟨u, z⟩ := I.cell x c q
        exact ⟨u, z.keeps keep1⟩
    · show upd H2 D (.lst []) C = none
      rw [upd_ne (Ne.symm hDC)]; exact hnC
    · show upd H2 D (.lst []) c = none
      rcases hsplit x c e with ⟨_, l, _⟩ | q
      · have hcD : D < c := Nat.lt_of_lt_of_le hlt (by omega)
        rw [upd_ne (Ne.symm (Nat.ne_of_lt hcD))]
        exact fresh c (Nat.le_of_lt hcD)
      · obtain ⟨u, o, z, _⟩ := I.cell x c q
        rw [upd_ne (neD c (below c o z))]
        exact I.freeC x c q
    · show (inSt own sel σ).length = (own ++ sel.map fun j => X.N.getD j Str.empty).length
      rw [inSt_len]; simp
  have fin : ∀ (σ' : St) (H' : Hp) (s' : Shared), Inv Y [] σ' H' s' -> Q (.ref D) H' -> compPost (model X.prog X.w) X.A X.xe use Qo (.ref D) C (.ok .next) s' := by
    intro σ' H' s' I' q
    subst hY
    obtain ⟨m, hn, _⟩ := I'.loc
    have J' : Inv X pins σ H' s' := I.call' I'.os I'.base I'.hok I'.bare fun b hb => ⟨(f2 b hb).2.2.2.1, (f2 b hb).2.1, (f2 b hb).2.2.2.2.1, (f2 b hb).2.2.2.2.2⟩
    refine fin D C H' s' m J' hn ⟨I'.free, Ne.symm (neC _ (by rw [<- hD]; exact I.lt)), Nat.le_trans I.sz hsC, fun x c e => ?_, fun p hp => ?_⟩ q
    · obtain ⟨u, o, z, _⟩ := I.cell x c e
      exact neC c (below c o z)
    · exact neC p.1 (below p.1 p.2 (I.pin p hp).1)
  have stat : ∀ {H' : Hp}, (∀ b ∈ fp, H' b = none) -> ∀ b ∈ fp, FpOk Y [] H' b := fun {H'} hn b hb => by
    subst hY
    refine ⟨hn b hb, neC b (fpb b hb), fun z => ?_, .inl hb, fun x c e => ?_, fun p hp => absurd (show p ∈ ([] : List (Addr × Obj)) from hp) (by simp)⟩
    · rcases List.mem_cons.mp (I.stkSub b z) with q | q
      · exact (f2 b hb).2.1 q
      · exact (f2 b hb).2.2.1 q
    · rcases hsplit x c e with ⟨_, l, _⟩ | q
      · have := fpb b hb; intro z; subst z; exact absurd (Nat.lt_of_lt_of_le this (Nat.le_of_lt hlt)) (by omega)
      · exact (f2 b hb).2.2.2.2.1 x c q
  have loop : ∀ s3 : Shared, s3 = { s2 with heap := h1 } ->
      codeAny (model X.prog X.w) X.A (.compLoop (.ListComp elt [⟨tg, iter, ifs, 0⟩] scope pos) 0 (.ref it) (.ref D) (compEnvC scope cl C X.env)) (compPost (model X.prog X.w) X.A X.xe use Qo (.ref D) C) s3 := by
    rintro s3 rfl
    have eP : Y.prog = X.prog := by subst hY; rfl
    have eW : Y.w = X.w := by subst hY; rfl
    have eA : Y.A = X.A := by subst hY; rfl
    have eK : Y.K = X.K := by subst hY; rfl
    have eE : Y.env = compEnvC scope cl C X.env := by subst hY; rfl
    have eX : Y.xe = fun _ _ => False := by subst hY; rfl
    have eC : Y.calm = true := by subst hY; exact hc
    refine comp_turns (fun n s' => ∃ i H', Inv Y [] (inSt own sel σ) H' s' /\ tn i s'.heap /\ (∀ b ∈ fp, H' b = none) /\ W i n H') ?_ m0
      ⟨0, _, I1, T.keep _ _ _ st2 fun b _ o e => keep1 b o e, fun b hb => by rw [upd_ne (neD b (fpb b hb))]; exact (f2 b hb).1, w0⟩
    rintro n s4 ⟨i, H4, I4, st4, fr4, w4⟩
    rcases turn i n H4 w4 with ⟨stop, q⟩ | ⟨go, step⟩
    · have dn := T.done Y eP eW eK eC i [] s4 _ H4 (fun _ _ => False) I4 (stat fr4) st4 stop
      rw [eA] at dn
      refine thn dn fun r s5 ⟨hr, I5⟩ => ?_
      subst hr
      exact fin _ _ _ I5 q
    · have im := T.item Y eP eW eK eC i [] s4 _ H4 (fun _ _ => False) I4 (stat fr4) st4 go
      rw [eA] at im
      refine thn im fun r s5 ⟨u, hr, h5⟩ => ?_
      subst hr
      refine thn h5 fun _ s6 ⟨x, H6, I6, r6, y6, st6, fr6⟩ => ?_
      have I6' := I6.pinned (stat fr6) (T.obj _ _ st6)
      have back : ∀ {σ7 : St} {H7 : Hp} {s7 : Shared} {k : Nat}, Inv Y ([] ++ pinsAt fp s6.heap) σ7 H7 s7 -> σ7.length = (inSt own sel σ).length -> (∀ j, own.length <= j -> σ7[j]? = (inSt own sel σ)[j]?) -> (∃ m', m' < n /\ W (i + 1) m' H7) ->
          ∃ m', m' < n /\ ∃ i H', Inv Y [] (inSt own sel σ) H' s7 /\ tn i s7.heap /\ (∀ b ∈ fp, H' b = none) /\ W i m' H' := fun {σ7 H7 s7 k} I7 l7 k7 w7 => by
        obtain ⟨m', hm, w7⟩ := w7
        refine ⟨m', hm, i + 1, H7, I7.unpinned.weak l7.symm fun j v e => ?_, T.keep _ _ _ st6 fun b hb o e => (I7.pin (b, o) (List.mem_append_right _ (List.mem_append_right _ (mem_pinsAt hb e)))).1, fun b hb => ?_, w7⟩
        · by_cases hj : j < own.length
          · rw [inSt_own hj] at e; cases e
          · rw [k7 j (Nat.le_of_not_lt hj)]; exact e
        · obtain ⟨o, e, d⟩ := T.obj _ _ st6 b hb
          exact (I7.pin (b, o) (List.mem_append_right _ (List.mem_append_right _ (mem_pinsAt hb e)))).2.1
      have ga := hg _ s6 _ H6 x u _ I6' r6 (hk _ _ _ _ (step x H6 y6))
      rw [eP, eW, eA, eE, eX] at ga
      refine thn ga fun _ s7 ⟨σ7, H7, I7, q7, l7, k7⟩ => ?_
      have ta := ht _ s7 σ7 H7 _ I7 q7
      rw [eP, eW, eA, eE, eX] at ta
      refine thn ta fun b s8 ⟨H8, I8, q8⟩ => ?_
      cases b with
      | false =>
        rw [if_neg Bool.false_ne_true] at q8 ⊢
        exact back (k := 0) I8 l7 k7 q8
      | true =>
        rw [if_pos rfl] at q8 ⊢
        have ea := he _ s8 σ7 H8 _ I8 q8
        rw [eP, eW, eA, eE, eX] at ea
        refine thn ea fun v s9 ⟨x9, H9, I9, r9, ys, hD9, hz9, q9⟩ => ?_
        have aa := mt_append (X := Y) _ s9 σ7 H9 (.ref D) [x9] (.ref D) [v] (fun _ H' => ∃ m', m' < n /\ W (i + 1) m' H') I9 rfl (.cons r9 .nil) ⟨D, ys, x9, rfl, rfl, hD9, hz9, q9⟩
        rw [eP, eW, eA, eX] at aa
        exact thn aa fun _ s10 ⟨_, H10, I10, _, q10⟩ => back (k := 0) I10 l7 k7 q10
  exact codeAny_compStart_list (loop _ rfl) (T.self X.A 0 _ _ _ (T.keep _ _ _ st2 fun b _ o e => keep1 b o e) (loop _ rfl))
theorem pe_compC {elt tg iter:Expr} {ifs:List Expr} {scope:Scope} {pos:Pos} {own:List Str} {sel:List Nat} {wi:TI} {g:TG} {tt:TT} {te:TE}
  (S:CompOkC X.env.scope X.N own sel scope) (hc:X.calm = true) (hi:PI X tg iter wi)
  (hg:∀ cl C s2 H2 fp,PG (cxInC X own sel scope cl C s2 H2 fp) tg g) (hk:GK own.length g)
  (ht:∀ cl C s2 H2 fp,PIf (cxInC X own sel scope cl C s2 H2 fp) ifs tt) (he:∀ cl C s2 H2 fp,PE (cxInC X own sel scope cl C s2 H2 fp) elt te)
  (hs:∀ x,foldedSetIterable iter X.env x = pure x:=by intro _; rfl) :
  PE X (.ListComp elt [⟨tg,iter,ifs,0⟩] scope pos) (tComp own sel wi g tt te):=by
 intro pins s σ H Q I h
 rw [eval_ListComp]
 refine comp_coreC (use:=none) S hc hi hg hk ht he hs I h fun D C H' s' m I' hn f q=>?_
 exact ⟨m,hn,fun h' k=>⟨.ref D,H',I'.far f k,rfl,q⟩⟩
end
end L2
namespace L2
open PySem PySem.Spec PyProof.Rows
def Itr3 (lo c:Int) (n:Nat):It:=⟨fun i _=>i < n,fun i H x H'=>H' = H/\x = .int (lo + i * c),fun i _=>n <= i⟩
theorem turn_range3 {P:Program} {w:World} {K:PySem.W.Frag} {tg:Expr} (it:Addr) (lo c:Int) (n:Nat):Turn P w K tg (Itr3 lo c n) [it] it (fun i h=>IsRangeIter h it (lo + (i:Nat) * c) ((n:Int) - (i:Nat)) c) where
 mem:=by simp
 obj:=fun i h st b hb=>by
  obtain rfl:b = it:=by simpa using hb
  exact ⟨_,st,fun v z=>by
   have z':Data.fields _ = Data.cell v:=z
   cases z'⟩
 keep:=fun i h h' st k=>k it (by simp) _ st
 item:=by
  intro X hP hw hK hc i pins s σ H E I hf st hg
  subst hP hw hK
  obtain ⟨f0,f1,f2,f3,f4,f5⟩:=hf it (by simp)
  have W:=Walks.range (prog:=X.prog) (w:=X.w) (I.ok.hd hc) it lo c n
  refine W.item i s _ _ hg st fun v h' tk hv st' kk=>?_
  obtain ⟨t,rfl⟩:=hv
  have I1:Inv X pins σ H { s with heap:=h',toks:=tk }:=I.turned (fun b o hb e=>kk b o (by simpa using hb) e) f0 f1 f3 f4 f5
  exact ⟨_,rfl,go_of (s:={ s with heap:=h',toks:=tk }) (n:="range_iterator") st' rfl rfl (by decide) ⟨.int (lo + i * c),H,I1,⟨t,rfl⟩,⟨rfl,rfl⟩,st',fun b hb=>(hf b hb).1⟩⟩
 done:=by
  intro X hP hw hK hc i pins s σ H E I hf st hg
  subst hP hw hK
  obtain ⟨f0,f1,f2,f3,f4,f5⟩:=hf it (by simp)
  exact wpAny_pyNext_range_end (I.ok.hd hc) st (by have:n <= i:=hg; omega) fun h' eb=>⟨rfl,I.turned (t':=s.toks) (fun b o hb e=>eb b o hb e) f0 f1 f3 f4 f5⟩
 self:=fun _ _ _ _ _ st h=>wpAny_pyIter_rangeiter st h
section
variable {X:Cx} {tg:Expr}
def rN (a b c:Int):Nat:=(Builtin.Range.rangeSize a b c).toNat
theorem range_it3 {pins:List (Addr × Obj)} {σ:St} {H:Hp} {s:Shared} {R:It->Hp->Prop} {E:Value->Shared->Prop} {lo hi c:Int} {t u v:Tok} {tk:Nat} (I:Inv X pins σ H s) (hs:Builtin.Range.small lo hi c = true)
  (q:R (Itr3 lo c (rN lo hi c)) H):wpAny (model X.prog X.w) X.A (pyIter (.ref s.heap.objs.size)) (PIE X pins σ tg R) E { s with heap:=s.heap.push { cls:=.type "range",data:=.fields #[.int lo t,.int hi u,.int c v] },toks:=tk }:=by
 refine wpAny_pyIter_range (IsRange.new ..) hs ?_
 have I1:Inv X pins σ H { s with heap:=s.heap.push { cls:=.type "range",data:=.fields #[.int lo t,.int hi u,.int c v] },toks:=tk }:=I.kept fun b o e=>Heap.get?_push_of_some _ e
 refine ⟨(s.heap.push { cls:=.type "range",data:=.fields #[.int lo t,.int hi u,.int c v] }).objs.size,[(s.heap.push { cls:=.type "range",data:=.fields #[.int lo t,.int hi u,.int c v] }).objs.size],_,_,H,rfl,
  I1.kept (t':=tk) fun b o e=>Heap.get?_push_of_some _ e,turn_range3 _ lo c (rN lo hi c),?_,fun b hb=>?_,q⟩
 ·have e1:lo + ((0:Nat):Int) * c = lo:=by simp
  have e2:((rN lo hi c:Nat):Int) - ((0:Nat):Int) = Builtin.Range.rangeSize lo hi c:=by unfold rN; rw [<- rangeSize_toNat]; simp
  show IsRangeIter _ _ (lo + ((0:Nat):Int) * c) (((rN lo hi c:Nat):Int) - ((0:Nat):Int)) c
  rw [e1,e2]
  exact Heap.get?_push_size _ rfl
 ·obtain rfl:b = (s.heap.push { cls:=.type "range",data:=.fields #[.int lo t,.int hi u,.int c v] }).objs.size:=by simpa using hb
  exact I1.fpOk (Nat.le_refl _) (I1.hok.fresh (Nat.le_refl _))
def iRng3 (ta:TA):TI:=fun σ H R=>ta σ H fun vs H1=>∃ i j c:Int,vs = [.int i,.int j,.int c]/\(c ≠ 0/\c.natAbs < 1000/\Builtin.Range.small i j c = true)/\R (Itr3 i c (rN i j c)) H1
theorem pi_range3 {a b c : Expr} {ta : TA} {p pos : Pos} (hg : Gl X "range") (hm : X.mg "range" = none) (ha : PA X [a, b, c] ta) (hs : starEach [a, b, c] X.env = [(false, eval a X.env), (false, eval b X.env), (false, eval c X.env)] := by rfl) (hs2 : starEach [b, c] X.env = [(false, eval b X.env), (false, eval c X.env)] := by rfl) :
    PI X tg (.Call (.Name "range" p) [a, b, c] [] pos) (iRng3 ta) := by
  intro pins s σ H R I h
  refine Call_ (ld_blt I hg hm boot_range (PyProof.Rows.callWith_type1 (thn (ha pos pins s σ H _ I h) fun us s1 ⟨vs, H1, I1, r1, q1⟩ => ?_) (by rw [hs, hs2]) (by rw [hs2]; rfl)))
  obtain ⟨i, j, c, e, ⟨q1, q2, q3⟩, q⟩ := q1
  subst e
  cases r1 with
  | cons r rr =>
    cases rr with
    | cons r' rr =>
      cases rr with
      | cons r'' rr =>
        cases rr
        obtain ⟨t, rfl⟩ := r
        obtain ⟨t', rfl⟩ := r'
        obtain ⟨t'', rfl⟩ := r''
        exact call_range_3 q1 (range_it3 I1 q3 q) (Or.inl (PyProof.noPylong_small (by omega)))
end
theorem small_two {a b:Int} (ha:0 <= a) (ha':a <= 1000) (hb:-1000 <= b) (hb':b <= 1000):Builtin.Range.small a b 2 = true:=by
 unfold Builtin.Range.small Builtin.Range.rangeSize
 simp only [Builtin.Range.rangeFitsLong,Bool.and_eq_true,Bool.or_eq_true,decide_eq_true_eq,beq_iff_eq,show (2:Int) > 0 by decide,if_true]
 split <;> omega
theorem small_down {a b c:Int} (hc:c = -1\/c = -2) (ha:-1000 <= a) (ha':a <= 1000) (hb:-1000 <= b) (hb':b <= 1000):Builtin.Range.small a b c = true:=by
 unfold Builtin.Range.small Builtin.Range.rangeSize
 rcases hc with rfl | rfl
 ·simp only [Builtin.Range.rangeFitsLong,Bool.and_eq_true,Bool.or_eq_true,decide_eq_true_eq,beq_iff_eq,show ¬ ((-1:Int) > 0) by decide,if_false,Int.neg_neg]
  split <;> omega
 ·simp only [Builtin.Range.rangeFitsLong,Bool.and_eq_true,Bool.or_eq_true,decide_eq_true_eq,beq_iff_eq,show ¬ ((-2:Int) > 0) by decide,if_false,Int.neg_neg]
  split <;> omega
theorem rN_two (a b:Int):rN a b 2 = ((b - a + 1) / 2).toNat:=by
 unfold rN Builtin.Range.rangeSize
 simp only [show (2:Int) > 0 by decide,if_true]
 split <;> omega
theorem rN_down (a b:Int):rN a b (-1) = (a - b).toNat:=by
 unfold rN Builtin.Range.rangeSize
 simp only [show ¬ ((-1:Int) > 0) by decide,if_false,Int.neg_neg]
 split <;> omega
section
variable {X:Cx}
def rSum (K:PySem.W.Frag):List V->Hp->VK->Prop:=fun xs H Q=>∃ (p:Addr) (ns:List Int),xs = [.ref p]/\SqL K H p (ns.map V.int)/\Q (.int ns.sum) H
theorem call_sumA (K:PySem.W.Frag) (hc:X.calm = true) (hK:X.K = K:=by rfl):CallR X (.builtin "sum") (rSum K):=by
 subst hK
 intro pins s σ H xs us Q I r h
 obtain ⟨p,ns,rfl,hq,q⟩:=h
 obtain ⟨u,rfl,ru⟩:=vals1 r
 cases ru
 obtain ⟨its,rr,ht,hz⟩:=I.list hq
 have hi:=intsAre_of rr
 obtain ⟨xs,e⟩:=hi.allInts.items
 have hns:ns = xs.toList.map (·.1):=by rw [<- hi.numsOf,<- nums_intItems,<- e]
 have hl:=ht.isList
 rw [e] at hl
 refine sum_intListG (I.ok.hd hc) hl fun h' tk t' hk=>?_
 have e2:preSum (numAt xs) xs.size = ns.sum:=by
  rw [preSum_eq,List.take_of_length_le (by simp),hns]
 rw [e2]
 exact ⟨.int ns.sum,H,I.kept fun b o z=>hk b o z,⟨t',rfl⟩,q⟩
def rList (K:PySem.W.Frag):List V->Hp->VK->Prop:=fun xs H Q=>∃ p ys,xs = [.ref p]/\(SqL K H p ys\/SqT K H p ys)/\∀ l,H l = none->Q (.ref l) (upd H l (.lst ys))
theorem call_listA (K:PySem.W.Frag) (hK:X.K = K:=by rfl):CallR X (.type "list") (rList K):=by subst hK; exact call_list_of
def rGetL (K:PySem.W.Frag):V->V->Hp->VK->Prop:=fun x y H Q=>∃ p xs,∃ (j:Nat),∃ v,x = .ref p/\y = .int j/\SqL K H p xs/\xs[j]? = some v/\Q v H
theorem get_listA (K:PySem.W.Frag) (hK:X.K = K:=by rfl):PGet X (rGetL K):=by
 subst hK
 intro pins s σ H o i ov iv Q I r1 r2 h
 obtain ⟨p,xs,j,z,rfl,rfl,hq,he,q⟩:=h
 cases r1
 obtain ⟨t,rfl⟩:=r2
 obtain ⟨its,r,pl,hz⟩:=I.list hq
 obtain ⟨w,ew,rw'⟩:=r.get he
 have hl:=r.length
 have hn:=line63
 have hj:=(List.getElem?_eq_some_iff.mp he).1
 exact wpAny_getItem_list pl.isList (by omega) (by omega) (by simpa using ew) ⟨z,H,I,rw',q⟩
end
section
variable {σ:St} {H:Hp} {Q:VK} {D:Ends} {K:PySem.W.Frag}
theorem s_irng3 {ta:TA} {R:It->Hp->Prop} (h:ta σ H fun vs H1=>∃ i j c:Int,vs = [.int i,.int j,.int c]/\(c ≠ 0/\c.natAbs < 1000/\Builtin.Range.small i j c = true)/\R (Itr3 i c (rN i j c)) H1):iRng3 ta σ H R:=h
theorem s_sum {p:Addr} {ns:List Int} (hq:SqL K H p (ns.map V.int)) (h:Q (.int ns.sum) H):rSum K [.ref p] H Q:=⟨p,ns,rfl,hq,h⟩
theorem s_listL {p:Addr} {ys:List V} (hq:SqL K H p ys) (h:∀ l,H l = none->Q (.ref l) (upd H l (.lst ys))):rList K [.ref p] H Q:=⟨p,ys,rfl,.inl hq,h⟩
theorem s_augS {to ti te:TE} {tget:V->V->Hp->VK->Prop} {tip:TIp} {tset:TSet} (h:to σ H fun o H1=>ti σ H1 fun i H2=>tget o i H2 fun x H3=>te σ H3 fun y H4=>tip x y H4 fun z H5=>tset o i z H5 fun H6=>D.nx σ H6):tAugS to ti te tget tip tset D σ H:=h
theorem s_getL {p:Addr} {xs:List V} {j:Nat} {v:V} (hq:SqL K H p xs) (he:xs[j]? = some v) (h:Q v H):rGetL K (.ref p) (.int j) H Q:=⟨p,xs,j,v,rfl,rfl,hq,he,h⟩
theorem for_rng3 {g:TG} {tb:TS} {lo c:Int} {n:Nat} (Pv:Nat->St->Hp->Prop) (h0:Pv 0 σ H)
  (hs:∀ i σ H,i < n->Pv i σ H->g (.int (lo + i * c)) σ H fun σ2 H2=>tb { D with nx:=Pv (i + 1),ct:=Pv (i + 1),bk:=D.nx } σ2 H2) (hd:∀ σ H,Pv n σ H->D.nx σ H):ForW (Itr3 lo c n) g tb D σ H :=
 for_of (n:=n) Pv h0 (fun i σ H hi _=>hi) (fun σ H _=>Nat.le_refl _) (fun i x σ H H' hi p y=>by obtain ⟨rfl,rfl⟩:=y; exact hs i σ _ hi p) hd
end
end L2
namespace L2
open PySem PySem.Spec PyProof.Rows
def relabelS (scope osc:Scope):Scope:={ scope with names:=scope.names.map fun (n,k)=>if (k == .free && osc.kind == .function && osc.names.lookup n == some .cell) then (n,.cell) else (n,k) }
theorem compOkIn {X:Cx} {osc sc:Scope} {N:List Str} {own own':List Str} {sel sel':List Nat} {scope:Scope} {cl:List (Str × Addr)} {C:Addr} {s2:Shared} {H2:Hp} {fp:List Addr}
  (e:X.env.scope = osc) (eN:(cxInC X own' sel' sc cl C s2 H2 fp).N = N) (h:compOkB (relabelS sc osc) N own sel scope = true):CompOk (cxInC X own' sel' sc cl C s2 H2 fp).env.scope (cxInC X own' sel' sc cl C s2 H2 fp).N own sel scope:=by
 subst e; subst eN
 exact compOk_of h
def compOkCB (osc:Scope) (N:List Str) (own:List Str) (sel:List Nat) (scope:Scope):Bool :=
 (scope.kind == .function) && scope.names.all (fun y=>y.2 != .cell || scope.names.lookup y.1 == some .cell) && scope.names.all (fun y=>y.2 != .local || scope.names.lookup y.1 == some .local) &&
 scope.names.all (fun y=>y.2 != .free || osc.names.lookup y.1 == some .cell || osc.names.lookup y.1 == some .free) &&
 sel.all (fun j=>decide (j < N.length) && scope.names.lookup (N.getD j Str.empty) == some .free && (osc.names.lookup (N.getD j Str.empty) == some .cell || osc.names.lookup (N.getD j Str.empty) == some .free))
theorem compOkC_of {osc:Scope} {N:List Str} {own:List Str} {sel:List Nat} {scope:Scope} (h:compOkCB osc N own sel scope = true):CompOkC osc N own sel scope:=by
 unfold compOkCB at h
 simp only [Bool.and_eq_true,List.all_eq_true] at h
 obtain ⟨⟨⟨⟨h1,h2⟩,h3⟩,h4⟩,h5⟩:=h
 refine ⟨by simpa using h1,fun y hy e=>?_,fun y hy e=>?_,fun y hy e=>?_,fun j hj=>?_⟩
 ·have:=h2 y hy
  simp only [Bool.or_eq_true,bne_iff_ne,beq_iff_eq] at this
  rcases this with q | q
  ·exact absurd e q
  ·exact q
 ·have:=h3 y hy
  simp only [Bool.or_eq_true,bne_iff_ne,beq_iff_eq] at this
  rcases this with q | q
  ·exact absurd e q
  ·exact q
 ·have:=h4 y hy
  simp only [Bool.or_eq_true,bne_iff_ne,beq_iff_eq] at this
  rcases this with (q | q) | q
  ·exact absurd e q
  ·exact .inl q
  ·exact .inr q
 ·have:=h5 j hj
  simp only [Bool.or_eq_true,beq_iff_eq,decide_eq_true_eq] at this
  exact ⟨this.1.1,this.1.2,this.2⟩
def big:Nat:=2 ^ 10000
theorem big_bits {i:Int} (h:i.natAbs < big):Builtin.Int.intBits i <= 2 ^ 20:=by
 refine Nat.le_trans (?_:Builtin.Int.intBits i <= 10000) (by decide)
 exact PySem.intBits_le_iff.mpr h
section
variable {X:Cx}
def rTimesW:R2:=fun x y H Q=>(∃ i j,x = .int i/\y = .int j/\(i.natAbs < big/\j.natAbs < big)/\Q (.int (i * j)) H)\/rRep x y H Q\/rMulT x y H Q
theorem op_mulW:OpR X (binaryOp .Mult) (rI (fun i j=>i.natAbs < big/\j.natAbs < big) fun i j=>.int (i * j)):=opI fun _ _ _ _ _ _ _ hc q=>mul_int q (PySem.IntMulOk.of_bits (big_bits hc.1) (big_bits hc.2))
theorem op_timesW:OpR X (binaryOp .Mult) rTimesW:=op_mulW.or (op_rep.or op_mulT)
end
section
variable {σ:St} {H:Hp} {Q:VK} {K:PySem.W.Frag}
theorem s_mulW {i j:Int} (h1:i.natAbs < big) (h2:j.natAbs < big) (h:Q (.int (i * j)) H):rTimesW (.int i) (.int j) H Q:=.inl ⟨i,j,rfl,rfl,⟨h1,h2⟩,h⟩
end
section
variable {σ:St} {H:Hp} {Q:VK} {K:PySem.W.Frag}
theorem comp_yes {J : It} {n : Nat} {own : List Str} {sel : List Nat} {g : TG} {te : TE} (f : Nat -> V) (hn : n <= sizeLine) (Iv : Addr -> Nat -> List V -> Hp -> Prop)
  (hgo : ∀ i H', i < n -> Same H H' -> J.go i H') (hsp : ∀ H', Same H H' -> J.stop n H') (hy : ∀ i H1 x H', i < n -> Same H H1 -> J.yld i H1 x H' -> H' = H1 /\ x = f i)
  (h0 : ∀ D, H D = none -> Iv D 0 [] (upd H D (.lst []))) (mono : ∀ D i ys H1 H2, H D = none -> Iv D i ys H1 -> SameBut1 D H1 H2 -> Iv D i ys H2)
  (hst : ∀ D ys H', H D = none -> H' D = some (.lst ys) -> ys.length = n -> Same H H' -> Iv D n ys H' -> Q (.ref D) H')
  (hs : ∀ (D : Addr) (i : Nat) (ys : List V) (H' : Hp) (R : V -> Hp -> Prop), H D = none -> i < n -> H' D = some (.lst ys) -> ys.length = i -> Same H H' -> Iv D i ys H' -> (∀ v H6, Same H' H6 -> Iv D (i + 1) (ys ++ [v]) H6 -> R v H6) ->
   g (f i) (inSt own sel σ) H' fun σ4 H4 => te σ4 H4 R) : CompW J own sel σ g tYes te Q H := by
 refine comp_of (n := n) (fun D i ys H' => ys.length = i /\ Same H H' /\ Iv D i ys H') (fun D hD => ⟨rfl, same_new hD _, h0 D hD⟩) (fun D i ys H' hD hi _ ⟨_, sH, _⟩ => hgo i H' hi sH)
  (fun D ys H' hD hy' hl ⟨e, sH, iv⟩ => ⟨hsp H' sH, hst D ys H' hD hy' e sH iv⟩) ?_
 rintro D i ys H1 x H3 hD hi hyD hl ⟨el, sH, iv⟩ yl
 obtain ⟨rfl, rfl⟩ := hy i H1 x H3 hi sH yl
 have key := hs D i ys H3 (fun v H6 => ∃ ys, H6 D = some (.lst ys) /\ ys.length < sizeLine /\ ∃ m', m' < n - i /\ CW D n (fun i ys H' => ys.length = i /\ Same H H' /\ Iv D i ys H') (i + 1) m' (upd H6 D (.lst (ys ++ [v])))) hD hi hyD el sH iv (fun v H6 s6 iv6 => ?_)
 ·have ef : (fun (σ4 : St) (H4 : Hp) => tYes σ4 H4 fun b H5 => if b = true then te σ4 H5 fun v H6 => ∃ ys, H6 D = some (.lst ys) /\ ys.length < sizeLine /\ ∃ m', m' < n - i /\ CW D n (fun i ys H' => ys.length = i /\ Same H H' /\ Iv D i ys H') (i + 1) m' (upd H6 D (.lst (ys ++ [v])))
    else ∃ m', m' < n - i /\ CW D n (fun i ys H' => ys.length = i /\ Same H H' /\ Iv D i ys H') (i + 1) m' H5) = fun σ4 H4 => te σ4 H4 fun v H6 => ∃ ys, H6 D = some (.lst ys) /\ ys.length < sizeLine /\ ∃ m', m' < n - i /\ CW D n (fun i ys H' => ys.length = i /\ Same H H' /\ Iv D i ys H') (i + 1) m' (upd H6 D (.lst (ys ++ [v]))) := by
   funext σ4 H4
   exact propext ⟨fun z => by have z' := z; simp only [tYes] at z'; simpa using z', fun z => by show tYes _ _ _; simp only [tYes]; simpa using z⟩
  rw [ef]
  exact key
 ·refine comp_next hi hn (s6 _ _ hyD) hl ⟨by simp [el], fun b o z => ?_, mono D _ _ _ _ hD iv6 SameBut1.upd⟩
  rw [upd_ne (ne_of_none z hD)]
  exact s6 b o (sH b o z)
theorem yes_rng {lo : Int} {n : Nat} {own : List Str} {sel : List Nat} {g : TG} {te : TE} (hn : n <= sizeLine) (Iv : Addr -> Nat -> List V -> Hp -> Prop)
  (h0 : ∀ D, H D = none -> Iv D 0 [] (upd H D (.lst []))) (mono : ∀ D i ys H1 H2, H D = none -> Iv D i ys H1 -> SameBut1 D H1 H2 -> Iv D i ys H2)
  (hst : ∀ D ys H', H D = none -> H' D = some (.lst ys) -> ys.length = n -> Same H H' -> Iv D n ys H' -> Q (.ref D) H')
  (hs : ∀ (D : Addr) (i : Nat) (ys : List V) (H' : Hp) (R : V -> Hp -> Prop), H D = none -> i < n -> H' D = some (.lst ys) -> ys.length = i -> Same H H' -> Iv D i ys H' -> (∀ v H6, Same H' H6 -> Iv D (i + 1) (ys ++ [v]) H6 -> R v H6) ->
   g (.int (lo + i)) (inSt own sel σ) H' fun σ4 H4 => te σ4 H4 R) : CompW (Itr lo n) own sel σ g tYes te Q H :=
 comp_yes (fun i => .int (lo + i)) hn Iv (fun i H' hi _ => hi) (fun H' _ => Nat.le_refl _) (fun i H1 x H' _ _ y => y) h0 mono hst hs
theorem yes_rng3 {lo c : Int} {n : Nat} {own : List Str} {sel : List Nat} {g : TG} {te : TE} (hn : n <= sizeLine) (Iv : Addr -> Nat -> List V -> Hp -> Prop)
  (h0 : ∀ D, H D = none -> Iv D 0 [] (upd H D (.lst []))) (mono : ∀ D i ys H1 H2, H D = none -> Iv D i ys H1 -> SameBut1 D H1 H2 -> Iv D i ys H2)
  (hst : ∀ D ys H', H D = none -> H' D = some (.lst ys) -> ys.length = n -> Same H H' -> Iv D n ys H' -> Q (.ref D) H')
  (hs : ∀ (D : Addr) (i : Nat) (ys : List V) (H' : Hp) (R : V -> Hp -> Prop), H D = none -> i < n -> H' D = some (.lst ys) -> ys.length = i -> Same H H' -> Iv D i ys H' -> (∀ v H6, Same H' H6 -> Iv D (i + 1) (ys ++ [v]) H6 -> R v H6) ->
   g (.int (lo + i * c)) (inSt own sel σ) H' fun σ4 H4 => te σ4 H4 R) : CompW (Itr3 lo c n) own sel σ g tYes te Q H :=
 comp_yes (fun i => .int (lo + i * c)) hn Iv (fun i H' hi _ => hi) (fun H' _ => Nat.le_refl _) (fun i H1 x H' _ _ y => y) h0 mono hst hs
theorem yes_str {a : List Nat} {own : List Str} {sel : List Nat} {g : TG} {te : TE} (hn : a.length <= sizeLine) (Iv : Addr -> Nat -> List V -> Hp -> Prop)
  (h0 : ∀ D, H D = none -> Iv D 0 [] (upd H D (.lst []))) (mono : ∀ D i ys H1 H2, H D = none -> Iv D i ys H1 -> SameBut1 D H1 H2 -> Iv D i ys H2)
  (hst : ∀ D ys H', H D = none -> H' D = some (.lst ys) -> ys.length = a.length -> Same H H' -> Iv D a.length ys H' -> Q (.ref D) H')
  (hs : ∀ (D : Addr) (i : Nat) (ys : List V) (H' : Hp) (R : V -> Hp -> Prop), H D = none -> i < a.length -> H' D = some (.lst ys) -> ys.length = i -> Same H H' -> Iv D i ys H' -> (∀ v H6, Same H' H6 -> Iv D (i + 1) (ys ++ [v]) H6 -> R v H6) ->
   g (tx [a.getD i 0]) (inSt own sel σ) H' fun σ4 H4 => te σ4 H4 R) : CompW (Its ⟨a.toArray⟩) own sel σ g tYes te Q H :=
 comp_yes (fun i => tx [a.getD i 0]) hn Iv (fun i H' hi _ => by simpa [Its] using hi) (fun H' _ => by simp [Its]) (fun i H1 x H' hi _ y => by
  obtain ⟨rfl, c, e, rfl⟩ := y
  have e' : a[i]? = some c := by simpa using e
  exact ⟨rfl, by rw [List.getD_eq_getElem?_getD, e']; rfl⟩) h0 mono hst hs
theorem vals_rng3 {lo c:Int} {n:Nat} {own:List Str} {sel:List Nat} {g:TG} {te:TE} (v:Nat->V) (hn:n <= sizeLine) (hst:∀ D H',H D = none->Same H H'->H' D = some (.lst ((List.range n).map v))->Q (.ref D) H')
  (hs:∀ (i:Nat) (H':Hp) (R:V->Hp->Prop),i < n->Same H H'->(∀ H6,Same H' H6->R (v i) H6)->g (.int (lo + i * c)) (inSt own sel σ) H' fun σ4 H4=>te σ4 H4 R):CompW (Itr3 lo c n) own sel σ g tYes te Q H :=
 yes_rng3 hn (fun D i ys _=>ys = (List.range i).map v) (fun _ _=>rfl) (fun _ _ _ _ _ _ e _=>e) (fun D ys H' hD hy _ sH e=>hst D H' hD sH (by rw [hy,e]))
  (fun D i ys H' R hD hi hy _ sH e r=>hs i H' R hi sH fun H6 s6=>r _ H6 s6 (by rw [e,List.range_succ,List.map_append]; rfl))
theorem vals_str {a : List Nat} {own : List Str} {sel : List Nat} {g : TG} {te : TE} (v : Nat -> V) (hn : a.length <= sizeLine) (hst : ∀ D H', H D = none -> Same H H' -> H' D = some (.lst (a.map v)) -> Q (.ref D) H')
  (hs : ∀ (i c : Nat) (H' : Hp) (R : V -> Hp -> Prop), a[i]? = some c -> Same H H' -> (∀ H6, Same H' H6 -> R (v c) H6) -> g (tx [c]) (inSt own sel σ) H' fun σ4 H4 => te σ4 H4 R) : CompW (Its ⟨a.toArray⟩) own sel σ g tYes te Q H :=
 yes_str hn (fun D i ys _ => ys = (a.take i).map v) (fun _ _ => rfl) (fun _ _ _ _ _ _ e _ => e) (fun D ys H' hD hy _ sH e => hst D H' hD sH (by rw [hy, e, List.take_length]))
  (fun D i ys H' R hD hi hy _ sH e r => by
   have ec : a[i]? = some a[i] := List.getElem?_eq_getElem hi
   have eg : a.getD i 0 = a[i] := by rw [List.getD_eq_getElem?_getD, ec]; rfl
   rw [eg]
   exact hs i a[i] H' R ec sH fun H6 s6 => r _ H6 s6 (by rw [e, List.take_add_one, ec, List.map_append]; rfl))
end
end L2
namespace BrC
def sm:Nat->(Nat->Int)->Int
 | 0,_=>0
 | n + 1,f=>sm n f + f n
theorem sm_congr {f g:Nat->Int}:∀ n,(∀ i,i < n->f i = g i)->sm n f = sm n g
 | 0,_=>rfl
 | n + 1,h=>by unfold sm; rw [sm_congr n fun i hi=>h i (Nat.lt_succ_of_lt hi),h n (Nat.lt_succ_self n)]
theorem sm_add (f g:Nat->Int):∀ n,sm n (fun i=>f i + g i) = sm n f + sm n g
 | 0=>rfl
 | n + 1=>by unfold sm; rw [sm_add f g n]; show sm n f + sm n g + (f n + g n) = _; omega
theorem sm_mul (c:Int) (f:Nat->Int):∀ n,sm n (fun i=>c * f i) = c * sm n f
 | 0=>by simp [sm]
 | n + 1=>by unfold sm; rw [sm_mul c f n,Int.mul_add]
theorem sm_mulr (c:Int) (f:Nat->Int) (n:Nat):sm n (fun i=>f i * c) = sm n f * c:=by
 rw [Int.mul_comm,<- sm_mul]; exact sm_congr n fun i _=>Int.mul_comm _ _
theorem sm_zero {f:Nat->Int}:∀ n,(∀ i,i < n->f i = 0)->sm n f = 0
 | 0,_=>rfl
 | n + 1,h=>by unfold sm; rw [sm_zero n fun i hi=>h i (Nat.lt_succ_of_lt hi),h n (Nat.lt_succ_self n)]; rfl
theorem sm_shift (f:Nat->Int):∀ n,sm (n + 1) f = f 0 + sm n (fun i=>f (i + 1))
 | 0=>by simp [sm]
 | n + 1=>by rw [sm,sm_shift f n,sm]; omega
theorem sm_comm (f:Nat->Nat->Int) (m:Nat):∀ n,sm n (fun i=>sm m fun j=>f i j) = sm m (fun j=>sm n fun i=>f i j)
 | 0=>by rw [sm]; exact (sm_zero m fun _ _=>rfl).symm
 | n + 1=>by rw [sm,sm_comm f m n,<- sm_add]; rfl
theorem sm_tri (f : Nat -> Nat -> Int) : ∀ L, sm L (fun a => sm (L - a - 1) fun b => f a (a + 1 + b)) = sm L (fun e => sm e fun a => f a e)
  | 0 => rfl
  | L + 1 => by
    rw [sm, sm]
    have e : sm L (fun a => sm (L + 1 - a - 1) fun b => f a (a + 1 + b)) = sm L (fun a => (sm (L - a - 1) fun b => f a (a + 1 + b)) + f a L) := by
      refine sm_congr L fun a ha => ?_
      have : L + 1 - a - 1 = (L - a - 1) + 1 := by omega
      rw [this, sm]
      congr 2
      omega
    rw [e, sm_add, sm_tri f L, show L + 1 - L - 1 = 0 by omega, sm]
    omega
theorem sm_nonneg {f:Nat->Int}:∀ n,(∀ i,i < n->0 <= f i)->0 <= sm n f
 | 0,_=>Int.le_refl _
 | n + 1,h=>by unfold sm; have:=sm_nonneg n fun i hi=>h i (Nat.lt_succ_of_lt hi); have:=h n (Nat.lt_succ_self n); omega
theorem sm_mono {f g:Nat->Int}:∀ n,(∀ i,i < n->f i <= g i)->sm n f <= sm n g
 | 0,_=>Int.le_refl _
 | n + 1,h=>by unfold sm; have:=sm_mono n fun i hi=>h i (Nat.lt_succ_of_lt hi); have:=h n (Nat.lt_succ_self n); omega
theorem sm_const (c:Int):∀ n,sm n (fun _=>c) = n * c
 | 0=>by simp [sm]
 | n + 1=>by rw [sm,sm_const c n]; rw [Int.natCast_add,Int.add_mul]; simp
theorem sm_one {f : Nat -> Int} {n i : Nat} (hi : i < n) (h : ∀ j, j < n -> j ≠ i -> f j = 0) : sm n f = f i := by
  induction n with
  | zero => omega
  | succ n ih =>
    unfold sm
    by_cases e : i = n
    · subst e; rw [sm_zero i fun j hj => h j (by omega) (by omega)]; omega
    · rw [ih (by omega) fun j hj => h j (by omega), h n (by omega) (by omega)]; omega
theorem sm_ge {f : Nat -> Int} {n i : Nat} (hi : i < n) (h : ∀ j, j < n -> 0 <= f j) : f i <= sm n f := by
  induction n with
  | zero => omega
  | succ n ih =>
    unfold sm
    by_cases e : i = n
    · subst e; have := sm_nonneg (f := f) i fun j hj => h j (by omega); omega
    · have := ih (by omega) fun j hj => h j (by omega); have := h n (by omega); omega
theorem sm_even (f : Nat -> Int) : ∀ n, (∀ i, i < n -> i % 2 = 1 -> f i = 0) -> sm n f = sm ((n + 1) / 2) fun q => f (2 * q)
  | 0, _ => rfl
  | n + 1, h => by
    rw [sm, sm_even f n fun i hi => h i (Nat.lt_succ_of_lt hi)]
    by_cases e : n % 2 = 1
    · rw [h n (Nat.lt_succ_self n) e, show (n + 1 + 1) / 2 = (n + 1) / 2 by omega]; omega
    · rw [show (n + 1 + 1) / 2 = (n + 1) / 2 + 1 by omega, sm, show 2 * ((n + 1) / 2) = n by omega]
theorem sum_range (f:Nat->Int):∀ n,((List.range n).map f).sum = sm n f
 | 0=>rfl
 | n + 1=>by rw [List.range_succ,List.map_append,List.sum_append,sum_range f n]; simp [sm]
def cv (P:Nat->Nat->Int) (k:Nat):Nat->Nat->List Nat->Int
 | 0,_,[]=>1
 | 0,_,_ :: _=>0
 | n + 1,i,st=>sm k (fun p=>P i (2 * p) * cv P k n (i + 1) (p :: st)) + (match st with | []=>0 | o :: r=>P i (2 * o + 1) * cv P k n (i + 1) r)
variable {P:Nat->Nat->Int} {k:Nat}
theorem cv_nil (n i:Nat):cv P k (n + 1) i [] = sm k (fun p=>P i (2 * p) * cv P k n (i + 1) [p]):=by
 rw [cv]; simp
theorem cv_cons (n i o:Nat) (st:List Nat):cv P k (n + 1) i (o :: st) = sm k (fun p=>P i (2 * p) * cv P k n (i + 1) (p :: o :: st)) + P i (2 * o + 1) * cv P k n (i + 1) st:=by
 rw [cv]
theorem cv_split : ∀ (N n i o : Nat) (st : List Nat), n <= N -> cv P k n i (o :: st) = sm n (fun e => cv P k e i [] * P (i + e) (2 * o + 1) * cv P k (n - e - 1) (i + e + 1) st) := by
  intro N
  induction N with
  | zero => intro n i o st h; obtain rfl : n = 0 := by omega
            rfl
  | succ N ih =>
    intro n i o st h
    cases n with
    | zero => rfl
    | succ n =>
      rw [cv_cons, sm_shift, show cv P k 0 i [] = 1 from rfl]
      have e0 : (1 : Int) * P (i + 0) (2 * o + 1) * cv P k (n + 1 - 0 - 1) (i + 0 + 1) st = P i (2 * o + 1) * cv P k n (i + 1) st := by rw [Int.one_mul]; rfl
      rw [e0, Int.add_comm]
      congr 1
      have L : ∀ p, cv P k n (i + 1) (p :: o :: st) = sm n (fun e => sm e fun a => (cv P k a (i + 1) [] * P (i + 1 + a) (2 * p + 1)) * (cv P k (e - a - 1) (i + a + 2) [] * P (i + e + 1) (2 * o + 1) * cv P k (n - e - 1) (i + e + 2) st)) := by
        intro p
        rw [ih n (i + 1) p (o :: st) (by omega), <- sm_tri]
        refine sm_congr n fun a ha => ?_
        rw [ih (n - a - 1) (i + 1 + a + 1) o st (by omega), <- sm_mul]
        refine sm_congr _ fun b hb => ?_
        rw [show a + 1 + b - a - 1 = b by omega, show i + 1 + a + 1 = i + a + 2 by omega, show i + a + 2 + b = i + (a + 1 + b) + 1 by omega, show n - a - 1 - b - 1 = n - (a + 1 + b) - 1 by omega, show i + (a + 1 + b) + 1 + 1 = i + (a + 1 + b) + 2 by omega]
      have e1 : sm k (fun p => P i (2 * p) * cv P k n (i + 1) (p :: o :: st)) = sm k (fun p => sm n fun e => P i (2 * p) * sm e fun a => (cv P k a (i + 1) [] * P (i + 1 + a) (2 * p + 1)) * (cv P k (e - a - 1) (i + a + 2) [] * P (i + e + 1) (2 * o + 1) * cv P k (n - e - 1) (i + e + 2) st)) := by
        refine sm_congr k fun p _ => ?_
        rw [L p, <- sm_mul]
      rw [e1, sm_comm]
      refine sm_congr n fun e he => ?_
      rw [cv_nil, show i + (e + 1) = i + e + 1 by omega, show n + 1 - (e + 1) - 1 = n - e - 1 by omega, show i + e + 1 + 1 = i + e + 2 by omega, Int.mul_assoc, <- sm_mulr]
      refine sm_congr k fun p _ => ?_
      rw [ih e (i + 1) p [] (by omega), Int.mul_assoc]
      congr 1
      rw [<- sm_mulr]
      refine sm_congr e fun a ha => ?_
      rw [show i + 1 + a + 1 = i + a + 2 by omega]
      simp only [Int.mul_assoc, Int.mul_comm, Int.mul_left_comm]
theorem cv_odd : ∀ (n i : Nat) (st : List Nat), (n + st.length) % 2 = 1 -> cv P k n i st = 0
  | 0, _, [], h => by simp at h
  | 0, _, _ :: _, _ => rfl
  | n + 1, i, [], h => by
    rw [cv_nil]
    refine sm_zero k fun p _ => ?_
    rw [cv_odd n (i + 1) [p] (by simp at h ⊢; omega), Int.mul_zero]
  | n + 1, i, o :: st, h => by
    rw [cv_cons, sm_zero k fun p _ => by rw [cv_odd n (i + 1) (p :: o :: st) (by simp at h ⊢; omega), Int.mul_zero], cv_odd n (i + 1) st (by simp at h ⊢; omega), Int.mul_zero]
    rfl
def pr (P:Nat->Nat->Int) (k i j:Nat):Int:=sm k fun p=>P i (2 * p) * P j (2 * p + 1)
theorem cv_rec (m i:Nat):cv P k (m + 1) i [] = sm m (fun e=>pr P k i (i + 1 + e) * cv P k e (i + 1) [] * cv P k (m - e - 1) (i + e + 2) []):=by
 rw [cv_nil]
 have e1:sm k (fun p=>P i (2 * p) * cv P k m (i + 1) [p]) = sm k (fun p=>sm m fun e=>P i (2 * p) * P (i + 1 + e) (2 * p + 1) * (cv P k e (i + 1) [] * cv P k (m - e - 1) (i + e + 2) [])):=by
  refine sm_congr k fun p _=>?_
  rw [cv_split m m (i + 1) p [] (Nat.le_refl _),<- sm_mul]
  refine sm_congr m fun e _=>?_
  rw [show i + 1 + e + 1 = i + e + 2 by omega]
  simp only [Int.mul_assoc,Int.mul_comm,Int.mul_left_comm]
 rw [e1,sm_comm]
 refine sm_congr m fun e _=>?_
 rw [sm_mulr,Int.mul_assoc]
 rfl
theorem cv_rec2 (m i:Nat):cv P k (m + 1) i [] = sm ((m + 1) / 2) (fun q=>pr P k i (i + 1 + 2 * q) * cv P k (2 * q) (i + 1) [] * cv P k (m - 2 * q - 1) (i + 2 * q + 2) []):=by
 rw [cv_rec,sm_even]
 intro e _ h
 rw [cv_odd e (i + 1) [] (by simpa using h),Int.mul_zero,Int.zero_mul]
theorem cv_bound {c : Int} (hc : 0 <= c) (h0 : ∀ i b, 0 <= P i b) (h1 : ∀ i b, P i b <= c) : ∀ (n i : Nat) (st : List Nat), 0 <= cv P k n i st /\ cv P k n i st <= (((k : Int) + 1) * c) ^ n
  | 0, i, [] => ⟨by simp [cv], by simp [cv]⟩
  | 0, i, _ :: _ => ⟨by simp [cv], by simp [cv]⟩
  | n + 1, i, st => by
    have ih := cv_bound hc h0 h1 n (i + 1)
    have hB : 0 <= (((k : Int) + 1) * c) ^ n := Int.le_trans (ih []).1 (ih []).2
    have tm : ∀ b s', 0 <= P i b * cv P k n (i + 1) s' /\ P i b * cv P k n (i + 1) s' <= c * (((k : Int) + 1) * c) ^ n := fun b s' =>
      ⟨Int.mul_nonneg (h0 i b) (ih s').1, Int.mul_le_mul (h1 i b) (ih s').2 (ih s').1 hc⟩
    have s1 : 0 <= sm k (fun p => P i (2 * p) * cv P k n (i + 1) (p :: st)) := sm_nonneg k fun p _ => (tm _ _).1
    have s2 : sm k (fun p => P i (2 * p) * cv P k n (i + 1) (p :: st)) <= k * (c * (((k : Int) + 1) * c) ^ n) := by
      rw [<- sm_const]; exact sm_mono k fun p _ => (tm _ _).2
    have e : (((k : Int) + 1) * c) ^ (n + 1) = k * (c * (((k : Int) + 1) * c) ^ n) + c * (((k : Int) + 1) * c) ^ n := by
      rw [Int.pow_succ, Int.mul_comm, Int.mul_assoc, Int.add_mul, Int.one_mul]
    have s3 : 0 <= c * (((k : Int) + 1) * c) ^ n := Int.mul_nonneg hc hB
    cases st with
    | nil => rw [cv_nil, e]; exact ⟨s1, by omega⟩
    | cons o r =>
      have := tm (2 * o + 1) r
      rw [cv_cons, e]; constructor <;> omega
end BrC
namespace BrC
theorem sm_more {f:Nat->Int} (n:Nat):∀ d,(∀ e,n <= e->f e = 0)->sm (n + d) f = sm n f
 | 0,_=>rfl
 | d + 1,h=>by rw [show n + (d + 1) = (n + d) + 1 by omega,sm,sm_more n d h,h (n + d) (by omega)]; omega
end BrC
namespace BrC
variable {P:Nat->Nat->Int} {k:Nat}
theorem cv_shift {P' : Nat -> Nat -> Int} (d : Nat) : ∀ (n i : Nat) (st : List Nat), (∀ j b, i <= j -> j < i + n -> P' j b = P (j + d) b) -> cv P' k n i st = cv P k n (i + d) st
  | 0, _, [], _ => rfl
  | 0, _, _ :: _, _ => rfl
  | n + 1, i, st, h => by
    have ih := fun s' => cv_shift (P' := P') d n (i + 1) s' fun j b h1 h2 => h j b (by omega) (by omega)
    have e := sm_congr (f := fun p => P' i (2 * p) * cv P' k n (i + 1) (p :: st)) (g := fun p => P (i + d) (2 * p) * cv P k n (i + d + 1) (p :: st)) k fun p hp => by
      rw [ih, h i _ (by omega) (by omega), show i + 1 + d = i + d + 1 by omega]
    cases st with
    | nil => rw [cv_nil, cv_nil]; exact e
    | cons o r => rw [cv_cons, cv_cons, e, ih r, h i _ (by omega) (by omega), show i + 1 + d = i + d + 1 by omega]
end BrC
namespace BrS
open L2 PySem BrM BrC
abbrev iL (l:List Int):HO:=.lst (l.map V.int)
def Pls (H:Hp) (r:Addr) (ps:List (List Int)):Prop:=∃ ad:Nat->Addr,H r = some (.lst ((List.range ps.length).map fun i=>V.ref (ad i)))/\∀ i,i < ps.length->H (ad i) = some (iL (ps.getD i []))
theorem Pls.same {H H':Hp} {r:Addr} {ps:List (List Int)} (h:Pls H r ps) (s:Same H H'):Pls H' r ps:=by
 obtain ⟨ad,h1,h2⟩:=h
 exact ⟨ad,s _ _ h1,fun i hi=>s _ _ (h2 i hi)⟩
def rwl (n:Nat) (f:Nat->Int):List V:=(List.range (n + 1)).map fun j=>V.int (f j)
theorem rwl_len (n:Nat) (f:Nat->Int):(rwl n f).length = n + 1:=by simp [rwl]
theorem rwl_get {n j:Nat} {f:Nat->Int} (h:j <= n):(rwl n f)[j]? = some (.int (f j)):=by
 unfold rwl
 rw [List.getElem?_map,List.getElem?_range (by omega)]; rfl
theorem rwl_set {n j:Nat} {f:Nat->Int} {v:Int}:(rwl n f).set j (.int v) = rwl n (fun x=>if x = j then v else f x):=by
 apply List.ext_getElem?
 intro i
 unfold rwl
 rw [List.getElem?_set,List.getElem?_map,List.getElem?_map]
 by_cases e:j = i
 ·subst e
  by_cases hj:j < n + 1
  ·rw [List.getElem?_range hj]; simp [hj]
  ·rw [if_pos rfl,if_neg (by simpa using hj)]
   rw [List.getElem?_eq_none (by simpa using hj)]; rfl
 ·rw [if_neg e]
  by_cases hi:i < n + 1
  ·rw [List.getElem?_range hi]; simp [Ne.symm e]
  ·rw [List.getElem?_eq_none (by simpa using hi)]; rfl
theorem rwl_congr {n:Nat} {f g:Nat->Int} (h:∀ j,j <= n->f j = g j):rwl n f = rwl n g:=by
 unfold rwl
 refine List.map_congr_left fun j hj=>?_
 rw [h j (by have:=List.mem_range.mp hj; omega)]
structure Tb (H0 H:Hp) (s:Addr) (ad:Nat->Addr) (n:Nat) (T:Nat->Nat->Int):Prop where
 fs:H0 s = none
 fa:∀ i,i <= n->H0 (ad i) = none
 ns:∀ i,i <= n->ad i ≠ s
 inj:∀ i j,i <= n->j <= n->ad i = ad j->i = j
 top:H s = some (.lst ((List.range (n + 1)).map fun i=>V.ref (ad i)))
 row:∀ i,i <= n->H (ad i) = some (.lst (rwl n (T i)))
 sm:Same H0 H
section
variable {H0 H H':Hp} {s:Addr} {ad:Nat->Addr} {n:Nat} {T T':Nat->Nat->Int}
theorem Tb.same (t:Tb H0 H s ad n T) (h:Same H H'):Tb H0 H' s ad n T:=⟨t.fs,t.fa,t.ns,t.inj,h _ _ t.top,fun i hi=>h _ _ (t.row i hi),t.sm.trans h⟩
theorem Tb.congr (t:Tb H0 H s ad n T) (h:∀ i j,i <= n->j <= n->T i j = T' i j):Tb H0 H s ad n T':=⟨t.fs,t.fa,t.ns,t.inj,t.top,fun i hi=>by rw [t.row i hi,rwl_congr fun j hj=>h i j hi hj],t.sm⟩
theorem Tb.at (t:Tb H0 H s ad n T) {i:Nat} (hi:i <= n):((List.range (n + 1)).map fun i=>V.ref (ad i))[i]? = some (.ref (ad i)):=by
 rw [List.getElem?_map,List.getElem?_range (by omega)]; rfl
theorem Tb.set (t:Tb H0 H s ad n T) {i j:Nat} {v:Int} (hi:i <= n):Tb H0 (upd H (ad i) (.lst ((rwl n (T i)).set j (.int v)))) s ad n (fun a b=>if a = i/\b = j then v else T a b):=by
 refine ⟨t.fs,t.fa,t.ns,t.inj,by rw [upd_ne (Ne.symm (t.ns i hi))]; exact t.top,fun a ha=>?_,fun b o z=>?_⟩
 ·by_cases e:a = i
  ·subst e
   rw [upd_same,rwl_set]
   congr 2
   refine rwl_congr fun x _=>?_
   by_cases q:x = j <;> simp [q]
  ·rw [upd_ne (fun z=>e (t.inj a i ha hi z)),t.row a ha]
   congr 2
   refine rwl_congr fun x _=>?_
   simp [e]
 ·rw [upd_ne (ne_of_none z (t.fa i hi))]; exact t.sm b o z
end
def brs:List Nat:=[40,41,91,93,123,125,60,62]
def plw (w:List Int) (c:Nat):List Int:=if c = 63 then w else (brs.take w.length).map fun b=>if c = b then 1 else 0
theorem plw_len {w:List Int} {c:Nat} (h:w.length <= 8):(plw w c).length = w.length:=by
 unfold plw
 split
 ·rfl
 ·rw [List.length_map,List.length_take]; exact Nat.min_eq_left h
abbrev PP (ps:List (List Int)):Nat->Nat->Int:=fun i b=>(ps.getD i []).getD b 0
abbrev ones (k:Nat):List Int:=List.replicate (2 * k) 1
def cnt (k:Nat) (a:List Nat):Int:=cv (PP (a.map (plw (ones k)))) k a.length 0 []
def spWeighed (K:PySem.W.Frag):Sp:=fun vs H Q _=>∃ (a:List Nat) (p:Addr) (w:List Int),vs = [tx a,.ref p]/\a.length <= 40/\SqL K H p (w.map V.int)/\w.length <= 8/\∀ r H',H r = none->Same H H'->Pls H' r (a.map (plw w))->Q (.ref r) H'
theorem weighed_use {K:PySem.W.Frag} {H:Hp} {a:List Nat} {p:Addr} {w:List Int} {Q:VK} {E:XK} (h1:a.length <= 40) (h2:SqL K H p (w.map V.int)) (h3:w.length <= 8) (q:∀ r H',H r = none->Same H H'->Pls H' r (a.map (plw w))->Q (.ref r) H'):spWeighed K ([tx a,.ref p] ++ []) H Q E:=⟨a,p,w,rfl,h1,h2,h3,q⟩
def spCounted:Sp:=fun vs H Q _=>∃ (k:Int) (a:List Nat),vs = [.int k,tx a]/\1 <= k/\k <= 4/\a.length <= 40/\∀ r H',H r = none->Same H H'->Pls H' r (a.map (plw (ones k.toNat)))->Q (.ref r) H'
theorem counted_use {H:Hp} {k:Int} {a:List Nat} {Q:VK} {E:XK} (h1:1 <= k) (h2:k <= 4) (h3:a.length <= 40) (q:∀ r H',H r = none->Same H H'->Pls H' r (a.map (plw (ones k.toNat)))->Q (.ref r) H'):spCounted ([.int k,tx a] ++ []) H Q E:=⟨k,a,rfl,h1,h2,h3,q⟩
def top30:Int:=10 ^ 31
def Sm (l:List Int):Prop:=∀ v ∈ l,0 <= v/\v <= top30
theorem Sm.at {l:List Int} (h:Sm l) (b:Nat):0 <= l.getD b 0/\l.getD b 0 <= top30:=by
 rw [List.getD_eq_getElem?_getD]
 cases e:l[b]? with
 | none=>exact ⟨by simp,by simp [top30]⟩
 | some v=>exact h v (List.mem_of_getElem? e)
def spPair:Sp:=fun vs H Q _=>∃ (p q:Addr) (x y:List Int) (k:Nat),vs = [.ref p,.ref q]/\H p = some (iL x)/\H q = some (iL y)/\x.length = 2 * k/\y.length = 2 * k/\k <= 4/\Sm x/\Sm y/\∀ H',Same H H'->Q (.int (sm k fun o=>x.getD (2 * o) 0 * y.getD (2 * o + 1) 0)) H'
theorem pair_use {H:Hp} {p q:Addr} {x y:List Int} {k:Nat} {Q:VK} {E:XK} (h1:H p = some (iL x)) (h2:H q = some (iL y)) (l1:x.length = 2 * k) (l2:y.length = 2 * k) (hk:k <= 4) (s1:Sm x) (s2:Sm y) (r:∀ H',Same H H'->Q (.int (sm k fun o=>x.getD (2 * o) 0 * y.getD (2 * o + 1) 0)) H'):spPair ([.ref p,.ref q] ++ []) H Q E:=⟨p,q,x,y,k,rfl,h1,h2,l1,l2,hk,s1,s2,r⟩
def spNoSums:Sp:=fun vs H Q _=>∃ n:Nat,vs = [.int n]/\n <= 40/\∀ s ad H',Tb H H' s ad n (fun _ _=>0)->Q (.ref s) H'
theorem noSums_use {H:Hp} {n:Nat} {Q:VK} {E:XK} (h1:n <= 40) (r:∀ s ad H',Tb H H' s ad n (fun _ _=>0)->Q (.ref s) H'):spNoSums ([.int n] ++ []) H Q E:=⟨n,rfl,h1,r⟩
def tbl (P:Nat->Nat->Int) (k:Nat) (i j:Nat):Int:=if i <= j then cv P k (j - i) i [] else 0
def spSpans:Sp:=fun vs H Q _=>∃ (p:Addr) (ps:List (List Int)) (k:Nat),vs = [.ref p]/\Pls H p ps/\ps.length <= 40/\k <= 4/\(∀ l ∈ ps,l.length = 2 * k/\Sm l)/\∀ s ad H',Tb H H' s ad ps.length (tbl (PP ps) k)->Q (.ref s) H'
theorem spans_use {H:Hp} {p:Addr} {ps:List (List Int)} {k:Nat} {Q:VK} {E:XK} (h1:Pls H p ps) (h2:ps.length <= 40) (h3:k <= 4) (h4:∀ l ∈ ps,l.length = 2 * k/\Sm l) (r:∀ s ad H',Tb H H' s ad ps.length (tbl (PP ps) k)->Q (.ref s) H'):spSpans ([.ref p] ++ []) H Q E:=⟨p,ps,k,rfl,h1,h2,h3,h4,r⟩
def spWholeSum:Sp:=fun vs H Q _=>∃ H0 s ad n T,vs = [.ref s]/\Tb H0 H s ad n T/\Q (.int (T 0 n)) H
theorem wholeSum_use {H0 H:Hp} {s:Addr} {ad:Nat->Addr} {n:Nat} {T:Nat->Nat->Int} {Q:VK} {E:XK} (h:Tb H0 H s ad n T) (q:Q (.int (T 0 n)) H):spWholeSum ([.ref s] ++ []) H Q E:=⟨H0,s,ad,n,T,rfl,h,q⟩
def spMany:Sp:=fun vs H Q _=>∃ (k:Int) (a:List Nat),vs = [.int k,tx a]/\1 <= k/\k <= 4/\isRow k a = true/\∀ H',Same H H'->Q (.int (cnt k.toNat a)) H'
theorem many_use {H:Hp} {k:Int} {a:List Nat} {Q:VK} {E:XK} (h1:1 <= k) (h2:k <= 4) (h3:isRow k a = true) (q:∀ H',Same H H'->Q (.int (cnt k.toNat a)) H'):spMany ([.int k,tx a] ++ []) H Q E:=⟨k,a,rfl,h1,h2,h3,q⟩
theorem ones_sm (k:Nat):Sm (ones k):=fun v hv=>by
 obtain rfl:=List.eq_of_mem_replicate hv
 exact ⟨by decide,by decide⟩
theorem plw_sm {w:List Int} (h:Sm w) (c:Nat):Sm (plw w c):=by
 unfold plw
 split
 ·exact h
 ·intro v hv
  obtain ⟨b,_,rfl⟩:=List.mem_map.mp hv
  split <;> exact ⟨by decide,by decide⟩
theorem PP_bound {ps : List (List Int)} (h : ∀ l ∈ ps, Sm l) (i b : Nat) : 0 <= PP ps i b /\ PP ps i b <= top30 := by
  show 0 <= (ps.getD i []).getD b 0 /\ (ps.getD i []).getD b 0 <= top30
  cases e : ps[i]? with
  | none =>
    have q : ps.getD i [] = [] := by rw [List.getD_eq_getElem?_getD, e]; rfl
    rw [q]; exact ⟨by simp, by simp [top30]⟩
  | some l =>
    have q : ps.getD i [] = l := by rw [List.getD_eq_getElem?_getD, e]; rfl
    rw [q]; exact (h l (List.mem_of_getElem? e)).at b
theorem pow_mono {x y : Int} (h0 : 0 <= x) (h : x <= y) : ∀ n : Nat, 0 <= x ^ n /\ x ^ n <= y ^ n
  | 0 => by simp
  | n + 1 => by
    obtain ⟨a, b⟩ := pow_mono h0 h n
    rw [Int.pow_succ, Int.pow_succ]
    exact ⟨Int.mul_nonneg a h0, Int.mul_le_mul b h h0 (Int.le_trans a b)⟩
theorem pow_up {x : Int} (h1 : 1 <= x) {m n : Nat} (h : m <= n) : x ^ m <= x ^ n := by
  induction n with
  | zero => obtain rfl : m = 0 := by omega
            exact Int.le_refl _
  | succ n ih =>
    by_cases e : m = n + 1
    · subst e; exact Int.le_refl _
    · have h2 := ih (by omega)
      have h3 := (pow_mono (x := x) (y := x) (by omega) (Int.le_refl _) n).1
      rw [Int.pow_succ]
      have := Int.mul_le_mul (Int.le_refl (x ^ n)) h1 (by decide) h3
      omega
def cap:Int:=(5 * top30) ^ 40
theorem cv_cap {ps:List (List Int)} {k:Nat} (hk:k <= 4) (h:∀ l ∈ ps,Sm l) {n:Nat} (hn:n <= 40) (i:Nat) (st:List Nat):0 <= cv (PP ps) k n i st/\cv (PP ps) k n i st <= cap:=by
 obtain ⟨a,b⟩:=cv_bound (P:=PP ps) (k:=k) (c:=top30) (by decide) (fun i b=>(PP_bound h i b).1) (fun i b=>(PP_bound h i b).2) n i st
 refine ⟨a,Int.le_trans b ?_⟩
 have h1:(0:Int) <= ((k:Int) + 1) * top30:=Int.mul_nonneg (by omega) (by decide)
 have h2:((k:Int) + 1) * top30 <= 5 * top30:=Int.mul_le_mul_of_nonneg_right (by omega) (by decide)
 refine Int.le_trans (pow_mono h1 h2 n).2 (pow_up (by decide) hn)
theorem pr_cap {ps:List (List Int)} {k:Nat} (hk:k <= 4) (h:∀ l ∈ ps,Sm l) (i j:Nat):0 <= pr (PP ps) k i j/\pr (PP ps) k i j <= 4 * (top30 * top30):=by
 unfold pr
 have tm:∀ p,0 <= PP ps i (2 * p) * PP ps j (2 * p + 1)/\PP ps i (2 * p) * PP ps j (2 * p + 1) <= top30 * top30:=fun p =>
  ⟨Int.mul_nonneg (PP_bound h _ _).1 (PP_bound h _ _).1,Int.mul_le_mul (PP_bound h _ _).2 (PP_bound h _ _).2 (PP_bound h _ _).1 (by decide)⟩
 refine ⟨sm_nonneg k fun p _=>(tm p).1,Int.le_trans (sm_mono (g:=fun _=>top30 * top30) k fun p _=>(tm p).2) ?_⟩
 rw [sm_const]
 exact Int.mul_le_mul_of_nonneg_right (by omega) (by decide)
theorem big_of {i c:Int} (h0:0 <= i) (h:i <= c) (hc:c.natAbs < big):i.natAbs < big:=by
 refine Nat.lt_of_le_of_lt ?_ hc
 omega
theorem cap_big:cap.natAbs < big:=by unfold cap big top30; decide +kernel
theorem cap2_big:(4 * (top30 * top30) * cap).natAbs < big:=by unfold cap big top30; decide +kernel
theorem top_big:top30.natAbs < big:=by unfold big top30; decide +kernel
theorem pt_big:(4 * (top30 * top30)).natAbs < big:=by unfold big top30; decide +kernel
end BrS
namespace BrS
open L2 PySem BrM BrC
theorem rep_zero (n:Nat):(List.replicate (n + 1) [V.int 0]).flatten = rwl n fun _=>0:=by
 unfold rwl
 have:∀ m,(List.replicate m [V.int 0]).flatten = (List.range m).map fun _=>V.int 0:=by
  intro m
  induction m with
  | zero=>rfl
  | succ m ih=>rw [List.replicate_succ',List.flatten_append,ih,List.range_succ,List.map_append]; rfl
 exact this (n + 1)
theorem atI_end {α:Type} {xs:List α} {v:α} (h:0 < xs.length) (e:xs[xs.length - 1]? = some v):atI xs (-1) = some v:=by
 unfold atI ixN
 rw [if_neg (by omega),if_pos (by omega)]
 have:((-1:Int) + xs.length).toNat = xs.length - 1:=by omega
 simp only [this,Option.bind]
 exact e
end BrS
namespace BrS
open L2 PySem BrM BrC
theorem rep_ones (m:Nat):(List.replicate (2 * m) [V.int 1]).flatten = (ones m).map V.int:=by
 unfold ones
 generalize 2 * m = j
 induction j with
 | zero=>rfl
 | succ j ih=>rw [List.replicate_succ,List.flatten_cons,ih,List.replicate_succ]; rfl
theorem int_at {l:List Int} {j:Nat} (h:j < l.length):(l.map V.int)[j]? = some (.int (l.getD j 0)):=by
 rw [List.getElem?_map,List.getD_eq_getElem?_getD,List.getElem?_eq_getElem h]; rfl
end BrS
namespace BrS
open L2 PySem BrM BrC
def part (P:Nat->Nat->Int) (k i q j:Nat):Int :=
 if j <= i then (if j = i then 1 else 0) else if (j - i) % 2 = 1 then 0 else
  sm q fun e=>if i + 2 + 2 * e <= j then pr P k i (i + 1 + 2 * e) * cv P k (2 * e) (i + 1) [] * cv P k (j - (i + 2 + 2 * e)) (i + 2 + 2 * e) [] else 0
section
variable {P:Nat->Nat->Int} {k i q j n:Nat}
theorem part_zero:part P k i 0 j = if j = i then 1 else 0:=by
 unfold part
 by_cases h:j <= i
 ·rw [if_pos h]
 ·rw [if_neg h,if_neg (show ¬ (j = i) by omega)]
  split <;> rfl
theorem part_odd (h:i < j/\(j - i) % 2 = 1):part P k i q j = 0:=by
 unfold part
 rw [if_neg (by omega),if_pos h.2]
theorem part_same (h:j < i + 2 + 2 * q):part P k i (q + 1) j = part P k i q j:=by
 unfold part
 by_cases h1:j <= i
 ·rw [if_pos h1,if_pos h1]
 ·rw [if_neg h1,if_neg h1,sm,if_neg (show ¬ (i + 2 + 2 * q <= j) by omega),Int.add_zero]
theorem part_next {en:Nat} (he:en = i + 1 + 2 * q) (h:en + 1 <= j) (h2:(j - i) % 2 = 0):part P k i q j + pr P k i en * cv P k (2 * q) (i + 1) [] * cv P k (j - (en + 1)) (en + 1) [] = part P k i (q + 1) j:=by
 subst he
 unfold part
 rw [if_neg (by omega),if_neg (by omega),if_neg (by omega),if_neg (by omega),sm,if_pos (show i + 2 + 2 * q <= j by omega),show i + 1 + 2 * q + 1 = i + 2 + 2 * q by omega]
theorem part_all (hj:j <= n):part P k i ((n - i) / 2) j = tbl P k i j:=by
 unfold part tbl
 by_cases h1:j <= i
 ·rw [if_pos h1]
  by_cases h2:j = i
  ·subst h2; rw [if_pos rfl,if_pos (Nat.le_refl _),Nat.sub_self]; rfl
  ·rw [if_neg h2,if_neg (by omega)]
 ·rw [if_neg h1,if_pos (show i <= j by omega)]
  by_cases h2:(j - i) % 2 = 1
  ·rw [if_pos h2,cv_odd _ _ _ (by simpa using h2)]
  ·rw [if_neg h2]
   obtain ⟨m,hm⟩:∃ m,j - i = m + 1:=⟨j - i - 1,by omega⟩
   rw [hm,cv_rec2]
   obtain ⟨d,hd⟩:∃ d,(n - i) / 2 = (m + 1) / 2 + d:=⟨(n - i) / 2 - (m + 1) / 2,by omega⟩
   rw [hd,sm_more _ d fun e h3=>by rw [if_neg (by omega)]]
   refine sm_congr _ fun e h3=>?_
   rw [if_pos (by omega),show j - (i + 2 + 2 * e) = m - 2 * e - 1 by omega,show i + 2 + 2 * e = i + 2 * e + 2 by omega]
end
end BrS
namespace BrS
open L2 PySem BrM BrC
theorem many_places {k:Nat} {a:List Nat} (hk:k <= 4):∀ l ∈ a.map (plw (ones k)),l.length = 2 * k/\Sm l:=fun l hl=>by
 obtain ⟨c,_,rfl⟩:=List.mem_map.mp hl
 exact ⟨by rw [plw_len (by rw [List.length_replicate]; omega),List.length_replicate],plw_sm (ones_sm k) c⟩
end BrS
namespace BrS
open L2 PySem BrM BrC
theorem flat_ints (ds:List Int):(ds.map V.int).all flatV = true:=by
 rw [List.all_eq_true]
 intro v hv
 obtain ⟨d,_,rfl⟩:=List.mem_map.mp hv
 rfl
theorem eqVs_nil (ds:List Int):eqVs (ds.map V.int) [] = decide (ds = []):=by
 cases ds with
 | nil=>rfl
 | cons d r=>rw [decide_eq_false (by simp)]; rfl
theorem plw_unk (w:List Int):plw w 63 = w:=by unfold plw; rw [if_pos rfl]
end BrS
namespace BrS
open L2 PySem BrM BrC
section
variable {σ:St} {H:Hp} {Q:VK} {K:PySem.W.Frag}
end
theorem atI_snoc (i:List Nat) (d:Nat):atI (i ++ [d]) (-1) = some d:=atI_end (by simp) (by simp)
theorem cut_init (i:List Nat) (d:Nat):cutL (i ++ [d]) none (some (-1)) = i:=by
 unfold cutL
 have e1:HT.sIx (i ++ [d]).length (i ++ [d]).length (some (-1)) = i.length:=by
  unfold HT.sIx
  simp
  omega
 rw [HT.sIx_none,e1]
 simp
end BrS
namespace BrS
open L2 PySem BrM BrC
theorem sgn_unk (k:Int):63 ∈ sgn k:=List.mem_append_right _ (List.mem_singleton.mpr rfl)
end BrS
namespace BrS
open L2 PySem BrM BrC
end BrS
namespace BrS
open L2 PySem BrM BrC
def pw (k c b:Nat):Int:=(plw (ones k) c).getD b 0
def ws (k:Nat):List Nat->List Nat->Int
 | [],[]=>1
 | [],_ :: _=>0
 | c :: r,st=>sm k (fun p=>pw k c (2 * p) * ws k r (p :: st)) + (match st with | []=>0 | o :: s'=>pw k c (2 * o + 1) * ws k r s')
variable {k:Nat}
theorem ws_nil (c:Nat) (r:List Nat):ws k (c :: r) [] = sm k (fun p=>pw k c (2 * p) * ws k r [p]):=by rw [ws]; simp
theorem ws_cons (c:Nat) (r:List Nat) (o:Nat) (st:List Nat):ws k (c :: r) (o :: st) = sm k (fun p=>pw k c (2 * p) * ws k r (p :: o :: st)) + pw k c (2 * o + 1) * ws k r st:=by rw [ws]
theorem cv_ws : ∀ (a st : List Nat), cv (PP (a.map (plw (ones k)))) k a.length 0 st = ws k a st
  | [], [] => rfl
  | [], _ :: _ => rfl
  | c :: r, st => by
    have ih := cv_ws r
    have sh : ∀ s', cv (PP ((c :: r).map (plw (ones k)))) k r.length (0 + 1) s' = ws k r s' := fun s' => by
      rw [<- ih s']
      exact (cv_shift (P := PP ((c :: r).map (plw (ones k)))) (P' := PP (r.map (plw (ones k)))) 1 r.length 0 s' fun j b _ _ => rfl).symm
    have e0 : ∀ b, PP ((c :: r).map (plw (ones k))) 0 b = pw k c b := fun _ => rfl
    have e := sm_congr (f := fun p => PP ((c :: r).map (plw (ones k))) 0 (2 * p) * cv (PP ((c :: r).map (plw (ones k)))) k r.length (0 + 1) (p :: st)) (g := fun p => pw k c (2 * p) * ws k r (p :: st)) k fun p _ => by rw [sh, e0]
    cases st with
    | nil => rw [List.length_cons, cv_nil, ws_nil]; exact e
    | cons o s' => rw [List.length_cons, cv_cons, ws_cons, e, sh, e0]
theorem cnt_ws (a:List Nat):cnt k a = ws k a []:=cv_ws a []
theorem pw_nonneg (k c b:Nat):0 <= pw k c b:=((plw_sm (ones_sm k) c).at b).1
theorem ws_nonneg : ∀ (a st : List Nat), 0 <= ws k a st
  | [], [] => by rw [ws]; decide
  | [], _ :: _ => by rw [ws]; decide
  | c :: r, st => by
    have s1 := sm_nonneg (f := fun p => pw k c (2 * p) * ws k r (p :: st)) k fun p _ => Int.mul_nonneg (pw_nonneg _ _ _) (ws_nonneg r _)
    cases st with
    | nil => rw [ws_nil]; exact s1
    | cons o s' => rw [ws_cons]; exact Int.add_nonneg s1 (Int.mul_nonneg (pw_nonneg _ _ _) (ws_nonneg r _))
theorem pw_unk {b:Nat} (h:b < 2 * k):pw k 63 b = 1:=by
 unfold pw
 rw [plw_unk]
 unfold ones
 rw [List.getD_eq_getElem?_getD,List.getElem?_replicate,if_pos h]; rfl
theorem pw_far {c b:Nat} (h:2 * k <= b):pw k c b = 0:=by
 unfold pw
 rw [List.getD_eq_getElem?_getD,List.getElem?_eq_none]
 ·rfl
 ·unfold plw ones
  split
  ·rw [List.length_replicate]; exact h
  ·rw [List.length_map,List.length_take,List.length_replicate]; omega
theorem brs_at {b c:Nat} (h:brs[b]? = some c):b < 8:=by
 have:=(List.getElem?_eq_some_iff.mp h).1
 exact this
theorem pw_at {b d c:Nat} (hb:b < 2 * k) (hb8:b < 8) (hd:brs[d]? = some c):pw k c b = if b = d then 1 else 0:=by
 have hd8:=brs_at hd
 have hn:c ≠ 63:=by
  rintro rfl
  revert hd
  have:d = 0\/d = 1\/d = 2\/d = 3\/d = 4\/d = 5\/d = 6\/d = 7:=by omega
  rcases this with rfl | rfl | rfl | rfl | rfl | rfl | rfl | rfl <;> decide
 unfold pw plw
 rw [if_neg hn,List.getD_eq_getElem?_getD,List.getElem?_map,List.getElem?_take]
 rw [if_pos (show b < (ones k).length by unfold ones; rw [List.length_replicate]; exact hb)]
 have hb':b = 0\/b = 1\/b = 2\/b = 3\/b = 4\/b = 5\/b = 6\/b = 7:=by omega
 have hd':d = 0\/d = 1\/d = 2\/d = 3\/d = 4\/d = 5\/d = 6\/d = 7:=by omega
 rcases hd' with rfl | rfl | rfl | rfl | rfl | rfl | rfl | rfl <;> (cases hd; rcases hb' with rfl | rfl | rfl | rfl | rfl | rfl | rfl | rfl <;> decide)
theorem ws_close {c p : Nat} (hp : p < k) (hk : k <= 4) (hc : brs[2 * p + 1]? = some c) (r st : List Nat) : ws k (c :: r) st = match st with | [] => 0 | o :: s' => if o = p then ws k r s' else 0 := by
  have e : sm k (fun p' => pw k c (2 * p') * ws k r (p' :: st)) = 0 := sm_zero k fun j hj => by
    rw [pw_at (by omega) (by omega) hc, if_neg (by omega), Int.zero_mul]
  cases st with
  | nil => rw [ws_nil, e]
  | cons o s' =>
    rw [ws_cons, e, Int.zero_add]
    by_cases ho : o < k
    · rw [pw_at (by omega) (by omega) hc]
      by_cases h : o = p
      · subst h; rw [if_pos rfl, Int.one_mul]; simp
      · rw [if_neg (by omega), Int.zero_mul]; simp [h]
    · rw [pw_far (by omega), Int.zero_mul]
      have : ¬ (o = p) := by omega
      simp [this]
end BrS
namespace BrS
open L2 PySem BrM BrC
def clc (p:Nat):Nat:=cls.getD p 0
section
variable {k:Int}
end
end BrS
namespace BrS
open L2 PySem BrM BrC
section
variable {k:Int}
end
end BrS
namespace L2
open PySem PySem.Spec PyProof.Rows
section
variable {κ:Type} [DecidableEq κ]
def valV (kvs:List (κ × V)) (k:κ):Option V:=(kvs.find? fun kv=>decide (kv.1 = k)).map (·.2)
def putK (kvs:List (κ × V)) (k:κ) (v:V):List (κ × V) :=
 if (kvs.any fun kv=>decide (kv.1 = k)) = true then kvs.map (fun kv=>if kv.1 = k then (kv.1,v) else kv) else kvs ++ [(k,v)]
theorem valV_nil {k:κ}:valV ([]:List (κ × V)) k = none:=rfl
theorem valV_pos {p:κ × V} {r:List (κ × V)} {k:κ} (e:p.1 = k):valV (p :: r) k = some p.2:=by simp [valV,List.find?_cons,e]
theorem valV_neg {p:κ × V} {r:List (κ × V)} {k:κ} (e:¬ p.1 = k):valV (p :: r) k = valV r k:=by simp [valV,List.find?_cons,e]
theorem valV_any (k : κ) : ∀ kvs : List (κ × V), (kvs.any fun kv => decide (kv.1 = k)) = (valV kvs k).isSome
  | [] => rfl
  | p :: r => by
    rw [List.any_cons]
    by_cases e : p.1 = k
    · simp only [valV_pos e, decide_eq_true e, Bool.true_or, Option.isSome_some]
    · rw [valV_neg e, decide_eq_false e, Bool.false_or]; exact valV_any k r
theorem length_putK (kvs:List (κ × V)) (k:κ) (v:V):(putK kvs k v).length <= kvs.length + 1:=by
 unfold putK
 split
 ·rw [List.length_map]; omega
 ·rw [List.length_append,List.length_cons,List.length_nil]; omega
theorem RelO.isSome_eq {o : Option V} {u : Option Value} (r : RelO o u) : o.isSome = u.isSome := by
  cases o with
  | none => cases u with
    | none => rfl
    | some _ => exact (show False from r).elim
  | some _ => cases u with
    | none => exact (show False from r).elim
    | some _ => rfl
theorem RelO.getD {o : Option V} {u : Option Value} {d : V} {d' : Value} (r : RelO o u) (rd : RelV d d') : RelV (o.getD d) (u.getD d') := by
  cases o with
  | none => cases u with
    | none => exact rd
    | some _ => exact (show False from r).elim
  | some _ => cases u with
    | none => exact (show False from r).elim
    | some _ => exact r
theorem KV.val {kvs : List (κ × V)} {vs : List (κ × Value)} (r : KV kvs vs) (k : κ) : RelO (valV kvs k) (valueAt vs k) := by
  unfold KV at r
  induction r with
  | nil => exact True.intro
  | @cons p q ps qs h t ih =>
    obtain ⟨h1, h2⟩ := h
    by_cases e : p.1 = k
    · have e' : q.1 = k := h1.symm.trans e
      have b : valueAt (q :: qs) k = some q.2 := by simp [valueAt, List.find?_cons, e']
      rw [valV_pos e, b]; exact h2
    · have e' : ¬ q.1 = k := fun z => e (h1.trans z)
      have b : valueAt (q :: qs) k = valueAt qs k := by simp [valueAt, List.find?_cons, e']
      rw [valV_neg e, b]; exact ih
theorem KV.any {kvs:List (κ × V)} {vs:List (κ × Value)} (r:KV kvs vs) (k:κ):(kvs.any fun kv=>decide (kv.1 = k)) = vs.any fun kv=>decide (kv.1 = k):=by
 unfold KV at r
 induction r with
 | nil=>rfl
 | cons h t ih=>rw [List.any_cons,List.any_cons,ih,h.1]
theorem KV.repl {kvs : List (κ × V)} {vs : List (κ × Value)} (r : KV kvs vs) (k : κ) {y : V} {u : Value} (ry : RelV y u) :
    KV (kvs.map fun kv => if kv.1 = k then (kv.1, y) else kv) (vs.map fun kv => if kv.1 = k then (kv.1, u) else kv) := by
  unfold KV at r ⊢
  induction r with
  | nil => exact .nil
  | @cons p q ps qs h t ih =>
    rw [List.map_cons, List.map_cons]
    refine .cons ?_ ih
    obtain ⟨h1, h2⟩ := h
    by_cases e : p.1 = k
    · rw [if_pos e, if_pos (h1.symm.trans e)]; exact ⟨h1, ry⟩
    · rw [if_neg e, if_neg (fun z => e (h1.trans z))]; exact ⟨h1, h2⟩
theorem KV.put {kvs:List (κ × V)} {vs:List (κ × Value)} (r:KV kvs vs) (k:κ) {y:V} {u:Value} (ry:RelV y u):KV (putK kvs k y) (stored vs k u):=by
 unfold putK stored
 rw [r.any k]
 by_cases e:(vs.any fun kv=>decide (kv.1 = k)) = true
 ·rw [if_pos e,if_pos e]; exact r.repl k ry
 ·rw [if_neg e,if_neg e]; exact Paired.snoc r ⟨rfl,ry⟩
theorem KV.keys {kvs:List (κ × V)} {vs:List (κ × Value)} (r:KV kvs vs):kvs.map (·.1) = vs.map (·.1):=by
 unfold KV at r
 induction r with
 | nil=>rfl
 | cons h t ih=>rw [List.map_cons,List.map_cons,ih,h.1]
theorem KV.length {kvs:List (κ × V)} {vs:List (κ × Value)} (r:KV kvs vs):kvs.length = vs.length:=Paired.length r
end
theorem kV_is {P:Program} {w:World} {k:Key} {u:Value} (r:RelV (kV k) u):(mixKind P w).is k u = true:=by
 cases k with
 | inl i=>obtain ⟨t,e⟩:=(show ∃ t,u = Value.int i t from r); subst e; exact mixKind_int P w i t
 | inr x=>obtain ⟨t,e⟩:=(show ∃ t,u = Value.str x t from r); subst e; exact mixKind_str P w x t
theorem items_are {P : Program} {w : World} : ∀ {ks : List Key} {us : List Value}, Vals (ks.map kV) us -> ItemsAre (mixKind P w) ks us
  | [], _, r => by rw [List.map_nil] at r; cases r; exact .nil
  | k :: ks, _, r => by
    rw [List.map_cons] at r
    cases r with
    | cons h t => exact .cons (kV_is h) (items_are t)
abbrev KT (H:Hp):List (List Key × V)->List (List Key × Addr × Value)->Prop:=Paired fun p q=>p.1 = q.1/\H q.2.1 = some (.tup (p.1.map kV))/\RelV p.2 q.2.2
theorem KT.val {H : Hp} {kvs : List (List Key × V)} {xs : List (List Key × Addr × Value)} (r : KT H kvs xs) (k : List Key) : RelO (valV kvs k) ((atKey xs k).map (·.2)) := by
  induction r with
  | nil => exact True.intro
  | @cons p q ps qs h t ih =>
    obtain ⟨h1, _, h2⟩ := h
    by_cases e : p.1 = k
    · have e' : q.1 = k := h1.symm.trans e
      have b : atKey (q :: qs) k = some q.2 := by simp [atKey, List.find?_cons, e']
      rw [valV_pos e, b]; exact h2
    · have e' : ¬ q.1 = k := fun z => e (h1.trans z)
      have b : atKey (q :: qs) k = atKey qs k := by simp [atKey, List.find?_cons, e']
      rw [valV_neg e, b]; exact ih
theorem KT.repl {H : Hp} {kvs : List (List Key × V)} {xs : List (List Key × Addr × Value)} (r : KT H kvs xs) (k : List Key) {y : V} {u : Value} (ry : RelV y u) :
    KT H (kvs.map fun kv => if kv.1 = k then (kv.1, y) else kv) (xs.map (putAt k u)) := by
  induction r with
  | nil => exact .nil
  | @cons p q ps qs h t ih =>
    rw [List.map_cons, List.map_cons]
    refine .cons ?_ ih
    obtain ⟨h1, h2, h3⟩ := h
    unfold putAt
    by_cases e : p.1 = k
    · rw [if_pos e, if_pos (h1.symm.trans e)]; exact ⟨h1, h2, ry⟩
    · rw [if_neg e, if_neg (fun z => e (h1.trans z))]; exact ⟨h1, h2, h3⟩
theorem KT.put {H:Hp} {kvs:List (List Key × V)} {xs:List (List Key × Addr × Value)} (r:KT H kvs xs) (k:List Key) {b:Addr} {y:V} {u:Value} (hb:H b = some (.tup (k.map kV))) (ry:RelV y u) :
  KT H (putK kvs k y) (storedH xs k b u):=by
 have e:(kvs.any fun kv=>decide (kv.1 = k)) = (atKey xs k).isSome:=by
  rw [valV_any,(r.val k).isSome_eq,Option.isSome_map]
 unfold putK storedH
 rw [e]
 by_cases q:(atKey xs k).isSome = true
 ·rw [if_pos q,if_pos q]; exact r.repl k ry
 ·rw [if_neg q,if_neg q]; exact Paired.snoc r ⟨rfl,hb,ry⟩
theorem KT.keeps {H H':Hp} {kvs:List (List Key × V)} {xs:List (List Key × Addr × Value)} (r:KT H kvs xs) (ht:∀ b ys,H b = some (.tup ys)->H' b = some (.tup ys)):KT H' kvs xs :=
 Paired.mapP r fun _ _ z=>⟨z.1,ht _ _ z.2.1,z.2.2⟩
section
variable {P:Program} {w:World} {H:Hp} {h:Heap} {a:Addr}
theorem rd_of {u:HO} (ok:HOk P w H h) (e:Rd H a u):ObjOk P w H h a u:=e.ok ok
theorem dk_rd {kvs:List (Key × V)} (ok:HOk P w H h) (e:Rd H a (.dK kvs)):kvs.length <= sizeLine/\(a == sysModules) = false/\∃ vs,KV kvs vs/\h.DictOf (mixKind P w) a vs :=
 show ObjOk P w H h a (.dK kvs) from rd_of ok e
theorem dk_of {kvs:List (Key × V)} (ok:HOk P w H h) (e:H a = some (.dK kvs)):kvs.length <= sizeLine/\(a == sysModules) = false/\∃ vs,KV kvs vs/\h.DictOf (mixKind P w) a vs:=dk_rd ok (.inl e)
theorem key_of {ks:List Key} (ok:HOk P w H h) (e:H a = some (.tup (ks.map kV))):(tupleKind (mixKind P w)).is h ks a:=by
 obtain ⟨_,its,r,o,h1,h2,n,h3⟩:=(show ObjOk P w H h a (.tup (ks.map kV)) from ok a _ e)
 exact ⟨o,its.toArray,n,h1,h2,h3,by simpa using items_are r⟩
theorem dt_rd {kvs : List (List Key × V)} (ok : HOk P w H h) (e : Rd H a (.dT kvs)) : kvs.length <= sizeLine /\ (a == sysModules) = false /\
    ∃ xs, KT H kvs xs /\ h.DictOfH (tupleKind (mixKind P w)) a xs := by
  obtain ⟨z, y, xs, r, o, es, ep, h1, h2, h3, h4, h5⟩ := (show ObjOk P w H h a (.dT kvs) from rd_of ok e)
  refine ⟨z, y, xs, r, o, es, ep, h1, h2, h3, h4, fun x hx => ?_, h5⟩
  have all : ∀ {l : List (List Key × V)} {m : List (List Key × Addr × Value)}, KT H l m -> ∀ x ∈ m, (tupleKind (mixKind P w)).is h x.1 x.2.1 := by
    intro l m q
    induction q with
    | nil => intro x hx; exact nomatch hx
    | @cons p q ps qs hq t ih =>
      intro x hx
      rcases List.mem_cons.mp hx with e | hx
      · subst e
        exact key_of ok (by rw [<- hq.1]; exact hq.2.1)
      · exact ih x hx
  exact all r x hx
theorem dt_of {kvs:List (List Key × V)} (ok:HOk P w H h) (e:H a = some (.dT kvs)):kvs.length <= sizeLine/\(a == sysModules) = false /\
  ∃ xs,KT H kvs xs/\h.DictOfH (tupleKind (mixKind P w)) a xs:=dt_rd ok (.inl e)
end
def DGet (H:Hp) (a:Addr) (y:V) (r:Option V):Prop :=
 (∃ kvs k,Rd H a (.dK kvs)/\y = kV k/\r = valV kvs k)\/∃ kvs k b,Rd H a (.dT kvs)/\y = .ref b/\H b = some (.tup (k.map kV))/\r = valV kvs k
def DPut (H:Hp) (a:Addr) (y v:V) (H':Hp):Prop :=
 (∃ kvs k,H a = some (.dK kvs)/\y = kV k/\kvs.length < sizeLine/\H' = upd H a (.dK (putK kvs k v))) \/
 ∃ kvs k b,H a = some (.dT kvs)/\y = .ref b/\H b = some (.tup (k.map kV))/\kvs.length < sizeLine/\H' = upd H a (.dT (putK kvs k v))
theorem DGet.k {H:Hp} {a:Addr} {kvs:List (Key × V)} {k:Key} (e:H a = some (.dK kvs)):DGet H a (kV k) (valV kvs k):=.inl ⟨kvs,k,.inl e,rfl,rfl⟩
theorem DGet.t {H:Hp} {a b:Addr} {kvs:List (List Key × V)} {k:List Key} (e:H a = some (.dT kvs)) (eb:H b = some (.tup (k.map kV))):DGet H a (.ref b) (valV kvs k):=.inr ⟨kvs,k,b,.inl e,rfl,eb,rfl⟩
theorem DPut.k {H:Hp} {a:Addr} {kvs:List (Key × V)} {k:Key} {v:V} (e:H a = some (.dK kvs)) (hl:kvs.length < sizeLine):DPut H a (kV k) v (upd H a (.dK (putK kvs k v))):=.inl ⟨kvs,k,e,rfl,hl,rfl⟩
theorem DPut.t {H:Hp} {a b:Addr} {kvs:List (List Key × V)} {k:List Key} {v:V} (e:H a = some (.dT kvs)) (eb:H b = some (.tup (k.map kV))) (hl:kvs.length < sizeLine) :
  DPut H a (.ref b) v (upd H a (.dT (putK kvs k v))):=.inr ⟨kvs,k,b,e,rfl,eb,hl,rfl⟩
section
variable {X:Cx} {pins:List (Addr × Obj)} {σ:St} {H:Hp} {s:Shared} {a:Addr} {y v:V} {u r:Value} {o:Option V} {A:Around} {E:Value->Shared->Prop}
theorem Inv.big (I:Inv X pins σ H s):sysModules < s.heap.objs.size:=by
 have h:mainGlobals < s.heap.objs.size:=(I.mod.glob.keeps I.bk).lt
 exact Nat.lt_trans (by decide) h
theorem d_getItem {Q:Value->Shared->Prop} (hu:A.units + 1 < cLine) (I:Inv X pins σ H s) (g:DGet H a y (some v)) (ry:RelV y u) (h:∀ w' s',Inv X pins σ H s'->RelV v w'->Q w' s') :
  wpAny (model X.prog X.w) A (getItem (.ref a) u) Q E s:=by
 rcases g with ⟨kvs,k,e,ey,l⟩ | ⟨kvs,k,b,e,ey,eb,l⟩
 ·subst ey
  obtain ⟨z,hd,vs,rel,dd⟩:=dk_rd I.hok e
  obtain ⟨w',hw,rw'⟩:=RelO.some_of (v:=v) (o:=valueAt vs k) (by rw [l]; exact rel.val k)
  exact wpAny_getItem_of (kV_is ry) dd.mapOf hw (h w' _ (I.tok _) rw')
 ·subst ey
  cases (show u = Value.ref b from ry)
  obtain ⟨z,hd,xs,rel,dd⟩:=dt_rd I.hok e
  obtain ⟨w',hw,rw'⟩:=RelO.some_of (v:=v) (o:=(atKey xs k).map (·.2)) (by rw [l]; exact rel.val k)
  obtain ⟨p,hp,hp2⟩:=Option.map_eq_some_iff.mp hw
  refine wpAny_getItem_heap (tupleKind_room_in1 hu) (key_of I.hok eb) dd hp ?_
  rw [hp2]
  exact h w' _ (I.tok _) rw'
theorem d_write {h':Heap} {t':Nat} {ob:HO} (I:Inv X pins σ H s) (mu:Mut (H a)) (hs:Heap.SameBut a s.heap h') (he:∃ q,h'.get? a = some q) (new:ObjOk X.prog X.w (upd H a ob) h' a ob) :
  Inv X pins σ (upd H a ob) { s with heap:=h',toks:=t' } :=
 I.write (x:=a) (e:=a) mu (.inl rfl) (fun b q hb z=>(hs.2 b hb).trans z) he new
theorem dk_new {P:Program} {w:World} {H':Hp} {h':Heap} {kvs:List (Key × V)} {vs:List (Key × Value)} (z:kvs.length <= sizeLine) (hd:(a == sysModules) = false) (rel:KV kvs vs) (dd:h'.DictOf (mixKind P w) a vs) :
  ObjOk P w H' h' a (.dK kvs):=⟨z,hd,vs,rel,dd⟩
theorem d_setItem {H':Hp} {Q:Unit->Shared->Prop} (hu:A.units + 1 < cLine) (I:Inv X pins σ H s) (g:DPut H a y v H') (ry:RelV y u) (rv:RelV v r) (h:∀ s',Inv X pins σ H' s'->Q () s') :
  wpAny (model X.prog X.w) A (setItem (.ref a) u r) Q E s:=by
 rcases g with ⟨kvs,k,e,ey,l,eH⟩ | ⟨kvs,k,b,e,ey,eb,l,eH⟩
 ·subst ey eH
  obtain ⟨z,hd,vs,rel,dd⟩:=dk_of I.hok e
  have hz:vs.length <= sizeLine:=by rw [<- rel.length]; exact z
  have hl:(putK kvs k v).length <= sizeLine:=by have:=length_putK kvs k v; omega
  refine wpAny_setItem_pairs (hsz:=hz) (kV_is ry) dd fun h' dd' hs=>h _ ?_
  have he:∃ q,h'.get? a = some q:=let ⟨q,_,_,hq,_⟩:=dd'; ⟨q,hq⟩
  exact d_write I (by rw [e]; exact True.intro) hs he (dk_new hl hd (rel.put k rv) dd')
 ·subst ey eH
  cases (show u = Value.ref b from ry)
  obtain ⟨z,hd,xs,rel,dd⟩:=dt_of I.hok e
  have hz:xs.length <= sizeLine:=by rw [<- Paired.length rel]; exact z
  have hl:(putK kvs k v).length <= sizeLine:=by have:=length_putK kvs k v; omega
  refine wpAny_setItem_heap (hsz:=hz) (tupleKind_room_in1 hu) (key_of I.hok eb) dd fun h' dd' hs=>h _ ?_
  obtain ⟨q,es,ep,hq,h2,h3,h4,_,h5⟩:=dd'
  refine d_write I (by rw [e]; exact True.intro) hs ⟨q,hq⟩ ⟨hl,hd,_,(rel.put k eb rv).keeps fun c ys ec=>?_,q,es,ep,hq,h2,h3,h4,h5⟩
  rw [upd_ne (ne_of ec e (fun z=>nomatch z))]
  exact ec
end
section
variable {X:Cx} {pins:List (Addr × Obj)} {σ:St} {H:Hp} {s:Shared} {a:Addr} {kvs:List (Key × V)} {k:Key} {u:Value} {A:Around} {E:Value->Shared->Prop}
end
def NoSl (i:Expr):Prop:=∀ ov iv,subscripted i false ov iv = operate [ov,iv] (getItem ov iv)
theorem subD_of {prog:Program} {w:World} {A:Around} {E:Value->Shared->Prop} {s:Shared} {env:Env} {value slice:Expr} {pos:Pos} {T id:String} {Q:Value->Shared->Prop}
  (hl:typeLookup (.type T) "__getitem__" = pure (some (.builtin id))) (hs:NoSl slice)
  (h:wpAny (model prog w) A (eval value env) (fun o s₁=>wpAny (model prog w) A (eval slice env) (fun i s₂=>s₂.TypeIs o T/\wpAny (model prog w) A (getItem o i) Q E s₂) E s₁) E s) :
  wpAny (model prog w) A (eval (.Subscript value slice pos) env) Q E s:=by
 refine Subscript_ (wpAny_mono h (fun o s₁ h₁=>wpAny_mono h₁ (fun i s₂ h₂=>?_) fun _ _ x=>x) fun _ _ x=>x)
 obtain ⟨hT,h₂⟩:=h₂
 unfold subscriptTail
 refine wpAny_bind ?_
 rw [getitemInPython_of_ne hT.not_modules]
 refine wpAny_bind (wpAny_specialOf hT hl ?_)
 have fin:wpAny (model prog w) A (subscripted slice false o i) (fun r s₃=>wpAny (model prog w) A (letTemporaryGo value o r >>= fun _=>pure r) Q E s₃) E s₂:=by
  rw [hs o i]
  exact wpAny_operating (wpAny_mono h₂ (fun r s₃ h₃=>wpAny_bind (wpAny_letTemporaryGo (wpAny_pure h₃))) fun _ _ x=>x)
 first
  | exact wpAny_pure (wpAny_bind fin)
  | exact wpAny_bind (wpAny_pure (wpAny_bind fin))
  | exact wpAny_bind fin
theorem dict_typeIs {X:Cx} {pins:List (Addr × Obj)} {σ:St} {H:Hp} {s:Shared} {a:Addr} {y:V} {o:Option V} (I:Inv X pins σ H s) (g:DGet H a y o):s.TypeIs (.ref a) "dict":=by
 rcases g with ⟨kvs,k,e,_,_⟩ | ⟨kvs,k,b,e,_,_,_⟩
 ·obtain ⟨_,_,vs,_,dd⟩:=dk_rd I.hok e
  exact dd.typeIs
 ·obtain ⟨_,_,xs,_,dd⟩:=dt_rd I.hok e
  exact dd.typeIs
def tDGet (td ty:TE):TE:=fun σ H Q=>td σ H fun x H1=>ty σ H1 fun y H2=>∃ a v,x = .ref a/\DGet H2 a y (some v)/\Q v H2
def sDPut (td ty tv:TE):TS:=fun D σ H=>tv σ H fun v H1=>td σ H1 fun x H2=>ty σ H2 fun y H3=>∃ a H4,x = .ref a/\DPut H3 a y v H4/\D.nx σ H4
section
variable {X:Cx} {o i e value:Expr} {pos pos' tpos:Pos} {td ty tv:TE}
theorem pe_dget (hu:X.A.units + 1 < cLine) (ho:PE X o td) (hi:PE X i ty) (hs:NoSl i):PE X (.Subscript o i pos) (tDGet td ty):=by
 intro pins s σ H Q I h
 refine subD_of PySem.F.slot_dict_getitem.lookup hs (thn (ho pins s σ H _ I h) fun u s1 ⟨x,H1,I1,rx,q1⟩=>thn (hi pins s1 σ H1 _ I1 q1) fun iv s2 ⟨y,H2,I2,ry,a,v,ex,g,q2⟩=>?_)
 subst ex
 obtain rfl:u = Value.ref a:=rx
 exact ⟨dict_typeIs I2 g,d_getItem hu I2 g ry fun w' s3 I3 rw'=>⟨v,H2,I3,rw',q2⟩⟩
theorem ps_dput (hu:X.A.units + 1 < cLine) (ho:PE X o td) (hi:PE X i ty) (hv:PE X value tv) (hs:swapsWith value (some (.Subscript o i pos')) pos.line X.env = pure false) :
  PS X (.Assign [.Subscript o i pos'] value pos) (sDPut td ty tv):=by
 intro pins s σ H D I h
 refine wpAny_Assign_Subscript (thn (hv pins s σ H _ I h) fun r s1 ⟨v,H1,I1,rv,q1⟩=>thn (ho pins s1 σ H1 _ I1 q1) fun u s2 ⟨x,H2,I2,rx,q2⟩=>thn (hi pins s2 σ H2 _ I2 q2) fun iv s3 ⟨y,H3,I3,ry,a,H4,ex,g,q3⟩=>?_) hs
 subst ex
 obtain rfl:u = Value.ref a:=rx
 exact d_setItem hu I3 g ry rv fun s4 I4=>⟨σ,H4,I4,q3⟩
end
theorem dk_empty {P:Program} {w:World} {H:Hp} (h:Heap) (hb:sysModules < h.objs.size):ObjOk P w H (h.push { cls:=.type "dict",data:=.dict #[] }) h.objs.size (.dK []) :=
 ⟨Nat.zero_le _,beq_eq_false_iff_ne.mpr (Ne.symm (Nat.ne_of_lt hb)),[],.nil,Heap.DictOf.new h⟩
def tDNewK:TE:=fun _ H Q=>∀ p,H p = none->Q (.ref p) (upd H p (.dK []))
section
variable {X:Cx} {pos:Pos}
theorem pe_dnewK:PE X (.Dict [] [] pos) tDNewK:=fun pins s σ H Q I h =>
 wpAny_Dict_empty ⟨.ref s.heap.objs.size,_,I.laid (a:=s.heap.objs.size) (o:=.dK []) (t':=s.toks) (fun _ _ q=>Heap.get?_push_of_some _ q) (Nat.le_refl _) (dk_empty s.heap I.big),rfl,h _ (I.hok.fresh (Nat.le_refl _))⟩
end
def tPairs:List (TE × TE)->St->Hp->(List (V × V)->Hp->Prop)->Prop
 | [],_,H,Q=>Q [] H
 | (tk,tv) :: r,σ,H,Q=>tk σ H fun x H1=>tv σ H1 fun y H2=>tPairs r σ H2 fun ps H3=>Q ((x,y) :: ps) H3
abbrev VV:List (V × V)->List (Value × Value)->Prop:=Paired fun p q=>RelV p.1 q.1/\RelV p.2 q.2
def PPs (X:Cx) (pos:Pos) (keys:List (Option Expr)) (values:List Expr) (trs:List (TE × TE)):Prop :=
 ∀ (pins:List (Addr × Obj)) (s:Shared) (σ:St) (H:Hp) (Q:List (V × V)->Hp->Prop),Inv X pins σ H s->tPairs trs σ H Q ->
  wpAny (model X.prog X.w) X.A (evalPairs (pairTrees keys values X.env pos)) (fun vs s'=>∃ ps H',Inv X pins σ H' s'/\VV ps vs/\Q ps H') X.xe s
theorem pps_nil {X:Cx} {pos:Pos}:PPs X pos [] [] []:=fun pins s σ H Q I h=>pairTrees_nil_walk ⟨[],H,I,.nil,h⟩
theorem pps_cons {X:Cx} {pos:Pos} {k v:Expr} {ks:List (Option Expr)} {vs:List Expr} {tk tv:TE} {trs:List (TE × TE)} (hk:PE X k tk) (hv:PE X v tv) (hr:PPs X pos ks vs trs) :
  PPs X pos (some k :: ks) (v :: vs) ((tk,tv) :: trs):=fun pins s σ H Q I h =>
 pairTrees_cons_walk (thn (hk pins s σ H _ I h) fun u s1 ⟨x,H1,I1,rx,q1⟩=>thn (hv pins s1 σ H1 _ I1 q1) fun w2 s2 ⟨y,H2,I2,ry,q2⟩ =>
  thn (hr pins s2 σ H2 _ I2 q2) fun ws s3 ⟨ps,H3,I3,rel,q3⟩=>⟨(x,y) :: ps,H3,I3,.cons ⟨rx,ry⟩ rel,q3⟩)
def mergeK (kvs more:List (Key × V)):List (Key × V):=more.foldl (fun acc kv=>putK acc kv.1 kv.2) kvs
theorem KV.merge : ∀ {more : List (Key × V)} {rs : List (Key × Value)} {kvs : List (Key × V)} {vs : List (Key × Value)}, KV more rs -> KV kvs vs -> KV (mergeK kvs more) (merged vs rs) := by
  intro more rs kvs vs r
  unfold KV at r
  induction r generalizing kvs vs with
  | nil => intro q; exact q
  | @cons p q ps qs h t ih =>
    intro r0
    have e : KV (putK kvs p.1 p.2) (stored vs q.1 q.2) := by
      have := r0.put p.1 h.2
      rw [<- h.1]; exact this
    exact ih e
theorem length_mergeK : ∀ (more kvs : List (Key × V)), (mergeK kvs more).length <= kvs.length + more.length
  | [], kvs => by show kvs.length <= kvs.length + 0; omega
  | p :: r, kvs => by
    have h1 := length_mergeK r (putK kvs p.1 p.2)
    have h2 := length_putK kvs p.1 p.2
    show (mergeK (putK kvs p.1 p.2) r).length <= _
    rw [List.length_cons]; omega
theorem carries_of {P : Program} {w : World} : ∀ {kvs : List (Key × V)} {ws : List (Value × Value)}, VV (kvs.map fun kv => (kV kv.1, kv.2)) ws -> ∃ rs, Carries (mixKind P w) ws rs /\ KV kvs rs
  | [], _, r => by rw [List.map_nil] at r; cases r; exact ⟨[], True.intro, .nil⟩
  | p :: kvs, _, r => by
    rw [List.map_cons] at r
    cases r with
    | @cons a b as bs h t =>
      obtain ⟨rs, c, q⟩ := carries_of (P := P) (w := w) t
      obtain ⟨b1, b2⟩ := b
      exact ⟨(p.1, b2) :: rs, ⟨kV_is h.1, rfl, c⟩, .cons ⟨rfl, h.2⟩ q⟩
def tDisp (trs:List (TE × TE)):TE:=fun σ H Q=>∀ p,H p = none->tPairs trs σ (upd H p (.dK [])) fun ps H2=>H2 p = some (.dK [])/\∃ kvs:List (Key × V),ps = kvs.map (fun kv=>(kV kv.1,kv.2))/\kvs.length <= 15/\Q (.ref p) (upd H2 p (.dK (mergeK [] kvs)))
theorem pe_disp {X:Cx} {pos:Pos} {keys:List (Option Expr)} {values:List Expr} {trs:List (TE × TE)} (h:PPs X pos keys values trs) (hall:keys.all (·.isSome) = true) (hl:keys.length = values.length) (h0:keys ≠ [])
  (h15:keys.length <= 15):PE X (.Dict keys values pos) (tDisp trs):=by
 intro pins s σ H Q I q
 have hn:=I.hok.fresh (Nat.le_refl s.heap.objs.size)
 have I1:=I.laid (a:=s.heap.objs.size) (o:=.dK []) (h':=s.heap.push { cls:=.type "dict",data:=.dict #[] }) (t':=s.toks) (fun _ _ q=>Heap.get?_push_of_some _ q) (Nat.le_refl _) (dk_empty s.heap I.big)
 refine wpAny_Dict_walk (knd:=mixKind X.prog X.w) hall hl h0 h15 (thn (h pins _ σ _ _ I1 (q _ hn)) fun ws s2 ⟨ps,H2,I2,rel,e,kvs,ep,lk,q2⟩=>?_)
 subst ep
 obtain ⟨rs,c,rk⟩:=carries_of (P:=X.prog) (w:=X.w) rel
 obtain ⟨z,hd,vs0,r0,dd⟩:=dk_of I2.hok e
 cases r0
 refine ⟨rs,c,dd,fun h' dd' hs=>⟨.ref s.heap.objs.size,_,?_,rfl,q2⟩⟩
 have hz:(mergeK [] kvs).length <= sizeLine:=by
  have h1:=length_mergeK kvs []
  rw [List.length_nil] at h1
  rw [sizeLine_eq]; omega
 have he:∃ q,h'.get? s.heap.objs.size = some q:=let ⟨q,_,_,hq,_⟩:=dd'; ⟨q,hq⟩
 exact d_write I2 (by rw [e]; exact True.intro) hs he (dk_new hz hd (rk.merge .nil) dd')
structure M2 (X:Cx) (o:Expr) (m:Str) (apos:Pos) (e f:Expr) (cpos:Pos):Prop where
 base:attributeBase o m X.env (eval o X.env) = eval o X.env
 few:((backTo cpos (starEach [e,f] X.env)).all (fun x=>!x.1) && (backToKw cpos (keywordEach [] X.env)).all (fun x=>x.1.isSome)
  && decide (([e,f]:List Expr).length + ([]:List Keyword).length + (if ([]:List Keyword).isEmpty then 0 else 1) < 30)) = true
 line:(apos.endLine == cpos.line) = true
 trees:backTo cpos (starEach [e,f] X.env) = [(false,eval e X.env),(false,eval f X.env)]
def IsD (H:Hp) (a:Addr):Prop:=(∃ kvs,Rd H a (.dK kvs))\/∃ kvs,Rd H a (.dT kvs)
theorem isD_at {X:Cx} {pins:List (Addr × Obj)} {σ:St} {H:Hp} {s:Shared} {a:Addr} (I:Inv X pins σ H s) (d:IsD H a) :
  s.TypeIs (.ref a) "dict"/\(∀ b,Value.ref a = .ref b->∃ ob,s.heap.get? b = some ob/\ob.dict = none)/\(a == sysModules) = false:=by
 rcases d with ⟨kvs,e⟩ | ⟨kvs,e⟩
 ·obtain ⟨_,hd,vs,_,dd⟩:=dk_rd I.hok e
  refine ⟨dd.typeIs,fun b q=>?_,hd⟩
  cases q
  obtain ⟨ob,_,_,h1,h2,_⟩:=dd
  exact ⟨ob,h1,h2.2.1⟩
 ·obtain ⟨_,hd,xs,_,dd⟩:=dt_rd I.hok e
  refine ⟨dd.typeIs,fun b q=>?_,hd⟩
  cases q
  obtain ⟨ob,_,_,h1,h2,_⟩:=dd
  exact ⟨ob,h1,h2.2.1⟩
section
variable {X:Cx} {pins:List (Addr × Obj)} {σ:St} {H:Hp} {s:Shared} {a:Addr} {y d:V} {u r:Value} {o:Option V} {A:Around} {E:Value->Shared->Prop}
theorem d_get2 {Q:Value->Shared->Prop} (hu:A.units + 1 < cLine) (I:Inv X pins σ H s) (g:DGet H a y o) (ry:RelV y u) (rd:RelV d r) (h:∀ w' s',Inv X pins σ H s'->RelV (o.getD d) w'->Q w' s') :
  wpAny (model X.prog X.w) A (call (.builtin "dict.get") [.ref a,u,r]) Q E s:=by
 rcases g with ⟨kvs,k,e,ey,l⟩ | ⟨kvs,k,b,e,ey,eb,l⟩
 ·subst ey
  obtain ⟨z,hd,vs,rel,dd⟩:=dk_rd I.hok e
  refine call_meetsIn PySem.F.slot_dict_get dd.typeIs PySem.F.entry_dict_get (PySem.F.args_dict_get_3 _ _ _) (meets_dict_get_default (mixKind X.prog X.w) a (kV_is ry) hd r) ⟨_,dd.mapOf,h _ _ (I.tok _) ?_⟩
  rw [l]
  exact (rel.val k).getD rd
 ·subst ey
  cases (show u = Value.ref b from ry)
  obtain ⟨z,hd,xs,rel,dd⟩:=dt_rd I.hok e
  refine call_meetsIn PySem.F.slot_dict_get dd.typeIs PySem.F.entry_dict_get (PySem.F.args_dict_get_3 _ _ _) (meetsH_dict_get_default (tupleKind (mixKind X.prog X.w)) a b hd r) ⟨tupleKind_room_in1 hu,k,xs,key_of I.hok eb,dd,h _ _ (I.tok _) ?_⟩
  rw [l]
  exact (rel.val k).getD rd
end
def tDGet2 (td ty tx:TE):TE:=fun σ H Q=>td σ H fun x H1=>∃ a,x = .ref a/\IsD H1 a/\ty σ H1 fun y H2=>tx σ H2 fun z H3=>∃ o,DGet H3 a y o/\Q (o.getD z) H3
section
variable {X:Cx} {o e f:Expr} {apos cpos:Pos} {td ty tx:TE}
theorem pe_dget2 (hu:X.A.units + 1 < cLine) (ho:PE X o td) (he:PE X e ty) (hf:PE X f tx) (m:M2 X o "get" apos e f cpos):PE X (.Call (.Attribute o "get" apos) [e,f] [] cpos) (tDGet2 td ty tx):=by
 intro pins s σ H Q I h
 refine wpAny_Call_method m.base m.few m.line PySem.F.plainAttrs_dict PySem.F.slot_dict_get PySem.F.type_dict_get (thn (ho pins s σ H _ I h) fun u s1 ⟨x,H1,I1,rx,a,ex,d,q1⟩=>?_)
 subst ex
 obtain rfl:u = Value.ref a:=rx
 obtain ⟨t1,t2,_⟩:=isD_at I1 d
 refine ⟨t1,t2,?_⟩
 rw [m.trees]
 refine Calls.callWith_builtin rfl (Calls.evalArgs_plain (Calls.spliced_cons (thn (he pins s1 σ H1 _ I1 q1) fun iv s2 ⟨y,H2,I2,ry,q2⟩ =>
  Calls.spliced_cons (thn (hf pins s2 σ H2 _ I2 q2) fun fv s3 ⟨z,H3,I3,rz,ov,g,q3⟩=>Calls.spliced_nil ?_))))
 exact d_get2 hu I3 g ry rz fun w' s4 I4 rw'=>⟨_,H3,I4,rw',q3⟩
end
section
variable {X:Cx} {pins:List (Addr × Obj)} {σ:St} {H:Hp} {s:Shared} {a:Addr} {kvs:List (Key × V)} {A:Around} {E:Value->Shared->Prop}
end
section
variable {X:Cx} {pins:List (Addr × Obj)} {σ:St} {H:Hp} {s:Shared} {a:Addr} {y:V} {u:Value} {A:Around} {E:Value->Shared->Prop}
end
end L2
namespace L2
open PySem PySem.Spec PyProof.Rows
section
variable {κ:Type} [DecidableEq κ]
end
end L2
namespace L2
open PySem PySem.Spec PyProof.Rows
section
variable {X:Cx} {pins:List (Addr × Obj)} {σ:St} {H:Hp} {s:Shared}
end
def ShOk (d:PyData):Prop:=d.showable = true/\d.shown.length <= sizeLine/\d.depth <= 20
def Low (a:List Nat):Prop:=∀ c ∈ a,c < 16 ^ 8
end L2
namespace L2
open PySem PySem.Spec PyProof.Rows
section
variable {X:Cx}
end
theorem st_con {c z pos es env}:starEach (.Constant c z pos :: es) env = (false,eval (.Constant c z pos) env) :: starEach es env:=rfl
theorem st_lst {c pos es env}:starEach (.List c pos :: es) env = (false,eval (.List c pos) env) :: starEach es env:=rfl
theorem st_tup {c z pos es env}:starEach (.Tuple c z pos :: es) env = (false,eval (.Tuple c z pos) env) :: starEach es env:=rfl
theorem st_dct {c z pos es env}:starEach (.Dict c z pos :: es) env = (false,eval (.Dict c z pos) env) :: starEach es env:=rfl
theorem st_bin {c o d pos es env}:starEach (.BinOp c o d pos :: es) env = (false,eval (.BinOp c o d pos) env) :: starEach es env:=rfl
theorem st_una {o c pos es env}:starEach (.UnaryOp o c pos :: es) env = (false,eval (.UnaryOp o c pos) env) :: starEach es env:=rfl
theorem st_cal {f a k pos es env}:starEach (.Call f a k pos :: es) env = (false,eval (.Call f a k pos) env) :: starEach es env:=rfl
theorem st_nam {x pos es env}:starEach (.Name x pos :: es) env = (false,eval (.Name x pos) env) :: starEach es env:=rfl
theorem st_sub {a b pos es env}:starEach (.Subscript a b pos :: es) env = (false,eval (.Subscript a b pos) env) :: starEach es env:=rfl
inductive Pl (X:Cx):List Expr->List TE->Prop
 | nil:Pl X [] []
 | con {c z p t es ts} (h:PE X (.Constant c z p) t) (r:Pl X es ts):Pl X (.Constant c z p :: es) (t :: ts)
 | lst {c p t es ts} (h:PE X (.List c p) t) (r:Pl X es ts):Pl X (.List c p :: es) (t :: ts)
 | tup {c z p t es ts} (h:PE X (.Tuple c z p) t) (r:Pl X es ts):Pl X (.Tuple c z p :: es) (t :: ts)
 | dct {c z p t es ts} (h:PE X (.Dict c z p) t) (r:Pl X es ts):Pl X (.Dict c z p :: es) (t :: ts)
 | bin {c o d p t es ts} (h:PE X (.BinOp c o d p) t) (r:Pl X es ts):Pl X (.BinOp c o d p :: es) (t :: ts)
 | una {o c p t es ts} (h:PE X (.UnaryOp o c p) t) (r:Pl X es ts):Pl X (.UnaryOp o c p :: es) (t :: ts)
 | cal {f a k p t es ts} (h:PE X (.Call f a k p) t) (r:Pl X es ts):Pl X (.Call f a k p :: es) (t :: ts)
 | nam {x p t es ts} (h:PE X (.Name x p) t) (r:Pl X es ts):Pl X (.Name x p :: es) (t :: ts)
 | sub {a b p t es ts} (h:PE X (.Subscript a b p) t) (r:Pl X es ts):Pl X (.Subscript a b p :: es) (t :: ts)
def tAll:List TE->TA
 | []=>tNil
 | t :: ts=>tCons t (tAll ts)
theorem Pl.pa {X:Cx} {es:List Expr} {ts:List TE} (h:Pl X es ts):PA X es (tAll ts):=by
 induction h with
 | nil=>exact pa_nil
 | con h _ ih=>exact pa_cons h ih st_con
 | lst h _ ih=>exact pa_cons h ih st_lst
 | tup h _ ih=>exact pa_cons h ih st_tup
 | dct h _ ih=>exact pa_cons h ih st_dct
 | bin h _ ih=>exact pa_cons h ih st_bin
 | una h _ ih=>exact pa_cons h ih st_una
 | cal h _ ih=>exact pa_cons h ih st_cal
 | nam h _ ih=>exact pa_cons h ih st_nam
 | sub h _ ih=>exact pa_cons h ih st_sub
theorem ex_consE {X:Cx} {body:List Stmt} {st:Stmt} {rest:List Stmt} {R:TS->Prop} {t:TS} (e:body = st :: rest) (h1:PS X st t) (h2:∃ u,PSs X rest u/\R (tSeq t u)):∃ t,PSs X body t/\R t:=by
 obtain ⟨u,a,b⟩:=h2
 exact ⟨_,by rw [e]; exact pss_cons h1 a,b⟩
theorem ex_oneE {X:Cx} {body:List Stmt} {st:Stmt} {R:TS->Prop} {t:TS} (e:body = [st]) (h1:PS X st t) (h2:R t):∃ t,PSs X body t/\R t:=⟨_,by rw [e]; exact pss_one h1,h2⟩
inductive PSb (X:Cx) (st:Stmt) (t:TS):Prop
 | mk (h:PS X st t):PSb X st t
theorem PSb.ps {X:Cx} {st:Stmt} {t:TS} (h:PSb X st t):PS X st t:=h.casesOn fun h=>h
inductive PEb (X:Cx) (e:Expr) (t:TE):Prop
 | mk (h:PE X e t):PEb X e t
theorem PEb.pe {X:Cx} {e:Expr} {t:TE} (h:PEb X e t):PE X e t:=h.casesOn fun h=>h
theorem ex_consB {X:Cx} {body:List Stmt} {st:Stmt} {rest:List Stmt} {R:TS->Prop} {t:TS} (e:body = st :: rest) (h1:PSb X st t) (h2:∃ u,PSs X rest u/\R (tSeq t u)):∃ t,PSs X body t/\R t :=
 h1.casesOn fun h=>ex_consE e h h2
end L2
namespace BrM
open L2 PySem
def Fine (a:List Nat):Prop:=Low a/\a.length <= 1000
inductive Th (p:Addr) (H:Hp):V->Prop
 | txt (a:List Nat) (h:Fine a):Th p H (tx a)
 | non:Th p H .non
 | int (i:Int) (h:i = 0\/i = 7):Th p H (.int i)
 | bl (b:Bool):Th p H (.bl b)
 | lst {q:Addr} {l:List (List Nat)} (h:H q = some (.lst (l.map tx))) (n:q ≠ p) (f:∀ a ∈ l,Fine a) (z:l.length <= 1100):Th p H (.ref q)
 | tup {q:Addr} {l:List (List Nat)} (h:H q = some (.tup (l.map tx))) (n:q ≠ p) (f:∀ a ∈ l,Fine a) (z:l.length <= 1):Th p H (.ref q)
 | dc0 {q:Addr} (h:H q = some (.dK [])) (n:q ≠ p):Th p H (.ref q)
 | dc1 {q:Addr} {a:List Nat} (h:H q = some (.dK [(.inr ⟨a.toArray⟩,.int 1)])) (n:q ≠ p) (f:Fine a):Th p H (.ref q)
theorem Th.kind {K:PySem.W.Frag} {p:Addr} {H:Hp} {v:V} (t:Th p H v):(∃ a,v = tx a/\Fine a)\/∃ T,TyOf K H v (.type T)/\T ∈ plainTy/\T ≠ "str":=by
 cases t with
 | txt a h=>exact .inl ⟨a,rfl,h⟩
 | non=>exact .inr ⟨_,.non,by decide,by decide⟩
 | int i h=>exact .inr ⟨_,.int i,by decide,by decide⟩
 | bl b=>exact .inr ⟨_,.bl b,by decide,by decide⟩
 | lst h n f z=>exact .inr ⟨_,.lst h,by decide,by decide⟩
 | tup h n f z=>exact .inr ⟨_,.tup h,by decide,by decide⟩
 | dc0 h n=>exact .inr ⟨_,.dK h,by decide,by decide⟩
 | dc1 h n f=>exact .inr ⟨_,.dK h,by decide,by decide⟩
theorem Th.upd {p D:Addr} {H:Hp} {v:V} {o:HO} (t:Th p H v) (n:v ≠ .ref D):Th p (upd H D o) v:=by
 cases t with
 | txt a h=>exact .txt a h
 | non=>exact .non
 | int i h=>exact .int i h
 | bl b=>exact .bl b
 | lst h m f z=>exact .lst (by rw [upd_ne (fun e=>n (by rw [e]))]; exact h) m f z
 | tup h m f z=>exact .tup (by rw [upd_ne (fun e=>n (by rw [e]))]; exact h) m f z
 | dc0 h m=>exact .dc0 (by rw [upd_ne (fun e=>n (by rw [e]))]; exact h) m
 | dc1 h m f=>exact .dc1 (by rw [upd_ne (fun e=>n (by rw [e]))]; exact h) m f
end BrM
namespace BrM
open L2 PySem
theorem all_cons {p:Addr} {H:Hp} {x:V} {l:List V} (h1:Th p H x) (h2:∀ v ∈ l,Th p H v):∀ v ∈ x :: l,Th p H v:=fun v hv=>(List.mem_cons.mp hv).elim (fun e=>e ▸ h1) (h2 v)
theorem at_memV {l:List V} {i:Int} (h0:0 <= i) (h1:i < (l.length:Int)):∃ v,atI l i = some v/\v ∈ l:=by
 have hk:i.toNat < l.length:=by omega
 have ek:i = ((i.toNat:Nat):Int):=by omega
 have q:atI l ((i.toNat:Nat):Int) = some l[i.toNat]:=atI_nat (List.getElem?_eq_getElem hk)
 rw [<- ek] at q
 exact ⟨_,q,List.getElem_mem hk⟩
theorem rep_len (n:Nat) (b:List Nat):(List.replicate n b).flatten.length = n * b.length:=by
 induction n with
 | zero=>simp
 | succ n ih=>rw [List.replicate_succ,List.flatten_cons,List.length_append,ih,Nat.add_mul]; omega
end BrM
namespace L2
open PySem PySem.Spec PyProof.Rows
abbrev veTail:List Value:=[.type "ValueError",.type "Exception",.type "BaseException",.type "object"]
structure ECls (K:PySem.W.Frag) (C:Addr):Prop where
 ex:PySem.W.excIn K C veTail "ValueError.__new__" = true
 ty:PySem.W.typeIn K (.ref C) = some (.type "type")
 cs:∃ cd,PySem.W.clsIn K C = some cd
 bs:PySem.W.mroIn K C (.type "BaseException") = some true
 ob:PySem.W.mroIn K C (.type "object") = some true
 ga:PySem.W.findIn K (.ref C) "__getattribute__" = some (some (.builtin "BaseException.__getattribute__"))
 gk:PySem.W.findIn K (.ref C) "__getattr__" = some none
 ca:PySem.W.findIn K (.ref C) "__class__" = some (some (.builtin "object.__class__"))
 cn:PySem.W.specialIn K (.builtin "object.__class__") "__get__" = some (some (.builtin "getset_descriptor.__get__"))
 ct:PySem.W.takesIn K (.builtin "object.__class__") = some true
def ExcAt (x C:Addr) (h:Heap):Prop:=∃ o vs,h.get? x = some o/\o.cls = .ref C/\o.data = .fields vs
theorem ExcAt.type {x C:Addr} {h:Heap} {M:Model} (e:ExcAt x C h):PySem.W.Looks M h (typeOf (.ref x)) (.ref C):=by
 obtain ⟨o,vs,h1,h2,_⟩:=e
 exact h2 ▸ (PySem.W.Looks.ld h1).andThen .now
section
variable {prog:Program} {w:World} {A:Around} {E:Value->Shared->Prop} {s:Shared} {K:PySem.W.Frag} {x C:Addr}
end
def excO (ob:Obj) (x C:Addr):HO:=.frz ob (.ext (ExcAt x C))
theorem ObjOk.here {P:Program} {w:World} {H:Hp} {h:Heap} {a:Addr} {o:HO} (x:ObjOk P w H h a o):∃ ob,h.get? a = some ob:=by
 cases o with
 | lst xs=>obtain ⟨_,_,_,_,e⟩:=x; exact ⟨_,e⟩
 | tup xs=>obtain ⟨_,_,_,_,e,_⟩:=x; exact ⟨_,e⟩
 | dK kvs=>obtain ⟨_,_,_,_,_,_,_,e,_⟩:=x; exact ⟨_,e⟩
 | dT kvs=>obtain ⟨_,_,_,_,_,_,_,e,_⟩:=x; exact ⟨_,e⟩
 | set S n=>obtain ⟨_,_,_,_,e,_⟩:=x; exact ⟨_,e⟩
 | ins C dx fs=>obtain ⟨_,_,_,e,_⟩:=x; exact ⟨_,e⟩
 | own y=>exact x
 | xd fs=>obtain ⟨_,⟨_,_,_,e,_⟩,_⟩:=x; exact ⟨_,e⟩
 | rng lo hi=>obtain ⟨_,_,_,e⟩:=x; exact ⟨_,e⟩
 | frz ob u=>obtain ⟨e,_⟩:=x; exact ⟨_,e⟩
 | tbl ps=>exact ⟨_,(show h.get? a = some _ from x)⟩
 | met f y=>exact ⟨_,(show h.get? a = some _ from x)⟩
 | ext φ=>obtain ⟨_,e,_⟩:=x; exact e
theorem exc_ok {P:Program} {w:World} {H:Hp} {h:Heap} {x C:Addr} {ob:Obj} (g:h.get? x = some ob) (e:ExcAt x C h):ObjOk P w H h x (excO ob x C):=by
 refine ⟨g,e,?_,fun h1 h2 p k=>?_⟩
 ·obtain ⟨o,_,q,_⟩:=e
  exact ⟨o,q⟩
 ·obtain ⟨o,vs,q1,q2⟩:=p
  exact ⟨o,vs,k _ q1,q2⟩
end L2
namespace L2
open PySem PySem.Spec PyProof.Rows
structure Aloft (P:Program) (w:World) (l:List Env) (H:Hp) (h:Heap) (x C:Addr) (a0:Value) (H':Hp) (B h':Heap):Prop where
 un:Un (frs l) [] H H' h h'
 ok:HOk P w H' B
 stay:∀ b o,h.get? b = some o->H b = none->b ∉ frs l->B.get? b = some o
 here:∀ b o,h.get? b = some o->b ∉ frs l->∃ o',B.get? b = some o'
 fl:Heap.FlyingW B l x (.ref C) a0 h'
def CXE (P:Program) (w:World):CXT:=fun outer H s E e s'=>∃ (x C:Addr) (a0:Value) (H':Hp) (B:Heap),e = .ref x/\s'.os = s.os/\AllBare s'.gens/\Aloft P w outer H s.heap x C a0 H' B s'.heap/\E (.ref C) (some x) H'
abbrev XR:=Addr->Addr->St->Hp->Prop
def xk (R:XR) (σ:St):XK:=fun c xo H'=>∃ C x,c = .ref C/\xo = some x/\R C x σ H'
def XF (X:Cx) (R:XR) (e:Value) (s':Shared):Prop:=∃ (pins:List (Addr × Obj)) (σ:St) (H:Hp) (s:Shared),Inv X pins σ H s/\CXE X.prog X.w X.stack H s (xk R σ) e s'
def XM (X:Cx) (R:XR) (e:Value) (s':Shared):Prop:=∃ (pins:List (Addr × Obj)) (σ:St) (H:Hp) (s:Shared) (x C:Addr) (args:List Value),e = .ref x/\Inv X pins σ H s/\Heap.MadeExcOf s.heap s'.heap x (.ref C) args /\
 s'.os = s.os/\AllBare s'.gens/\R C x σ H
section
variable {P:Program} {w:World} {l:List Env} {H H':Hp} {h h' h2 B:Heap} {x C:Addr} {a0:Value}
theorem Aloft.newx (q : Aloft P w l H h x C a0 H' B h') : h.get? x = none := by
  cases e : h.get? x with
  | none => rfl
  | some o =>
    by_cases hm : x ∈ frs l
    · obtain ⟨_, o', h1, h2⟩ := q.fl.2.2.1.mem hm
      obtain ⟨oe, vs, h3, _, h4, _⟩ := q.fl.first
      rw [h1] at h3; cases h3
      exact absurd h4 (h2 vs)
    · obtain ⟨o', h1⟩ := q.here x o e hm
      rw [q.fl.2.1] at h1; cases h1
theorem Aloft.nox (q : Aloft P w l H h x C a0 H' B h') : H' x = none := by
  cases e : H' x with
  | none => rfl
  | some o =>
    obtain ⟨ob, h1⟩ := (q.ok x o e).here
    rw [q.fl.2.1] at h1; cases h1
theorem Aloft.on (q:Aloft P w l H h x C a0 H' B h') (up:h'.UpToSlots h2) (fl:Heap.FlyingW B l x (.ref C) a0 h2) (fr:∀ b ∈ frs l,H b = none):Aloft P w l H h x C a0 H' B h2 where
 ok:=q.ok
 stay:=q.stay
 here:=q.here
 fl:=fl
 un:={
  keep:=fun b o e n hb _=>fl.1 b o (q.stay b o e n hb)
  slot:=fun b o e n hb hx=>by
   obtain ⟨sl,e1⟩:=q.un.slot b o e n hb hx
   obtain ⟨_,o1,e2,nf⟩:=q.fl.2.2.1.mem hb
   rw [e1] at e2; cases e2
   obtain ⟨sl2,e3⟩:=up b _ e1 nf
   exact ⟨sl2,e3⟩
  free:=q.un.free
  there:=fun b o e hx=>by
   by_cases hb:b ∈ frs l
   ·obtain ⟨sl,e1⟩:=q.un.slot b o e (fr b hb) hb hx
    obtain ⟨_,o1,e2,nf⟩:=q.fl.2.2.1.mem hb
    rw [e1] at e2; cases e2
    obtain ⟨sl2,e3⟩:=up b _ e1 nf
    exact ⟨_,e3⟩
   ·obtain ⟨o',e1⟩:=q.here b o e hb
    exact ⟨o',fl.1 b o' e1⟩
  tups:=q.un.tups
  frzs:=q.un.frzs
  tbls:=q.un.tbls }
theorem Aloft.caught (q:Aloft P w l H h x C a0 H' B h'):∃ ob,Un (frs l) [] H (upd H' x (excO ob x C)) h h'/\HOk P w (upd H' x (excO ob x C)) h':=by
 have nx:=q.newx
 have n':=q.nox
 have bgB:∃ b o,1 < b/\h'.get? b = some o:=by
  obtain ⟨b,o,l,e⟩:=q.ok.bg
  exact ⟨b,o,l,q.fl.1 _ _ e⟩
 obtain ⟨oe,vs,g1,g2,g3,_⟩:=q.fl.first
 refine ⟨oe,⟨q.un.keep,q.un.slot,fun b o e n hx=>?_,q.un.there,fun b xs e=>?_,fun b o u e=>?_,fun b ps e=>?_⟩,⟨fun b u e=>?_,fun u e=>?_,bgB⟩⟩
 ·rw [upd_ne (fun z=>by rw [z,nx] at e; cases e)]
  exact q.un.free b o e n hx
 ·have e':=q.un.tups b xs e
  rw [upd_ne (ne_of_none e' n')]; exact e'
 ·have e':=q.un.frzs b o u e
  rw [upd_ne (ne_of_none e' n')]; exact e'
 ·obtain ⟨more,e'⟩:=q.un.tbls b ps e
  exact ⟨more,by rw [upd_ne (ne_of_none e' n')]; exact e'⟩
 ·by_cases hb:b = x
  ·subst hb
   rw [upd_same] at e; cases e
   exact exc_ok g1 ⟨oe,vs,g1,g2,g3⟩
  ·rw [upd_ne hb] at e
   exact (q.ok b u e).stay (fun c v _ r=>q.fl.1 c v r) (fun c r=>by rw [upd_ne (ne_of_none r n')]; exact r) fun c xs r=>by rw [upd_ne (ne_of_none r n')]; exact r
 ·by_cases hb:sysModules = x
  ·rw [hb,upd_same] at e; cases e; exact ⟨_,_,rfl⟩
  ·rw [upd_ne hb] at e; exact q.ok.sm u e
end
section
variable {X:Cx} {R:XR} {e:Value} {s':Shared}
structure Cx.Top (X:Cx):Prop where
 stk:X.stack = X.env :: X.outer
 fr:X.env.frame = some X.env.locals
 ex:X.ex = []
theorem Inv.old {pins:List (Addr × Obj)} {σ:St} {H:Hp} {s:Shared} (I:Inv X pins σ H s) {b:Addr} {o:Obj} (e:X.s₀.heap.get? b = some o) (hb:b ∉ X.fs):b ∉ frs X.stack:=fun z=>by
 rcases List.mem_cons.mp (I.stkSub b z) with q | q
 ·exact absurd (Heap.lt_size e) (by rw [q]; exact Nat.not_lt.mpr I.ok.above)
 ·exact hb q
theorem Inv.oldfs {pins:List (Addr × Obj)} {σ:St} {H:Hp} {s:Shared} (T:X.Top) {b:Addr} (hb:b ∈ X.fs):b ∈ frs X.stack:=by
 rw [T.stk]
 unfold frs
 rw [List.filterMap_cons,T.fr]
 exact List.mem_cons_of_mem _ hb
theorem Aloft.leave {pins:List (Addr × Obj)} {σ:St} {H H':Hp} {s:Shared} {x C:Addr} {a0:Value} {B h1 h':Heap} (T:X.Top) (I:Inv X pins σ H s) (q:Aloft X.prog X.w X.stack H s.heap x C a0 H' B h1)
  (up:h1.UpToSlots h') (fl:Heap.FlyingW B X.outer x (.ref C) a0 h'):Aloft X.prog X.w X.outer X.H₀ X.s₀.heap x C a0 H' B h':=by
 have nex:∀ b:Addr,b ∉ X.ex:=fun b=>by rw [T.ex]; simp
 have stay:∀ b o,X.s₀.heap.get? b = some o->X.H₀ b = none->b ∉ X.fs->B.get? b = some o:=fun b o e n hb=>q.stay b o (I.base.keep b o e n hb (nex b)) (I.base.free b o e n (nex b)) (I.old e hb)
 have here:∀ b o,X.s₀.heap.get? b = some o->b ∉ X.fs->∃ o',B.get? b = some o':=fun b o e hb=>by
  obtain ⟨o1,e1⟩:=I.base.there b o e (nex b)
  exact q.here b o1 e1 (I.old e hb)
 have slot:∀ b o,X.s₀.heap.get? b = some o->X.H₀ b = none->b ∈ X.fs->∃ sl,h'.get? b = some { o with slots:=sl }:=fun b o e n hb=>by
  obtain ⟨sl,e1⟩:=I.base.slot b o e n hb (nex b)
  obtain ⟨sl2,e2⟩:=q.un.any e1 (I.base.free b o e n (nex b)) (by simp)
  obtain ⟨_,o3,e3,nf⟩:=q.fl.2.2.1.mem (Inv.oldfs (pins:=pins) (σ:=σ) (H:=H) (s:=s) T hb)
  rw [e2] at e3; cases e3
  obtain ⟨sl4,e4⟩:=up b _ e2 nf
  exact ⟨sl4,e4⟩
 refine ⟨⟨fun b o e n hb _=>fl.1 b o (stay b o e n hb),fun b o e n hb _=>slot b o e n hb,fun b o e n _=>?_,fun b o e _=>?_,fun b xs e=>q.un.tups b xs (I.base.tups b xs e),fun b o u e=>q.un.frzs b o u (I.base.frzs b o u e),fun b ps e=>?_⟩,q.ok,stay,here,fl⟩
 ·have n1:=I.base.free b o e n (nex b)
  obtain ⟨o1,e1⟩:=I.base.there b o e (nex b)
  exact q.un.free b o1 e1 n1 (by simp)
 ·by_cases hb:b ∈ X.fs
  ·obtain ⟨sl,e1⟩:=slot b o e (I.ok.frf b hb) hb
   exact ⟨_,e1⟩
  ·obtain ⟨o1,e1⟩:=here b o e hb
   exact ⟨o1,fl.1 b o1 e1⟩
 ·obtain ⟨m1,e1⟩:=I.base.tbls b ps e
  obtain ⟨m2,e2⟩:=q.un.tbls b _ e1
  exact ⟨m1 ++ m2,by rw [e2,Array.append_assoc]⟩
theorem Inv.aloft {pins:List (Addr × Obj)} {σ:St} {H:Hp} {s:Shared} (I:Inv X pins σ H s):HOk X.prog X.w H (PySem.W.hideAll s.heap (frs X.stack)):=by
 refine ⟨?_,I.hok.sm,?_⟩
 rotate_left
 ·obtain ⟨o,_,_,e,_⟩:=I.ok.mod.glob
  refine ⟨mainGlobals,o,by decide,PySem.W.hideAll_get _ (I.bk _ _ e) fun z=>?_⟩
  rw [(I.stack.mem z).1] at e; cases e
 exact fun a o q=>(I.hok a o q).stay (fun b u hb e=>PySem.W.hideAll_get _ e fun z=>by
  have n:=I.stkFree b z
  rcases hb with rfl | hb
  ·rw [q] at n; cases n
  ·rw [hb] at n; cases n) (fun _ z=>z) fun _ _ z=>z
theorem xf_leaves {E':Value->Shared->Prop} (T:X.Top) (h:XF X R e s') :
  wpAny (model X.prog X.w) X.A (leaving X.env e) (fun _ s2=>CXE X.prog X.w X.outer X.H₀ X.s₀ (fun c xo H'=>∃ C x σ,c = .ref C/\xo = some x/\R C x σ H') e s2) E' s':=by
 obtain ⟨pins,σ,H,s,I,x,C,a0,H',B,rfl,os,bare,q,C',x',e1,e2,r⟩:=h
 refine wpAny_leaves_onW (by rw [I.ok.frames,T.stk]) T.fr (by rw [<- T.stk]; exact q.fl) fun h' fl up=>?_
 exact ⟨x,_,a0,H',B,rfl,os.trans I.os,bare,q.leave T I up fl,C',x',σ,e1,e2,r⟩
theorem xm_leaves {E':Value->Shared->Prop} (T:X.Top) (h:XM X R e s') :
  wpAny (model X.prog X.w) X.A (leaving X.env e) (fun _ s2=>CXE X.prog X.w X.outer X.H₀ X.s₀ (fun c xo H'=>∃ C x σ,c = .ref C/\xo = some x/\R C x σ H') e s2) E' s':=by
 obtain ⟨pins,σ,H,s,x,C,args,rfl,I,mk,os,bare,r⟩:=h
 have nex:∀ b:Addr,b ∉ X.ex:=fun b=>by rw [T.ex]; simp
 have hin:∀ env ∈ (X.env :: X.outer),∀ b,env.frame = some b->b ∈ frs X.stack:=fun env he b hb=>by rw [T.stk]; exact List.mem_filterMap.mpr ⟨env,he,hb⟩
 refine wpAny_leaves_madeW (base:=PySem.W.hideAll s.heap (frs X.stack)) (h:=s.heap) (by rw [I.ok.frames,T.stk]) T.fr (fun b o q=>PySem.W.of_hideAll _ q) (PySem.W.funFrames_hide (by rw [<- T.stk]; exact I.stack) hin) mk fun h' t fl _ _ up=>?_
 have stay:∀ b o,X.s₀.heap.get? b = some o->X.H₀ b = none->b ∉ X.fs->(PySem.W.hideAll s.heap (frs X.stack)).get? b = some o:=fun b o e n hb=>PySem.W.hideAll_get _ (I.base.keep b o e n hb (nex b)) (I.old e hb)
 have here:∀ b o,X.s₀.heap.get? b = some o->b ∉ X.fs->∃ o',(PySem.W.hideAll s.heap (frs X.stack)).get? b = some o':=fun b o e hb=>by
  obtain ⟨o1,e1⟩:=I.base.there b o e (nex b)
  exact ⟨o1,PySem.W.hideAll_get _ e1 (I.old e hb)⟩
 have slot:∀ b o,X.s₀.heap.get? b = some o->X.H₀ b = none->b ∈ X.fs->∃ sl,h'.get? b = some { o with slots:=sl }:=fun b o e n hb=>by
  obtain ⟨sl,e1⟩:=I.base.slot b o e n hb (nex b)
  obtain ⟨_,o3,e3,nf⟩:=I.stack.mem (Inv.oldfs (pins:=pins) (σ:=σ) (H:=H) (s:=s) T hb)
  rw [e1] at e3; cases e3
  obtain ⟨sl4,e4⟩:=up b _ (mk.keeps _ _ e1) nf
  exact ⟨sl4,e4⟩
 refine ⟨x,C,_,H,_,rfl,os.trans I.os,bare,⟨⟨fun b o e n hb _=>fl.1 b o (stay b o e n hb),fun b o e n hb _=>slot b o e n hb,fun b o e n _=>I.base.free b o e n (nex b),fun b o e _=>?_,I.base.tups,I.base.frzs,I.base.tbls⟩,I.aloft,stay,here,fl⟩,C,x,σ,rfl,rfl,r⟩
 by_cases hb:b ∈ X.fs
 ·obtain ⟨sl,e1⟩:=slot b o e (I.ok.frf b hb) hb
  exact ⟨_,e1⟩
 ·obtain ⟨o1,e1⟩:=here b o e hb
  exact ⟨o1,fl.1 b o1 e1⟩
end
end L2
namespace L2
open PySem PySem.Spec PyProof.Rows
theorem exc_cls {K:PySem.W.Frag} {h:Heap} {C:Addr} (X:K.In h) (q:PySem.W.excIn K C veTail "ValueError.__new__" = true) :
  ∃ bm N nm qn bs hdct sn sub ab col dd k0 k1 k2 k3 k5 mN,h.get? C = some (excClassObj nm qn C N bs bm hdct sn sub ab col dd k0 k1 k2 k3 k5 "ValueError.__new__")/\h.Ns N mN/\mN "__init__" = none/\OwnTail h veTail bm:=by
 unfold PySem.W.excIn at q
 split at q
 ·rename_i dd cd sl ho
  split at q
  ·rename_i C1 bm k0 k1 k2 k3 n k5 hm hs
   simp only [Bool.and_eq_true,beq_iff_eq,Bool.not_eq_true'] at q
   obtain ⟨⟨⟨⟨⟨rfl,rfl⟩,hdel⟩,ht⟩,hok⟩,hni⟩:=q
   obtain ⟨nm,bs,mro,ns,qn,hd,sn,sub,ab,col,del⟩:=cd
   dsimp only at hm hdel hok hni; subst hm hdel
   obtain ⟨sl⟩:=sl
   have e:sl = [k0,k1,k2,k3,some (.builtin "ValueError.__new__"),k5]:=hs
   subst e
   exact ⟨bm,ns,nm,qn,bs,hd,sn,sub,ab,col,dd,k0,k1,k2,k3,k5,_,X _ _ ho,.of_isNs (PySem.W.isNs_of_in X hok),PySem.W.nsMap_none_of_in X hok hni,PySem.W.tail_of_in X ht⟩
  ·cases q
 ·cases q
section
variable {X:Cx} {R:XR} {C:Addr} {x:Str} {e:Expr} {es:List Expr} {t:TA} {np cpos pos p:Pos}
def tRaise (C:Addr) (R:XR) (t:TA):TS:=fun _ σ H=>t σ H fun vs H1=>vs.length <= sizeLine/\∀ y,H1 y = none->R C y σ H1
theorem ps_raise (Z : ECls X.K C) (hm : X.mg x = some (.ref C)) (hh : X.A.handled = none) (hx : ∀ e s', XM X R e s' -> X.xe e s') (ha : PA X (e :: es) t) (hg : Gl X x := by rfl) (hd : (x == ("__debug__" : Str)) = false := by decide)
    (he : starEach (e :: es) X.env = (false, eval e X.env) :: starEach es X.env := by rfl) (hpl : (backTo cpos (starEach es X.env)).any (·.1) = false := by rfl) :
    PS X (.Raise (some (.Call (.Name x np) (e :: es) [] cpos)) none pos) (tRaise C R t) := by
  intro pins s σ H D I h
  obtain ⟨bm, N, nm, qn, bs, hdct, sn, sub, ab, col, dd, k0, k1, k2, k3, k5, mN, hC, hN, hni, TL⟩ := exc_cls I.ok.mod.kin Z.ex
  refine wpAny_Raise_call_subU (C := C) (nm := nm) (q := qn) (N := N) (bs := bs) (bm := bm) (hdct := hdct) (sn := sn) (sub := sub) (ab := ab) (col := col) (dd := dd) (k0 := k0) (k1 := k1) (k2 := k2) (k3 := k3) (k5 := k5)
    F.excBase_ValueError rfl F.excBase_ValueError (mN := mN) (TL.hasType F.excBase_ValueError.hasBase) hh ?_ hni (ld_glob I hg hm ⟨rfl, ?_⟩ hd)
  · rw [he]; show (false || (backTo cpos (starEach es X.env)).any (·.1)) = false; rw [hpl]; rfl
  · have w := ha cpos pins s σ H _ I h
    rw [he] at w ⊢
    refine Calls.evalArgs_plain (thn w fun us s2 ⟨vs, H1, I1, rv, hl, r⟩ => ⟨rfl, by show us.length <= _; rw [<- rv.length]; exact hl, I1.bk _ _ hC, hN.keeps I1.bk, TL.keeps I1.bk, fun h' y mk => hx _ _ ?_⟩)
    refine ⟨pins, σ, H1, s2, y, C, _, rfl, I1, mk, rfl, I1.bare, r y ?_⟩
    cases q : H1 y with
    | none => rfl
    | some o =>
      obtain ⟨ob, h1⟩ := (I1.hok y o q).here
      rw [mk.new] at h1; cases h1
structure FnUE (P:Program) (w:World) (K:PySem.W.Frag) (mg:Str->Option Value) (base:Heap) (k:Nat) (x:Str) (ps:List Str) (sp:Sp):Prop where
 ex:∃ f fd,FnOk P w K mg base (CXE P w) k f fd ps sp/\mg x = some (.ref f)/\PySem.W.keepIn K (.ref f) = true/\Binds K fd ps []
theorem FnUE.mono {P:Program} {w:World} {K:PySem.W.Frag} {mg:Str->Option Value} {base:Heap} {j k:Nat} {ps:List Str} {sp:Sp} (U:FnUE P w K mg base j x ps sp) (h:j <= k):FnUE P w K mg base k x ps sp:=by
 obtain ⟨f,fd,F,r⟩:=U.ex
 exact ⟨f,fd,F.mono h,r⟩
def tCallE (sp:Sp) (R:XR) (t:TA):TE:=fun σ H Q=>t σ H fun vs H1=>sp vs H1 Q (xk R σ)
theorem pe_fnE {k : Nat} {ps : List Str} {sp : Sp} (U : FnUE X.prog X.w X.K X.mg X.base k x ps sp) (hr : Room k X.A) (hx : ∀ e s', XF X R e s' -> X.xe e s') (ha : PA X (e :: es) t) (hg : Gl X x := by rfl)
    (hdb : (x == ("__debug__" : Str)) = false := by decide) (he : starEach (e :: es) X.env = (false, eval e X.env) :: starEach es X.env := by rfl) (hpl : (backTo pos (starEach es X.env)).any (·.1) = false := by rfl) :
    PE X (.Call (.Name x p) (e :: es) [] pos) (tCallE sp R t) := by
  obtain ⟨f, fd, F, hm, hk, hb⟩ := U.ex
  intro pins s σ H Q I h
  refine wpAny_Call_Name_kw (ld_glob I hg hm ?_ hdb)
  refine PySem.W.callWith_K (h₀ := X.base) I.ok.mod.kin hk (thn (ha pos pins s σ H _ I h) fun us s1 ⟨vs, H1, I1, r, q⟩ => ⟨I1.kIn, ?_⟩) he hpl
  have hl : us.length = ps.length := by rw [<- r.length]; exact F.len _ _ _ _ q
  refine wpAny_call (codeAny_mono (F.run X.A X.stack s1 H1 ⟨us, []⟩ us vs Q (xk R σ) hr I1.env0 ?_ r q) fun res s' hq => ?_)
  · have z := hb s1 us I1.kIn (by rw [List.append_nil]; exact hl)
    rw [List.append_nil] at z; exact z
  · cases res with
    | error ev => exact hx _ _ ⟨pins, σ, H1, s1, I1, hq⟩
    | ok fl =>
      cases fl with
      | ret u => exact I1.after hq
      | next => exact False.elim hq
      | brk => exact False.elim hq
      | cont => exact False.elim hq
end
section
variable {P:Program} {w:World} {K:PySem.W.Frag} {mg:Str->Option Value} {base:Heap}
def rOf (E:XK):XR:=fun C x _ H'=>E (.ref C) (some x) H'
abbrev cxE (P:Program) (w:World) (K:PySem.W.Frag) (mg:Str->Option Value) (base:Heap) (N:List Str) (qual:Str) (st:Stmt) (f:Addr) (cdv:Value) (A:Around) (outer:List Env) (s:Shared) (H:Hp) (E:XK):Cx :=
 cxOf (CXE P w) P w K mg base N qual (defScope st) f cdv A outer s H E
theorem cxE_top {N:List Str} {qual:Str} {st:Stmt} {f:Addr} {cdv:Value} {A:Around} {outer:List Env} {s:Shared} {H:Hp} {E:XK}:(cxE P w K mg base N qual st f cdv A outer s H E).Top:=⟨rfl,rfl,rfl⟩
theorem cxe_mono {l:List Env} {H:Hp} {s s':Shared} {E E':XK} {e:Value} (h:CXE P w l H s E e s') (k:∀ c x H',E c x H'->E' c x H'):CXE P w l H s E' e s':=by
 obtain ⟨x,C,a0,H',B,e1,e2,e3,q,r⟩:=h
 exact ⟨x,C,a0,H',B,e1,e2,e3,q,k _ _ _ r⟩
theorem cxE_xf {N:List Str} {qual:Str} {st:Stmt} {f:Addr} {cdv:Value} {A:Around} {outer:List Env} {s:Shared} {H:Hp} {E:XK} (e:Value) (s':Shared)
  (h:XF (cxE P w K mg base N qual st f cdv A outer s H E) (rOf E) e s'):(cxE P w K mg base N qual st f cdv A outer s H E).xe e s' :=
 wpAny_mono (xf_leaves (E':=fun _ _=>False) cxE_top h) (fun _ _ q=>cxe_mono q fun c x H' ⟨C,y,σ,e1,e2,r⟩=>by subst e1; subst e2; exact r) fun _ _ z=>z.elim
theorem cxE_xm {N:List Str} {qual:Str} {st:Stmt} {f:Addr} {cdv:Value} {A:Around} {outer:List Env} {s:Shared} {H:Hp} {E:XK} (e:Value) (s':Shared)
  (h:XM (cxE P w K mg base N qual st f cdv A outer s H E) (rOf E) e s'):(cxE P w K mg base N qual st f cdv A outer s H E).xe e s' :=
 wpAny_mono (xm_leaves (E':=fun _ _=>False) cxE_top h) (fun _ _ q=>cxe_mono q fun c x H' ⟨C,y,σ,e1,e2,r⟩=>by subst e1; subst e2; exact r) fun _ _ z=>z.elim
theorem Fun.okE {x qual : Str} {st : Stmt} {f : Addr} {fd : FuncData} {N ps : List Str} {k : Nat} {sp : Sp} (F : Fun K x qual st f fd) (S : FnScope N ps (defScope st)) (len : ∀ vs H Q E, sp vs H Q E -> vs.length = ps.length)
  (hbody : ∀ (cdv : Value) (A : Around) (outer : List Env) (s : Shared) (H : Hp) (vs : List V) (Q : VK) (E : XK), Room k (A.deeper (envOfC qual (defScope st) s.heap.objs.size f cdv)) -> sp vs H Q E ->
   ∃ t, PSs (cxE P w K mg base N qual st f cdv A outer s H E) (defBody st) t /\ t { nx := fun _ H' => Q .non H', rt := Q } (start N vs) H) : FnOk P w K mg base (CXE P w) (k + 1) f fd ps sp := by
 obtain ⟨oc, od, kV, doc, pm, an, cdv, ct, osl, rfl, lk, hcd⟩ := F.ex
 exact fn_of lk hcd S len fun A outer s H vs Q E hr hsp => hbody cdv A outer s H vs Q E hr hsp
theorem FnU.e {k:Nat} {x:Str} {ps:List Str} {sp:Sp} (U:FnU P w K mg base k x ps sp):FnUE P w K mg base k x ps sp:=by
 obtain ⟨f,fd,F,r⟩:=U.ex
 exact ⟨f,fd,⟨F.len,fun A outer s H args us vs Q E h1 h2 h3 h4 h5=>codeAny_mono (F.run A outer s H args us vs Q E h1 h2 h3 h4 h5) fun res s' q=>by
  cases res with
  | error ev=>exact False.elim q
  | ok fl=>cases fl <;> exact q⟩,r⟩
theorem DefAt.fnUE {x:Str} {st:Stmt} {ps:List Str} {f:Addr} {fd:FuncData} {k:Nat} {sp:Sp} (d:DefAt K mg x st ps f fd) (ok:FnOk P w K mg base (CXE P w) k f fd ps sp):FnUE P w K mg base k x ps sp :=
 ⟨f,fd,ok,d.m,d.F.kp,d.b⟩
end
end L2
namespace L2
open PySem PySem.Spec PyProof.Rows
section
variable {M:Model} {A:Around} {E:Value->Shared->Prop} {K:PySem.W.Frag} {x C CR:Addr}
theorem exc_type {h:Heap} (Z:ECls K C) (X:K.In h):PySem.W.Looks M h (isType (.ref C)) true:=by
 obtain ⟨cd,hcd⟩:=Z.cs
 unfold PySem.W.clsIn at hcd
 split at hcd
 ·rename_i ho
  intro A' Q' E' s' k q
  unfold isType loadHead
  exact wpAny_bind (wpAny_loadPart (k _ _ (X _ _ ho)) (wpAny_pure q))
 ·cases hcd
theorem exc_matches {s : Shared} {b : Bool} {Q : Bool -> Shared -> Prop} (ZR : ECls K CR) (X : K.In s.heap) (hb : PySem.W.mroIn K C (.ref CR) = some b) (e : ExcAt x C s.heap) (h : Q b s) : wpAny M A (excMatches (.ref x) (.ref CR)) Q E s := by
  obtain ⟨hp, g, d, tk, os⟩ := s
  have L0 := e.type (M := M)
  have L1 := PySem.W.looks_typeIn (M := M) X ZR.ty
  have L2 := exc_type (M := M) ZR X
  have L3 := PySem.W.looks_mroIn (M := M) X ZR.bs
  have L4 := PySem.W.looks_mroIn (M := M) X hb
  have f := tc_notTuple
  unfold excMatches isInstance
  refine wpAny_bind (wpAny_bind (L1.at ?_))
  rw [f]
  refine wpAny_pure ?_
  simp only [Bool.false_eq_true, if_false]
  refine wpAny_bind (wpAny_pure ?_)
  rw [List.forIn_cons]
  unfold isExcClass
  refine wpAny_bind (wpAny_bind (wpAny_bind (wpAny_bind (L2.at ?_))))
  simp only [if_true]
  refine L3.at ?_
  simp only [Bool.not_true, Bool.false_eq_true, if_false]
  refine wpAny_pure ?_
  refine wpAny_pure (wpAny_bind (L0.at ?_))
  rw [List.forIn_cons]
  refine wpAny_bind (wpAny_bind (wpAny_bind (L4.at ?_)))
  cases b with
  | true =>
    simp only [if_true]
    exact wpAny_pure (wpAny_pure (wpAny_pure h))
  | false =>
    simp only [Bool.false_eq_true, if_false]
    exact wpAny_pure (wpAny_pure (wpAny_pure h))
end
abbrev Cx.held (X:Cx) (e:Value):Cx:={ X with A:=X.A.mark (some e),calm:=false,xe:=fun _ _=>False }
abbrev Cx.tried (X:Cx) (pn:List (Addr × Obj)) (xe:Value->Shared->Prop):Cx:={ X with pn:=pn,xe:=xe }
section
variable {X:Cx} {pins:List (Addr × Obj)} {σ:St} {H:Hp} {s:Shared}
theorem Cx.Ok.held (ok:X.Ok) (e:Value):(X.held e).Ok :=
 ⟨ok.mod,ok.kind,ok.glob,ok.blt,ok.above,ok.inj,ok.has,ok.cab,fun z=>(nomatch z),ok.frames,ok.stk,ok.exf,ok.bs,ok.bsz,ok.noex,ok.exfs,ok.funs,ok.frf⟩
theorem Inv.held (I:Inv X pins σ H s) (e:Value):Inv (X.held e) pins σ H s:=⟨I.ok.held e,I.os,I.bare,I.base,I.loc,I.cell,I.free,I.freeC,I.pin,I.hok,I.len⟩
theorem Inv.unheld {e:Value} (ok:X.Ok) (I:Inv (X.held e) pins σ H s):Inv X pins σ H s:=⟨ok,I.os,I.bare,I.base,I.loc,I.cell,I.free,I.freeC,I.pin,I.hok,I.len⟩
theorem Cx.Ok.tried (ok:X.Ok) (pn:List (Addr × Obj)) (xe:Value->Shared->Prop):(X.tried pn xe).Ok :=
 ⟨ok.mod,ok.kind,ok.glob,ok.blt,ok.above,ok.inj,ok.has,ok.cab,ok.hd,ok.frames,ok.stk,ok.exf,ok.bs,ok.bsz,ok.noex,ok.exfs,ok.funs,ok.frf⟩
theorem Inv.tried (I:Inv X pins σ H s) (xe:Value->Shared->Prop):Inv (X.tried (X.pn ++ pins) xe) [] σ H s :=
 ⟨I.ok.tried _ _,I.os,I.bare,I.base,I.loc,I.cell,I.free,I.freeC,fun p hp=>I.pin p (by simpa using hp),I.hok,I.len⟩
theorem Inv.untried {pins':List (Addr × Obj)} {xe:Value->Shared->Prop} (ok:X.Ok) (I:Inv (X.tried (X.pn ++ pins) xe) pins' σ H s):Inv X pins σ H s :=
 ⟨ok,I.os,I.bare,I.base,I.loc,I.cell,I.free,I.freeC,fun p hp=>I.pin p (List.mem_append_left _ hp),I.hok,I.len⟩
theorem SP.untried {D:Ends} {f:Flow} {xe:Value->Shared->Prop} (ok:X.Ok) (h:SP (X.tried (X.pn ++ pins) xe) [] D f s):SP X pins D f s:=by
 cases f with
 | next=>obtain ⟨σ',H',I,q⟩:=h; exact ⟨σ',H',I.untried ok,q⟩
 | brk=>obtain ⟨σ',H',I,q⟩:=h; exact ⟨σ',H',I.untried ok,q⟩
 | cont=>obtain ⟨σ',H',I,q⟩:=h; exact ⟨σ',H',I.untried ok,q⟩
 | ret u=>obtain ⟨v,σ',H',I,r,q⟩:=h; exact ⟨v,σ',H',I.untried ok,r,q⟩
end
section
variable {X:Cx} {cn en:Str} {CR:Addr} {i:Nat} {body suite:List Stmt} {b₀:Stmt} {np hpos pos:Pos} {tb:XR->TS} {ts:TS}
end
end L2
namespace L2
open PySem PySem.Spec PyProof.Rows PySem.SeqAt
section
variable {X:Cx}
end
structure RoomH (k:Nat) (A:Around):Prop where
 dp:A.depth + 3 * k + 5 < recursionLimit
 un:A.units + 16 * k + 200 < cLine
 gd:A.guards = some []
theorem Room.h {k:Nat} {A:Around} (r:Room k A) (e:Value):RoomH k (A.mark (some e)):=⟨r.dp,r.un,r.gd⟩
section
variable {P:Program} {w:World} {K:PySem.W.Frag} {mg:Str->Option Value} {base:Heap}
end
end L2
namespace L2
open PySem PySem.Spec PyProof.Rows
section
variable {X:Cx} {pins:List (Addr × Obj)} {σ:St} {H:Hp} {s:Shared}
end
end L2
namespace L2
open PySem PySem.Spec PyProof.Rows
def Fit (n m:Nat) (d:PyData):Prop:=d.showable = true/\d.shown.length <= n/\d.depth <= m
theorem Fit.ok {n m:Nat} {d:PyData} (h:Fit n m d) (hn:n <= 16777216) (hm:m <= 20):ShOk d:=⟨h.1,Nat.le_trans h.2.1 (by rw [sizeLine_eq]; omega),Nat.le_trans h.2.2 hm⟩
theorem allD_nil {P:V->Prop}:∀ x ∈ ([]:List V),P x:=fun _ z=>nomatch z
theorem allD_cons {P:V->Prop} {y:V} {l:List V} (h1:P y) (h2:∀ x ∈ l,P x):∀ x ∈ y :: l,P x:=fun x hx=>(List.mem_cons.mp hx).elim (fun e=>e ▸ h1) (h2 x)
end L2
namespace L2
open PySem PySem.Spec PyProof.Rows BrM BrR BrS BrC
structure Cs where
 RowError:Addr
 NoKinds:Addr
 NoLine:Addr
 NotRight:Addr
 NoTree:Addr
 NoNumber:Addr
 NoWeights:Addr
 NoPlace:Addr
 NoFilling:Addr
 TooMany:Addr
 NoName:Addr
 NoRow:Addr
def eclsB (K:PySem.W.Frag) (C:Addr):Bool:=PySem.W.excIn K C veTail "ValueError.__new__" && (PySem.W.typeIn K (.ref C) == some (.type "type")) && (PySem.W.clsIn K C).isSome && (PySem.W.mroIn K C (.type "BaseException") == some true) &&
 (PySem.W.mroIn K C (.type "object") == some true) && (PySem.W.findIn K (.ref C) "__getattribute__" == some (some (.builtin "BaseException.__getattribute__"))) && (PySem.W.findIn K (.ref C) "__getattr__" == some none) &&
 (PySem.W.findIn K (.ref C) "__class__" == some (some (.builtin "object.__class__"))) && (PySem.W.specialIn K (.builtin "object.__class__") "__get__" == some (some (.builtin "getset_descriptor.__get__"))) && (PySem.W.takesIn K (.builtin "object.__class__") == some true)
theorem ecls_of {K:PySem.W.Frag} {C:Addr} (h:eclsB K C = true):ECls K C:=by
 unfold eclsB at h
 simp only [Bool.and_eq_true,beq_iff_eq] at h
 obtain ⟨⟨⟨⟨⟨⟨⟨⟨⟨h1,h2⟩,h3⟩,h4⟩,h5⟩,h6⟩,h7⟩,h8⟩,h9⟩,h10⟩:=h
 exact ⟨h1,h2,Option.isSome_iff_exists.mp h3,h4,h5,h6,h7,h8,h9,h10⟩
def rNo:XR:=fun _ _ _ _=>False
theorem xf_no {X:Cx} (e:Value) (s':Shared) (h:XF X rNo e s'):X.xe e s':=by
 obtain ⟨_,_,_,_,_,_,_,_,_,_,_,_,_,_,_,_,_,_,r⟩:=h
 exact r.elim
theorem nox_ex {X:Cx} {b:List Stmt} {R:TS->Prop} (h:∃ t,PSs X.nox b t/\R t):∃ t,PSs X b t/\R t:=let ⟨t,p,r⟩:=h; ⟨t,p.nox,r⟩
section
variable {σ:St} {H:Hp} {Q:VK} {D:Ends}
theorem s_callE {sp:Sp} {R:XR} {t:TA} (h:t σ H fun vs H1=>sp vs H1 Q (xk R σ)):tCallE sp R t σ H Q:=h
theorem s_raise {C:Addr} {R:XR} {t:TA} (h:t σ H fun vs H1=>vs.length <= sizeLine/\∀ y,H1 y = none->R C y σ H1):tRaise C R t D σ H:=h
end
def Ref (E:XK) (C:Addr) (H:Hp):Prop:=∀ y H',Same H H'->H y = none->E (.ref C) (some y) H'
theorem Ref.pass {E:XK} {C:Addr} {H H1:Hp} {σ:St} (r:Ref E C H) (s:Same H H1):Ref (xk (rOf E) σ) C H1:=fun y H' s' h=>⟨C,y,rfl,rfl,r y H' (s.trans s') (s.free h)⟩
theorem same_exc {H H':Hp} {y:Addr} {o:HO} (s:Same H H') (n:H y = none):Same H (upd H' y o):=fun b u z=>by rw [upd_ne (ne_of_none z n)]; exact s b u z
theorem ref_of {R:XR} {σ:St} {C:Addr} {H:Hp} (h:∀ y H',Same H H'->H y = none->R C y σ H'):Ref (xk R σ) C H:=fun y H' s n=>⟨C,y,rfl,rfl,h y H' s n⟩
def NoN (K:PySem.W.Frag) (lo hi:Int) (H:Hp) (v:V):Prop:=∃ ty,TyOf K H v (.type ty)/\ty ∈ plainTy/\∀ i,v = .int i->i < lo\/hi < i
abbrev NoK (K:PySem.W.Frag):Hp->V->Prop:=NoN K 1 4
def NoL (K:PySem.W.Frag) (k:Int) (H:Hp) (v:V):Prop:=(∃ a,v = tx a/\a.length <= 1000/\isRow k a = false)\/∃ ty,TyOf K H v (.type ty)/\ty ∈ plainTy/\ty ≠ "str"
theorem TyOf.same {K:PySem.W.Frag} {H H':Hp} {v:V} {t:Value} (h:TyOf K H v t) (s:Same H H'):TyOf K H' v t:=by
 cases h with
 | non=>exact .non
 | bl x=>exact .bl x
 | int i=>exact .int i
 | str x=>exact .str x
 | flt x=>exact .flt x
 | lst e=>exact .lst (s _ _ e)
 | frz e=>exact .frz (s _ _ e)
 | tup e=>exact .tup (s _ _ e)
 | dK e=>exact .dK (s _ _ e)
 | dT e=>exact .dT (s _ _ e)
 | ins e cl ha hn htk hm=>exact .ins (s _ _ e) cl ha hn htk hm
theorem TyOf.keep {K:PySem.W.Frag} {p:Addr} {H H':Hp} {v:V} {t:Value} (h:TyOf K H v t) (n:∀ a,v = .ref a->a ≠ p) (s:SameBut1 p H H'):TyOf K H' v t:=by
 cases h with
 | non=>exact .non
 | bl x=>exact .bl x
 | int i=>exact .int i
 | str x=>exact .str x
 | flt x=>exact .flt x
 | lst e=>exact .lst (s _ _ e (n _ rfl))
 | frz e=>exact .frz (s _ _ e (n _ rfl))
 | tup e=>exact .tup (s _ _ e (n _ rfl))
 | dK e=>exact .dK (s _ _ e (n _ rfl))
 | dT e=>exact .dT (s _ _ e (n _ rfl))
 | ins e cl ha hn htk hm=>exact .ins (s _ _ e (n _ rfl)) cl ha hn htk hm
theorem TyOf.int_of {K:PySem.W.Frag} {H:Hp} {v:V} {t:Value} (h:TyOf K H v t) (e:t = .type "int"):∃ i,v = .int i:=by
 cases h <;> first | exact ⟨_,rfl⟩ | (injection e with e; exact absurd e (by decide)) | cases e
theorem NoN.same {K:PySem.W.Frag} {lo hi:Int} {H H':Hp} {v:V} (h:NoN K lo hi H v) (s:Same H H'):NoN K lo hi H' v:=let ⟨ty,a,b⟩:=h; ⟨ty,a.same s,b⟩
theorem NoL.same {K:PySem.W.Frag} {k:Int} {H H':Hp} {v:V} (h:NoL K k H v) (s:Same H H'):NoL K k H' v:=h.elim .inl fun ⟨ty,a,b⟩=>.inr ⟨ty,a.same s,b⟩
def Gate (K:PySem.W.Frag) (cs:Cs) (H:Hp) (E:XK) (kv v:V):Prop:=(NoK K H kv/\Ref E cs.NoKinds H)\/∃ k:Int,kv = .int k/\1 <= k/\k <= 4/\NoL K k H v/\Ref E cs.NoLine H
theorem Gate.pass {K:PySem.W.Frag} {cs:Cs} {H H1:Hp} {E:XK} {kv v:V} {σ:St} (g:Gate K cs H E kv v) (s:Same H H1):Gate K cs H1 (xk (rOf E) σ) kv v :=
 g.elim (fun ⟨a,r⟩=>.inl ⟨a.same s,r.pass s⟩) fun ⟨k,e,h1,h2,a,r⟩=>.inr ⟨k,e,h1,h2,a.same s,r.pass s⟩
def spKindsE (K:PySem.W.Frag) (cs:Cs):Sp:=fun vs H Q E=>spKinds vs H Q E\/∃ v,vs = [v]/\NoK K H v/\Ref E cs.NoKinds H
def spLineE (K:PySem.W.Frag) (cs:Cs):Sp:=fun vs H Q E=>spLine K vs H Q E\/∃ kv v,vs = [kv,v]/\NoK K H kv/\Ref E cs.NoKinds H
def spGateE (K:PySem.W.Frag) (cs:Cs) (sp:Sp):Sp:=fun vs H Q E=>sp vs H Q E\/∃ kv v,vs = [kv,v]/\Gate K cs H E kv v
theorem noRow_use' {K:PySem.W.Frag} {cs:Cs} {H:Hp} {Q:VK} {E:XK} {k:Int} {v:V} (h1:1 <= k) (h2:k <= 4) (n:NoL K k H v) (q:∀ H',Same H H'->Q (.bl false) H'):spLineE K cs [.int k,v] H Q E:=by
 refine .inl ⟨k,v,rfl,h1,h2,?_⟩
 rcases n with ⟨a,rfl,ha,hr⟩ | ⟨ty,a,b,c⟩
 ·exact .inl ⟨a,rfl,ha,fun H' s=>by rw [hr]; exact q H' s⟩
 ·exact .inr ⟨ty,a,b,c,q H (Same.refl H)⟩
end L2
namespace L2
open PySem PySem.Spec PyProof.Rows
def CDivB (i j:Int):Prop:=0 < j/\j < 2 ^ 200
theorem op_fdivB {X:Cx}:OpR X (binaryOp .FloorDiv) (rI CDivB fun i j=>.int (i / j)):=opI fun i j _ _ _ _ _ hc q=>by
 have h1:(0:Int) < j:=hc.1
 have h2:j < 2 ^ 200:=hc.2
 refine floordiv_int (by omega) (by rw [Int.fdiv_eq_ediv_of_nonneg i (by omega)]; exact q) (.inl (PyProof.noPylong_of_log2 ?_))
 have h3:j.natAbs ≠ 0:=by omega
 have h4:j.natAbs < 2 ^ 200:=by omega
 exact Nat.lt_trans ((Nat.log2_lt h3).mpr h4) (by decide)
theorem SqL.ty {K:PySem.W.Frag} {H:Hp} {p:Addr} {xs:List V} (h:SqL K H p xs):tyV K "list" (.ref p) H:=.inl ⟨rfl,_,h⟩
end L2
namespace BrS
open L2 PySem BrM BrC BrR
def Po (H:Hp) (p:Addr):Prop:=∃ a b c:Int,H p = some (.lst [.int a,.int b,.int c])
theorem Po.same {H H':Hp} {p:Addr} (h:Po H p) (s:Same H H'):Po H' p:=let ⟨a,b,c,e⟩:=h; ⟨a,b,c,s _ _ e⟩
theorem Po.keep {H H':Hp} {p q:Addr} (h:Po H p) (s:SameBut1 q H H') (n:p ≠ q):Po H' p:=let ⟨a,b,c,e⟩:=h; ⟨a,b,c,s _ _ e n⟩
theorem Po.ne {H:Hp} {p q:Addr} (h:Po H p) (hq:H q = none):q ≠ p:=let ⟨_,_,_,e⟩:=h; (ne_of_none e hq).symm
theorem Po.new {H:Hp} {p:Addr} {a b c:Int}:Po (upd H p (.lst [.int a,.int b,.int c])) p:=⟨a,b,c,upd_same⟩
def spPoolD (K:PySem.W.Frag):Sp:=fun vs H Q _=>∃ (a:Addr) (ns:List Int) (k:Int),vs = [.ref a,.int k]/\SqL K H a (ns.map V.int)/\0 <= k/\k <= 63/\∀ p H',H p = none->Same H H'->Po H' p->Q (.ref p) H'
theorem poolD_use {K:PySem.W.Frag} {H:Hp} {a:Addr} {ns:List Int} {k:Int} {Q:VK} {E:XK} (hS:SqL K H a (ns.map V.int)) (h0:0 <= k) (h1:k <= 63) (q:∀ p H',H p = none->Same H H'->Po H' p->Q (.ref p) H'):spPoolD K ([.ref a,.int k] ++ []) H Q E :=
 ⟨a,ns,k,rfl,hS,h0,h1,q⟩
def spDraw:Sp:=fun vs H Q _=>∃ p m,vs = [.ref p,.int m]/\Po H p/\0 < m/\m < 2 ^ 200/\∀ r H',0 <= r->r < m->Po H' p->SameBut1 p H H'->Q (.int r) H'
theorem draw_use {H:Hp} {p:Addr} {m:Int} {Q:VK} {E:XK} (hp:Po H p) (h0:0 < m) (h1:m < 2 ^ 200) (q:∀ r H',0 <= r->r < m->Po H' p->SameBut1 p H H'->Q (.int r) H'):spDraw ([.ref p,.int m] ++ []) H Q E:=⟨p,m,rfl,hp,h0,h1,q⟩
theorem flat_one (a:List Nat):(a.map fun c=>[c]).flatten = a:=by
 induction a with
 | nil=>rfl
 | cons c r ih=>rw [List.map_cons,List.flatten_cons,ih]; rfl
end BrS
namespace BrS
open L2 PySem BrM BrC BrR
end BrS
namespace BrS
open L2 PySem BrM BrC
abbrev En:=List Nat × List Nat
def exB (n at' c : Nat) (e : En) (b : Nat) : List En :=
  if c = 63 \/ c = brs.getD b 0 then
    (if b % 2 = 0 then (if e.2.length + at' + 1 < n then [(e.1 ++ [brs.getD b 0], b / 2 :: e.2)] else [])
     else match e.2 with
       | [] => []
       | p :: r => if p = b / 2 then [(e.1 ++ [brs.getD b 0], r)] else [])
  else []
def exs (k n at' c:Nat) (e:En):List En:=(List.range (2 * k)).flatMap (exB n at' c e)
def fls (k:Nat) (a:List Nat):Nat->List En
 | 0=>[([],[])]
 | i + 1=>(fls k a i).flatMap (exs k a.length i (a.getD i 0))
def res (k:Nat) (a:List Nat):List (List Nat):=((fls k a a.length).filter fun e=>decide (e.2 = [])).map (·.1)
def sts (t:List Nat):List Nat:=(t.map clc).reverse
inductive Ens (H:Hp):List Addr->List En->Prop
 | nil:Ens H [] []
 | cons {a:Addr} {e:En} {as:List Addr} {es:List En} (h:H a = some (.tup [tx e.1,tx (sts e.2)])) (r:Ens H as es):Ens H (a :: as) (e :: es)
theorem Ens.len {H:Hp} {as:List Addr} {es:List En} (h:Ens H as es):as.length = es.length:=by
 induction h with
 | nil=>rfl
 | cons _ _ ih=>rw [List.length_cons,List.length_cons,ih]
theorem Ens.get {H : Hp} {as : List Addr} {es : List En} (h : Ens H as es) : ∀ {i : Nat} {a : Addr}, as[i]? = some a -> ∃ e, es[i]? = some e /\ H a = some (.tup [tx e.1, tx (sts e.2)]) := by
  induction h with
  | nil => intro i a z; simp at z
  | cons h r ih =>
    intro i a z
    cases i with
    | zero => simp at z; subst z; exact ⟨_, rfl, h⟩
    | succ i => simpa using ih (by simpa using z)
theorem cut_last1 (i:List Nat) (d:Nat):cutL (i ++ [d]) (some (-1)) none = [d]:=by
 unfold cutL
 have e1:HT.sIx (i ++ [d]).length 0 (some (-1)) = i.length:=by
  unfold HT.sIx
  simp
  omega
 have e2:HT.sIx (i ++ [d]).length (i ++ [d]).length none = (i ++ [d]).length:=rfl
 rw [e1,e2]
 simp
end BrS
namespace BrS
open L2 PySem BrM BrC
structure Gr (H1 H':Hp) (lo:Addr) (as:List Addr) (L:List En):Prop where
 fl:H1 lo = none
 sm:Same H1 H'
 at':H' lo = some (.lst (as.map V.ref))
 en:Ens H' as L
 ni:lo ∉ as
theorem Gr.len {H1 H':Hp} {lo:Addr} {as:List Addr} {L:List En} (g:Gr H1 H' lo as L):as.length = L.length:=g.en.len
end BrS
namespace BrS
open L2 PySem BrM BrC BrR
def gd:V->Bool
 | .int i=>decide (0 <= i)
 | _=>false
end BrS
namespace BrP
open L2 PySem BrM
open PySem.Builtin PySem.Builtin.Str
end BrP
namespace BrP
open L2 PySem BrM
open PySem.Spec PyProof.Rows
section
variable {X:Cx} {pins:List (Addr × Obj)} {σ:List (Option V)} {H:Hp} {s:Shared}
end
section
variable {X:Cx}
end
end BrP
namespace BrP
open L2 PySem BrM
end BrP
namespace BrP
open L2 PySem BrM
end BrP
namespace L2
open PySem PySem.Spec PyProof.Rows
end L2
namespace L2
open PySem PySem.Spec PyProof.Rows
def ExcOne (x C t0:Addr) (m:Str) (tk:Tok) (h:Heap):Prop:=(∃ o vs,h.get? x = some o/\o.cls = .ref C/\o.data = .fields vs/\vs[0]? = some (.ref t0))/\∃ o k,h.get? t0 = some o/\o.data = .seq (#[.str m tk]) k
theorem ExcOne.at {x C t0:Addr} {m:Str} {tk:Tok} {h:Heap} (e:ExcOne x C t0 m tk h):ExcAt x C h:=let ⟨⟨o,vs,a,b,c,_⟩,_⟩:=e; ⟨o,vs,a,b,c⟩
section
variable {prog:Program} {w:World} {A:Around} {E:Value->Shared->Prop} {s:Shared} {K:PySem.W.Frag} {x C t0:Addr} {m:Str} {tk:Tok}
end
section
variable {X:Cx} {C:Addr} {x:Str} {e:Expr} {te:TE} {np cpos sp pos:Pos}
end
end L2
namespace L2
open PySem PySem.Spec PyProof.Rows
section
variable {X:Cx}
end
end L2
namespace L2
open PySem PySem.Spec PyProof.Rows BrR
section
variable {σ:St} {H:Hp} {Q:VK} {K:PySem.W.Frag}
end
end L2
namespace BrS
open L2 PySem BrM BrC BrR
theorem sgn_4 {k:Int} {c:Nat} (h1:1 <= k) (h4:k <= 4) (h:c ∉ sgn 4):c ∉ sgn k:=fun z=>h (by
 have hk:k = 1\/k = 2\/k = 3\/k = 4:=by omega
 rcases hk with rfl | rfl | rfl | rfl
 ·revert z; simp [sgn,opn,cls]; omega
 ·revert z; simp [sgn,opn,cls]; omega
 ·revert z; simp [sgn,opn,cls]; omega
 ·exact z)
def nmL:List Nat:=[78,111,76,105,110,101]
def nmN:List Nat:=[78,111,78,117,109,98,101,114]
end BrS
namespace BrS
open L2 PySem BrM BrC BrR
def sgb (k:Int):List Nat:=opn.take k.toNat ++ cls.take k.toNat
theorem sgb_len {k:Int} (h1:1 <= k) (h4:k <= 4):(sgb k).length = (2 * k).toNat:=by
 unfold sgb; rw [List.length_append,List.length_take,List.length_take]; simp [opn,cls]; omega
def oddG:List Nat:=[32,33,34,35,36,38,39,42,43,44,45,46,47,48,49,50,51,52,53,54,55,56,57,58,59,61,64,65,66,67,68,69,70,71,72,73,74,75,76,77,78,79,80,81,82,83,84,85,86,87,88,89,90,92,94,95,96,97,98,99,100,101,102,103,104,105,106,107,108,109,110,111,112,113,114,115,116,117,118,119,120,121,122,124,126,10,9]
theorem oddG_ok:∀ c ∈ oddG,c < 16 ^ 8/\c ∉ sgn 4:=by unfold oddG; decide +kernel
end BrS
namespace L2
open PySem PySem.Spec PyProof.Rows
section
variable {X:Cx}
end
section
variable {X:Cx} {pins:List (Addr × Obj)} {σ:St} {H:Hp} {s:Shared} {h':Heap}
end
section
variable {X:Cx} {C:Addr} {x:Str} {e:Expr} {te:TE} {np cpos sp pos:Pos}
end
section
variable {σ:St} {H:Hp} {Q:VK} {K:PySem.W.Frag}
end
end L2
namespace BrS
open L2 PySem BrM BrC BrR BrP
end BrS
namespace L2
open PySem PySem.Spec PyProof.Rows
section
variable {X:Cx} {pins:List (Addr × Obj)} {σ:St} {H:Hp} {s:Shared} {a:Addr}
theorem Inv.frozen {kvs:List (Key × V)} {o:Obj} (I:Inv X pins σ H s) (e:H a = some (.dK kvs)) (ho:s.heap.get? a = some o):Inv X pins σ (upd H a (.frz o (.dK kvs))) s:=by
 refine I.step (h':=s.heap) (g':=s.gens) (d':=s.drawn) (t':=s.toks) (ch:=[]) (fun _ z=>nomatch z) (fun b u _ _ _ q _=>q) (fun b u _ _ _ q _=>⟨u.slots,q⟩) (fun b u _ _ n=>?_) (fun b u _ q=>⟨u,q⟩) (fun b xs q=>?_) (fun b u xs q=>?_) (fun b ps q=>⟨#[],?_⟩) (fun m hm=>hm) ⟨fun b u q=>?_,fun u q=>?_,I.hok.bg⟩ I.bare
 ·rw [upd_ne (fun z=>by rw [z,e] at n; cases n)]; exact n
 ·rw [upd_ne (fun z=>by rw [z,e] at q; cases q)]; exact q
 ·rw [upd_ne (fun z=>by rw [z,e] at q; cases q)]; exact q
 ·rw [upd_ne (fun z=>by rw [z,e] at q; cases q)]; simpa using q
 ·by_cases hb:b = a
  ·subst hb
   rw [upd_same] at q; cases q
   exact ⟨ho,(show ObjOk X.prog X.w H s.heap b (.dK kvs) from I.hok b _ e)⟩
  ·rw [upd_ne hb] at q
   refine (I.hok b u q).stay (fun c v _ z=>z) (fun c z=>?_) fun c xs z=>?_
   ·rw [upd_ne (fun y=>by rw [y,e] at z; cases z)]; exact z
   ·rw [upd_ne (fun y=>by rw [y,e] at z; cases z)]; exact z
 ·by_cases hb:sysModules = a
  ·rw [hb,upd_same] at q; cases q; exact ⟨_,_,rfl⟩
  ·rw [upd_ne hb] at q; exact I.hok.sm u q
end
def Itd (d:Addr) (o:Obj) (kvs:List (Key × V)):It:=⟨fun i H=>H d = some (.frz o (.dK kvs))/\i < kvs.length,fun i H x H'=>H' = H/\∃ k v,kvs[i]? = some (k,v)/\x = kV k,fun i H=>H d = some (.frz o (.dK kvs))/\i = kvs.length⟩
theorem kv_get : ∀ {kvs : List (Key × V)} {vs : List (Key × Value)}, KV kvs vs -> ∀ {i : Nat} {k : Key} {u : Value}, vs[i]? = some (k, u) -> ∃ v, kvs[i]? = some (k, v)
  | _, _, .nil, i, k, u, h => by simp at h
  | _, _, .cons (a := p) (b := q) r t, i, k, u, h => by
    cases i with
    | zero => simp at h; subst h; exact ⟨p.2, by simp only [List.getElem?_cons_zero]; exact congrArg some (Prod.ext r.1 rfl)⟩
    | succ i => simp only [List.getElem?_cons_succ] at h ⊢; exact kv_get t h
theorem is_rel {P:Program} {w:World} {k:Key} {v:Value} (h:(mixKind P w).is k v = true):RelV (kV k) v:=by
 rcases keyIs_shape h with ⟨i,t,rfl,rfl⟩ | ⟨x,t,rfl,rfl⟩
 ·exact ⟨t,rfl⟩
 ·exact ⟨t,rfl⟩
theorem dict_at {X:Cx} {pins:List (Addr × Obj)} {σ:St} {H:Hp} {s:Shared} {d:Addr} {o:Obj} {kvs:List (Key × V)} {es:Array DictEntry} {ep:Nat} (I:Inv X pins σ H s) (e:H d = some (.frz o (.dK kvs))) (ho:o.data = .dict es ep) :
  ∃ vs,KV kvs vs/\s.heap.DictAt (mixKind X.prog X.w) d vs ep:=by
 obtain ⟨g,_,_,vs,rel,o',es',ep',g',a,b,c⟩:=(show ObjOk X.prog X.w H s.heap d (.frz o (.dK kvs)) from I.hok d _ e)
 rw [g] at g'; cases g'
 rw [ho] at b; cases b
 exact ⟨vs,rel,o,es,g,a,ho,c⟩
theorem turn_dict {P:Program} {w:World} {K:PySem.W.Frag} {tg:Expr} {d it:Addr} {o:Obj} {kvs:List (Key × V)} {es:Array DictEntry} {ep:Nat} (ho:o.data = .dict es ep) :
  Turn P w K tg (Itd d o kvs) [it] it (fun i h=>h.IsKeyIter it d i kvs.length ep) where
 mem:=by simp
 obj:=fun i h st b hb=>by
  obtain ⟨o,ho,_,hd⟩:=st
  have e:b = it:=by simpa using hb
  subst e
  exact ⟨o,ho,fun v z=>by rw [hd] at z; cases z⟩
 keep:=fun i h h' st k=>st.at fun o e=>k it (by simp) o e
 item:=by
  intro X hP hw hK hc i pins s σ H E I hf st hg
  subst hP hw hK
  obtain ⟨hz,hi⟩:=hg
  obtain ⟨vs,rel,hA⟩:=dict_at I hz ho
  have hl:=rel.length
  have hne:d ≠ it:=fun z=>by rw [z,(hf it (by simp)).1] at hz; cases hz
  rw [hl] at st
  refine (Walks.dictKeys (I.ok.hd hc) it d hne vs ep).item i s _ _ (by omega) ⟨st,hA⟩ fun v h' tk hv st' kk=>?_
  obtain ⟨k,x,hx,hk⟩:=hv
  obtain ⟨st1,_⟩:=st'
  obtain ⟨y,hy⟩:=kv_get rel hx
  obtain ⟨o1,ho1,hcl,hd⟩:=id st1
  have I1:Inv X pins σ H { s with heap:=h',toks:=tk }:=I.turnedAll hf kk
  rw [<- hl] at st1
  exact ⟨v,rfl,go_of (s:={ s with heap:=h',toks:=tk }) (n:="dict_keyiterator") ho1 hcl hd (by decide) ⟨kV k,H,I1,is_rel hk,⟨rfl,k,y,hy,rfl⟩,st1,fun b hb=>(hf b hb).1⟩⟩
 done:=by
  intro X hP hw hK hc i pins s σ H E I hf st hg
  subst hP hw hK
  obtain ⟨hz,hi⟩:=hg
  obtain ⟨vs,rel,hA⟩:=dict_at I hz ho
  have hl:=rel.length
  have hne:d ≠ it:=fun z=>by rw [z,(hf it (by simp)).1] at hz; cases hz
  rw [hi,hl] at st
  exact (Walks.dictKeys (I.ok.hd hc) it d hne vs ep).done s _ _ ⟨st,hA⟩ fun h' tk kk=>⟨rfl,I.turnedAll hf kk⟩
 self:=fun A i s Q E st h=>wpAny_pyIter_keyiter st h
def iDict (tl:TE):TI:=fun σ H R=>tl σ H fun x H1=>∃ a kvs,x = .ref a/\H1 a = some (.dK kvs)/\∀ o,R (Itd a o kvs) (upd H1 a (.frz o (.dK kvs)))
theorem pi_dict {X:Cx} {tg l:Expr} {tl:TE} (hl:PE X l tl):PI X tg l (iDict tl):=by
 intro pins s σ H R I h
 refine thn (hl pins s σ H _ I h) fun v s1 ⟨x,H1,I1,r1,q1⟩=>?_
 obtain ⟨a,kvs,e,hk,q⟩:=q1
 subst e
 cases r1
 obtain ⟨hz,hd,vs,rel,o,es,ep,g,h1,h2,h3⟩:=(show ObjOk X.prog X.w H1 s1.heap a (.dK kvs) from I1.hok a _ hk)
 have I2:=I1.frozen hk g
 have ll:=rel.length
 refine wpAny_pyIter_dict (knd:=mixKind X.prog X.w) hd ⟨o,es,g,h1,h2,h3⟩ ?_
 refine ⟨s1.heap.objs.size,[s1.heap.objs.size],_,_,_,rfl,I2.kept (t':=s1.toks) fun b o e=>Heap.get?_push_of_some _ e,turn_dict h2,?_,fun b hb=>?_,q o⟩
 ·rw [ll]; exact ⟨_,Heap.get?_push_size _ rfl,rfl,rfl⟩
 ·have e:b = s1.heap.objs.size:=by simpa using hb
  subst e
  exact I2.fpOk (Nat.le_refl _) (I2.hok.fresh (Nat.le_refl _))
section
variable {K:PySem.W.Frag} {g:TG} {tb:TS} {D:Ends} {σ:St} {H:Hp} {Q:VK}
theorem for_dict {d:Addr} {o:Obj} {kvs:List (Key × V)} (Pv:Nat->St->Hp->Prop) (h0:Pv 0 σ H) (hl:∀ i σ H,i <= kvs.length->Pv i σ H->H d = some (.frz o (.dK kvs)))
  (hs:∀ i k v σ H,kvs[i]? = some (k,v)->Pv i σ H->g (kV k) σ H fun σ2 H2=>tb { D with nx:=Pv (i + 1),ct:=Pv (i + 1),bk:=D.nx } σ2 H2) (hd:∀ σ H,Pv kvs.length σ H->D.nx σ H):ForW (Itd d o kvs) g tb D σ H:=by
 refine for_of (n:=kvs.length) Pv h0 (fun i σ H hi p=>⟨hl i σ H (Nat.le_of_lt hi) p,hi⟩) (fun σ H p=>⟨hl _ σ H (Nat.le_refl _) p,rfl⟩) (fun i x σ H H' hi p y=>?_) hd
 obtain ⟨rfl,k,v,e,rfl⟩:=y
 exact hs i k v σ H' e p
theorem comp_dict {d:Addr} {o:Obj} {kvs:List (Key × V)} {own:List Str} {sel:List Nat} {te:TE} (f:Key->V) (hn:kvs.length <= sizeLine) (ha:H d = some (.frz o (.dK kvs)))
  (hst:∀ D H',H D = none->Same H H'->H' D = some (.lst (kvs.map fun p=>f p.1))->Q (.ref D) H')
  (hs:∀ (D:Addr) (i:Nat) (k:Key) (v:V) (H':Hp) (R:V->Hp->Prop),H D = none->kvs[i]? = some (k,v)->Same H H'->(∀ H6,Same H' H6->R (f k) H6)->g (kV k) (inSt own sel σ) H' fun σ4 H4=>te σ4 H4 R):CompW (Itd d o kvs) own sel σ g tYes te Q H:=by
 refine comp_of (n:=kvs.length) (fun D i ys H'=>ys = (kvs.take i).map (fun p=>f p.1)/\Same H H') (fun D hD=>⟨rfl,same_new hD _⟩) (fun D i ys H' hD hi hy ⟨_,sH⟩=>⟨sH _ _ ha,hi⟩) (fun D ys H' hD hy hl ⟨e,sH⟩=>⟨⟨sH _ _ ha,rfl⟩,hst D H' hD sH (by rw [hy,e,List.take_length])⟩) ?_
 rintro D i ys H' x H3 hD hi hy hl ⟨e,sH⟩ ⟨rfl,k,v,hx,rfl⟩
 have ef:(fun (σ4:St) (H4:Hp)=>tYes σ4 H4 fun b H5=>if b = true then te σ4 H5 fun v H6=>∃ ys,H6 D = some (.lst ys)/\ys.length < sizeLine/\∃ m',m' < kvs.length - i/\CW D kvs.length (fun i ys H'=>ys = (kvs.take i).map (fun p=>f p.1)/\Same H H') (i + 1) m' (upd H6 D (.lst (ys ++ [v]))) else ∃ m',m' < kvs.length - i/\CW D kvs.length (fun i ys H'=>ys = (kvs.take i).map (fun p=>f p.1)/\Same H H') (i + 1) m' H5)
   = fun σ4 H4=>te σ4 H4 fun v H6=>∃ ys,H6 D = some (.lst ys)/\ys.length < sizeLine/\∃ m',m' < kvs.length - i/\CW D kvs.length (fun i ys H'=>ys = (kvs.take i).map (fun p=>f p.1)/\Same H H') (i + 1) m' (upd H6 D (.lst (ys ++ [v]))):=by
  funext σ4 H4
  simp only [tYes,if_true]
 rw [ef]
 refine hs D i k v H3 _ hD hx sH fun H6 s6=>?_
 refine comp_next hi hn (s6 _ _ hy) hl ⟨?_,fun b o z=>?_⟩
 ·rw [e,List.take_add_one,hx,List.map_append]; rfl
 ·have hb:b ≠ D:=ne_of_none z hD
  rw [upd_ne hb]
  exact s6 _ _ (sH _ _ z)
end
end L2
namespace L2
open PySem PySem.Spec PyProof.Rows
def rCntT:V->List V->Hp->VK->Prop:=fun x vs H Q=>∃ l c,x = tx l/\vs = [tx [c]]/\Q (.int (l.count c:Nat)) H
theorem cnt_count (c : Nat) : ∀ l : List Nat, PyProof.Rows.cnt c l = (l.count c : Nat)
  | [] => rfl
  | d :: r => by
    have ih := cnt_count c r
    unfold PyProof.Rows.cnt at ih ⊢
    have hs : PySem.Spec.same (.str ⟨#[d]⟩) (.str ⟨#[c]⟩) = decide (d = c) := by
      simp only [PySem.Spec.same]
      by_cases e : d = c
      · subst e; simp
      · rw [decide_eq_false e]
        exact beq_eq_false_iff_ne.mpr fun z => e (by injection z with z; simpa using z)
    rw [List.map_cons, List.count_cons, PySem.Spec.countIn, hs, ih]
    by_cases e : d = c
    · subst e; simp; omega
    · simp [e]
theorem mt_countT {X:Cx}:MtR X "str.count" rCntT:=by
 intro pins s σ H x vs v us Q I rx rv h
 obtain ⟨l,c,rfl,rfl,q⟩:=h
 obtain ⟨t,rfl⟩:=rx
 obtain ⟨u,rfl,t2,rfl⟩:=rv.one
 refine SC.count ⟨.int (l.count c:Nat),H,I.tok _,⟨s.toks,?_⟩,q⟩
 rw [PyProof.Rows.count_cnt,cnt_count]
section
variable {K:PySem.W.Frag} {σ:St} {H:Hp} {Q:VK} {D:Ends}
theorem s_cntT {l:List Nat} {c:Nat} (h:Q (.int (l.count c:Nat)) H):rCntT (tx l) [tx [c]] H Q:=⟨l,c,rfl,rfl,h⟩
theorem s_dget {td ty:TE} (h:td σ H fun x H1=>ty σ H1 fun y H2=>∃ a v,x = .ref a/\DGet H2 a y (some v)/\Q v H2):tDGet td ty σ H Q:=h
theorem s_dget2 {td ty tz:TE} (h:td σ H fun x H1=>∃ a,x = .ref a/\IsD H1 a/\ty σ H1 fun y H2=>tz σ H2 fun z H3=>∃ o,DGet H3 a y o/\Q (o.getD z) H3):tDGet2 td ty tz σ H Q:=h
theorem s_dput {td ty tv:TE} (h:tv σ H fun v H1=>td σ H1 fun x H2=>ty σ H2 fun y H3=>∃ a H4,x = .ref a/\DPut H3 a y v H4/\D.nx σ H4):sDPut td ty tv D σ H:=h
theorem s_idict {tl:TE} {R:It->Hp->Prop} (h:tl σ H fun x H1=>∃ a kvs,x = .ref a/\H1 a = some (.dK kvs)/\∀ o,R (Itd a o kvs) (upd H1 a (.frz o (.dK kvs)))):iDict tl σ H R:=h
end
end L2
namespace BrS
open L2 PySem BrM BrC BrR
def clk (p:Nat):Nat:=cls.getD p 0
def cst (st:List Nat):List Nat:=(st.map clk).reverse
def kst (st:List Nat):Key:=.inr ⟨(cst st).toArray⟩
def Ok4 (st:List Nat):Prop:=∀ p ∈ st,p < 4
abbrev Es:=List (List Nat × Int)
def enc (es:Es):List (Key × V):=es.map fun e=>(kst e.1,.int e.2)
theorem clk_idx:∀ p,p < 4->cls.idxOf (clk p) = p:=by decide
theorem cst_inj {a b:List Nat} (ha:Ok4 a) (hb:Ok4 b) (h:cst a = cst b):a = b:=by
 have h:=congrArg List.reverse h
 simp only [cst,List.reverse_reverse] at h
 have h2:=congrArg (List.map cls.idxOf) h
 rw [List.map_map,List.map_map] at h2
 have e:∀ l:List Nat,Ok4 l->l.map (cls.idxOf ∘ clk) = l:=fun l hl=>by
  conv=>rhs; rw [<- List.map_id l]
  exact List.map_congr_left fun p hp=>clk_idx p (hl p hp)
 rw [e a ha,e b hb] at h2
 exact h2
theorem kst_inj {a b:List Nat} (ha:Ok4 a) (hb:Ok4 b) (h:kst a = kst b):a = b:=by
 injection h with h
 injection h with h
 exact cst_inj ha hb (by simpa using congrArg Array.toList h)
theorem kst_tx (st:List Nat):kV (kst st) = tx (cst st):=rfl
def gt:Es->List Nat->Int
 | [],_=>0
 | (s,d) :: r,st=>if s = st then d else gt r st
def put:Es->List Nat->Int->Es
 | [],st,c=>[(st,c)]
 | (s,d) :: r,st,c=>if s = st then (s,d + c) :: r else (s,d) :: put r st c
def sf (f:List Nat->Int):Es->Int
 | []=>0
 | e :: r=>e.2 * f e.1 + sf f r
structure Wf (es:Es):Prop where
 nd:(es.map (·.1)).Nodup
 ok:∀ e ∈ es,Ok4 e.1
 pos:∀ e ∈ es,1 <= e.2
theorem sf_put (f : List Nat -> Int) (st : List Nat) (c : Int) : ∀ es, sf f (put es st c) = sf f es + c * f st
  | [] => by simp [put, sf]
  | (s, d) :: r => by
    unfold put
    by_cases h : s = st
    · rw [if_pos h]; subst h; simp only [sf, Int.add_mul]; omega
    · rw [if_neg h]; simp only [sf, sf_put f st c r]; omega
theorem sf_app (f:List Nat->Int):∀ a b:Es,sf f (a ++ b) = sf f a + sf f b
 | [],b=>by simp [sf]
 | e :: r,b=>by simp only [List.cons_append,sf,sf_app f r b]; omega
theorem put_len (st : List Nat) (c : Int) : ∀ es, (put es st c).length <= es.length + 1
  | [] => by simp [put]
  | (s, d) :: r => by
    unfold put
    have := put_len st c r
    split <;> simp <;> omega
theorem put_key (st : List Nat) (c : Int) (x : List Nat) : ∀ es, x ∈ (put es st c).map (·.1) ↔ x ∈ es.map (·.1) \/ x = st
  | [] => by simp [put]
  | (s, d) :: r => by
    unfold put
    by_cases h : s = st
    · rw [if_pos h]; subst h; simp only [List.map_cons, List.mem_cons]
      constructor
      · intro z; exact .inl z
      · rintro (z | z); exact z; exact .inl z
    · rw [if_neg h]; simp only [List.map_cons, List.mem_cons, put_key st c x r]
      constructor
      · rintro (z | z | z); exact .inl (.inl z); exact .inl (.inr z); exact .inr z
      · rintro ((z | z) | z); exact .inl z; exact .inr (.inl z); exact .inr (.inr z)
theorem put_nd (st : List Nat) (c : Int) : ∀ es : Es, (es.map (·.1)).Nodup -> ((put es st c).map (·.1)).Nodup
  | [], _ => by simp [put]
  | (s, d) :: r, h => by
    unfold put
    rw [List.map_cons, List.nodup_cons] at h
    by_cases e : s = st
    · rw [if_pos e, List.map_cons, List.nodup_cons]; exact h
    · rw [if_neg e, List.map_cons, List.nodup_cons]
      refine ⟨fun z => ?_, put_nd st c r h.2⟩
      rcases (put_key st c s r).mp z with z | z
      · exact h.1 z
      · exact e z
theorem put_ok {st:List Nat} (hs:Ok4 st) (c:Int):∀ es:Es,(∀ e ∈ es,Ok4 e.1)->∀ e ∈ put es st c,Ok4 e.1:=fun es h e he=>by
 have hk:e.1 ∈ (put es st c).map (·.1):=List.mem_map_of_mem he
 rcases (put_key st c e.1 es).mp hk with z | z
 ·obtain ⟨e',h1,h2⟩:=List.mem_map.mp z
  rw [<- h2]; exact h e' h1
 ·rw [z]; exact hs
theorem put_pos {st : List Nat} {c : Int} (hc : 1 <= c) : ∀ es : Es, (∀ e ∈ es, 1 <= e.2) -> ∀ e ∈ put es st c, 1 <= e.2
  | [], _, e, he => by simp [put] at he; rw [he]; exact hc
  | (s, d) :: r, h, e, he => by
    unfold put at he
    have h0 := h (s, d) (by simp)
    split at he
    · rcases List.mem_cons.mp he with z | z
      · rw [z]; show 1 <= d + c; have : 1 <= d := h0; omega
      · exact h e (List.mem_cons_of_mem _ z)
    · rcases List.mem_cons.mp he with z | z
      · rw [z]; exact h0
      · exact put_pos hc r (fun e he => h e (List.mem_cons_of_mem _ he)) e z
theorem Wf.put {es:Es} {st:List Nat} {c:Int} (w:Wf es) (hs:Ok4 st) (hc:1 <= c):Wf (put es st c):=⟨put_nd st c es w.nd,put_ok hs c es w.ok,put_pos hc es w.pos⟩
theorem Wf.nil:Wf []:=⟨by simp,(fun _ h=>nomatch h),(fun _ h=>nomatch h)⟩
theorem Wf.tail {e:List Nat × Int} {r:Es} (w:Wf (e :: r)):Wf r:=⟨(List.nodup_cons.mp w.nd).2,fun x h=>w.ok x (List.mem_cons_of_mem _ h),fun x h=>w.pos x (List.mem_cons_of_mem _ h)⟩
theorem val_gt {st : List Nat} (hs : Ok4 st) : ∀ {es : Es}, Wf es -> (valV (enc es) (kst st)).getD (.int 0) = .int (gt es st)
  | [], _ => rfl
  | (s, d) :: r, w => by
    have h0 : Ok4 s := w.ok (s, d) (by simp)
    unfold gt
    by_cases e : s = st
    · subst e; rw [if_pos rfl]; show (valV ((kst s, V.int d) :: enc r) (kst s)).getD _ = _; rw [valV_pos rfl]; rfl
    · rw [if_neg e]; show (valV ((kst s, V.int d) :: enc r) (kst st)).getD _ = _; rw [valV_neg (fun z => e (kst_inj h0 hs z))]; exact val_gt hs w.tail
theorem val_at : ∀ {es : Es} {i : Nat} {st : List Nat} {c : Int}, Wf es -> es[i]? = some (st, c) -> valV (enc es) (kst st) = some (.int c)
  | [], i, st, c, _, h => by simp at h
  | (s, d) :: r, i, st, c, w, h => by
    cases i with
    | zero => simp at h; obtain ⟨rfl, rfl⟩ := h; exact valV_pos rfl
    | succ i =>
      simp only [List.getElem?_cons_succ] at h
      have hm := List.mem_of_getElem? h
      have h0 : Ok4 s := w.ok (s, d) (by simp)
      have h1 : Ok4 st := w.ok (st, c) (List.mem_cons_of_mem _ hm)
      have ne : ¬ s = st := fun z => (List.nodup_cons.mp w.nd).1 (by show s ∈ _; rw [z]; exact List.mem_map_of_mem (f := (·.1)) hm)
      exact (valV_neg (fun z => ne (kst_inj h0 h1 z))).trans (val_at w.tail h)
theorem putK_pos {κ:Type} [DecidableEq κ] {k:κ} {x v:V} {r:List (κ × V)} (h:¬ k ∈ r.map (·.1)):putK ((k,x) :: r) k v = (k,v) :: r:=by
 unfold putK
 rw [if_pos (by simp),List.map_cons,if_pos rfl]
 congr 1
 conv=>rhs; rw [<- List.map_id r]
 refine List.map_congr_left fun p hp=>?_
 have ne:¬ p.1 = k:=fun z=>h (by rw [<- z]; exact List.mem_map_of_mem (f:=(·.1)) hp)
 rw [if_neg ne]; rfl
theorem putK_neg {κ:Type} [DecidableEq κ] {p:κ × V} {k:κ} {v:V} {r:List (κ × V)} (h:¬ p.1 = k):putK (p :: r) k v = p :: putK r k v:=by
 unfold putK
 rw [List.any_cons,decide_eq_false h,Bool.false_or]
 split
 ·rw [List.map_cons,if_neg h]
 ·rfl
theorem enc_put {st : List Nat} (hs : Ok4 st) (c : Int) : ∀ {es : Es}, Wf es -> putK (enc es) (kst st) (.int (gt es st + c)) = enc (put es st c)
  | [], _ => by simp [putK, enc, gt, put]
  | (s, d) :: r, w => by
    have h0 : Ok4 s := w.ok (s, d) (by simp)
    unfold gt put
    show putK ((kst s, V.int d) :: enc r) (kst st) _ = _
    by_cases e : s = st
    · subst e
      rw [if_pos rfl, if_pos rfl, putK_pos]
      · rfl
      · intro z
        unfold enc at z
        rw [List.map_map] at z
        obtain ⟨e', h1, h2⟩ := List.mem_map.mp z
        have : e'.1 = s := kst_inj (w.tail.ok e' h1) h0 h2
        exact (List.nodup_cons.mp w.nd).1 (by show s ∈ _; rw [<- this]; exact List.mem_map_of_mem (f := (·.1)) h1)
    · rw [if_neg e, if_neg e, putK_neg (fun z => e (kst_inj h0 hs z)), enc_put hs c w.tail]; rfl
theorem sf_le {es : Es} (w : Wf es) {f g : List Nat -> Int} {m : Int} (h : ∀ e ∈ es, f e.1 <= m * g e.1) : sf f es <= m * sf g es := by
  induction es with
  | nil => simp [sf]
  | cons e r ih =>
    have h1 := h e (by simp)
    have h2 := w.pos e (by simp)
    have h3 := ih w.tail fun x hx => h x (List.mem_cons_of_mem _ hx)
    have h4 : e.2 * f e.1 <= e.2 * (m * g e.1) := Int.mul_le_mul_of_nonneg_left h1 (by omega)
    have h5 : e.2 * (m * g e.1) = m * (e.2 * g e.1) := by rw [<- Int.mul_assoc, Int.mul_comm e.2 m, Int.mul_assoc]
    simp only [sf, Int.mul_add]; omega
theorem len_sf {es : Es} (w : Wf es) : (es.length : Int) <= sf (fun _ => 1) es := by
  induction es with
  | nil => simp [sf]
  | cons e r ih =>
    have h2 := w.pos e (by simp)
    have h3 := ih w.tail
    simp only [sf, List.length_cons]; omega
def stp (k s:Nat) (f:List Nat->Int) (st:List Nat):Int:=sm k (fun p=>pw k s (2 * p) * f (p :: st)) + (match st with | []=>0 | o :: s'=>pw k s (2 * o + 1) * f s')
theorem ws_stp (k s:Nat) (r st:List Nat):ws k (s :: r) st = stp k s (ws k r) st:=by
 cases st with
 | nil=>rw [ws_nil]; simp [stp]
 | cons o s'=>rw [ws_cons]; rfl
def Good (k j:Nat) (es:Es):Prop:=∀ e ∈ es,(∀ p ∈ e.1,p < k)/\e.1.length <= j
theorem Good.put {k j:Nat} {es:Es} {st:List Nat} {c:Int} (h:Good k j es) (h1:∀ p ∈ st,p < k) (h2:st.length <= j):Good k j (put es st c):=fun e he=>by
 rcases (put_key st c e.1 es).mp (List.mem_map_of_mem he) with z | z
 ·obtain ⟨e',a,b⟩:=List.mem_map.mp z
  rw [<- b]; exact h e' a
 ·rw [z]; exact ⟨h1,h2⟩
theorem units1 {k:Nat} {A:Around} (r:Room k A):A.units + 1 < cLine:=by have:=r.un; omega
theorem last_at (ds:List V) (x:V):atI (ds ++ [x]) (-1) = some x:=atI_end (by simp) (by simp)
theorem in_2 (c b:Nat):inV (tx [c]) [tx [63],tx [b]] = decide (c = 63\/c = b):=by
 unfold inV
 simp only [List.any_cons,List.any_nil,eqV_tx]
 by_cases h1:c = 63 <;> by_cases h2:c = b <;> simp [h1,h2,eq_comm] <;> omega
theorem sgn_brs {k:Int} {c:Nat} (h:c ∈ sgn k):c = 63\/∃ d,d < 8/\brs[d]? = some c:=by
 have h:c ∈ [40,91,123,60,41,93,125,62,63]:=by
  have e:([40,91,123,60,41,93,125,62,63]:List Nat) = opn ++ cls ++ [63]:=rfl
  rw [e]
  unfold sgn at h
  rcases List.mem_append.mp h with z | z
  ·rcases List.mem_append.mp z with z | z
   ·exact List.mem_append_left _ (List.mem_append_left _ (List.mem_of_mem_take z))
   ·exact List.mem_append_left _ (List.mem_append_right _ (List.mem_of_mem_take z))
  ·exact List.mem_append_right _ z
 simp at h
 rcases h with h | h | h | h | h | h | h | h | h
 ·exact .inr ⟨0,by decide,by rw [h]; rfl⟩
 ·exact .inr ⟨2,by decide,by rw [h]; rfl⟩
 ·exact .inr ⟨4,by decide,by rw [h]; rfl⟩
 ·exact .inr ⟨6,by decide,by rw [h]; rfl⟩
 ·exact .inr ⟨1,by decide,by rw [h]; rfl⟩
 ·exact .inr ⟨3,by decide,by rw [h]; rfl⟩
 ·exact .inr ⟨5,by decide,by rw [h]; rfl⟩
 ·exact .inr ⟨7,by decide,by rw [h]; rfl⟩
 ·exact .inl h
theorem brs_op:∀ d,d < 8->∀ p,p < 4->((brs.getD d 0 = 63\/brs.getD d 0 = opn.getD p 0) ↔ 2 * p = d):=by decide
theorem brs_cl:∀ d,d < 8->∀ p,p < 4->((brs.getD d 0 = 63\/brs.getD d 0 = clk p) ↔ 2 * p + 1 = d):=by decide
theorem brs_no:∀ d,d < 8->¬ brs.getD d 0 = 63:=by decide
theorem getD_of {d c:Nat} (h:brs[d]? = some c):brs.getD d 0 = c:=by rw [List.getD_eq_getElem?_getD,h]; rfl
theorem pw_open {k p c:Nat} {kk:Int} (hk:k <= 4) (hp:p < k) (hc:c ∈ sgn kk):pw k c (2 * p) = if c = 63\/c = opn.getD p 0 then 1 else 0:=by
 rcases sgn_brs hc with rfl | ⟨d,h8,hd⟩
 ·rw [pw_unk (by omega)]; simp
 ·rw [pw_at (by omega) (by omega) hd,<- getD_of hd]
  by_cases h:2 * p = d
  ·rw [if_pos h,if_pos ((brs_op d h8 p (by omega)).mpr h)]
  ·rw [if_neg h,if_neg fun z=>h ((brs_op d h8 p (by omega)).mp z)]
theorem pw_close {k p c:Nat} {kk:Int} (hk:k <= 4) (hp:p < k) (hc:c ∈ sgn kk):pw k c (2 * p + 1) = if c = 63\/c = clk p then 1 else 0:=by
 rcases sgn_brs hc with rfl | ⟨d,h8,hd⟩
 ·rw [pw_unk (by omega)]; simp
 ·rw [pw_at (by omega) (by omega) hd,<- getD_of hd]
  by_cases h:2 * p + 1 = d
  ·rw [if_pos h,if_pos ((brs_cl d h8 p (by omega)).mpr h)]
  ·rw [if_neg h,if_neg fun z=>h ((brs_cl d h8 p (by omega)).mp z)]
theorem stp_le {k c : Nat} {kk : Int} {st : List Nat} (hk : k <= 4) (hc : c ∈ sgn kk) (hs : ∀ p ∈ st, p < k) : stp k c (fun _ => 1) st <= (if c = 63 then 5 else 1) * 1 := by
  unfold stp
  rcases sgn_brs hc with rfl | ⟨d, h8, hd⟩
  · rw [if_pos rfl, sm_congr (g := fun _ => 1) k fun p hp => by rw [pw_unk (by omega)]; rfl, sm_const]
    cases st with
    | nil => simp; omega
    | cons o r => have := hs o (by simp); simp only [pw_unk (show 2 * o + 1 < 2 * k by omega)]; omega
  · have n63 : ¬ c = 63 := fun z => brs_no d h8 (by rw [getD_of hd, z])
    rw [if_neg n63]
    have e1 : ∀ p, p < k -> pw k c (2 * p) * 1 = if 2 * p = d then 1 else 0 := fun p hp => by rw [pw_at (by omega) (by omega) hd, Int.mul_one]
    have e3 : sm k (fun p => pw k c (2 * p) * (fun _ => (1 : Int)) (p :: st)) <= if d % 2 = 1 then (0 : Int) else 1 := by
      by_cases h : ∃ p, p < k /\ 2 * p = d
      · obtain ⟨p, hp, h⟩ := h
        rw [sm_one (i := p) hp fun j hj hn => by rw [e1 j hj, if_neg (by omega)]]
        show pw k c (2 * p) * 1 <= _
        rw [e1 p hp, if_pos h, if_neg (by omega)]; exact Int.le_refl _
      · rw [BrC.sm_zero k fun p hp => by show pw k c (2 * p) * 1 = 0; rw [e1 p hp, if_neg fun z => h ⟨p, hp, z⟩]]
        split <;> omega
    cases st with
    | nil =>
      have : sm k (fun p => pw k c (2 * p) * (fun _ => (1 : Int)) [p]) <= 1 := Int.le_trans e3 (by split <;> decide)
      show _ + (0 : Int) <= 1 * 1
      omega
    | cons o r =>
      have ho := hs o (by simp)
      show _ + pw k c (2 * o + 1) * 1 <= 1 * 1
      rw [pw_at (by omega) (by omega) hd]
      by_cases hd1 : d % 2 = 1
      · rw [if_pos hd1] at e3
        split <;> omega
      · rw [if_neg hd1] at e3
        rw [if_neg (by omega)]; omega
structure Fl (H1 H':Hp) (F:Addr) (k j c:Nat) (fs:Es) (n:Nat):Prop where
 sm:SameBut1 F H1 H'
 at':H' F = some (.dK (enc fs))
 wf:Wf fs
 gd:Good k j fs
 ln:fs.length <= n
theorem Fl.put {H1 H':Hp} {F:Addr} {k j c:Nat} {fs:Es} {n:Nat} {st:List Nat} {x:Int} (f:Fl H1 H' F k j c fs n) (hk:k <= 4) (hs:∀ p ∈ st,p < k) (hj:st.length <= j) (hx:1 <= x) :
  Fl H1 (upd H' F (.dK (putK (enc fs) (kst st) (.int (gt fs st + x))))) F k j c (put fs st x) (n + 1):=by
 have h4:Ok4 st:=fun p hp=>Nat.lt_of_lt_of_le (hs p hp) hk
 refine ⟨fun b o z hb=>by rw [upd_ne hb]; exact f.sm b o z hb,?_,f.wf.put h4 hx,f.gd.put hs hj,?_⟩
 ·rw [upd_same,enc_put h4 x f.wf]
 ·have:=put_len st x fs; have:=f.ln; omega
theorem cst_push (p:Nat) (st:List Nat):cst (p :: st) = cst st ++ [clk p]:=by simp [cst]
theorem enc_len (es:Es):(enc es).length = es.length:=by simp [enc]
theorem cst_len (st:List Nat):(cst st).length = st.length:=by simp [cst]
theorem op_cl_at {p:Nat} (h:p < 4):atI [40,91,123,60] (0 + (p:Int)) = some (opn.getD p 0)/\atI [41,93,125,62] (0 + (p:Int)) = some (clk p):=by
 have:p = 0\/p = 1\/p = 2\/p = 3:=by omega
 rcases this with rfl | rfl | rfl | rfl <;> exact ⟨rfl,rfl⟩
theorem take_sf (f:List Nat->Int) {es:Es} {i:Nat} {e:List Nat × Int} (h:es[i]? = some e):sf f (es.take (i + 1)) = sf f (es.take i) + e.2 * f e.1:=by
 rw [List.take_add_one,h,sf_app]; simp [sf]
theorem es0_wf:Wf [([],1)]:=⟨by simp,(fun e he=>by rw [List.mem_singleton.mp he]; intro p hp; cases hp),(fun e he=>by rw [List.mem_singleton.mp he]; decide)⟩
theorem es0_good (k:Nat):Good k 0 [([],1)]:=fun e he=>by rw [List.mem_singleton.mp he]; exact ⟨(fun p hp=>nomatch hp),Nat.zero_le _⟩
theorem pow_625 {n:Nat} (h:n <= 4):(5:Int) ^ n <= 625:=by
 have:n = 0\/n = 1\/n = 2\/n = 3\/n = 4:=by omega
 rcases this with rfl | rfl | rfl | rfl | rfl <;> decide
theorem cnt_take {a:List Nat} {j:Nat} (h:a.count 63 <= 4):(a.take j).count 63 <= 4:=Nat.le_trans ((List.take_sublist j a).count_le 63) h
theorem Fl.mono {H1 H':Hp} {F:Addr} {k j c:Nat} {fs:Es} {n m:Nat} (f:Fl H1 H' F k j c fs n) (h:n <= m):Fl H1 H' F k j c fs m:=⟨f.sm,f.at',f.wf,f.gd,Nat.le_trans f.ln h⟩
theorem Fl.same {H1 H' H2:Hp} {F:Addr} {k j c:Nat} {fs:Es} {n:Nat} (f:Fl H1 H' F k j c fs n) (h:Same H' H2):Fl H1 H2 F k j c fs n:=⟨fun b o z hb=>h _ _ (f.sm b o z hb),h _ _ f.at',f.wf,f.gd,f.ln⟩
theorem sm_next (n:Nat) (f:Nat->Int):sm (n + 1) f = sm n f + f n:=rfl
theorem kind_yes {A S cc y:Int}:A + cc * S + cc * y = A + cc * (S + 1 * y):=by rw [Int.mul_add,Int.one_mul]; omega
theorem kind_no {A S cc y:Int}:A + cc * S = A + cc * (S + 0 * y):=by rw [Int.mul_add,Int.zero_mul,Int.mul_zero]; omega
theorem stack_bound {k c j:Nat} {kk:Int} {a:List Nat} {es fs:Es} (hk:k <= 4) (hc:c ∈ sgn kk) (wf:Wf es) (gd:Good k j es) (ha:a[j]? = some c) (hb:sf (fun _=>1) es <= 5 ^ (a.take j).count 63) (h:sf (fun _=>1) fs = sf (stp k c fun _=>1) es) :
  sf (fun _=>1) fs <= 5 ^ (a.take (j + 1)).count 63:=by
 have h1:=sf_le wf (f:=stp k c fun _=>1) (g:=fun _=>1) (m:=if c = 63 then 5 else 1) fun e he=>stp_le hk hc (gd e he).1
 have e:a.take (j + 1) = a.take j ++ [c]:=by rw [List.take_add_one,ha]; rfl
 rw [h,e,List.count_append]
 refine Int.le_trans h1 ?_
 by_cases h63:c = 63
 ·rw [if_pos h63,h63,show List.count 63 [63] = 1 from rfl,Int.pow_succ]; omega
 ·rw [if_neg h63,List.count_eq_zero_of_not_mem (a:=63) (l:=[c]) (by simpa using fun z=>h63 z.symm)]
  simpa using hb
theorem isRow_take {k:Int} {a:List Nat} (n:Nat) (h:isRow k a = true):isRow k (a.take n) = true:=by
 unfold isRow at h ⊢
 rw [Bool.and_eq_true,decide_eq_true_eq,List.all_eq_true] at h ⊢
 exact ⟨by rw [List.length_take]; omega,fun c hc=>h.2 c (List.mem_of_mem_take hc)⟩
end BrS
namespace BrT
open PySem
def Rise (a:Array Nat):Prop:=a.toList.Pairwise (· < ·)
theorem Rise.lt {a:Array Nat} (r:Rise a) {i j x y:Nat} (hij:i < j) (hx:a[i]? = some x) (hy:a[j]? = some y):x < y:=by
 have hx':a.toList[i]? = some x:=by simpa using hx
 have hy':a.toList[j]? = some y:=by simpa using hy
 obtain ⟨hi,rfl⟩:=List.getElem?_eq_some_iff.mp hx'
 obtain ⟨hj,rfl⟩:=List.getElem?_eq_some_iff.mp hy'
 exact (List.pairwise_iff_getElem.mp r) i j hi hj hij
theorem below_go (xs : Array Nat) (r : Rise xs) (j : Nat) : ∀ (f lo hi : Nat), hi - lo <= f -> lo <= hi -> hi <= xs.size -> (∀ i x, i < lo -> xs[i]? = some x -> x < j) -> (∀ i x, hi <= i -> xs[i]? = some x -> j <= x) ->
    SetTable.below.go xs j f lo hi <= xs.size /\ (∀ i x, i < SetTable.below.go xs j f lo hi -> xs[i]? = some x -> x < j) /\ (∀ i x, SetTable.below.go xs j f lo hi <= i -> xs[i]? = some x -> j <= x)
  | 0, lo, hi, hf, h1, h2, ha, hb => by
    have : lo = hi := by omega
    subst this
    unfold SetTable.below.go
    exact ⟨h2, ha, hb⟩
  | f + 1, lo, hi, hf, h1, h2, ha, hb => by
    unfold SetTable.below.go
    by_cases hlt : lo < hi
    · rw [if_pos hlt]
      dsimp only
      have hm1 : (lo + hi) / 2 < hi := by omega
      have hm2 : lo <= (lo + hi) / 2 := by omega
      have hm : (lo + hi) / 2 < xs.size := by omega
      have hget : xs[(lo + hi) / 2]? = some xs[(lo + hi) / 2] := Array.getElem?_eq_getElem hm
      have hD : xs.getD ((lo + hi) / 2) j = xs[(lo + hi) / 2] := by simp [Array.getD, hm]
      rw [hD]
      by_cases hc : xs[(lo + hi) / 2] < j
      · rw [if_pos hc]
        refine below_go xs r j f _ _ (by omega) (by omega) h2 (fun i x hi' hx => ?_) hb
        by_cases he : i = (lo + hi) / 2
        · subst he; rw [hget] at hx; cases hx; exact hc
        · exact Nat.lt_trans (r.lt (by omega) hx hget) hc
      · rw [if_neg hc]
        refine below_go xs r j f _ _ (by omega) (by omega) (by omega) ha (fun i x hi' hx => ?_)
        by_cases he : i = (lo + hi) / 2
        · subst he; rw [hget] at hx; cases hx; omega
        · have := r.lt (show (lo + hi) / 2 < i by omega) hget hx; omega
    · rw [if_neg hlt]
      have : lo = hi := by omega
      subst this
      exact ⟨h2, ha, hb⟩
theorem below_ok {xs:Array Nat} (r:Rise xs) (j:Nat):SetTable.below xs j <= xs.size/\(∀ i x,i < SetTable.below xs j->xs[i]? = some x->x < j)/\(∀ i x,SetTable.below xs j <= i->xs[i]? = some x->j <= x) :=
 below_go xs r j xs.size 0 xs.size (by omega) (Nat.zero_le _) (Nat.le_refl _) (fun i x h=>absurd h (Nat.not_lt_zero _)) fun i x h hx=>by
  have:=Array.getElem?_eq_none (xs:=xs) h; rw [this] at hx; cases hx
theorem below_next {xs:Array Nat} (r:Rise xs) {i x:Nat} (hx:xs[i]? = some x):SetTable.below xs (x + 1) = i + 1:=by
 obtain ⟨h1,h2,h3⟩:=below_ok r (x + 1)
 have hi:i < xs.size:=(Array.getElem?_eq_some_iff.mp hx).1
 rcases Nat.lt_trichotomy (SetTable.below xs (x + 1)) (i + 1) with h | h | h
 ·have:=h3 i x (by omega) hx; omega
 ·exact h
 ·have hi1:i + 1 < xs.size:=by omega
  have hg:xs[i + 1]? = some xs[i + 1]:=Array.getElem?_eq_getElem hi1
  have a:=h2 (i + 1) _ h hg
  have b:=r.lt (Nat.lt_succ_self i) hx hg
  omega
theorem below_zero {xs:Array Nat} (r:Rise xs):SetTable.below xs 0 = 0:=by
 obtain ⟨h1,h2,h3⟩:=below_ok r 0
 rcases Nat.eq_zero_or_pos (SetTable.below xs 0) with h | h
 ·exact h
 ·have hg:xs[0]? = some (xs[0]'(by omega)):=Array.getElem?_eq_getElem _
  have:=h2 0 _ h hg
  omega
theorem insertAt_list {α:Type} (xs:Array α) (p:Nat) (x:α):(SetTable.insertAt xs p x).toList = xs.toList.take p ++ x :: xs.toList.drop p:=by
 unfold SetTable.insertAt
 simp
 rw [List.take_of_length_le (by simp)]
theorem Rise.insert {xs:Array Nat} (r:Rise xs) {j:Nat} (hj:∀ i:Nat,xs[i]? ≠ some j):Rise (SetTable.insertAt xs (SetTable.below xs j) j):=by
 obtain ⟨h1,h2,h3⟩:=below_ok r j
 generalize SetTable.below xs j = p at *
 unfold Rise
 rw [insertAt_list]
 refine List.pairwise_append.mpr ⟨List.Pairwise.sublist (List.take_sublist _ _) r,List.pairwise_cons.mpr ⟨fun y hy=>?_,List.Pairwise.sublist (List.drop_sublist _ _) r⟩,fun y hy z hz=>?_⟩
 ·obtain ⟨i,hi,e⟩:=List.mem_iff_getElem.mp hy
  rw [List.getElem_drop] at e
  have hg:xs[p + i]? = some y:=by rw [<- Array.getElem?_toList,<- e]; exact List.getElem?_eq_getElem _
  have a:=h3 (p + i) y (by omega) hg
  have b:=hj (p + i)
  have c:y ≠ j:=fun e2=>b (e2 ▸ hg)
  omega
 ·obtain ⟨i,hi,e⟩:=List.mem_iff_getElem.mp hy
  have hip:i < p:=by have:=hi; rw [List.length_take] at this; omega
  rw [List.getElem_take] at e
  have hg:xs[i]? = some y:=by rw [<- Array.getElem?_toList,<- e]; exact List.getElem?_eq_getElem _
  have hyj:=h2 i y hip hg
  rcases List.mem_cons.mp hz with rfl | hz
  ·exact hyj
  ·obtain ⟨k,hk,e2⟩:=List.mem_iff_getElem.mp hz
   rw [List.getElem_drop] at e2
   have hg2:xs[p + k]? = some z:=by rw [<- Array.getElem?_toList,<- e2]; exact List.getElem?_eq_getElem _
   have:=h3 (p + k) z (by omega) hg2
   omega
theorem not_there {t:SetTable} (r:Rise t.place) {d:Nat} (h:t.place[SetTable.below t.place d]? ≠ some d):∀ i:Nat,t.place[i]? ≠ some d:=by
 obtain ⟨h1,h2,h3⟩:=below_ok r d
 intro i hi
 rcases Nat.lt_or_ge i (SetTable.below t.place d) with hl | hl
 ·have:=h2 i d hl hi; omega
 ·have hlt:SetTable.below t.place d < t.place.size:=Nat.lt_of_le_of_lt hl (Array.getElem?_eq_some_iff.mp hi).1
  have hg:t.place[SetTable.below t.place d]? = some _:=Array.getElem?_eq_getElem hlt
  have a:=h3 _ _ (Nat.le_refl _) hg
  rcases Nat.eq_or_lt_of_le hl with e | e
  ·rw [<- e] at hi; exact h hi
  ·have:=r.lt e hg hi; omega
theorem slot_not {t:SetTable} {d:Nat} (h:t.slot d = .empty\/t.slot d = .dummy):t.place[SetTable.below t.place d]? ≠ some d:=by
 intro e
 unfold SetTable.slot at h
 simp [e] at h
theorem probe_go (t : SetTable) (f : Nat -> Int) (h : Int) : ∀ (n : Nat) (p : SetTable.Probe) (j : Nat) (d : Option Nat), (∀ x, p.dummy = some x -> t.slot x = .dummy) -> SetTable.probe.go t f h n p = some (.empty j d) -> (t.slot j = .empty) /\ ∀ x, d = some x -> t.slot x = .dummy
  | 0, p, j, d, hp, e => by unfold SetTable.probe.go at e; cases e
  | n + 1, p, j, d, hp, e => by
    unfold SetTable.probe.go at e
    cases hs : t.slot p.j with
    | empty => rw [hs] at e; simp at e; obtain ⟨rfl, rfl⟩ := e; exact ⟨hs, hp⟩
    | dummy =>
      rw [hs] at e
      refine probe_go t f h n _ j d (fun x hx => ?_) e
      have : (t.advance { p with dummy := some p.j }).dummy = some p.j := by unfold SetTable.advance; dsimp only; split <;> rfl
      rw [this] at hx; cases hx; exact hs
    | live i =>
      rw [hs] at e
      dsimp only at e
      split at e
      · cases e
      · refine probe_go t f h n _ j d (fun x hx => ?_) e
        have : (t.advance p).dummy = p.dummy := by unfold SetTable.advance; dsimp only; split <;> rfl
        rw [this] at hx; exact hp x hx
theorem free_not {t:SetTable} (r:Rise t.place) {h:Int} {j:Nat} {b:Bool} (e:t.freeSlot h = some (j,b)):∀ i:Nat,t.place[i]? ≠ some j:=by
 unfold SetTable.freeSlot at e
 split at e
 ·rename_i j0 d hq
  obtain ⟨h1,h2⟩:=probe_go t _ _ _ _ j0 d (fun x hx=>by unfold SetTable.probeStart at hx; cases hx) hq
  simp at e
  obtain ⟨e1,e2⟩:=e
  cases d with
  | none=>simp at e1; subst e1; exact not_there r (slot_not (.inl h1))
  | some x=>simp at e1; subst e1; exact not_there r (slot_not (.inr (h2 x rfl)))
 ·cases e
theorem rise_range (n:Nat):Rise (Array.range n):=by
 unfold Rise
 rw [Array.toList_range]
 exact List.pairwise_lt_range
def Tb (l:Bool) (t:SetTable):Prop:=Rise t.place/\t.led = l
theorem Tb.standIn {l:Bool} {t:SetTable} (h:Tb l t) (n:Nat):Tb l (t.standIn n):=⟨rise_range n,h.2⟩
theorem layNew_Tb {l : Bool} {t : SetTable} (h : Tb l t) (es : Array (Int × Value)) (hs : Int) (x : Value) : Tb l (layNew t es hs x).2.1 := by
  unfold layNew
  cases e : t.freeSlot hs with
  | none => exact h.standIn _
  | some sb =>
    obtain ⟨sl, b⟩ := sb
    have r := h.1.insert (free_not h.1 e)
    have h' : Tb l (t.put sl).1 := ⟨r, h.2⟩
    show Tb l (SetTable.orStandIn (t.put sl).1 _)
    unfold SetTable.orStandIn
    split
    · exact h'
    · exact h'.standIn _
theorem laid_Tb {m f mv : Nat} {l p : Bool} {hs : Array Int} {t : SetTable} {o : Array Nat} (e : SetTable.laid m f mv l p hs = some (t, o)) : Tb l t := by
  unfold SetTable.laid at e
  cases hl : SetTable.layClean m hs with
  | none => rw [hl] at e; cases e
  | some ow =>
    rw [hl] at e
    simp at e
    obtain ⟨e1, e2⟩ := e
    subst e1
    refine ⟨?_, rfl⟩
    unfold Rise
    simp only []
    refine List.Pairwise.map _ (fun a b h => h) (R := fun (a b : Nat × Nat) => a.1 < b.1) ?_
    refine List.Pairwise.filterMap _ (R := fun (a b : Nat) => a < b) (fun a b hab c hc d hd => ?_) List.pairwise_lt_range
    simp at hc hd
    obtain ⟨_, _, rfl⟩ := hc
    obtain ⟨_, _, rfl⟩ := hd
    exact hab
theorem relayAll_Tb {l : Bool} {t : SetTable} (h : Tb l t) (es : Array (Int × Value)) (wn : Nat) : Tb l (relayAll t es wn).2.1 := by
  unfold relayAll
  cases e : t.relaid (es.map (·.1)) wn with
  | none => exact h.standIn _
  | some p =>
    obtain ⟨t', o⟩ := p
    dsimp only
    unfold SetTable.relaid at e
    have := laid_Tb e
    split
    · exact ⟨this.1, this.2.trans h.2⟩
    · exact h.standIn _
end BrT
namespace BrT
open PySem PySem.Spec PyProof.Rows
def keyOf (e:Int × Value):Int:=match e.2 with | .int k _=>k | _=>0
section
variable {prog:Program} {w:World} {A:Around} {E:Value->Shared->Prop} {s:Shared}
theorem int_of {k:Int} {v:Value} (h:(intKind prog w).is k v = true):∃ t,v = .int k t:=Value.isInt_shape h
theorem key_of {k:Int} {e:Int × Value} (h:(intKind prog w).is k e.2 = true):keyOf e = k:=by
 obtain ⟨t,ht⟩:=int_of h
 unfold keyOf; rw [ht]
theorem elem_key {es:List (Int × Value)} (h:ElemsOf (intKind prog w) es) {e:Int × Value} (he:e ∈ es):(intKind prog w).is (keyOf e) e.2 = true:=by
 obtain ⟨⟨k,hk,_⟩,_⟩:=h e he
 rw [key_of hk]; exact hk
theorem ints_of : ∀ {es : List (Int × Value)}, ElemsOf (intKind prog w) es -> IntsAre (es.map (·.2)) (es.map keyOf)
  | [], _ => .nil
  | e :: r, h => by
    obtain ⟨t, ht⟩ := int_of (elem_key h (.head _))
    rw [List.map_cons, List.map_cons, ht]
    exact .cons _ _ (ints_of h.tail)
def SO (prog:Program) (w:World) (l:Bool) (es:Array (Int × Value)) (t:SetTable) (ms:List Int):Prop :=
 ElemsOf (intKind prog w) es.toList/\(es.toList.map keyOf).Nodup/\(∀ k,k ∈ es.toList.map keyOf ↔ k ∈ ms)/\es.size <= ms.length/\t.fits es.size = true/\Tb l t
def SI (prog:Program) (w:World) (l:Bool) (h:Heap) (a:Addr) (ms:List Int):Prop :=
 ∃ o es ep t,h.get? a = some o/\o.ExactSet/\o.data = .set es ep t/\SO prog w l es t ms
theorem SI.at {l:Bool} {h h':Heap} {a:Addr} {ms:List Int} (i:SI prog w l h a ms) (k:∀ o,h.get? a = some o->h'.get? a = some o):SI prog w l h' a ms :=
 let ⟨o,es,ep,t,ho,r⟩:=i; ⟨o,es,ep,t,k o ho,r⟩
theorem SO.perm {l:Bool} {es es':Array (Int × Value)} {t t':SetTable} {ms:List Int} (i:SO prog w l es t ms) (p:List.Perm es'.toList es.toList) (f:t'.fits es'.size = true) (b:Tb l t'):SO prog w l es' t' ms:=by
 obtain ⟨a1,a2,a3,a4,a5,a6⟩:=i
 have hs:es'.size = es.size:=by rw [<- Array.length_toList,p.length_eq,Array.length_toList]
 exact ⟨a1.perm p,(p.map keyOf).nodup_iff.mpr a2,fun k=>((p.map keyOf).mem_iff).trans (a3 k),by omega,f,b⟩
theorem stored {l:Bool} {h:Heap} {a:Addr} {o:Obj} {es es':Array (Int × Value)} {ep:Nat} {t t':SetTable} {ms:List Int} (ho:h.get? a = some o) (hex:o.ExactSet) (hd:o.data = .set es ep t) (i:SO prog w l es' t' ms) :
  (h.update a (Obj.putSet es' t')).get? a = some { o with data:=.set es' (ep + 1) t' }/\SI prog w l (h.update a (Obj.putSet es' t')) a ms:=by
 have g:=Heap.get?_update_self (Obj.putSet es' t') ho (by rw [putSet_of es' t' hd]; rfl)
 rw [putSet_of es' t' hd] at g
 exact ⟨g,_,es',ep + 1,t',g,hex,rfl,i⟩
theorem add_tail {gw:Bool->Sem Unit} (hg:∀ (b:Bool) (s₁:Shared) (Q':Unit->Shared->Prop),Q' () s₁->wpAny (model prog w) A (gw b) Q' E s₁) {l:Bool} {a:Addr} {o:Obj} {es es1:Array (Int × Value)} {ep:Nat} {t t2:SetTable} {ms:List Int} (ho:s.heap.get? a = some o) (hex:o.ExactSet) (hd:o.data = .set es ep t)
  (i:SO prog w l es1 t2 ms) (hb:ms.length < scanBound) {dm:Bool} {R:Option Bool->Shared->Prop} (q:∀ h',Heap.SameBut a s.heap h'->SI prog w l h' a ms->R (some true) { s with heap:=h' }) :
  wpAny (model prog w) A (do
   storeSet a es1 t2
   if (!dm && t2.tooFull) = true then do
    gw (relayAll t2 es1 (SetTable.grown es1.size)).2.2
    storeSet a (relayAll t2 es1 (SetTable.grown es1.size)).1 (relayAll t2 es1 (SetTable.grown es1.size)).2.1
    pure (some true)
   else pure (some true)) R E s:=by
 have hz1:es1.size <= sizeLine:=fits_of_scanBound (Nat.lt_of_le_of_lt i.2.2.2.1 hb)
 refine wpAny_bind (wpAny_storeSet_of ho hd ?_ hz1)
 obtain ⟨g1,i1⟩:=stored ho hex hd i
 have sb:=Heap.SameBut.update s.heap a (Obj.putSet es1 t2)
 split
 ·have p:=relayAll_perm t2 es1 (SetTable.grown es1.size)
  have f:=relayAll_fits t2 es1 (SetTable.grown es1.size)
  have b:=relayAll_Tb i.2.2.2.2.2 es1 (SetTable.grown es1.size)
  generalize relayAll t2 es1 (SetTable.grown es1.size) = Rl at p f b ⊢
  obtain ⟨es2,t3,gv⟩:=Rl
  dsimp only at p f b ⊢
  have i2:=i.perm p f b
  refine wpAny_bind (hg _ _ _ (wpAny_bind (wpAny_storeSet_of g1 rfl ?_ (fits_of_scanBound (Nat.lt_of_le_of_lt i2.2.2.2.1 hb)))))
  exact wpAny_pure (q _ (sb.trans (Heap.SameBut.update _ a _)) (stored g1 hex rfl i2).2)
 ·exact wpAny_pure (q _ sb i1)
theorem add_int {l : Bool} {a : Addr} {ms : List Int} {k : Int} {tk : Tok} {Q : Bool -> Shared -> Prop} (i : SI prog w l s.heap a ms) (hb : ms.length + 1 < scanBound)
    (q : ∀ b h', Heap.SameBut a s.heap h' -> SI prog w l h' a (ms ++ [k]) -> Q b { s with heap := h' }) : wpAny (model prog w) A (setAddHashed a (.int k tk) (hashInt k)) Q E s := by
  obtain ⟨o, es, ep, t, ho, hex, hd, hel, hnd, hmem, hsz, hf, htb⟩ := i
  have hkey : (intKind prog w).is k (.int k tk) = true := intKind_is _ _ _ _
  have hes : es.size < scanBound := by omega
  unfold setAddHashed setAddHashedIn
  refine wpAny_holding (wpAny_bind (wpAny_setState_of ho hd hf ?_))
  dsimp only
  rw [byScan_of (knd := intKind prog w) rfl hes hel]
  simp only [↓reduceIte]
  unfold setAddByScan
  refine wpAny_bind (wpAny_bind (wpAny_rule (wpAny_bind (wpAny_setScan_of (knd := intKind prog w) hkey ho hd hf hel ?_))))
  cases hr : List.findIdx? (fun e => (intKind prog w).is k e.2) es.toList with
  | some j =>
    dsimp only
    obtain ⟨hj, hpj, _⟩ := List.findIdx?_eq_some_iff_getElem.mp hr
    have hk : k ∈ ms := (hmem k).mp (by rw [<- key_of hpj]; exact List.mem_map_of_mem (List.getElem_mem hj))
    refine wpAny_pure (wpAny_pure ?_)
    have es0 : s = { s with heap := s.heap } := by cases s; rfl
    rw [es0]
    refine q _ s.heap (Heap.SameBut.refl a s.heap) ⟨o, es, ep, t, ho, hex, hd, hel, hnd, fun k' => (hmem k').trans ⟨fun z => List.mem_append_left _ z, fun z => ?_⟩, by rw [List.length_append]; omega, hf, htb⟩
    rcases List.mem_append.mp z with z | z
    · exact z
    · rw [List.mem_singleton.mp z]; exact hk
  | none =>
    dsimp only
    have hk : k ∉ es.toList.map keyOf := fun z => by
      obtain ⟨e, he, hek⟩ := List.mem_map.mp z
      have z1 := List.findIdx?_eq_none_iff.mp hr e he
      rw [<- hek, elem_key hel he] at z1
      cases z1
    have p := layNew_perm t es (hashInt k) (.int k tk)
    have f := layNew_fits t es (hashInt k) (.int k tk)
    have b := layNew_Tb htb es (hashInt k) (.int k tk)
    show wpAny _ _ (match layNew t es (hashInt k) (.int k tk) with | (es, t, wasDummy, gave) => _) _ _ _
    generalize layNew t es (hashInt k) (.int k tk) = Ln at p f b ⊢
    obtain ⟨es1, t1, dm, gv⟩ := Ln
    dsimp only at p f b ⊢
    rw [Array.toList_push] at p
    have hz : es1.size = es.size + 1 := by rw [<- Array.length_toList, p.length_eq, List.length_append, Array.length_toList]; rfl
    have kk : keyOf (hashInt k, .int k tk) = k := rfl
    have i1 : SO prog w l es1 t1 (ms ++ [k]) := by
      refine ⟨(hel.push hkey rfl).perm p, (p.map keyOf).nodup_iff.mpr ?_, fun k' => ((p.map keyOf).mem_iff).trans ?_, by rw [hz, List.length_append]; simp; omega, f, b⟩
      · rw [List.map_append, List.map_cons, List.map_nil, kk]
        exact List.nodup_append.mpr ⟨hnd, by simp, fun x hx y hy => by rw [List.mem_singleton.mp hy]; exact fun e => hk (e ▸ hx)⟩
      · rw [List.map_append, List.map_cons, List.map_nil, kk, List.mem_append, List.mem_append, hmem k']
    have gwh : ∀ (b : Bool) {s₁ : Shared} {Q' : Unit -> Shared -> Prop}, Q' () s₁ -> wpAny (model prog w) A (match b with | true => rule "set.scan.the-table-gave-way" | false => pure ()) Q' E s₁ :=
      fun b s₁ Q' hq => by cases b <;> first | exact wpAny_pure hq | exact wpAny_rule hq
    refine wpAny_bind (gwh _ ?_)
    have hb' : (ms ++ [k]).length < scanBound := by rw [List.length_append]; simpa using hb
    split
    · refine wpAny_bind ?_
      rw [hashByValue_scannable 8 (x := .int k tk) rfl]
      refine wpAny_pure ?_
      refine add_tail ?_ ho hex hd (t2 := if plainKind (.int k tk) = true then t1 else { t1 with plain := false }) (show SO prog w l es1 _ (ms ++ [k]) from i1) hb' ?_
      · intro b s₁ Q' hq; cases b <;> first | exact wpAny_pure hq | exact wpAny_rule hq
      · intro h' sb z; dsimp only; exact wpAny_pure (q _ h' sb z)
    · refine wpAny_bind (wpAny_pure ?_)
      simp only [↓reduceIte]
      refine add_tail ?_ ho hex hd i1 hb' ?_
      · intro b s₁ Q' hq; cases b <;> first | exact wpAny_pure hq | exact wpAny_rule hq
      · intro h' sb z; dsimp only; exact wpAny_pure (q _ h' sb z)
end
end BrT
namespace BrT
open PySem PySem.Spec PyProof.Rows
section
variable {prog:Program} {w:World} {A:Around} {E:Value->Shared->Prop} {s:Shared}
theorem put_all {R : Result -> Shared -> Prop} {I : Addr} {fp wr : List Addr} {G : Array GenState -> Array GenState -> Prop} {P : Nat -> Value -> Prop} {St : Nat -> Shared -> Prop} {l : Bool} (ns : List Int) (W : WalksS prog w A.in1 I fp wr G ns.length P St) (S : Addr) (hS : S ∉ fp)
    (hv : ∀ i v, i < ns.length -> P i v -> ∃ t, v = .int (ns.getD i 0) t) (hb : ns.length + 1 < scanBound) : ∀ (k i : Nat) (s : Shared), ns.length - i = k -> i <= ns.length -> St i s -> SI prog w l s.heap S (ns.take i) ->
      (∀ s', Moved (S :: wr) G s s' -> SI prog w l s'.heap S ns -> R (.ok (.ret .none)) s') -> codeAny (model prog w) A (.builtin "set.update.loop" ⟨[.ref S, .ref I], []⟩) R s := by
  have hSw : S ∉ wr := fun z => hS (W.sub _ z)
  have up : ∀ b ∈ wr, b ∈ S :: wr := fun b z => .tail _ z
  intro k
  induction k with
  | zero =>
    intro i s hk hi st hI q
    have e : i = ns.length := by omega
    subst e
    refine codeAny_builtin F.entry_set_update_loop ?_
    rw [Around.under_plainId F.plain_set_update_loop _]
    show wpAny _ A.in1 (pyNext (.ref I) >>= _) _ _ s
    refine wpAny_bind (W.done s _ _ st fun s' mv => ?_)
    show wpAny _ A.in1 (ret Value.none) _ _ s'
    refine wpAny_pure (q s' (mv.mono up) ?_)
    rw [List.take_length] at hI
    exact hI.at fun o ho => mv.heap S o hSw ho
  | succ k ih =>
    intro i s hk hi st hI q
    have lt : i < ns.length := by omega
    refine codeAny_builtin F.entry_set_update_loop ?_
    rw [Around.under_plainId F.plain_set_update_loop _]
    show wpAny _ A.in1 (pyNext (.ref I) >>= _) _ _ s
    refine wpAny_bind (W.item i s _ _ lt st fun v s' hP st' mv => ?_)
    obtain ⟨t, rfl⟩ := hv i v lt hP
    have hI' := hI.at (h' := s'.heap) fun o ho => mv.heap S o hSw ho
    have lt' : (ns.take i).length + 1 < scanBound := by rw [List.length_take]; omega
    have en : ns.take i ++ [ns.getD i 0] = ns.take (i + 1) := by
      rw [List.take_add_one, List.getElem?_eq_getElem lt, List.getD_eq_getElem?_getD, List.getElem?_eq_getElem lt]; rfl
    show wpAny _ A.in1 (holding [Value.int (ns.getD i 0) t] (setAdd S (.int (ns.getD i 0) t)) >>= _) _ _ s'
    refine wpAny_bind (wpAny_holding ?_)
    unfold setAdd
    refine wpAny_holding (wpAny_bind ((intKind prog w).pyHash (k := ns.getD i 0) (intKind_is _ _ _ _) ?_))
    refine add_int (s := { s' with toks := s'.toks + 1 }) hI' lt' fun b h' sb hI2 => ?_
    rw [en] at hI2
    refine wpAny_pure ⟨plainId_quiet F.plain_set_update_loop _, ih (i + 1) _ (by omega) lt (W.frame _ s' _ _ st' (Nat.le_succ _) fun c hc o e => ?_) hI2 fun s2 mv2 hI3 => ?_⟩
    · rw [sb.2 c (fun z : c = S => hS (z ▸ hc))]; exact e
    · refine q s2 (Moved.trans W.gtrans ((mv.mono up).then_heap (Nat.le_succ _) fun c o hc e => ?_) mv2) hI3
      rw [sb.2 c (fun z : c = S => hc (z ▸ List.mem_cons_self))]; exact e
def byT (w:World):Bool:=w.params.followText "set-order"
theorem new_set (a:Value) {Q:Value->Shared->Prop} (q:Q (.ref s.heap.objs.size) { s with heap:=s.heap.push { cls:=.type "set",dict:=none,data:=.set #[] 0 (.fresh 0 0 (!byT w)) } }) :
  codeAny (model prog w) A (.call (.builtin "set.__new__") ⟨[.type "set",a],[]⟩) (wants Q E) s:=by
 refine codeAny_of_tree ?_
 show wpAny _ A.in1 (do checkBuiltinCall "set.__new__" ⟨[.type "set",a],[]⟩; again (.builtin "set.__new__" ⟨[.type "set",a],[]⟩)) _ _ s
 refine wpAny_bind (wpAny_of_eq (F.newCall_set_1 a) (wpAny_pure ⟨plainId_quiet F.plain_set_new _,codeAny_builtin F.entry_set_new ?_⟩))
 rw [Around.under_plainId F.plain_set_new _]
 unfold Builtin.«set.__new__» Builtin.Frozenset.newClass
 have hsub:=sub_set_self
 obtain ⟨hp,g,d,tk,os⟩:=s
 dsimp only
 wp_walk
 refine wpAny_askSetting (wpAny_pure ?_)
 dsimp only
 simp only [newObj]
 refine wpAny_bind (wpAny_alloc (wpAny_pure ?_))
 exact wpAny_pure q
theorem SI_new {h:Heap} {a:Addr} {l:Bool} {o:Obj} (e:h.get? a = some o) (eo:o = { cls:=.type "set",dict:=none,data:=.set #[] 0 (.fresh 0 0 l) }):SI prog w l h a []:=by
 subst eo
 exact ⟨_,#[],0,.fresh 0 0 l,e,⟨rfl,rfl,rfl⟩,rfl,fun e he=>by simp at he,by simp,by simp,Nat.le_refl _,rfl,List.Pairwise.nil,rfl⟩
theorem call_set {l : Addr} {items : Array Value} {ns : List Int} {Q : Value -> Shared -> Prop} (hh : A.handled = none) (hl : s.heap.IsList l items) (hi : IntsAre items.toList ns) (hb : ns.length + 1 < scanBound)
    (q : ∀ (h' : Heap) (tk : Nat), SI prog w (!byT w) h' s.heap.objs.size ns -> (∀ b o, b < s.heap.objs.size -> s.heap.get? b = some o -> h'.get? b = some o) -> s.heap.objs.size < h'.objs.size -> Q (.ref s.heap.objs.size) { s with heap := h', toks := tk }) :
    wpAny (model prog w) A (call (.type "set") [.ref l]) Q E s := by
  obtain ⟨c, tl, hmro⟩ := F.called_set.mro
  have hmade := F.called_set.made
  have hsub := F.called_set.sub
  have hlen : items.size = ns.length := by rw [<- Array.length_toList, IntsAre.length hi]
  refine wpAny_call (codeAny_of_tree ?_)
  show wpAny _ _ (callAny (.type "set") _) _ _ _
  refine wpAny_pure ⟨Code.quiet_builtin _ (by decide +kernel), codeAny_builtin F.entry_type_call ?_⟩
  rw [Around.under_plain (weight_type_call_type "set" [.ref l] []) rfl]
  have h1 := F.called_set.notType
  have h2 := F.called_set.canCreate
  have hct := F.typeCall_set_1 (.ref l)
  repeat (any_goals (first | assumption | wp_step))
  refine codeAny_mono (new_set (.ref l) (E := E) (Q := fun obj s₁ => obj = .ref s.heap.objs.size /\ s₁ = { s with heap := s.heap.push { cls := .type "set", dict := none, data := .set #[] 0 (.fresh 0 0 (!byT w)) } }) ⟨rfl, rfl⟩) fun r s₁ hr => ?_
  cases r with
  | error e => exact hr
  | ok fl =>
    cases fl with
    | ret obj =>
      obtain ⟨rfl, rfl⟩ := hr
      have hS : (s.heap.push ({ cls := .type "set", dict := none, data := .set #[] 0 (.fresh 0 0 (!byT w)) } : Obj)).get? s.heap.objs.size = some ({ cls := .type "set", dict := none, data := .set #[] 0 (.fresh 0 0 (!byT w)) } : Obj) := Heap.get?_push_size _ rfl
      have hT : Shared.TypeIs { s with heap := s.heap.push ({ cls := .type "set", dict := none, data := .set #[] 0 (.fresh 0 0 (!byT w)) } : Obj) } (.ref s.heap.objs.size) "set" := ⟨_, hS, rfl⟩
      have hli := F.called_set.init.lookup
      have hbi := F.called_set.init.bind (.ref s.heap.objs.size)
      repeat (any_goals (first | assumption | wp_step))
      refine codeAny_mono (codeAny_call_builtin (R := wants (fun r s₂ => r = .none /\ ∃ h' tk, s₂ = { s with heap := h', toks := tk } /\ SI prog w (!byT w) h' s.heap.objs.size ns /\ (∀ b o, b < s.heap.objs.size -> s.heap.get? b = some o -> h'.get? b = some o)) E) F.called_set.init.plain F.entry_set_init (check_set_init_1 hT ?_)) fun r₂ s₂ hr₂ => ?_
      · obtain ⟨ol, hol, hcl, nl, hdl⟩ := hl
        obtain ⟨ocls, odict, odata, oslots⟩ := ol
        simp only at hcl hdl
        subst hcl; subst hdl
        have hol' : (s.heap.push ({ cls := .type "set", dict := none, data := .set #[] 0 (.fresh 0 0 (!byT w)) } : Obj)).get? l = some { cls := .type "list", dict := odict, data := .seq items nl, slots := oslots } := Heap.get?_push_of_some _ hol
        have hsls := F.sub_list_set
        have hslf := F.sub_list_frozenset
        have hne : (Value.type "list" == Value.type "dict") = false := by decide
        have hl1 : (s.heap.push ({ cls := .type "set", dict := none, data := .set #[] 0 (.fresh 0 0 (!byT w)) } : Obj)).IsList l items := ⟨_, hol', rfl, nl, rfl⟩
        unfold Builtin.«set.__init__» noKeywords Builtin.Frozenset.updateFrom
        generalize hPI : pyIter = PI
        wp_walk
        subst hPI
        refine wpAny_pyIter_list hl1 ?_
        refine wpAny_bind (wpAny_runValue ?_)
        have hlS : l < s.heap.objs.size := Heap.lt_size hol
        have hsz : (s.heap.push ({ cls := .type "set", dict := none, data := .set #[] 0 (.fresh 0 0 (!byT w)) } : Obj)).objs.size = s.heap.objs.size + 1 := Heap.size_push ..
        have hh3 : A.in1.in1.in1.handled = none := by simp [hh]
        have hneI : l ≠ (s.heap.push ({ cls := .type "set", dict := none, data := .set #[] 0 (.fresh 0 0 (!byT w)) } : Obj)).objs.size := by rw [hsz]; exact Nat.ne_of_lt (Nat.lt_succ_of_lt hlS)
        have hSf : s.heap.objs.size ∉ [(s.heap.push ({ cls := .type "set", dict := none, data := .set #[] 0 (.fresh 0 0 (!byT w)) } : Obj)).objs.size, l] := by
          rw [hsz]; simp only [List.mem_cons, List.not_mem_nil, or_false, not_or]; exact ⟨Nat.ne_of_lt (Nat.lt_succ_self _), Nat.ne_of_gt hlS⟩
        have W := (Walks.list (prog := prog) (w := w) hh3 _ l hneI items).toS
        rw [hlen] at W
        refine put_all (l := !byT w) ns W s.heap.objs.size hSf (fun i v _ z => IntsAre.int_at hi i v (by rw [Array.getElem?_toList]; exact z)) hb (ns.length - 0) 0 _ rfl (Nat.zero_le _) ⟨⟨_, Heap.get?_push_size _ rfl, rfl, rfl⟩, (hl1.push _)⟩ (SI_new (o := ({ cls := .type "set", dict := none, data := .set #[] 0 (.fresh 0 0 (!byT w)) } : Obj)) (Heap.get?_push_of_some _ hS) rfl) ?_
        intro s' mv hI'
        obtain ⟨h', g', d', tk', os'⟩ := s'
        have eg : g' = s.gens := mv.gens
        have ed : d' = s.drawn := mv.drawn
        have eo : os' = s.os := mv.os
        subst eg; subst ed; subst eo
        show wpAny _ _ _ _ _ _
        refine wpAny_pure ?_
        show wpAny _ _ (ret Value.none) _ _ _
        refine wpAny_pure ⟨rfl, h', tk', rfl, hI', fun b o hlt e => ?_⟩
        refine mv.heap b o ?_ (Heap.get?_push_of_some _ (Heap.get?_push_of_some _ e))
        rw [hsz]; simp only [List.mem_cons, List.not_mem_nil, or_false, not_or]; exact ⟨Nat.ne_of_lt hlt, Nat.ne_of_lt (Nat.lt_succ_of_lt hlt)⟩
      · cases r₂ with
        | error e => exact hr₂
        | ok fl₂ =>
          cases fl₂ with
          | ret r =>
            obtain ⟨rfl, h', tk, rfl, hI', hk'⟩ := hr₂
            repeat (any_goals (first | assumption | wp_step))
            refine q _ _ hI' hk' ?_
            obtain ⟨o, es, ep, t, ho, _⟩ := hI'
            exact Heap.lt_size ho
          | _ => exact hr₂.elim
    | _ => exact hr.elim
end
end BrT
namespace BrT
open PySem PySem.Spec PyProof.Rows
theorem own_si:Manifest.owners.lookup (String.ofList ['r','o','t','a','r','e','t','i','_','t','e','s'].reverse) = some Manifest.sig_set_iterator:=by kernel_rfl
theorem si_next:Slot "set_iterator" "__next__" "set_iterator.__next__":=.of (owner:="set_iterator") (n:="__next__") (by rw [typeLookup_type,builtinLookup_eq_fast]; kernel_rfl) (by decide +kernel) (by decide +kernel) (by decide +kernel) (by first | exact .inl (by decide +kernel) | exact .inr (by decide +kernel)) (by rw [isSubtype_type]; kernel_rfl)
theorem si_entry:entryFor table "set_iterator.__next__" = some Builtin.«set_iterator.__next__»:=entryFor_of_tree (by kernel_rfl)
theorem si_args (a:Value):argsOk "set_iterator.__next__" ⟨[a],[]⟩:=by unfold argsOk; rw [signature?_of (id:="set_iterator.__next__") (n:=['_','_','t','x','e','n','_','_']) (o:=['r','o','t','a','r','e','t','i','_','t','e','s']) (by kernel_rfl) own_si]; kernel_rfl
theorem set_iter_entry:entryFor table "set.__iter__" = some Builtin.«frozenset.__iter__»:=entryFor_alias (id':="frozenset.__iter__") (by kernel_rfl) rfl (by decide +kernel) (by kernel_rfl)
section
variable {prog:Program} {w:World} {A:Around} {E:Value->Shared->Prop} {s:Shared}
structure It (h:Heap) (I:Addr) (f:Value) (i:Nat) (S:Addr) (n ep:Nat):Prop where
 at_:∃ o,h.get? I = some o/\o.cls = .type "set_iterator"/\o.data = .fields #[f,.int i 0,.ref S,.int n 0,.int ep 0]
theorem It.ty {I:Addr} {f:Value} {i:Nat} {S:Addr} {n ep:Nat} (x:It s.heap I f i S n ep):s.TypeIs (.ref I) "set_iterator":=let ⟨o,ho,hc,_⟩:=x.at_; ⟨o,ho,hc⟩
theorem It.keep {h h':Heap} {I:Addr} {f:Value} {i:Nat} {S:Addr} {n ep:Nat} (x:It h I f i S n ep) (k:∀ o,h.get? I = some o->h'.get? I = some o):It h' I f i S n ep:=let ⟨o,ho,r⟩:=x.at_; ⟨o,k o ho,r⟩
def Seto (h:Heap) (S:Addr) (es:Array (Int × Value)) (ep:Nat) (t:SetTable):Prop:=∃ o,h.get? S = some o/\o.ExactSet/\o.data = .set es ep t/\t.fits es.size = true
theorem Seto.keep {h h':Heap} {S:Addr} {es:Array (Int × Value)} {ep:Nat} {t:SetTable} (x:Seto h S es ep t) (k:∀ o,h.get? S = some o->h'.get? S = some o):Seto h' S es ep t:=let ⟨o,ho,r⟩:=x; ⟨o,k o ho,r⟩
theorem chosen {M:Model} {src:Source} {n:Nat} {Q:Nat->Shared->Prop} (hn:n ≠ 0) (q:∀ i d,i < n->Q i { s with drawn:=d }):wpAny M A (choose src n) Q E s:=fun Γ p hΓ=>by
 show Sem.wp M Γ (.choose src n .pure) _ _ p s
 rw [Sem.wp_choose]
 exact ⟨hn,q _ _ (Nat.mod_lt _ (Nat.pos_of_ne_zero hn))⟩
theorem erase_perm {α : Type} : ∀ (l : List α) (i : Nat) (hi : i < l.length), (l[i] :: l.eraseIdx i).Perm l
  | x :: l, 0, _ => .refl _
  | x :: l, i + 1, hi => by
    have hi' : i < l.length := by simpa using hi
    have ih := erase_perm l i hi'
    show List.Perm (l[i] :: x :: l.eraseIdx i) (x :: l)
    exact (List.Perm.swap _ _ _).trans (List.Perm.cons x ih)
theorem drawn_order {M : Model} {α : Type} : ∀ (n : Nat) (xs : List α) (s : Shared) (Q : List α -> Shared -> Prop), xs.length = n -> (∀ ys d, ys.Perm xs -> Q ys { s with drawn := d }) -> wpAny M A (drawOrder n xs) Q E s
  | 0, xs, s, Q, hn, q => by
    have e : xs = [] := List.eq_nil_of_length_eq_zero hn
    subst e
    unfold drawOrder
    exact wpAny_pure (q [] s.drawn .nil)
  | n + 1, [], s, Q, hn, q => by cases hn
  | n + 1, x :: xs, s, Q, hn, q => by
    unfold drawOrder
    refine wpAny_bind (chosen (by simp) fun i d hi => ?_)
    rw [List.getElem?_eq_getElem hi]
    dsimp only
    refine wpAny_bind (drawn_order n _ _ _ (by rw [List.length_eraseIdx_of_lt hi]; simp only [List.length_cons] at hn ⊢; omega) fun ys d' hp => wpAny_pure (q _ d' ?_))
    exact (List.Perm.cons _ hp).trans (erase_perm _ _ hi)
theorem pick_go {α : Type} (next : Nat -> Nat) : ∀ (n k : Nat) (l : List α) (out : Array α), l.length = n -> (pickOrder.go next n k l out).toList.Perm (out.toList ++ l)
  | 0, k, l, out, hn => by
    have e : l = [] := List.eq_nil_of_length_eq_zero hn
    subst e
    unfold pickOrder.go; simp
  | n + 1, k, l, out, hn => by
    unfold pickOrder.go
    have hi : next k % l.length < l.length := Nat.mod_lt _ (by omega)
    rw [List.getElem?_eq_getElem hi]
    dsimp only
    refine (pick_go next n (k + 1) _ _ (by rw [List.length_eraseIdx_of_lt hi]; omega)).trans ?_
    rw [Array.toList_push, List.append_assoc]
    exact List.Perm.append_left _ (erase_perm _ _ hi)
theorem pick_perm {α:Type} (next:Nat->Nat) (xs:Array α):(pickOrder next xs).toList.Perm xs.toList:=by
 have:=pick_go next xs.size 0 xs.toList #[] (by simp)
 simpa [pickOrder] using this
def slotP (t:SetTable) (i:Nat):Nat:=if i = 0 then 0 else t.place.getD (i - 1) 0 + 1
theorem below_slotP {t : SetTable} (r : Rise t.place) {i : Nat} (hi : i <= t.place.size) : SetTable.below t.place (slotP t i) = i := by
  unfold slotP
  cases i with
  | zero => exact below_zero r
  | succ j =>
    rw [if_neg (by omega)]
    have e : t.place[j]? = some (t.place.getD j 0) := by simp [Array.getD, show j < t.place.size by omega]
    exact below_next r e
theorem fits_size {t:SetTable} {n:Nat} (hf:t.fits n = true):t.place.size = n:=by
 simp only [SetTable.fits,Bool.and_eq_true,beq_iff_eq] at hf; exact hf.1
theorem next_places {S:Addr} {es:Array (Int × Value)} {ep i:Nat} {t:SetTable} {Q:Option (Value × Nat)->Shared->Prop} (hb:byT w = false) (hp:t.plain = true\/es.size <= 1) (hl:t.led = true) (r:Rise t.place) (so:Seto s.heap S es ep t) (hi:i <= es.size)
  (q:Q ((es[i]?).map fun e=>(e.2,slotP t (i + 1))) s):wpAny (model prog w) A (setNext S (slotP t i) i ep) Q E s:=by
 obtain ⟨os,hos,hex,hds,hfs⟩:=so
 have hsz:=fits_size hfs
 unfold setNext
 refine wpAny_bind (wpAny_setState_of hos hds hfs ?_)
 dsimp only
 unfold setsByText
 refine wpAny_bind (wpAny_bind (wpAny_askSetting (wpAny_pure ?_)))
 rw [if_neg (by show ¬ (byT w = true); rw [hb]; decide)]
 split
 ·rename_i z
  have z':(!t.plain && decide (es.size > 1)) = true:=z
  rcases hp with h | h
  ·rw [h] at z'; cases z'
  ·simp at z'; omega
 ·refine wpAny_bind ?_
  show wpAny _ _ (if (!t.led && !es.isEmpty) = true then _ else pure ()) _ _ _
  rw [if_neg (by rw [hl]; simp)]
  refine wpAny_pure ?_
  rw [below_slotP r (by omega)]
  by_cases h:i < es.size
  ·rw [Array.getElem?_eq_getElem h,Array.getElem?_eq_getElem (show i < t.place.size by omega)] at *
   refine wpAny_pure ?_
   have e:slotP t (i + 1) = t.place[i]'(by omega) + 1:=by unfold slotP; simp [Array.getD,show i < t.place.size by omega]
   rw [e] at q
   exact q
  ·rw [Array.getElem?_eq_none (by omega)] at *
   exact wpAny_pure q
theorem next_text {S:Addr} {es:Array (Int × Value)} {ep i k:Nat} {t:SetTable} {Q:Option (Value × Nat)->Shared->Prop} (hb:byT w = true) (so:Seto s.heap S es ep t)
  (q:Q (((pickOrder (w.params.setOrder S ep) es)[i]?).map fun e=>(e.2,k)) s):wpAny (model prog w) A (setNext S k i ep) Q E s:=by
 obtain ⟨os,hos,hex,hds,hfs⟩:=so
 unfold setNext setWalk
 refine wpAny_bind (wpAny_setState_of hos hds hfs ?_)
 dsimp only
 unfold setsByText
 refine wpAny_bind (wpAny_bind (wpAny_askSetting (wpAny_pure ?_)))
 rw [if_pos (by show byT w = true; exact hb),if_neg (by simp)]
 refine wpAny_bind (wpAny_bind (wpAny_setState_of hos hds hfs ?_))
 dsimp only
 refine wpAny_bind (wpAny_bind (wpAny_askSetting (wpAny_pure ?_)))
 rw [if_pos (by show byT w = true; exact hb)]
 exact wpAny_bind (wpAny_askSetting (wpAny_pure (wpAny_pure q)))
inductive Way (w:World) (S:Addr) (h:Heap) (es:Array (Int × Value)) (ep:Nat) (t:SetTable):(Nat->Value)->List Value->Prop
 | places (hb:byT w = false) (hp:t.plain = true\/es.size <= 1) (hl:t.led = true) (r:Rise t.place):Way w S h es ep t (fun i=>rawInt (slotP t i:Nat)) (es.toList.map (·.2))
 | text (hb:byT w = true):Way w S h es ep t (fun _=>rawInt (0:Nat)) ((pickOrder (w.params.setOrder S ep) es).toList.map (·.2))
 | draws (T:Addr) (ps:List Nat) (o:Obj) (hT:h.get? T = some o) (hd:∃ n,o.data = .seq (ps.map fun (i:Nat)=>rawInt i).toArray n) (hp:ps.Perm (List.range es.size)):Way w S h es ep t (fun _=>.ref T) (ps.map fun i=>(es.getD i (0,.none)).2)
theorem Way.perm {w : World} {S : Addr} {h : Heap} {es : Array (Int × Value)} {ep : Nat} {t : SetTable} {f : Nat -> Value} {ys : List Value} (x : Way w S h es ep t f ys) : ys.Perm (es.toList.map (·.2)) := by
  cases x with
  | places => exact .refl _
  | text => exact (pick_perm _ _).map _
  | draws T ps o hT hd hp =>
    refine (hp.map _).trans (List.Perm.of_eq ?_)
    refine List.ext_getElem? fun i => ?_
    have e0 : es.toList[i]? = es[i]? := by simp
    rw [List.getElem?_map, List.getElem?_map, e0]
    by_cases hi : i < es.size
    · rw [List.getElem?_range hi, Array.getElem?_eq_getElem hi]
      simp [Array.getD, hi]
    · rw [Array.getElem?_eq_none (by omega), List.getElem?_eq_none (by simp; omega)]; rfl
theorem next_some {I S : Addr} {es : Array (Int × Value)} {ep i : Nat} {t : SetTable} {f : Nat -> Value} {ys : List Value} {y : Value} {Q : Option Value -> Shared -> Prop} (x : Way w S s.heap es ep t f ys) (so : Seto s.heap S es ep t) (it : It s.heap I (f i) i S es.size ep) (hy : ys[i]? = some y) (hf : t.fits es.size = true)
    (q : ∀ h', It h' I (f (i + 1)) (i + 1) S es.size ep -> Heap.SameBut I s.heap h' -> Q (some y) { s with heap := h' }) : wpAny (model prog w) A (pyNext (.ref I)) Q E s := by
  obtain ⟨o, ho, hc, hd⟩ := id it.at_
  obtain ⟨os, hos, hex, hds, hfs⟩ := so
  unfold pyNext
  refine wpAny_bind (wpAny_attempt (wpAny_callSpecial?_slot (name := Str.ofString "__next__") it.ty si_next (wpAny_call_entry si_next it.ty si_entry ?_ (si_args _))))
  unfold Builtin.«set_iterator.__next__»
  refine wpAny_bind (wpAny_pure ?_)
  refine wpAny_bind (wpAny_fieldsOf ho hd ?_)
  dsimp only
  refine wpAny_bind (wpAny_setEntries_of hos hds hfs ?_)
  rw [if_neg (by simp)]
  have two : ∀ (k : Nat), f (i + 1) = rawInt k -> wpAny (model prog w) A.in1 (do setField (Value.ref I) 0 (rawInt k); setField (Value.ref I) 1 (rawInt (i + 1)); ret y)
      (fun fin s' => ∃ v, fin = Fin.done (Flow.ret v) /\ wpAny (model prog w) A (pure (some v)) Q E s') (fun e s' => wpAny (model prog w) A (do let c <- isInstance e (Value.type "StopIteration"); if c = true then pure none else throw e) Q E s') s := by
    intro k hk
    refine wpAny_bind (wpAny_setField ho hd (by simp) ?_)
    have hd1 : (Obj.mapFields (·.setIfInBounds 0 (rawInt k)) o).data = .fields #[rawInt k, .int i 0, .ref S, .int es.size 0, .int ep 0] := by rw [Obj.data_mapFields hd]; simp
    have ho1 := Heap.get?_update_self (Obj.mapFields (·.setIfInBounds 0 (rawInt k))) ho (Obj.isFreed_of_fields hd1)
    refine wpAny_bind (wpAny_setField ho1 hd1 (by simp) (wpAny_pure ⟨y, rfl, wpAny_pure (q _ ⟨_, Heap.get?_update_self _ ho1 (Obj.isFreed_of_fields (Obj.data_mapFields hd1 _)), ?_, ?_⟩ ((Heap.SameBut.update ..).trans (Heap.SameBut.update ..)))⟩))
    · rw [Obj.cls_mapFields, Obj.cls_mapFields]; exact hc
    · rw [Obj.data_mapFields hd1, hk]; simp [rawInt]
  cases x with
  | places hb hp hl r =>
    have hi : i < es.size := by
      rcases Nat.lt_or_ge i es.size with h | h
      · exact h
      · rw [List.getElem?_eq_none (by simpa using h)] at hy; cases hy
    show wpAny _ _ (setNext S (slotP t i : Int).toNat (i : Int).toNat (ep : Int).toNat >>= _) _ _ _
    refine wpAny_bind (next_places hb hp hl r ⟨os, hos, hex, hds, hfs⟩ (Nat.le_of_lt hi) ?_)
    rw [List.getElem?_map, Array.getElem?_toList, Array.getElem?_eq_getElem hi] at hy
    rw [Array.getElem?_eq_getElem hi]
    injection hy with hy
    subst hy
    exact two _ rfl
  | text hb =>
    show wpAny _ _ (setNext S 0 i ep >>= _) _ _ _
    refine wpAny_bind (next_text hb ⟨os, hos, hex, hds, hfs⟩ ?_)
    rw [List.getElem?_map, Array.getElem?_toList] at hy
    cases hz : (pickOrder (w.params.setOrder S ep) es)[i]? with
    | none => rw [hz] at hy; cases hy
    | some e =>
      rw [hz] at hy
      injection hy with hy
      subst hy
      exact two _ rfl
  | draws T ps oT hT hdT hp =>
    obtain ⟨nT, hdT⟩ := hdT
    show wpAny _ _ (seqItems? (.ref T) >>= _) _ _ _
    refine wpAny_bind (wpAny_seqItems hT hdT ?_)
    rw [List.getElem?_map] at hy
    cases hz : ps[i]? with
    | none => rw [hz] at hy; cases hy
    | some j =>
      rw [hz] at hy
      injection hy with hy
      have hj : j < es.size := by
        have : j ∈ List.range es.size := hp.mem_iff.mp (List.mem_of_getElem? hz)
        simpa using this
      have e1 : ((ps.map fun (i : Nat) => rawInt i).toArray)[(i : Int).toNat]? = some (.int (j : Int) 0) := by
        simp [hz, rawInt]
      dsimp only
      rw [e1]
      dsimp only
      refine wpAny_bind ?_
      unfold setNextDrawn
      refine wpAny_bind (wpAny_setState_of hos hds hfs ?_)
      dsimp only
      rw [if_neg (by simp)]
      have e2 : es[(j : Int).toNat]? = some es[j] := by rw [Int.toNat_natCast]; exact Array.getElem?_eq_getElem hj
      rw [e2]
      refine wpAny_pure (wpAny_bind (wpAny_setField ho hd (by simp) (wpAny_pure ⟨_, rfl, wpAny_pure ?_⟩)))
      have e3 : es[j].2 = y := by rw [<- hy]; simp [Array.getD, hj]
      rw [<- e3] at q
      exact q _ ⟨_, Heap.get?_update_self _ ho (Obj.isFreed_of_fields (Obj.data_mapFields hd _)), (Obj.cls_mapFields ..).trans hc, by rw [Obj.data_mapFields hd]; simp [rawInt]⟩ (Heap.SameBut.update ..)
end
end BrT
namespace BrT
open PySem PySem.Spec PyProof.Rows
section
variable {prog:Program} {w:World} {A:Around} {E:Value->Shared->Prop} {s:Shared}
theorem stops {Q:Option Value->Shared->Prop} {I:Addr} {α:Type} {P:α->Shared->Prop} (hh:A.handled = none) {h0:Heap} (k0:∀ b o,b ≠ I->h0.get? b = some o->s.heap.get? b = some o) (q:∀ h',(∀ b o,b ≠ I->h0.get? b = some o->h'.get? b = some o)->Q none { s with heap:=h' }) :
  wpAny (model prog w) A.in1 (do let x <- newExc (Value.type "StopIteration") []; raiseNew x:Sem α) P (fun e s'=>wpAny (model prog w) A (do let c <- isInstance e (Value.type "StopIteration"); if c = true then pure none else throw e) Q E s') s:=by
 refine wpAny_bind ?_
 simp only [newExc,newTuple]
 refine wpAny_bind (wpAny_newObj_type ?_ (show (0:Nat) <= sizeLine from Nat.zero_le _))
 refine wpAny_bind (m:=firstArgMember _ _) (wpAny_of_eq (a:=Value.none) (by simp only [firstArgMember]; rfl) (wpAny_newObj_type ?_ (by size_fits)))
 refine wpAny_raiseNew_none (show A.in1.handled = none from hh) ?_
 refine wpAny_bind (wpAny_isInstance (b:=true) (T:="StopIteration") ⟨_,Heap.get?_push_size _ rfl,rfl⟩ isSubtype_stop ?_)
 exact wpAny_pure (q _ fun b o hb e=>Heap.get?_push_of_some _ (Heap.get?_push_of_some _ (k0 b o hb e)))
theorem next_none {I S : Addr} {es : Array (Int × Value)} {ep : Nat} {t : SetTable} {f : Nat -> Value} {ys : List Value} {Q : Option Value -> Shared -> Prop} (hh : A.handled = none) (x : Way w S s.heap es ep t f ys) (so : Seto s.heap S es ep t) (it : It s.heap I (f es.size) es.size S es.size ep)
    (q : ∀ h', (∀ b o, b ≠ I -> s.heap.get? b = some o -> h'.get? b = some o) -> Q none { s with heap := h' }) : wpAny (model prog w) A (pyNext (.ref I)) Q E s := by
  obtain ⟨o, ho, hc, hd⟩ := id it.at_
  obtain ⟨os, hos, hex, hds, hfs⟩ := so
  have hlen := x.perm.length_eq
  unfold pyNext
  refine wpAny_bind (wpAny_attempt (wpAny_callSpecial?_slot (name := Str.ofString "__next__") it.ty si_next (wpAny_call_entry si_next it.ty si_entry ?_ (si_args _))))
  unfold Builtin.«set_iterator.__next__»
  refine wpAny_bind (wpAny_pure ?_)
  refine wpAny_bind (wpAny_fieldsOf ho hd ?_)
  dsimp only
  refine wpAny_bind (wpAny_setEntries_of hos hds hfs ?_)
  rw [if_neg (by simp)]
  have up : ∀ (g : Obj -> Obj) (b : Addr) (o : Obj), b ≠ I -> s.heap.get? b = some o -> (s.heap.update I g).get? b = some o := fun g b o hb e => (Heap.get?_update_other _ _ (Ne.symm hb)).trans e
  cases x with
  | places hb hp hl r =>
    show wpAny _ _ (setNext S (slotP t es.size) es.size ep >>= _) _ _ _
    refine wpAny_bind (next_places hb hp hl r ⟨os, hos, hex, hds, hfs⟩ (Nat.le_refl _) ?_)
    rw [Array.getElem?_eq_none (Nat.le_refl _)]
    refine wpAny_bind (wpAny_setField ho hd (by simp) ?_)
    exact stops hh (up _) q
  | text hb =>
    show wpAny _ _ (setNext S 0 es.size ep >>= _) _ _ _
    refine wpAny_bind (next_text hb ⟨os, hos, hex, hds, hfs⟩ ?_)
    rw [Array.getElem?_eq_none (by simp at hlen; omega)]
    refine wpAny_bind (wpAny_setField ho hd (by simp) ?_)
    exact stops hh (up _) q
  | draws T ps oT hT hdT hp =>
    obtain ⟨nT, hdT⟩ := hdT
    show wpAny _ _ (seqItems? (.ref T) >>= _) _ _ _
    refine wpAny_bind (wpAny_seqItems hT hdT ?_)
    have e1 : ((ps.map fun (i : Nat) => rawInt i).toArray)[(es.size : Int).toNat]? = none := by
      have := hp.length_eq
      simp at this
      simp; omega
    dsimp only
    rw [e1]
    dsimp only
    refine wpAny_bind (wpAny_setField ho hd (by simp) ?_)
    have hd1 : (Obj.mapFields (·.setIfInBounds 0 (rawInt 0)) o).data = .fields #[rawInt 0, .int es.size 0, .ref S, .int es.size 0, .int ep 0] := by rw [Obj.data_mapFields hd]; simp
    have ho1 := Heap.get?_update_self (Obj.mapFields (·.setIfInBounds 0 (rawInt 0))) ho (Obj.isFreed_of_fields hd1)
    refine wpAny_bind (wpAny_setField ho1 hd1 (by simp) ?_)
    exact stops hh (fun b o hb e => (Heap.get?_update_other _ _ (Ne.symm hb)).trans (up _ b o hb e)) q
theorem Way.at {S:Addr} {h h':Heap} {es:Array (Int × Value)} {ep:Nat} {t:SetTable} {f:Nat->Value} {ys:List Value} (x:Way w S h es ep t f ys) (k:∀ T,f 0 = .ref T->∀ o,h.get? T = some o->h'.get? T = some o):Way w S h' es ep t f ys:=by
 cases x with
 | places hb hp hl r=>exact .places hb hp hl r
 | text hb=>exact .text hb
 | draws T ps o hT hd hp=>exact .draws T ps o (k T rfl o hT) hd hp
theorem iter_set {S : Addr} {es : Array (Int × Value)} {ep : Nat} {t : SetTable} {Q : Value -> Shared -> Prop} (so : Seto s.heap S es ep t) (tb : Tb (!byT w) t) (hz : es.size <= sizeLine)
    (q : ∀ (I : Addr) (h' : Heap) d f ys, Way w S h' es ep t f ys -> It h' I (f 0) 0 S es.size ep -> s.heap.objs.size <= I -> (∀ T, f 0 = .ref T -> T ≠ I /\ s.heap.objs.size <= T) -> (∀ b o, s.heap.get? b = some o -> h'.get? b = some o) -> Q (.ref I) { s with heap := h', drawn := d }) :
    wpAny (model prog w) A (pyIter (.ref S)) Q E s := by
  obtain ⟨os, hos, hex, hds, hfs⟩ := id so
  have hT : s.TypeIs (.ref S) "set" := ⟨os, hos, hex.1⟩
  refine wpAny_pyIter_slot hT F.slot_set_iter (wpAny_call_entry F.slot_set_iter hT set_iter_entry ?_ (F.args_set_iter_1 _))
  unfold Builtin.«frozenset.__iter__» Builtin.Frozenset.slot0 slotArgs
  simp only [List.isEmpty_nil, Bool.not_true, Bool.false_eq_true, ↓reduceIte, bind_assoc, List.length_nil, bne_self_eq_false]
  unfold Builtin.Frozenset.addrOf Builtin.Frozenset.sizeOf setDrawn setsByText
  refine wpAny_bind (wpAny_pure ?_)
  try dsimp only
  refine wpAny_bind (wpAny_pure ?_)
  refine wpAny_bind (wpAny_bind (wpAny_setEntries_of hos hds hfs (wpAny_pure ?_)))
  refine wpAny_bind (wpAny_bind (wpAny_setState_of hos hds hfs ?_))
  dsimp only
  refine wpAny_bind (wpAny_bind (wpAny_askSetting (wpAny_pure (wpAny_pure ?_))))
  split
  · refine wpAny_bind (drawn_order es.size (List.range es.size) s _ (by simp) fun ps d hp => ?_)
    have hpl : ps.length = es.size := by rw [hp.length_eq]; simp
    refine wpAny_bind (wpAny_newTuple ?_ (by rw [List.length_map, hpl]; exact hz))
    have hos1 := Heap.get?_push_of_some ({ cls := .type "tuple", data := .seq (ps.map fun (i : Nat) => rawInt i).toArray } : Obj) hos
    refine wpAny_bind (wpAny_setEpoch_of hos1 hds hfs ?_)
    refine wpAny_bind (wpAny_newObj_type (wpAny_pure ⟨_, rfl, "set_iterator", _, ⟨_, Heap.get?_push_size _ rfl, rfl⟩, si_next.lookup, ?_⟩))
    refine q _ _ d (fun _ => .ref s.heap.objs.size) _ (.draws s.heap.objs.size ps _ (Heap.get?_push_of_some _ (Heap.get?_push_size _ rfl)) ⟨_, rfl⟩ hp) ⟨_, Heap.get?_push_size _ rfl, rfl, rfl⟩ ?_ ?_ fun b o e => Heap.get?_push_of_some _ (Heap.get?_push_of_some _ e)
    · show s.heap.objs.size <= (s.heap.push _).objs.size
      rw [Heap.size_push]; exact Nat.le_succ _
    · intro T e
      injection e with e
      subst e
      refine ⟨?_, Nat.le_refl _⟩
      show s.heap.objs.size ≠ (s.heap.push _).objs.size
      rw [Heap.size_push]; exact Nat.ne_of_lt (Nat.lt_succ_self _)
  · rename_i nd
    refine wpAny_bind (wpAny_pure ?_)
    refine wpAny_bind (wpAny_setEpoch_of hos hds hfs ?_)
    refine wpAny_bind (wpAny_newObj_type (wpAny_pure ⟨_, rfl, "set_iterator", _, ⟨_, Heap.get?_push_size _ rfl, rfl⟩, si_next.lookup, ?_⟩))
    have hn : ∀ (k : Nat) T, rawInt (k : Int) = Value.ref T -> T ≠ s.heap.objs.size /\ s.heap.objs.size <= T := fun k T e => by cases e
    cases hb : byT w with
    | true => exact q _ _ s.drawn _ _ (.text hb) ⟨_, Heap.get?_push_size _ rfl, rfl, rfl⟩ (Nat.le_refl _) (hn 0) fun b o e => Heap.get?_push_of_some _ e
    | false =>
      have nd' : ¬ ((!byT w && (!t.plain && decide (es.size > 1))) = true) := nd
      rw [hb] at nd' tb
      exact q _ _ s.drawn _ _ (.places hb (by cases hp : t.plain <;> simp [hp] at nd' ⊢; omega) tb.2 tb.1) ⟨_, Heap.get?_push_size _ rfl, rfl, rfl⟩ (Nat.le_refl _) (hn 0) fun b o e => Heap.get?_push_of_some _ e
theorem extend_all {R : Result -> Shared -> Prop} {I S L : Addr} {es : Array (Int × Value)} {ep : Nat} {t : SetTable} {f : Nat -> Value} {ys : List Value} (hh : A.handled = none) (hLI : L ≠ I) (hLS : L ≠ S) (hSI : S ≠ I) (hT : ∀ T, f 0 = .ref T -> T ≠ I /\ T ≠ L) (hz : es.size <= sizeLine) (res : Value) :
    ∀ (k i : Nat) (s : Shared) (acc : Array Value) (c : Nat), es.size - i = k -> i <= es.size -> Way w S s.heap es ep t f ys -> Seto s.heap S es ep t -> It s.heap I (f i) i S es.size ep -> s.heap.get? L = some { cls := .type "list", dict := none, data := .seq acc c, slots := #[] } -> acc.toList = ys.take i ->
    (∀ h' acc' c', (∀ b o, b ≠ I -> b ≠ L -> s.heap.get? b = some o -> h'.get? b = some o) -> h'.get? L = some { cls := .type "list", dict := none, data := .seq acc' c', slots := #[] } -> acc'.toList = ys -> R (.ok (.ret res)) { s with heap := h' }) ->
    codeAny (model prog w) A (.builtin "list.extend.loop" ⟨[.ref L, .ref I, res], []⟩) R s := by
  intro k
  induction k with
  | zero =>
    intro i s acc c hk hi x so it hL ha q
    have e : i = es.size := by omega
    subst e
    have hlen : ys.length = es.size := by rw [x.perm.length_eq]; simp
    refine codeAny_builtin F.entry_extend_loop ?_
    rw [Around.under_plainId F.plain_extend_loop _]
    show wpAny _ A.in1 (pyNext (.ref I) >>= _) _ _ s
    refine wpAny_bind (next_none (show A.in1.handled = none from hh) x so it fun h' kp => wpAny_pure (q h' acc c (fun b o b1 _ e => kp b o b1 e) (kp L _ hLI hL) ?_))
    rw [ha, <- hlen, List.take_length]
  | succ k ih =>
    intro i s acc c hk hi x so it hL ha q
    have lt : i < es.size := by omega
    have hlen : ys.length = es.size := by rw [x.perm.length_eq]; simp
    have hy : ys[i]? = some (ys[i]'(by omega)) := List.getElem?_eq_getElem _
    refine codeAny_builtin F.entry_extend_loop ?_
    rw [Around.under_plainId F.plain_extend_loop _]
    show wpAny _ A.in1 (pyNext (.ref I) >>= _) _ _ s
    refine wpAny_bind (next_some x so it hy (let ⟨_, _, _, _, z⟩ := so; z) fun h1 it1 sb => ?_)
    have kp : ∀ b o, b ≠ I -> s.heap.get? b = some o -> h1.get? b = some o := fun b o hb e => by rw [sb.2 b hb]; exact e
    have hL1 := kp L _ hLI hL
    have asz : acc.size = i := by rw [<- Array.length_toList, ha, List.length_take]; omega
    show wpAny _ A.in1 (updateSeq L (·.push (ys[i]'(by omega))) >>= _) _ _ _
    refine wpAny_bind (wpAny_updateSeq hL1 rfl (wpAny_pure ⟨plainId_quiet F.plain_extend_loop _, ih (i + 1) _ (acc.push (ys[i]'(by omega))) _ (by omega) lt (x.at fun T e o eo => ?_) (so.keep fun o e => ?_) (it1.keep fun o e => ?_) (Heap.get?_update_self _ hL1 rfl) ?_ fun h2 acc' c' kp2 hL2 ha2 => ?_⟩) (by rw [asz]; omega) (by show (acc.push _).size <= sizeLine + 1; rw [Array.size_push, asz]; omega))
    · exact (Heap.get?_update_other _ _ (Ne.symm (hT T e).2)).trans (kp T o (hT T e).1 eo)
    · exact (Heap.get?_update_other _ _ hLS).trans (kp S o hSI e)
    · exact (Heap.get?_update_other _ _ hLI).trans e
    · rw [Array.toList_push, ha, List.take_add_one, hy]; rfl
    · exact q h2 acc' c' (fun b o b1 b2 e => kp2 b o b1 b2 ((Heap.get?_update_other _ _ (Ne.symm b2)).trans (kp b o b1 e))) hL2 ha2
end
end BrT
namespace BrT
open PySem PySem.Spec PyProof.Rows
section
variable {prog:Program} {w:World} {A:Around} {E:Value->Shared->Prop} {s:Shared}
open Builtin.List in
theorem hint_set {S:Addr} {Q:Bool->Shared->Prop} (hT:s.TypeIs (.ref S) "set") (q:Q false s):wpAny (model prog w) A (listLengthHint (.ref S)) Q E s:=by
 unfold listLengthHint
 refine wpAny_bind (wpAny_specialOf hT F.slot_set_len.lookup ?_)
 generalize hid:("set.__len__" : String) = id0
 wp_delta
 rw [show splitId id0 = some ("set","__len__") from by subst hid; decide +kernel]
 subst hid
 refine wpAny_bind (wpAny_isInstance (b:=true) hT sub_set_self ?_)
 rw [if_neg (by decide)]
 show wpAny _ _ (if _ = true then _ else _) _ _ _
 rw [if_pos (by decide +kernel)]
 refine wpAny_bind (wpAny_typeOf hT ?_)
 exact wpAny_pure q
theorem collect_set {S:Addr} {es:Array (Int × Value)} {ep:Nat} {t:SetTable} {Q:List Value->Shared->Prop} (hh:A.handled = none) (so:Seto s.heap S es ep t) (tb:Tb (!byT w) t) (hz:es.size < sizeLine)
  (q:∀ h' d ys,ys.Perm (es.toList.map (·.2))->(∀ b o,s.heap.get? b = some o->h'.get? b = some o)->s.heap.objs.size <= h'.objs.size->Q ys { s with heap:=h',drawn:=d }):wpAny (model prog w) A (collect (.ref S)) Q E s:=by
 have hS:S < s.heap.objs.size:=let ⟨o,ho,_⟩:=so; Heap.lt_size ho
 unfold collect
 refine wpAny_bind (wpAny_runValue (codeAny_builtin F.entry_proto_collect ?_))
 rw [Around.under_plainId F.plain_proto_collect _]
 show wpAny _ A.in1 (newList [] >>= fun l=>again (.builtin "list.__iadd__" ⟨[l,.ref S],[]⟩)) _ _ s
 refine wpAny_bind (wpAny_newObj_type (wpAny_pure ⟨plainId_quiet F.plain_list_iadd _,codeAny_builtin F.entry_list_iadd ?_⟩))
 rw [Around.under_plainId F.plain_list_iadd _]
 generalize hlo:({ cls:=.type "list",data:=.seq ([]:List Value).toArray }:Obj) = lo
 have gL:(s.heap.push lo).get? s.heap.objs.size = some lo:=Heap.get?_push_size _ (by subst hlo; rfl)
 have so1:Seto (s.heap.push lo) S es ep t:=so.keep fun o e=>Heap.get?_push_of_some _ e
 obtain ⟨os,hos,hex,hds,hfs⟩:=id so1
 have hT:Shared.TypeIs { s with heap:=s.heap.push lo } (.ref S) "set":=⟨os,hos,hex.1⟩
 show wpAny _ A.in1 (Builtin.List.listExtendWith (.ref s.heap.objs.size) (.ref S) (.ref s.heap.objs.size)) _ _ _
 unfold Builtin.List.listExtendWith
 refine wpAny_bind (wpAny_typeOf hT ?_)
 have h1:Builtin.List.listSameRef (.ref s.heap.objs.size) (.ref S) = false:=by
  have:¬ s.heap.objs.size = S:=Nat.ne_of_gt hS
  simp [Builtin.List.listSameRef,this]
 rw [if_neg (by rw [h1]; decide)]
 refine wpAny_bind (iter_set so1 tb (Nat.le_of_lt hz) fun I h1 d f ys x it hI hT1 kp=>?_)
 have gL1:=kp _ _ gL
 refine wpAny_bind (wpAny_holding (hint_set ⟨os,kp _ _ hos,hex.1⟩ ?_))
 rw [if_pos (by decide +kernel)]
 refine wpAny_bind (wpAny_rule ?_)
 refine wpAny_bind ?_
 show wpAny _ A.in1 (updateSeq s.heap.objs.size (·.push .none) >>= fun _=>updateSeq s.heap.objs.size (·.pop)) _ _ _
 subst hlo
 refine wpAny_bind (wpAny_updateSeq gL1 rfl ?_)
 have gL2:=Heap.get?_update_self (Obj.mapSeq (·.push Value.none)) gL1 rfl
 refine wpAny_updateSeq gL2 rfl ?_
 have gL3:=Heap.get?_update_self (Obj.mapSeq (·.pop)) gL2 rfl
 have sz1:(s.heap.push ({ cls:=.type "list",data:=.seq ([]:List Value).toArray }:Obj)).objs.size = s.heap.objs.size + 1:=Heap.size_push ..
 rw [sz1] at hI hT1
 have oth:∀ b o,b ≠ s.heap.objs.size->h1.get? b = some o->((h1.update s.heap.objs.size (Obj.mapSeq (·.push Value.none))).update s.heap.objs.size (Obj.mapSeq (·.pop))).get? b = some o :=
  fun b o hb e=>(Heap.get?_update_other _ _ (Ne.symm hb)).trans ((Heap.get?_update_other _ _ (Ne.symm hb)).trans e)
 have nLI:s.heap.objs.size ≠ I:=Nat.ne_of_lt hI
 have nS:S ≠ s.heap.objs.size:=Nat.ne_of_lt hS
 have nSI:S ≠ I:=Nat.ne_of_lt (Nat.lt_trans hS hI)
 have nT:∀ T,f 0 = .ref T->T ≠ I/\T ≠ s.heap.objs.size:=fun T e=>⟨(hT1 T e).1,Nat.ne_of_gt (hT1 T e).2⟩
 refine wpAny_pure ⟨plainId_quiet F.plain_extend_loop _,extend_all (show A.handled = none from hh) nLI (Ne.symm nS) nSI nT (Nat.le_of_lt hz) _ es.size 0 _ _ _ rfl (Nat.zero_le _) (x.at fun T e o eo=>oth T o (nT T e).2 eo) ((so1.keep fun o e=>kp S o e).keep fun o e=>oth S o nS e) (it.keep fun o e=>oth I o (Ne.symm nLI) e) gL3 rfl fun h2 acc' c' kp2 gL4 ha=>?_⟩
 show wpAny _ A (load s.heap.objs.size >>= _) _ _ _
 refine wpAny_bind (wpAny_load gL4 ?_)
 refine wpAny_pure ?_
 rw [ha]
 refine q h2 d ys x.perm (fun b o e=>?_) (Nat.le_of_lt (Heap.lt_size gL4))
 have hb:b < s.heap.objs.size:=Heap.lt_size e
 exact kp2 b o (Nat.ne_of_lt (Nat.lt_trans hb hI)) (Nat.ne_of_lt hb) (oth b o (Nat.ne_of_lt hb) (kp b o (Heap.get?_push_of_some _ e)))
theorem IntsAre.of_perm {vs us:List Value} (p:vs.Perm us):∀ {ns:List Int},IntsAre us ns->∃ ms,IntsAre vs ms/\ms.Perm ns:=by
 induction p with
 | nil=>intro ns h; exact ⟨ns,h,.refl _⟩
 | cons x _ ih=>intro ns h; cases h with | cons n t h=>obtain ⟨ms,h1,h2⟩:=ih h; exact ⟨n :: ms,.cons n t h1,h2.cons n⟩
 | swap x y l=>intro ns h; cases h with | cons n t h=>cases h with | cons m u h=>exact ⟨m :: n :: _,.cons m u (.cons n t h),.swap _ _ _⟩
 | trans _ _ ih1 ih2=>intro ns h; obtain ⟨ms,h1,h2⟩:=ih2 h; obtain ⟨ks,h3,h4⟩:=ih1 h1; exact ⟨ks,h3,h4.trans h2⟩
end
end BrT
namespace L2
open PySem PySem.Spec PyProof.Rows
section
variable {X:Cx} {e:Expr} {te:TE} {np cpos sp pos:Pos}
theorem Inv.drawn {pins:List (Addr × Obj)} {σ:St} {H:Hp} {s:Shared} (I:Inv X pins σ H s) (d:Drawn):Inv X pins σ H { s with drawn:=d }:=⟨I.ok,I.os,I.bare,I.base,I.loc,I.cell,I.free,I.freeC,I.pin,I.hok,I.len⟩
end
end L2
namespace BrT
open PySem PySem.Spec PyProof.Rows
section
variable {prog:Program} {w:World} {A:Around} {E:Value->Shared->Prop} {s:Shared}
theorem sorted_setB {S:Addr} {ms:List Int} {Q:Value->Shared->Prop} (hh:A.handled = none) (i:SI prog w (!byT w) s.heap S ms) (h63:∀ x ∈ ms,(0:Int) <= x/\x < 63)
  (q:∀ (L:Addr) (h':Heap) d (vs:List Value) (ns:List Int) (e:Nat),s.heap.objs.size <= L->h'.get? L = some (seqObj "list" vs.toArray e)->(∀ b o,s.heap.get? b = some o->h'.get? b = some o)->IntsAre vs ns->ns.Pairwise (· < ·)->(∀ k,k ∈ ns ↔ k ∈ ms)->ns.length <= 63->Q (.ref L) { s with heap:=h',drawn:=d }) :
  wpAny (model prog w) A (call (.builtin "sorted") [.ref S]) Q E s:=by
 obtain ⟨o,es,ep,t,ho,hex,hd,hel,hnd,hmem,hsz,hf,htb⟩:=i
 have h64:es.size <= 63:=by
  have h1:=List.Nodup.length_le_of_subset hnd (l₂:=(List.range 63).map fun n:Nat=>(n:Int)) fun x hx=>by
   obtain ⟨h1,h2⟩:=h63 x ((hmem x).mp hx)
   exact List.mem_map.mpr ⟨x.toNat,by simp; omega,by omega⟩
  simpa using h1
 refine Calls.call_function_entry kind_sorted plain_sorted entry_sorted (args_sorted1 _) ?_
 unfold Builtin.«sorted»
 refine wpAny_bind (m:=checkCount "sorted" 1 1 _) (wpAny_pure ?_)
 refine wpAny_bind (collect_set (show A.in1.handled = none from hh) ⟨o,ho,hex,hd,hf⟩ htb (by rw [sizeLine_eq]; omega) fun h1 d ys hp kp hle=>?_)
 obtain ⟨ks,hI,hpk⟩:=IntsAre.of_perm hp (ints_of hel)
 have hyl:ys.length < 64:=by rw [hp.length_eq]; simp; omega
 refine wpAny_bind (wpAny_newList ?_ (by rw [sizeLine_eq]; omega))
 have gL:(h1.push (seqObj "list" ys.toArray 0)).get? h1.objs.size = some (seqObj "list" ys.toArray 0):=Heap.get?_push_size _ rfl
 refine wpAny_bind (wpAny_holding (wpAny_call_entry slot_list_sort ⟨_,gL,rfl⟩ entry_list_sort (list_sort_tree gL hI hyl fun out ns a1 a2 a3=>⟨_,rfl,?_⟩) (args_list_sort _)))
 refine wpAny_pure ⟨_,rfl,?_⟩
 obtain ⟨e,he⟩:=sortedHeap_at (out:=out) gL
 have hall:ns.Perm (es.toList.map keyOf):=a2.trans hpk
 refine q h1.objs.size _ d out.toList ns e hle (by rw [Array.toArray_toList]; exact he) (fun b o eb=>?_) a1 ?_ (fun k=>(hall.mem_iff).trans (hmem k)) (by rw [hall.length_eq]; simp; exact h64)
 ·have hb:=Heap.lt_size (kp b o eb)
  rw [sortedHeap_old (Nat.ne_of_lt hb) (by rw [size_push']; exact Nat.lt_succ_of_lt hb)]
  exact Heap.get?_push_of_some _ (kp b o eb)
 ·have hn:ns.Nodup:=hall.nodup_iff.mpr hnd
  exact List.Pairwise.imp (fun h=>by omega) (List.Pairwise.and a3 hn)
end
end BrT
namespace L2
open PySem PySem.Spec PyProof.Rows
section
variable {X:Cx} {e:Expr} {te:TE} {np cpos sp pos:Pos}
def tSSB (K:PySem.W.Frag) (te:TE):TE:=fun σ H Q=>te σ H fun v H1=>∃ (l:Addr) (ms:List Int),v = .ref l/\SqL K H1 l (ms.map V.int)/\ms.length <= 4000/\(∀ x ∈ ms,(0:Int) <= x/\x < 63) /\
 ∀ (p:Addr) (ns:List Int),H1 p = none->ns.Pairwise (· < ·)->(∀ k:Int,k ∈ ns ↔ k ∈ ms)->ns.length <= 63->Q (.ref p) (upd H1 p (.lst (ns.map V.int)))
theorem pe_ssetB (K:PySem.W.Frag) (hms:X.mg "set" = none) (hmo:X.mg "sorted" = none) {k:Nat} (hr:Room k X.A) (hc:X.calm = true) (he:PE X e te) (hK:X.K = K:=by rfl) (hgs:Gl X "set":=by rfl) (hgo:Gl X "sorted":=by rfl)
  (h1:starEach [e] X.env = [(false,eval e X.env)]:=by rfl) (h2:starEach [.Call (.Name "set" np) [e] [] cpos] X.env = [(false,eval (.Call (.Name "set" np) [e] [] cpos) X.env)]:=by rfl) :
  PE X (.Call (.Name "sorted" sp) [.Call (.Name "set" np) [e] [] cpos] [] pos) (tSSB K te):=by
 subst hK
 intro pins s σ H Q I h
 refine wpAny_Call_Name_kw (ld_blt I hgo hmo PyProof.Rows.boot_sorted ?_)
 refine PyProof.Rows.callWith_builtin1 ?_ h2 rfl
 rw [h2]
 show wpAny _ _ (spliced [(false,eval (.Call (.Name "set" np) [e] [] cpos) X.env)]) _ _ _
 refine Calls.spliced_cons ?_
 refine wpAny_Call_Name_kw (ld_blt I hgs hms PyProof.Rows.boot_set ?_)
 refine PyProof.Rows.callWith_type1 ?_ h1 rfl
 rw [h1]
 show wpAny _ _ (spliced [(false,eval e X.env)]) _ _ _
 refine Calls.spliced_cons (thn (he pins s σ H _ I h) fun u s1 ⟨v,H1,I1,r1,q1⟩=>Calls.spliced_nil ?_)
 obtain ⟨l,ms,rfl,hq,hz,hr63,q⟩:=q1
 cases r1
 obtain ⟨its,rr,ht,_⟩:=I1.list hq
 have hi:=intsAre_of rr
 refine BrT.call_set (I1.ok.hd hc) ht.isList hi (by unfold scanBound; omega) fun h' tk hS kp hlt=>Calls.spliced_nil ?_
 have I2:Inv X pins σ H1 { s1 with heap:=h',toks:=tk }:=I1.kept fun b o z=>kp b o (Heap.lt_size z) z
 refine BrT.sorted_setB (s:={ s1 with heap:=h',toks:=tk }) (I1.ok.hd hc) hS hr63 fun L h2 d vs ns ep hL gL kp2 hI hp hm hle=>?_
 refine ⟨.ref L,_,(I2.laid (t':=tk) (o:=.lst (ns.map V.int)) kp2 hL ⟨?_,vs,ep,vals_ints hI,gL⟩).drawn d,rfl,q L ns (I2.hok.fresh hL) hp hm hle⟩
 rw [List.length_map,sizeLine_eq]; omega
theorem s_ssetB {K:PySem.W.Frag} {σ:St} {H:Hp} {Q:VK} (h:te σ H fun v H1=>∃ (l:Addr) (ms:List Int),v = .ref l/\SqL K H1 l (ms.map V.int)/\ms.length <= 4000/\(∀ x ∈ ms,(0:Int) <= x/\x < 63)/\∀ (p:Addr) (ns:List Int),H1 p = none->ns.Pairwise (· < ·)->(∀ k:Int,k ∈ ns ↔ k ∈ ms)->ns.length <= 63->Q (.ref p) (upd H1 p (.lst (ns.map V.int)))):tSSB K te σ H Q:=h
end
end L2
namespace BrC
variable {P:Nat->Nat->Int} {k:Nat}
end BrC
namespace L2
open PySem PySem.Spec PyProof.Rows BrR
section
variable {σ:St} {H:Hp} {Q:VK} {K:PySem.W.Frag}
end
end L2
namespace BrS
open L2 PySem BrM BrC BrR
def F14 (k:Nat) (a:List Nat) (b e:Nat):Int:=cv (PP (a.map (plw (ones k)))) k (e - b) b []
def ky (b e:Nat):List Key:=[.inl (b:Int),.inl (e:Int)]
def DW (k:Nat) (a:List Nat) (kvs:List (List Key × V)) (E q:Nat):Prop :=
 (∀ b e:Nat,valV kvs (ky b e) = if b <= e/\(e - b) % 2 = 0/\(e < E\/(e = E/\E < b + 2 * q)) then some (.int (F14 k a b e)) else none)/\kvs.length <= E * 41 + q
theorem DW.get {k:Nat} {a:List Nat} {kvs:List (List Key × V)} {E q b e:Nat} (h:DW k a kvs E q) (h1:b <= e) (h2:(e - b) % 2 = 0) (h3:e < E\/(e = E/\E < b + 2 * q)):valV kvs (ky b e) = some (.int (F14 k a b e)):=by
 rw [h.1,if_pos ⟨h1,h2,h3⟩]
theorem DW.at {k:Nat} {a:List Nat} {kvs:List (List Key × V)} {E q b e:Nat} {H:Hp} {d T:Addr} (h:DW k a kvs E q) (gd:H d = some (.dT kvs)) (hT:H T = none) (h1:b <= e) (h2:(e - b) % 2 = 0) (h3:e < E):DGet (upd H T (.tup [.int (b:Int),.int (e:Int)])) d (.ref T) (some (.int (F14 k a b e))):=by
 rw [<- h.get h1 h2 (.inl h3)]
 exact DGet.t (k:=ky b e) (by rw [upd_ne (ne_of_none gd hT)]; exact gd) upd_same
theorem DW.zero {k:Nat} {a:List Nat}:DW k a [] 0 0:=⟨fun b e=>by rw [valV_nil,if_neg (by omega)],by simp⟩
end BrS
namespace L2
open PySem PySem.Spec PyProof.Rows
section
variable {prog:Program} {w:World} {A:Around} {R:Result->Shared->Prop} {s:Shared}
theorem turn_outer (elt target iter target1 iter1 : Expr) (ifs ifs1 : List Expr) (scope : Scope) (pos : Pos) (it acc : Value) (env : Env) :
    compTurn (.ListComp elt [⟨target, iter, ifs, 0⟩, ⟨target1, iter1, ifs1, 0⟩] scope pos) 0 it acc env = (do
      standAt iter.pos
      match <- pyNext it with
      | none => pure (.done .next)
      | some v =>
        letOwnedTupleGo target it v
        assign target env v
        let mut ok := true
        for c in ifs do
          if ok then ok <- isTrue c env (eval c env)
        if ok then
          let x <- eval iter1 env
          standAt iter1.pos
          let x <- foldedSetIterable iter1 env x
          let _ <- runOwn (.compStart (.ListComp elt [⟨target, iter, ifs, 0⟩, ⟨target1, iter1, ifs1, 0⟩] scope pos) 1 (<- holding [x] (pyIter x)) acc env) env
        again (.compLoop (.ListComp elt [⟨target, iter, ifs, 0⟩, ⟨target1, iter1, ifs1, 0⟩] scope pos) 0 it acc env)) := by rfl
theorem turn_inner (elt target iter target1 iter1 : Expr) (ifs ifs1 : List Expr) (scope : Scope) (pos : Pos) (it acc : Value) (env : Env) :
    compTurn (.ListComp elt [⟨target, iter, ifs, 0⟩, ⟨target1, iter1, ifs1, 0⟩] scope pos) 1 it acc env = (do
      standAt iter1.pos
      match <- pyNext it with
      | none => pure (.done .next)
      | some v =>
        letOwnedTupleGo target1 it v
        assign target1 env v
        let mut ok := true
        for c in ifs1 do
          if ok then ok <- isTrue c env (eval c env)
        if ok then
          (do let _ <- call (.builtin "list.append") [acc, <- eval elt env])
        again (.compLoop (.ListComp elt [⟨target, iter, ifs, 0⟩, ⟨target1, iter1, ifs1, 0⟩] scope pos) 1 it acc env)) := by rfl
theorem outer_turns {elt target iter target1 iter1 : Expr} {ifs ifs1 : List Expr} {scope : Scope} {pos : Pos} {it acc : Value} {env : Env} (hs : ∀ x, foldedSetIterable iter1 env x = pure x) (I : Nat -> Shared -> Prop)
    (turn : ∀ n s, I n s -> wpAny (model prog w) A (pyNext it) (fun r s1 => match r with
      | none => R (.ok .next) s1
      | some v => wpAny (model prog w) A (letOwnedTupleGo target it v) (fun _ s0 => wpAny (model prog w) A (assign target env v) (fun _ s2 =>
          wpAny (model prog w) A (forIn ifs true fun c r => if r = true then do let ok <- isTrue c env (eval c env); pure (ForInStep.yield ok) else pure (ForInStep.yield r)) (fun ok s3 =>
            if ok = true then wpAny (model prog w) A (eval iter1 env) (fun x s4 => wpAny (model prog w) A (pyIter x) (fun it1 s5 =>
              codeAny (model prog w) A (.compStart (.ListComp elt [⟨target, iter, ifs, 0⟩, ⟨target1, iter1, ifs1, 0⟩] scope pos) 1 it1 acc env) (fun r s6 => r = .ok .next /\ ∃ m, m < n /\ I m s6) s5) (fun _ _ => False) s4) (fun _ _ => False) s3
            else ∃ m, m < n /\ I m s3) (fun _ _ => False) s2) (fun _ _ => False) s0) (fun _ _ => False) s1) (fun _ _ => False) s)
    (n : Nat) (h : I n s) :
    codeAny (model prog w) A (.compLoop (.ListComp elt [⟨target, iter, ifs, 0⟩, ⟨target1, iter1, ifs1, 0⟩] scope pos) 0 it acc env) R s := by
  refine codeAny_loop rfl I (fun n s hI => ?_) n h
  show wpAny _ A ((compTurn (.ListComp elt [⟨target, iter, ifs, 0⟩, ⟨target1, iter1, ifs1, 0⟩] scope pos) 0 it acc env).onRaise (fun x => do noteFrame x env; theTreesLotGoes x)) _ _ s
  refine wpAny_noted ?_
  rw [turn_outer]
  refine wpAny_bind (wpAny_standAt (wpAny_bind (wpAny_mono (turn n s hI) (fun r s1 h1 => ?_) fun _ _ z => z.elim)))
  cases r with
  | none => exact wpAny_pure h1
  | some v =>
    refine wpAny_bind (wpAny_mono h1 (fun _ s0 h0 => wpAny_bind (wpAny_mono h0 (fun _ s2 h2 => wpAny_bind (wpAny_mono h2 (fun ok s3 h3 => ?_) fun _ _ z => z.elim)) fun _ _ z => z.elim)) fun _ _ z => z.elim)
    cases ok with
    | false => exact wpAny_pure ⟨rfl, h3⟩
    | true =>
      refine wpAny_bind (wpAny_mono h3 (fun x s4 h4 => wpAny_bind (wpAny_standAt ?_)) fun _ _ z => z.elim)
      rw [hs x]
      refine wpAny_bind (wpAny_pure (wpAny_bind (wpAny_holding (wpAny_mono h4 (fun it1 s5 h5 => wpAny_bind (wpAny_runOwn (codeAny_mono h5 fun r s6 ⟨hr, q⟩ => ?_))) fun _ _ z => z.elim))))
      subst hr
      exact wpAny_pure ⟨rfl, q⟩
theorem inner_turns {elt target iter target1 iter1 : Expr} {ifs ifs1 : List Expr} {scope : Scope} {pos : Pos} {it acc : Value} {env : Env} (I : Nat -> Shared -> Prop)
    (turn : ∀ n s, I n s -> wpAny (model prog w) A (pyNext it) (fun r s1 => match r with
      | none => R (.ok .next) s1
      | some v => wpAny (model prog w) A (letOwnedTupleGo target1 it v) (fun _ s0 => wpAny (model prog w) A (assign target1 env v) (fun _ s2 =>
          wpAny (model prog w) A (forIn ifs1 true fun c r => if r = true then do let ok <- isTrue c env (eval c env); pure (ForInStep.yield ok) else pure (ForInStep.yield r)) (fun ok s3 =>
            if ok = true then wpAny (model prog w) A (eval elt env) (fun x s4 => wpAny (model prog w) A (call (.builtin "list.append") [acc, x]) (fun _ s5 => ∃ m, m < n /\ I m s5) (fun _ _ => False) s4) (fun _ _ => False) s3
            else ∃ m, m < n /\ I m s3) (fun _ _ => False) s2) (fun _ _ => False) s0) (fun _ _ => False) s1) (fun _ _ => False) s)
    (n : Nat) (h : I n s) :
    codeAny (model prog w) A (.compLoop (.ListComp elt [⟨target, iter, ifs, 0⟩, ⟨target1, iter1, ifs1, 0⟩] scope pos) 1 it acc env) R s := by
  refine codeAny_loop rfl I (fun n s hI => ?_) n h
  show wpAny _ A ((compTurn (.ListComp elt [⟨target, iter, ifs, 0⟩, ⟨target1, iter1, ifs1, 0⟩] scope pos) 1 it acc env).onRaise (fun x => do noteFrame x env; theTreesLotGoes x)) _ _ s
  refine wpAny_noted ?_
  rw [turn_inner]
  refine wpAny_bind (wpAny_standAt (wpAny_bind (wpAny_mono (turn n s hI) (fun r s1 h1 => ?_) fun _ _ z => z.elim)))
  cases r with
  | none => exact wpAny_pure h1
  | some v =>
    refine wpAny_bind (wpAny_mono h1 (fun _ s0 h0 => wpAny_bind (wpAny_mono h0 (fun _ s2 h2 => wpAny_bind (wpAny_mono h2 (fun ok s3 h3 => ?_) fun _ _ z => z.elim)) fun _ _ z => z.elim)) fun _ _ z => z.elim)
    cases ok with
    | false => exact wpAny_pure ⟨rfl, h3⟩
    | true =>
      exact wpAny_bind (wpAny_bind (wpAny_mono h3 (fun x s4 h4 => wpAny_bind (wpAny_mono h4 (fun _ s5 h5 => wpAny_pure (wpAny_pure ⟨rfl, h5⟩)) fun _ _ z => z.elim)) fun _ _ z => z.elim))
theorem inner_start {elt target iter target1 iter1:Expr} {ifs ifs1:List Expr} {scope:Scope} {pos:Pos} {it acc:Value} {env:Env}
  (h0:codeAny (model prog w) A (.compLoop (.ListComp elt [⟨target,iter,ifs,0⟩,⟨target1,iter1,ifs1,0⟩] scope pos) 1 it acc env) R s)
  (h:wpAny (model prog w) A (pyIter it) (fun it' s'=>codeAny (model prog w) A (.compLoop (.ListComp elt [⟨target,iter,ifs,0⟩,⟨target1,iter1,ifs1,0⟩] scope pos) 1 it' acc env) R s') (notedBy (model prog w) A env fun x s'=>R (.error x) s') s) :
  codeAny (model prog w) A (.compStart (.ListComp elt [⟨target,iter,ifs,0⟩,⟨target1,iter1,ifs1,0⟩] scope pos) 1 it acc env) R s:=by
 refine codeAny_of_tree ?_
 show wpAny _ _ ((compStart (.ListComp elt [⟨target,iter,ifs,0⟩,⟨target1,iter1,ifs1,0⟩] scope pos) 1 it acc env).onRaise (fun x=>do noteFrame x env; standAt theWindowsPlace)) _ _ s
 refine wpAny_notedAt ?_
 unfold compStart
 show wpAny _ _ (ask >>= _) _ _ s
 refine wpAny_bind (wpAny_askSetting (wpAny_ite ?_))
 split
 ·first
   | exact wpAny_bind (wpAny_pure (wpAny_pure ⟨rfl,h0⟩))
   | exact wpAny_pure ⟨rfl,h0⟩
 ·first
   | exact wpAny_bind (wpAny_rule (wpAny_bind (wpAny_standAt (wpAny_bind (wpAny_mono h (fun it' s' h'=>wpAny_pure ⟨rfl,h'⟩) fun _ _ x=>x)))))
   | (refine wpAny_bind (wpAny_rule ?_); show wpAny _ _ (standAt iter1.pos >>= _) _ _ s; exact wpAny_bind (wpAny_standAt (wpAny_bind (wpAny_mono h (fun it' s' h'=>wpAny_pure ⟨rfl,h'⟩) fun _ _ x=>x))))
end
def tInner (D : Addr) (wi1 : TI) (i1 : Nat) (tt1 : TT) (te : TE) (σ : St) (H : Hp) (N : Hp -> Prop) : Prop := wi1 σ H fun J H1 => ∃ W : Nat -> Nat -> Hp -> Prop, (∃ m, W 0 m H1) /\ ∀ i m H2, W i m H2 ->
 (J.stop i H2 /\ N H2) \/ (J.go i H2 /\ ∀ x H3, J.yld i H2 x H3 -> tt1 (σ.set i1 (some x)) H3 fun b H5 =>
  if b = true then te (σ.set i1 (some x)) H5 fun v H6 => ∃ ys, H6 D = some (.lst ys) /\ ys.length < sizeLine /\ ∃ m', m' < m /\ W (i + 1) m' (upd H6 D (.lst (ys ++ [v])))
  else ∃ m', m' < m /\ W (i + 1) m' H5)
def tComp2 (own : List Str) (sel : List Nat) (wi : TI) (i0 : Nat) (tt : TT) (wi1 : TI) (i1 : Nat) (tt1 : TT) (te : TE) : TE := fun σ H Q => wi σ H fun J H1 => ∀ D, H1 D = none ->
 ∃ W : Nat -> Nat -> Hp -> Prop, (∃ m, W 0 m (upd H1 D (.lst []))) /\ ∀ i m H2, W i m H2 ->
  (J.stop i H2 /\ Q (.ref D) H2) \/ (J.go i H2 /\ ∀ x H3, J.yld i H2 x H3 -> tt ((inSt own sel σ).set i0 (some x)) H3 fun b H5 =>
   if b = true then tInner D wi1 i1 tt1 te ((inSt own sel σ).set i0 (some x)) H5 fun H' => ∃ m', m' < m /\ W (i + 1) m' H'
   else ∃ m', m' < m /\ W (i + 1) m' H5)
section
variable {Y:Cx}
theorem inner_core {elt tg iter tg1 iter1 : Expr} {ifs ifs1 : List Expr} {scope : Scope} {pos : Pos} {wi1 : TI} {i1 : Nat} {tt1 : TT} {te : TE} {D : Addr} (hX : Y.xe = fun _ _ => False) (hc : Y.calm = true) (hi1 : PI Y tg1 iter1 wi1) (hg1 : PG Y tg1 (gName i1)) (ht1 : PIf Y ifs1 tt1) (he : PE Y elt te)
    {pins : List (Addr × Obj)} {s : Shared} {σ : St} {H : Hp} {N : Hp -> Prop} (I0 : Inv Y pins σ H s) (hσ : σ[i1]? = some none) (h : tInner D wi1 i1 tt1 te σ H N) {R : Result -> Shared -> Prop} (fin : ∀ H' s', Inv Y pins σ H' s' -> N H' -> R (.ok .next) s') :
    wpAny (model Y.prog Y.w) Y.A (eval iter1 Y.env) (fun x s4 => wpAny (model Y.prog Y.w) Y.A (pyIter x) (fun it1 s5 => codeAny (model Y.prog Y.w) Y.A (.compStart (.ListComp elt [⟨tg, iter, ifs, 0⟩, ⟨tg1, iter1, ifs1, 0⟩] scope pos) 1 it1 (.ref D) Y.env) R s5) (fun _ _ => False) s4) (fun _ _ => False) s := by
  have hi := hi1 pins s σ H _ I0 h
  rw [hX] at hi
  refine thn hi fun v s1 h1 => thn h1 fun itv s2 h2 => ?_
  obtain ⟨it, fp, tn, J, H2, e, I2, T, st2, f2, W, ⟨m0, w0⟩, turn⟩ := h2
  subst e
  have stat : ∀ {H' : Hp}, (∀ b ∈ fp, H' b = none) -> ∀ b ∈ fp, FpOk Y pins H' b := fun hn b hb => ⟨hn b hb, (f2 b hb).2⟩
  have loop : codeAny (model Y.prog Y.w) Y.A (.compLoop (.ListComp elt [⟨tg, iter, ifs, 0⟩, ⟨tg1, iter1, ifs1, 0⟩] scope pos) 1 (.ref it) (.ref D) Y.env) R s2 := by
    refine inner_turns (fun n s' => ∃ i H', Inv Y pins σ H' s' /\ tn i s'.heap /\ (∀ b ∈ fp, H' b = none) /\ W i n H') ?_ m0 ⟨0, H2, I2, st2, fun b hb => (f2 b hb).1, w0⟩
    rintro n s4 ⟨i, H4, I4, st4, fr4, w4⟩
    rcases turn i n H4 w4 with ⟨stop, q⟩ | ⟨go, step⟩
    · refine thn (T.done Y rfl rfl rfl hc i pins s4 σ H4 (fun _ _ => False) I4 (stat fr4) st4 stop) fun r s5 ⟨hr, I5⟩ => ?_
      subst hr
      exact fin _ _ I5 q
    · refine thn (T.item Y rfl rfl rfl hc i pins s4 σ H4 (fun _ _ => False) I4 (stat fr4) st4 go) fun r s5 ⟨u, hr, h5⟩ => ?_
      subst hr
      refine thn h5 fun _ s6 ⟨x, H6, I6, r6, y6, st6, fr6⟩ => ?_
      have I6' := I6.pinned (stat fr6) (T.obj _ _ st6)
      have back : ∀ {H7 : Hp} {s7 : Shared}, Inv Y (pins ++ pinsAt fp s6.heap) (σ.set i1 (some x)) H7 s7 -> (∃ m', m' < n /\ W (i + 1) m' H7) -> ∃ m', m' < n /\ ∃ i H', Inv Y pins σ H' s7 /\ tn i s7.heap /\ (∀ b ∈ fp, H' b = none) /\ W i m' H' := fun {H7 s7} I7 w7 => by
        obtain ⟨m', hm, w7⟩ := w7
        refine ⟨m', hm, i + 1, H7, I7.unpinned.weak (by simp) fun j v e => ?_, T.keep _ _ _ st6 fun b hb o e => (I7.pin (b, o) (List.mem_append_right _ (List.mem_append_right _ (mem_pinsAt hb e)))).1, fun b hb => ?_, w7⟩
        · by_cases hj : i1 = j
          · subst hj; rw [hσ] at e; cases e
          · rw [List.getElem?_set_ne hj]; exact e
        · obtain ⟨o, e, d⟩ := T.obj _ _ st6 b hb
          exact (I7.pin (b, o) (List.mem_append_right _ (List.mem_append_right _ (mem_pinsAt hb e)))).2.1
      have ga := hg1 _ s6 _ H6 x u _ I6' r6 (show gName i1 x σ H6 (fun σ' H' => σ' = σ.set i1 (some x) /\ H' = H6) from ⟨rfl, rfl⟩)
      rw [hX] at ga
      refine thn ga fun _ s7 ⟨σ7, H7, I7, e7, e7'⟩ => ?_
      subst e7; subst e7'
      have ta := ht1 _ s7 _ _ _ I7 (step x H7 y6)
      rw [hX] at ta
      refine thn ta fun b s8 ⟨H8, I8, q8⟩ => ?_
      cases b with
      | false =>
        rw [if_neg Bool.false_ne_true] at q8 ⊢
        exact back I8 q8
      | true =>
        rw [if_pos rfl] at q8 ⊢
        have ea := he _ s8 _ H8 _ I8 q8
        rw [hX] at ea
        refine thn ea fun v s9 ⟨x9, H9, I9, r9, ys, hD9, hz9, q9⟩ => ?_
        have aa := mt_append (X := Y) _ s9 _ H9 (.ref D) [x9] (.ref D) [v] (fun _ H' => ∃ m', m' < n /\ W (i + 1) m' H') I9 rfl (.cons r9 .nil) ⟨D, ys, x9, rfl, rfl, hD9, hz9, q9⟩
        rw [hX] at aa
        exact thn aa fun _ s10 ⟨_, H10, I10, _, q10⟩ => back I10 q10
  exact inner_start loop (T.self Y.A 0 _ _ _ st2 loop)
end
section
variable {X:Cx}
theorem comp_core2 {elt tg iter tg1 iter1 : Expr} {ifs ifs1 : List Expr} {scope : Scope} {pos : Pos} {own : List Str} {sel : List Nat} {wi : TI} {i0 : Nat} {tt : TT} {wi1 : TI} {i1 : Nat} {tt1 : TT} {te : TE} {use : Option (Value -> Sem Unit)} {Qo : Value -> Shared -> Prop}
    (S : CompOk X.env.scope X.N own sel scope) (hc : X.calm = true) (hi : PI X tg iter wi)
    (h01 : i0 ≠ i1 /\ i0 < own.length /\ i1 < own.length) (hg : ∀ cl C s2 H2 fp, PG (cxIn X own sel scope cl C s2 H2 fp) tg (gName i0))
    (ht : ∀ cl C s2 H2 fp, PIf (cxIn X own sel scope cl C s2 H2 fp) ifs tt) (hi1 : ∀ cl C s2 H2 fp, PI (cxIn X own sel scope cl C s2 H2 fp) tg1 iter1 wi1) (hg1 : ∀ cl C s2 H2 fp, PG (cxIn X own sel scope cl C s2 H2 fp) tg1 (gName i1)) (ht1 : ∀ cl C s2 H2 fp, PIf (cxIn X own sel scope cl C s2 H2 fp) ifs1 tt1) (he : ∀ cl C s2 H2 fp, PE (cxIn X own sel scope cl C s2 H2 fp) elt te)
    (hs : ∀ x, foldedSetIterable iter X.env x = pure x) (hs1 : ∀ cl C s2 H2 fp x, foldedSetIterable iter1 (cxIn X own sel scope cl C s2 H2 fp).env x = pure x) {pins : List (Addr × Obj)} {s : Shared} {σ : St} {H : Hp} {Q : VK} {ps : Pos} (I0 : Inv X pins σ H s) (h : tComp2 own sel wi i0 tt wi1 i1 tt1 te σ H Q)
    (fin : ∀ (D C : Addr) (H' : Hp) (s' : Shared) (m : Str -> Option Value), Inv X pins σ H' s' -> s'.heap.Ns C m -> Far X pins H' C -> Q (.ref D) H' -> compPost (model X.prog X.w) X.A X.xe use Qo (.ref D) C (.ok .next) s') :
    wpAny (model X.prog X.w) X.A (comprehension (.ListComp elt [⟨tg, iter, ifs, 0⟩, ⟨tg1, iter1, ifs1, 0⟩] scope pos) scope X.env ps (newList []) false (eval iter X.env) use) Qo X.xe s := by
  obtain ⟨cl, hclos, hcl, hfree⟩ := clos_ex (scope := scope) (env := X.env) fun y hy e => I0.ok.has y.1 (S.free y hy e)
  refine wpAny_comprehension_free (use := use) rfl hs hclos S.kind S.names (thn (hi pins s σ H _ I0 h) fun v s1 h1 => thn h1 fun itv s2 h2 => ?_)
  obtain ⟨it, fp, tn, J, H2, e, I, T, st2, f2, h3⟩ := h2
  subst e
  clear h h1 I0
  refine wpAny_newObj_type (wpAny_newFunctionEnv S.cell (by intro y hy; simp at hy) (fun h1 hns1 hsb1 => ?_) S.kind)
  dsimp only at hns1 hsb1 ⊢
  generalize hP : s2.heap.push { cls := .type "list", dict := none, data := .seq ([] : List Value).toArray } = P1 at hns1 hsb1 ⊢
  generalize hD : s2.heap.objs.size = D at hns1 hsb1 ⊢
  generalize hC : P1.objs.size = C at hns1 hsb1 ⊢
  have hCD : C = D + 1 := by rw [<- hC, <- hP, Heap.size_push, hD]
  have hlt : D < C := by rw [hCD]; exact Nat.lt_succ_self D
  have hDC : D ≠ C := Nat.ne_of_lt hlt
  have neC : ∀ b : Addr, b < D -> b ≠ C := fun b hb => Nat.ne_of_lt (Nat.lt_trans hb hlt)
  have neD : ∀ b : Addr, b < D -> b ≠ D := fun b hb => Nat.ne_of_lt hb
  have hsD : s2.heap.objs.size <= D := Nat.le_of_eq hD
  have hsC : s2.heap.objs.size <= C := Nat.le_trans hsD (Nat.le_of_lt hlt)
  have fresh : ∀ a, D <= a -> H2 a = none := fun a ha => I.hok.fresh (by rw [hD]; exact ha)
  have hnD : H2 D = none := fresh D (Nat.le_refl _)
  have hnC : H2 C = none := fresh C (Nat.le_of_lt hlt)
  have below : ∀ b o, s2.heap.get? b = some o -> b < D := fun b o e => by rw [<- hD]; exact Heap.lt_size e
  have keep1 : ∀ b o, s2.heap.get? b = some o -> h1.get? b = some o := fun b o e =>
    hsb1.extBut b o (neC b (below b o e)) (Heap.get?_push_of_some _ (hP ▸ Heap.get?_push_of_some _ e))
  have gD : h1.get? D = some { cls := .type "list", dict := none, data := .seq ([] : List Value).toArray } := by
    refine hsb1.extBut _ _ hDC (Heap.get?_push_of_some _ ?_)
    rw [<- hP, <- hD]
    exact Heap.get?_push_size _ rfl
  obtain ⟨W, ⟨m0, w0⟩, turn⟩ := h3 D hnD
  have fpb : ∀ b ∈ fp, b < D := fun b hb => by obtain ⟨o, e, _⟩ := T.obj _ _ st2 b hb; exact below b o e
  generalize hY : cxIn X own sel scope cl C s2 H2 fp = Y
  have hg := hg cl C s2 H2 fp
  have ht := ht cl C s2 H2 fp
  have he := he cl C s2 H2 fp
  have hi1 := hi1 cl C s2 H2 fp
  have hg1 := hg1 cl C s2 H2 fp
  have ht1 := ht1 cl C s2 H2 fp
  have hs1 := hs1 cl C s2 H2 fp
  rw [hY] at hg ht he hi1 hg1 ht1 hs1
  have okY : Y.Ok := by
    subst hY
    refine ⟨I.ok.mod, S.kind, I.ok.glob, I.ok.blt, ?_, fun x y c a b => I.ok.inj x y c (hcl _ _ a) (hcl _ _ b), fun x hx => ?_, (fun _ _ z => nomatch z), fun z => I.ok.hd z, I.ok.frames, .inl rfl, fun b hb => ⟨?_, fun x c e => (f2 b hb).2.2.2.2.1 x c (hcl _ _ e)⟩, I.bs,
      Nat.le_trans I.ok.bsz I.sz, fun b o e hb => ?_, fun b hb z => ?_, I.stack, I.stkFree⟩
    · exact hsC
    · have hx' : (relabel scope X.env).names.lookup x = some .cell \/ (relabel scope X.env).names.lookup x = some .free := hx
      have hf : scope.names.lookup x = some .free := by
        rcases hx' with z | z
        · rcases relabel_lookup z with q | q
          · exact absurd rfl (S.cell _ (PySem.mem_of_lookup q))
          · exact q
        · rcases relabel_lookup z with q | q <;> exact q
      exact hfree _ (PySem.mem_of_lookup hf) rfl
    · exact neC b (fpb b hb)
    · rcases (f2 b hb).2.2.2.1 with z | z
      · exact I.ok.noex b o e z
      · exact absurd (Nat.lt_of_lt_of_le (Heap.lt_size e) (Nat.le_trans I.ok.bsz z)) (Nat.lt_irrefl _)
    · rcases List.mem_cons.mp (I.stkSub b z) with q | q
      · exact (f2 b hb).2.1 q
      · exact (f2 b hb).2.2.1 q
  have eo : ObjOk X.prog X.w (upd H2 D (.lst [])) h1 D (.lst []) := ⟨by decide, [], _, .nil, gD⟩
  have I1 : Inv Y [] (inSt own sel σ) (upd H2 D (.lst [])) { s2 with heap := h1, toks := s2.toks + ([] : List (Str × Value)).length } := by
    subst hY
    refine ⟨okY, rfl, I.bare, Un.laid keep1 hsD hnD, ⟨_, hns1, fun i x v e1 e2 e3 => ?_⟩, fun x c e => ?_, ?_, fun x c e => ?_, fun p hp => absurd (show p ∈ ([] : List (Addr × Obj)) from hp) (by simp), I.hok.laid keep1 hsD eo, ?_⟩
    · obtain ⟨k, j, ei, ej, es⟩ := inSt_sel e2
      subst ei
      have e1' : (own ++ sel.map fun j => X.N.getD j Str.empty)[own.length + k]? = some x := e1
      rw [List.getElem?_append_right (by omega), List.getElem?_map, show own.length + k - own.length = k by omega, ej] at e1'
      simp only [Option.map_some, Option.some.injEq] at e1'
      obtain ⟨hj, hfx, hkd⟩ := S.seln j (List.mem_of_getElem? ej)
      have hN : X.N[j]? = some x := by rw [<- e1', List.getD_eq_getElem?_getD, List.getElem?_eq_getElem hj]; rfl
      rw [e1'] at hkd hfx
      obtain ⟨m, _, hl⟩ := I.loc
      obtain ⟨u, r, lk⟩ := hl j x v hN es (.inr hkd)
      refine ⟨u, r, .inr ⟨relabel_free I.ok.kind hfx, ?_⟩⟩
      rcases lk with ⟨z1, _⟩ | ⟨_, c, hc1, hc2⟩
      · have z1' : X.env.scope.names.lookup x = some .local := z1
        rcases hkd with q | q <;> (rw [z1'] at q; cases q)
      · obtain ⟨c', q⟩ := hfree _ (PySem.mem_of_lookup hfx) rfl
        have q2 := hcl _ _ q
        rw [hc1] at q2
        cases q2
        exact ⟨c, q, hc2.keeps keep1⟩
    · obtain ⟨u, z⟩ := I.cell x c (hcl _ _ e)
      exact ⟨u, z.keeps keep1⟩
    · show upd H2 D (.lst []) C = none
      rw [upd_ne (Ne.symm hDC)]; exact hnC
    · have q := I.freeC x c (hcl _ _ e)
      obtain ⟨u, o, z, _⟩ := I.cell x c (hcl _ _ e)
      rw [upd_ne (neD c (below c o z))]
      exact q
    · show (inSt own sel σ).length = (own ++ sel.map fun j => X.N.getD j Str.empty).length
      rw [inSt_len]; simp
  have fin : ∀ (σ' : St) (H' : Hp) (s' : Shared), Inv Y [] σ' H' s' -> Q (.ref D) H' -> compPost (model X.prog X.w) X.A X.xe use Qo (.ref D) C (.ok .next) s' := by
    intro σ' H' s' I' q
    subst hY
    obtain ⟨m, hn, _⟩ := I'.loc
    have J' : Inv X pins σ H' s' := I.call' I'.os I'.base I'.hok I'.bare fun b hb => ⟨(f2 b hb).2.2.2.1, (f2 b hb).2.1, (f2 b hb).2.2.2.2.1, (f2 b hb).2.2.2.2.2⟩
    refine fin D C H' s' m J' hn ⟨I'.free, Ne.symm (neC _ (by rw [<- hD]; exact I.lt)), Nat.le_trans I.sz hsC, fun x c e => ?_, fun p hp => ?_⟩ q
    · obtain ⟨u, o, z, _⟩ := I.cell x c e
      exact neC c (below c o z)
    · exact neC p.1 (below p.1 p.2 (I.pin p hp).1)
  have stat : ∀ {H' : Hp}, (∀ b ∈ fp, H' b = none) -> ∀ b ∈ fp, FpOk Y [] H' b := fun {H'} hn b hb => by
    subst hY
    refine ⟨hn b hb, neC b (fpb b hb), fun z => ?_, .inl hb, fun x c e => (f2 b hb).2.2.2.2.1 x c (hcl _ _ e), fun p hp => absurd (show p ∈ ([] : List (Addr × Obj)) from hp) (by simp)⟩
    rcases List.mem_cons.mp (I.stkSub b z) with q | q
    · exact (f2 b hb).2.1 q
    · exact (f2 b hb).2.2.1 q
  have loop : ∀ s3 : Shared, s3 = { s2 with heap := h1, toks := s2.toks + ([] : List (Str × Value)).length } ->
      codeAny (model X.prog X.w) X.A (.compLoop (.ListComp elt [⟨tg, iter, ifs, 0⟩, ⟨tg1, iter1, ifs1, 0⟩] scope pos) 0 (.ref it) (.ref D) (compEnvC scope cl C X.env)) (compPost (model X.prog X.w) X.A X.xe use Qo (.ref D) C) s3 := by
    rintro s3 rfl
    have eP : Y.prog = X.prog := by subst hY; rfl
    have eW : Y.w = X.w := by subst hY; rfl
    have eA : Y.A = X.A := by subst hY; rfl
    have eK : Y.K = X.K := by subst hY; rfl
    have eE : Y.env = compEnvC scope cl C X.env := by subst hY; rfl
    have eX : Y.xe = fun _ _ => False := by subst hY; rfl
    have eC : Y.calm = true := by subst hY; exact hc
    refine outer_turns (by rw [<- eE]; exact hs1) (fun n s' => ∃ i H', Inv Y [] (inSt own sel σ) H' s' /\ tn i s'.heap /\ (∀ b ∈ fp, H' b = none) /\ W i n H') ?_ m0
      ⟨0, _, I1, T.keep _ _ _ st2 fun b _ o e => keep1 b o e, fun b hb => by rw [upd_ne (neD b (fpb b hb))]; exact (f2 b hb).1, w0⟩
    rintro n s4 ⟨i, H4, I4, st4, fr4, w4⟩
    rcases turn i n H4 w4 with ⟨stop, q⟩ | ⟨go, step⟩
    · have dn := T.done Y eP eW eK eC i [] s4 _ H4 (fun _ _ => False) I4 (stat fr4) st4 stop
      rw [eA] at dn
      refine thn dn fun r s5 ⟨hr, I5⟩ => ?_
      subst hr
      exact fin _ _ _ I5 q
    · have im := T.item Y eP eW eK eC i [] s4 _ H4 (fun _ _ => False) I4 (stat fr4) st4 go
      rw [eA] at im
      refine thn im fun r s5 ⟨u, hr, h5⟩ => ?_
      subst hr
      refine thn h5 fun _ s6 ⟨x, H6, I6, r6, y6, st6, fr6⟩ => ?_
      have I6' := I6.pinned (stat fr6) (T.obj _ _ st6)
      have back : ∀ {σ7 : St} {H7 : Hp} {s7 : Shared} {k : Nat}, Inv Y ([] ++ pinsAt fp s6.heap) σ7 H7 s7 -> σ7.length = (inSt own sel σ).length -> (∀ j, own.length <= j -> σ7[j]? = (inSt own sel σ)[j]?) -> (∃ m', m' < n /\ W (i + 1) m' H7) ->
          ∃ m', m' < n /\ ∃ i H', Inv Y [] (inSt own sel σ) H' s7 /\ tn i s7.heap /\ (∀ b ∈ fp, H' b = none) /\ W i m' H' := fun {σ7 H7 s7 k} I7 l7 k7 w7 => by
        obtain ⟨m', hm, w7⟩ := w7
        refine ⟨m', hm, i + 1, H7, I7.unpinned.weak l7.symm fun j v e => ?_, T.keep _ _ _ st6 fun b hb o e => (I7.pin (b, o) (List.mem_append_right _ (List.mem_append_right _ (mem_pinsAt hb e)))).1, fun b hb => ?_, w7⟩
        · by_cases hj : j < own.length
          · rw [inSt_own hj] at e; cases e
          · rw [k7 j (Nat.le_of_not_lt hj)]; exact e
        · obtain ⟨o, e, d⟩ := T.obj _ _ st6 b hb
          exact (I7.pin (b, o) (List.mem_append_right _ (List.mem_append_right _ (mem_pinsAt hb e)))).2.1
      have ga := hg _ s6 _ H6 x u _ I6' r6 (show gName i0 x (inSt own sel σ) H6 (fun σ' H' => σ' = (inSt own sel σ).set i0 (some x) /\ H' = H6) from ⟨rfl, rfl⟩)
      rw [eP, eW, eA, eE, eX] at ga
      refine thn ga fun _ s7 ⟨σ7, H7, I7, e7, e7'⟩ => ?_
      subst e7; subst e7'
      have l7 : ((inSt own sel σ).set i0 (some x)).length = (inSt own sel σ).length := by simp
      have k7 : ∀ j, own.length <= j -> ((inSt own sel σ).set i0 (some x))[j]? = (inSt own sel σ)[j]? := fun j hj => List.getElem?_set_ne (by omega)
      have ta := ht _ s7 _ _ _ I7 (step x H7 y6)
      rw [eP, eW, eA, eE, eX] at ta
      refine thn ta fun b s8 ⟨H8, I8, q8⟩ => ?_
      cases b with
      | false =>
        rw [if_neg Bool.false_ne_true] at q8 ⊢
        exact back (k := 0) I8 l7 k7 q8
      | true =>
        rw [if_pos rfl] at q8 ⊢
        have hn1 : ((inSt own sel σ).set i0 (some x))[i1]? = some none := by
          rw [List.getElem?_set_ne h01.1]; exact inSt_own h01.2.2
        have ic := inner_core (Y := Y) (tg := tg) (iter := iter) (ifs := ifs) (scope := scope) (pos := pos) eX eC hi1 hg1 ht1 he I8 hn1 q8 (R := fun r s6 => r = .ok .next /\ ∃ m', m' < n /\ ∃ i H', Inv Y [] (inSt own sel σ) H' s6 /\ tn i s6.heap /\ (∀ b ∈ fp, H' b = none) /\ W i m' H') fun H9 s9 I9 q9 => ⟨rfl, back (k := 0) I9 l7 k7 q9⟩
        rw [eP, eW, eA, eE] at ic
        exact ic
  exact codeAny_compStart_list (loop _ rfl) (T.self X.A 0 _ _ _ (T.keep _ _ _ st2 fun b _ o e => keep1 b o e) (loop _ rfl))
theorem ps_setComp2 {i:Nat} {x:Str} {pos' spos:Pos} {elt tg iter tg1 iter1:Expr} {ifs ifs1:List Expr} {scope:Scope} {pos:Pos} {own:List Str} {sel:List Nat} {wi:TI} {i0:Nat} {tt:TT} {wi1:TI} {i1:Nat} {tt1:TT} {te:TE}
  (hN:X.N.Nodup) (hix:X.N[i]? = some x) (hx:Loc X.env.scope x)
  (S:CompOk X.env.scope X.N own sel scope) (hc:X.calm = true) (hi:PI X tg iter wi) (h01:i0 ≠ i1/\i0 < own.length/\i1 < own.length) (hg:∀ cl C s2 H2 fp,PG (cxIn X own sel scope cl C s2 H2 fp) tg (gName i0))
  (ht:∀ cl C s2 H2 fp,PIf (cxIn X own sel scope cl C s2 H2 fp) ifs tt) (hi1:∀ cl C s2 H2 fp,PI (cxIn X own sel scope cl C s2 H2 fp) tg1 iter1 wi1) (hg1:∀ cl C s2 H2 fp,PG (cxIn X own sel scope cl C s2 H2 fp) tg1 (gName i1)) (ht1:∀ cl C s2 H2 fp,PIf (cxIn X own sel scope cl C s2 H2 fp) ifs1 tt1) (he:∀ cl C s2 H2 fp,PE (cxIn X own sel scope cl C s2 H2 fp) elt te)
  (hs:∀ x,foldedSetIterable iter X.env x = pure x:=by intro _; rfl) (hs1:∀ cl C s2 H2 fp x,foldedSetIterable iter1 (cxIn X own sel scope cl C s2 H2 fp).env x = pure x:=by intro _ _ _ _ _ _; rfl)
  (hsw:swapsWith (.ListComp elt [⟨tg,iter,ifs,0⟩,⟨tg1,iter1,ifs1,0⟩] scope pos) (some (.Name x pos')) spos.line X.env = pure true:=by rfl)
  (hf:X.fn x = true\/X.env.scope.names.lookup x = some .local:=by first | exact .inl rfl | exact .inr rfl | assumption) :
  PS X (.Assign [.Name x pos'] (.ListComp elt [⟨tg,iter,ifs,0⟩,⟨tg1,iter1,ifs1,0⟩] scope pos) spos) (tAsg (tComp2 own sel wi i0 tt wi1 i1 tt1 te) (gName i)):=by
 intro pins s σ H D0 I h
 rw [exec_Assign_Name_used _ _ _ _ hsw]
 refine wpAny_bind (wpAny_standAt (wpAny_bind ?_))
 show wpAny _ X.A (do let _ <- comprehension (.ListComp elt [⟨tg,iter,ifs,0⟩,⟨tg1,iter1,ifs1,0⟩] scope pos) scope X.env _ (newList []) false (eval iter X.env) (some (assign (.Name x pos') X.env))) _ _ s
 refine wpAny_bind (wpAny_mono (comp_core2 (use:=some (assign (.Name x pos') X.env)) (Qo:=fun _ s'=>SP X pins D0 .next s') S hc hi h01 hg ht hi1 hg1 ht1 he hs hs1 I h fun D C H' s' m I' hn f q=>?_) (fun _ s' hq=>wpAny_pure (wpAny_pure hq)) fun _ _ e=>e)
 show wpAny _ X.A (assign (.Name x pos') X.env (.ref D)) _ _ _
 refine wpAny_assign_Name (store_ok2 (v:=V.ref D) I' hN hix hx rfl (fun s2 I2 ⟨a,k,ha⟩=>?_) hf)
 have haC:C ≠ a:=by
  rcases ha with rfl | ha
  ·exact f.nl
  ·exact Ne.symm (f.nc x a ha)
 exact ⟨m,hn.sameBut k haC,fun h' k'=>⟨_,H',I2.far f k',q⟩⟩
end
end L2
namespace L2
open PySem PySem.Spec PyProof.Rows BrR
section
variable {X:Cx}
def rAny (K:PySem.W.Frag):List V->Hp->VK->Prop:=fun xs H Q=>∃ (a:Addr) (ns:List Int),xs = [.ref a]/\SqL K H a (ns.map V.int)/\Q (.bl (ns.any fun n=>n != 0)) H
theorem call_anyI (K:PySem.W.Frag) (hc:X.calm = true) (hK:X.K = K:=by rfl):CallR X (.builtin "any") (rAny K):=by
 subst hK
 intro pins s σ H xs us Q I r ⟨a,ns,e,hq,q⟩
 subst e
 obtain ⟨u,rfl,ru⟩:=vals1 r
 cases ru
 obtain ⟨its,rv,pl,hz⟩:=I.list hq
 obtain ⟨ol,hol,_⟩:=id pl.isList
 have hl:a < s.heap.objs.size:=Heap.lt_size hol
 have hlen:=rv.length
 rw [List.length_map] at hlen
 refine call_any_walk (wpAny_pyIter_list pl.isList ⟨s.heap.objs.size,_,_,_,_,_,fun i=>ns.getD i 0 != 0,rfl,Walks.list (A:=X.A.in1) (I.ok.hd hc) s.heap.objs.size a (Nat.ne_of_lt hl) its.toArray,⟨⟨_,Heap.get?_push_size _ rfl,rfl,rfl⟩,pl.isList.at fun o e=>Heap.get?_push_of_some _ e⟩,?_,fun h' tk kk=>?_⟩)
 ·intro i v s' Q' E' hv hQ'
  have hv':its[i]? = some v:=by simpa using hv
  have hi:i < ns.length:=by rw [hlen]; exact (List.getElem?_eq_some_iff.mp hv').1
  obtain ⟨w',e1,e2⟩:=rv.get (i:=i) (x:=V.int ns[i]) (by simp [hi])
  rw [hv'] at e1
  cases e1
  obtain ⟨t,rfl⟩:=e2
  have en:ns.getD i 0 = ns[i]:=by simp [List.getD_eq_getElem?_getD,hi]
  simp only [en] at hQ'
  exact truthy_int hQ'
 ·have e:(List.range its.toArray.size).any (fun i=>ns.getD i 0 != 0) = ns.any fun n=>n != 0:=by
   rw [List.size_toArray,<- hlen,Bool.eq_iff_iff]
   simp only [List.any_eq_true,List.mem_range]
   constructor
   ·rintro ⟨i,hi,h⟩
    exact ⟨ns[i],List.getElem_mem hi,by simpa [List.getD_eq_getElem?_getD,hi] using h⟩
   ·rintro ⟨n,hn,h⟩
    obtain ⟨i,hi,rfl⟩:=List.mem_iff_getElem.mp hn
    exact ⟨i,hi,by simpa [List.getD_eq_getElem?_getD,hi] using h⟩
  rw [e]
  refine ⟨.bl _,H,I.kept fun b o z=>kk b o ?_ (Heap.get?_push_of_some _ z),rfl,q⟩
  have:=Heap.lt_size z
  intro zz
  have hb:b = s.heap.objs.size:=by simpa using zz
  rw [hb] at this
  exact absurd this (Nat.lt_irrefl _)
def evens {α:Type}:List α->List α
 | []=>[]
 | [x]=>[x]
 | x :: _ :: r=>x :: evens r
theorem evens_pick {α : Type} : ∀ (n : Nat) (a pre : List α), a.length <= n -> ((List.range ((a.length + 1) / 2)).map fun k => pre.length + 2 * k).filterMap (fun j => (pre ++ a)[j]?) = evens a
  | _, [], pre, _ => by simp [evens]
  | _, [x], pre, _ => by simp [evens]
  | 0, x :: y :: r, pre, h => by simp at h
  | n + 1, x :: y :: r, pre, h => by
    have ih := evens_pick n r (pre ++ [x, y]) (by simp at h; omega)
    have e : ((x :: y :: r).length + 1) / 2 = (r.length + 1) / 2 + 1 := by simp; omega
    rw [e, List.range_succ_eq_map, List.map_cons, List.filterMap_cons]
    have e1 : (pre ++ x :: y :: r)[pre.length + 2 * 0]? = some x := by simp
    rw [e1]
    simp only [List.map_map, evens]
    congr 1
    rw [<- ih]
    have e2 : ((fun k => pre.length + 2 * k) ∘ Nat.succ) = fun k => (pre ++ [x, y]).length + 2 * k := by
      funext k; simp; omega
    rw [e2, List.append_assoc]
    rfl
theorem two_run (n:Nat):sliceRange 0 (n:Int) 2 = (List.range ((n + 1) / 2)).map fun k=>0 + 2 * k:=by
 unfold sliceRange
 have e:(if (2:Int) > 0 then (if (0:Int) < (n:Int) then ((n:Int) - 0 + 2 - 1) / 2 else 0) else (if (0:Int) > (n:Int) then (0 - (n:Int) - 2 - 1) / (-2) else 0)).toNat = (n + 1) / 2:=by
  rw [if_pos (by decide)]
  split <;> omega
 simp only [e]
 refine List.map_congr_left fun k hk=>?_
 omega
theorem vals_evens:∀ (n:Nat) {xs:List V} {us:List Value},xs.length <= n->Vals xs us->Vals (evens xs) (evens us)
 | _,_,_,_,.nil=>.nil
 | _,_,_,_,.cons r .nil=>.cons r .nil
 | 0,_,_,h,.cons r (.cons r2 rr)=>by simp at h
 | n + 1,_,_,h,.cons r (.cons r2 rr)=>.cons r (vals_evens n (by simp at h; omega) rr)
def tTwo (K:PySem.W.Frag) (te ts:TE):TE:=fun σ H Q=>te σ H fun x H1=>ts σ H1 fun y H2=>y = .int 2/\∃ p xs,x = .ref p/\SqL K H2 p xs/\∀ r,H2 r = none->Q (.ref r) (upd H2 r (.lst (evens xs)))
theorem evens_len {α:Type}:∀ (n:Nat) (a:List α),a.length <= n->(evens a).length <= a.length
 | _,[],_=>Nat.le_refl _
 | _,[x],_=>Nat.le_refl _
 | 0,x :: y :: r,h=>by simp at h
 | n + 1,x :: y :: r,h=>by have:=evens_len n r (by simp at h; omega); simp [evens]; omega
theorem pe_two (K:PySem.W.Frag) {e st:Expr} {te ts:TE} {p2 pos:Pos} (he:PE X e te) (hs:PE X st ts) (hK:X.K = K:=by rfl):PE X (.Subscript e (.Slice none none (some st) p2) pos) (tTwo K te ts):=by
 subst hK
 intro pins s σ H Q I h
 refine Subscript_ (thn (he pins s σ H _ I h) fun v s1 ⟨x,H1,I1,r1,q1⟩=>?_)
 refine wpAny_Slice ?_
 rw [evalPart_none]
 refine wpAny_pure (wpAny_pure ?_)
 rw [evalPart_some]
 refine thn (hs pins s1 σ H1 _ I1 q1) fun u s2 ⟨y,H2,I2,r2,q2⟩=>?_
 obtain ⟨rfl,q⟩:=q2
 obtain ⟨tk,rfl⟩:=r2
 have I4:Inv X pins σ H2 { s2 with heap:=s2.heap.push { cls:=.type "slice",data:=.fields #[.none,.none,.int 2 tk] } }:=I2.kept (t':=s2.toks) fun b ob q=>Heap.get?_push_of_some _ q
 show wpAny (model X.prog X.w) X.A (subscriptTail e (.Slice none none (some st) p2) v (.ref s2.heap.objs.size)) (EP X pins σ Q) X.xe { s2 with heap:=s2.heap.push { cls:=.type "slice",data:=.fields #[.none,.none,.int 2 tk] } }
 obtain ⟨p,xs,rfl,hx,q⟩:=q
 cases r1
 obtain ⟨its,r,ht,hz⟩:=I4.list hx
 have hlen:=r.length
 refine tail_any (ops:=[.ref p,.ref s2.heap.objs.size]) ht.isList.typeIs slot_list_getitem.lookup ?_ (by with_unfolding_all rfl)
 refine wpAny_getItem_list_slice ht.isList (Heap.IsSliceOf.new ..) .none .none (.int 2 tk) (by simp) ?_ (by rw [List.size_toArray] <;> omega)
 have ep:slicePick its.toArray none none (some 2) = (evens its).toArray:=by
  unfold slicePick
  have e:sliceBounds none none (some 2) its.toArray.size = (0,(its.length:Int),2):=by rw [List.size_toArray]; rfl
  rw [e]
  show ((sliceRange 0 (its.length:Int) 2).filterMap _).toArray = _
  rw [two_run]
  simp only [List.getElem?_toArray]
  congr 1
  exact evens_pick its.length its [] (Nat.le_refl _)
 rw [ep]
 refine ⟨.ref _,_,I4.laid (o:=.lst (evens xs)) (fun b ob q=>Heap.get?_push_of_some _ q) (Nat.le_refl _) ?_,rfl,q _ (I4.hok.fresh (Nat.le_refl _))⟩
 exact ⟨Nat.le_trans (evens_len xs.length xs (Nat.le_refl _)) hz,_,0,vals_evens xs.length (Nat.le_refl _) r,Heap.get?_push_size _ rfl⟩
end
end L2
namespace BrS
open L2 PySem BrM BrC BrR
def Go (k:Nat):List Nat->List Nat->List Nat->Prop
 | [],s,t=>s = t
 | c :: a,s,t=>(∃ p,p < k/\0 < pw k c (2 * p)/\Go k a (p :: s) t)\/(∃ o r,s = o :: r/\0 < pw k c (2 * o + 1)/\Go k a r t)
variable {k:Nat}
theorem Go.app : ∀ {a b s u t : List Nat}, Go k a s u -> Go k b u t -> Go k (a ++ b) s t
  | [], _, _, _, _, h, g => by cases h; exact g
  | c :: a, b, s, u, t, h, g => by
    rcases h with ⟨p, h1, h2, h3⟩ | ⟨o, r, h1, h2, h3⟩
    · exact .inl ⟨p, h1, h2, h3.app g⟩
    · exact .inr ⟨o, r, h1, h2, h3.app g⟩
theorem Go.split : ∀ {a b s t : List Nat}, Go k (a ++ b) s t -> ∃ u, Go k a s u /\ Go k b u t
  | [], _, _, _, h => ⟨_, rfl, h⟩
  | c :: a, b, s, t, h => by
    rcases h with ⟨p, h1, h2, h3⟩ | ⟨o, r, h1, h2, h3⟩
    · obtain ⟨u, x, y⟩ := Go.split h3; exact ⟨u, .inl ⟨p, h1, h2, x⟩, y⟩
    · obtain ⟨u, x, y⟩ := Go.split h3; exact ⟨u, .inr ⟨o, r, h1, h2, x⟩, y⟩
theorem Go.lift (q : List Nat) : ∀ {a s t : List Nat}, Go k a s t -> Go k a (s ++ q) (t ++ q)
  | [], _, _, h => by cases h; rfl
  | c :: a, s, t, h => by
    rcases h with ⟨p, h1, h2, h3⟩ | ⟨o, r, h1, h2, h3⟩
    · exact .inl ⟨p, h1, h2, h3.lift q⟩
    · subst h1; exact .inr ⟨o, r ++ q, rfl, h2, h3.lift q⟩
theorem go_ws (r : List Nat) : ∀ (a s : List Nat), 0 < ws k (a ++ r) s ↔ ∃ t, Go k a s t /\ 0 < ws k r t
  | [], s => ⟨fun h => ⟨s, rfl, h⟩, fun ⟨t, h, g⟩ => by cases h; exact g⟩
  | c :: a, s => by
    have nn := fun s => ws_nonneg (k := k) (a ++ r) s
    have po := fun b => pw_nonneg k c b
    have key : ∀ f : Nat -> Int, (∀ p, 0 <= f p) -> (0 < sm k f ↔ ∃ p, p < k /\ 0 < f p) := by
      intro f hf
      constructor
      · intro h
        refine Classical.byContradiction fun z => ?_
        have : sm k f = 0 := BrC.sm_zero k fun p hp => by
          have h1 := hf p
          have h2 : ¬ 0 < f p := fun y => z ⟨p, hp, y⟩
          omega
        omega
      · rintro ⟨p, hp, h⟩
        have := sm_ge (f := f) hp fun j _ => hf j
        omega
    have mul : ∀ {x y : Int}, 0 <= x -> 0 <= y -> (0 < x * y ↔ 0 < x /\ 0 < y) := by
      intro x y hx hy
      constructor
      · intro h
        constructor
        · rcases Int.lt_or_eq_of_le hx with z | z
          · exact z
          · rw [<- z] at h; simp at h
        · rcases Int.lt_or_eq_of_le hy with z | z
          · exact z
          · rw [<- z] at h; simp at h
      · rintro ⟨a, b⟩; exact Int.mul_pos a b
    have k1 := key (fun p => pw k c (2 * p) * ws k (a ++ r) (p :: s)) fun p => Int.mul_nonneg (po _) (nn _)
    have f1 : (0 < sm k (fun p => pw k c (2 * p) * ws k (a ++ r) (p :: s))) ↔ ∃ p, p < k /\ 0 < pw k c (2 * p) /\ ∃ t, Go k a (p :: s) t /\ 0 < ws k r t := by
      rw [k1]
      constructor
      · rintro ⟨p, hp, h⟩
        obtain ⟨h1, h2⟩ := (mul (po _) (nn _)).mp h
        exact ⟨p, hp, h1, (go_ws r a (p :: s)).mp h2⟩
      · rintro ⟨p, hp, h1, h2⟩
        exact ⟨p, hp, (mul (po _) (nn _)).mpr ⟨h1, (go_ws r a (p :: s)).mpr h2⟩⟩
    have s1 : 0 <= sm k (fun p => pw k c (2 * p) * ws k (a ++ r) (p :: s)) := sm_nonneg k fun p _ => Int.mul_nonneg (po _) (nn _)
    cases s with
    | nil =>
      rw [List.cons_append, ws_nil, f1]
      constructor
      · rintro ⟨p, hp, h1, t, h2, h3⟩; exact ⟨t, .inl ⟨p, hp, h1, h2⟩, h3⟩
      · rintro ⟨t, (⟨p, hp, h1, h2⟩ | ⟨o, q, e, _⟩), h3⟩
        · exact ⟨p, hp, h1, t, h2, h3⟩
        · cases e
    | cons o q =>
      rw [List.cons_append, ws_cons]
      have s2 : 0 <= pw k c (2 * o + 1) * ws k (a ++ r) q := Int.mul_nonneg (po _) (nn _)
      have f2 : 0 < pw k c (2 * o + 1) * ws k (a ++ r) q ↔ 0 < pw k c (2 * o + 1) /\ ∃ t, Go k a q t /\ 0 < ws k r t := by
        rw [mul (po _) (nn _), go_ws r a q]
      constructor
      · intro h
        by_cases h1 : 0 < sm k (fun p => pw k c (2 * p) * ws k (a ++ r) (p :: o :: q))
        · obtain ⟨p, hp, h1, t, h2, h3⟩ := f1.mp h1; exact ⟨t, .inl ⟨p, hp, h1, h2⟩, h3⟩
        · obtain ⟨h4, t, h5, h6⟩ := f2.mp (by omega); exact ⟨t, .inr ⟨o, q, rfl, h4, h5⟩, h6⟩
      · rintro ⟨t, (⟨p, hp, h1, h2⟩ | ⟨o', q', e, h1, h2⟩), h3⟩
        · have := f1.mpr ⟨p, hp, h1, t, h2, h3⟩; omega
        · cases e
          have := f2.mpr ⟨h1, t, h2, h3⟩; omega
theorem go_right (a:List Nat):Go k a [] [] ↔ 0 < ws k a []:=by
 have:=go_ws (k:=k) [] a []
 rw [List.append_nil] at this
 rw [this]
 constructor
 ·intro h; exact ⟨[],h,by show (0:Int) < 1; decide⟩
 ·rintro ⟨t,h1,h2⟩
  cases t with
  | nil=>exact h1
  | cons o r=>exact absurd h2 (by show ¬ (0:Int) < 0; decide)
theorem Go.last : ∀ (n : Nat) (a : List Nat) (o : Nat) (t : List Nat), a.length <= n -> Go k a [] (o :: t) -> ∃ (x y : List Nat) (c : Nat), a = x ++ c :: y /\ o < k /\ 0 < pw k c (2 * o) /\ Go k x [] t /\ Go k y [] []
  | 0, a, o, t, hn, h => by
    have e : a = [] := List.eq_nil_of_length_eq_zero (by omega)
    subst e; cases h
  | n + 1, a, o, t, hn, h => by
    rcases List.eq_nil_or_concat a with e | ⟨b, c, e⟩
    · subst e; cases h
    · rw [List.concat_eq_append] at e
      subst e
      have hb : b.length <= n := by simp at hn; exact hn
      obtain ⟨u, h1, h2⟩ := Go.split h
      rcases h2 with ⟨p, hp, hw, e⟩ | ⟨q, r, e1, hw, e⟩
      · cases e
        exact ⟨b, [], c, rfl, hp, hw, h1, rfl⟩
      · cases e
        subst e1
        obtain ⟨x, y, d, e, hq, hwd, hx, hy⟩ := Go.last n b q (o :: t) hb h1
        obtain ⟨x2, y2, d2, e2, ho, hw2, hx2, hy2⟩ := Go.last n x o t (by rw [e] at hb; simp at hb; omega) hx
        subst e2; subst e
        refine ⟨x2, y2 ++ d :: y ++ [c], d2, by simp, ho, hw2, hx2, ?_⟩
        have m1 : Go k (d :: y) [] [q] := .inl ⟨q, hq, hwd, by have := hy.lift [q]; exact this⟩
        have m2 : Go k [c] [q] [] := .inr ⟨q, [], rfl, hw, rfl⟩
        exact (hy2.app m1).app m2
def Dep (k:Nat) (a:List Nat) (x:Int):Prop:=∃ t,Go k a [] t/\(t.length:Int) = x
theorem Dep.zero (a:List Nat):Dep k a 0 ↔ 0 < ws k a []:=by
 rw [<- go_right]
 constructor
 ·rintro ⟨t,h,e⟩
  have:t = []:=List.eq_nil_of_length_eq_zero (by omega)
  subst this; exact h
 ·intro h; exact ⟨[],h,rfl⟩
theorem Dep.bound {a : List Nat} {x : Int} (h : Dep k a x) : 0 <= x /\ x <= a.length := by
  obtain ⟨t, g, e⟩ := h
  have go : ∀ (a s t : List Nat), Go k a s t -> t.length <= s.length + a.length := by
    intro a
    induction a with
    | nil => intro s t h; cases h; simp
    | cons c a ih =>
      intro s t h
      rcases h with ⟨p, _, _, h⟩ | ⟨o, r, e, _, h⟩
      · have := ih _ _ h; simp at this ⊢; omega
      · subst e; have := ih _ _ h; simp at this ⊢; omega
  have := go a [] t g
  simp at this
  omega
def mo (k c:Nat):Prop:=∃ p,p < k/\0 < pw k c (2 * p)
theorem Dep.iff (a : List Nat) (x : Int) : Dep k a x ↔ (x = 0 /\ 0 < ws k a []) \/ ∃ i c, a[i]? = some c /\ mo k c /\ 0 < ws k (a.drop (i + 1)) [] /\ Dep k (a.take i) (x - 1) := by
  constructor
  · rintro ⟨t, h, e⟩
    cases t with
    | nil => exact .inl ⟨e.symm, (go_right a).mp h⟩
    | cons o t =>
      obtain ⟨u, y, c, e2, ho, hw, hx, hy⟩ := Go.last a.length a o t (Nat.le_refl _) h
      subst e2
      refine .inr ⟨u.length, c, by simp, ⟨o, ho, hw⟩, ?_, ⟨t, by simpa using hx, by simp at e; omega⟩⟩
      rw [<- go_right]
      have e3 : (u ++ c :: y).drop (u.length + 1) = y := by
        rw [List.drop_append]
        simp
      rw [e3]; exact hy
  · rintro (⟨rfl, h⟩ | ⟨i, c, hc, ⟨o, ho, hw⟩, h2, t, h3, e⟩)
    · exact (Dep.zero a).mpr h
    · have hi : i < a.length := (List.getElem?_eq_some_iff.mp hc).1
      have ea : a = a.take i ++ c :: a.drop (i + 1) := by
        have e1 : a[i] = c := (List.getElem?_eq_some_iff.mp hc).2
        rw [<- e1, List.getElem_cons_drop hi, List.take_append_drop]
      refine ⟨o :: t, ?_, by simp; omega⟩
      rw [ea]
      refine h3.app (.inl ⟨o, ho, hw, ?_⟩)
      have := ((go_right _).mpr h2).lift (o :: t)
      exact this
theorem cv_seg (k:Nat) (a:List Nat) {i j:Nat} (h:i <= j) (hj:j <= a.length) (st:List Nat):cv (PP (a.map (plw (ones k)))) k (j - i) i st = ws k ((a.take j).drop i) st:=by
 rw [<- cv_ws]
 have hl:((a.take j).drop i).length = j - i:=by rw [List.length_drop,List.length_take]; omega
 rw [hl]
 have:=cv_shift (P:=PP (a.map (plw (ones k)))) (P':=PP (((a.take j).drop i).map (plw (ones k)))) (k:=k) i (j - i) 0 st (fun q b _ hq=>?_)
 ·rw [Nat.zero_add] at this; exact this.symm
 ·show ((((a.take j).drop i).map (plw (ones k))).getD q []).getD b 0 = ((a.map (plw (ones k))).getD (q + i) []).getD b 0
  have e:((a.take j).drop i)[q]? = a[q + i]?:=by
   rw [List.getElem?_drop,List.getElem?_take,if_pos (by omega),Nat.add_comm]
  rw [List.getD_eq_getElem?_getD (l:=(((a.take j).drop i).map (plw (ones k)))),List.getD_eq_getElem?_getD (l:=(a.map (plw (ones k)))),List.getElem?_map,List.getElem?_map,e]
end BrS
namespace L2
open PySem PySem.Spec PyProof.Rows BrR
section
variable {σ:St} {H:Hp} {Q:VK} {K:PySem.W.Frag}
theorem s_two {te ts:TE} (h:te σ H fun x H1=>ts σ H1 fun y H2=>y = .int 2/\∃ p xs,x = .ref p/\SqL K H2 p xs/\∀ r,H2 r = none->Q (.ref r) (upd H2 r (.lst (evens xs)))):tTwo K te ts σ H Q:=h
def Comp2W (J : It) (own : List Str) (sel : List Nat) (σ : St) (i0 : Nat) (tt : TT) (wi1 : TI) (i1 : Nat) (tt1 : TT) (te : TE) (Q : VK) (H1 : Hp) : Prop := ∀ D, H1 D = none ->
 ∃ W : Nat -> Nat -> Hp -> Prop, (∃ m, W 0 m (upd H1 D (.lst []))) /\ ∀ i m H2, W i m H2 ->
  (J.stop i H2 /\ Q (.ref D) H2) \/ (J.go i H2 /\ ∀ x H3, J.yld i H2 x H3 -> tt ((inSt own sel σ).set i0 (some x)) H3 fun b H5 =>
   if b = true then tInner D wi1 i1 tt1 te ((inSt own sel σ).set i0 (some x)) H5 fun H' => ∃ m', m' < m /\ W (i + 1) m' H'
   else ∃ m', m' < m /\ W (i + 1) m' H5)
theorem s_comp2 {own:List Str} {sel:List Nat} {wi:TI} {i0:Nat} {tt:TT} {wi1:TI} {i1:Nat} {tt1:TT} {te:TE} (h:wi σ H fun J H1=>Comp2W J own sel σ i0 tt wi1 i1 tt1 te Q H1):tComp2 own sel wi i0 tt wi1 i1 tt1 te σ H Q:=h
theorem comp2_rng {lo : Int} {n : Nat} {own : List Str} {sel : List Nat} {i0 : Nat} {tt : TT} {wi1 : TI} {i1 : Nat} {tt1 : TT} {te : TE} (f : Nat -> List V)
  (hst : ∀ D H', H D = none -> Same H H' -> H' D = some (.lst ((List.range n).flatMap f)) -> Q (.ref D) H')
  (hs : ∀ (D : Addr) (i : Nat) (H' : Hp) (N : Hp -> Prop), H D = none -> i < n -> Same H H' -> H' D = some (.lst ((List.range i).flatMap f)) -> (∀ H6, Same H H6 -> H6 D = some (.lst ((List.range i).flatMap f ++ f i)) -> N H6) ->
   tt ((inSt own sel σ).set i0 (some (.int (lo + i)))) H' fun b H5 => if b = true then tInner D wi1 i1 tt1 te ((inSt own sel σ).set i0 (some (.int (lo + i)))) H5 N else N H5) : Comp2W (Itr lo n) own sel σ i0 tt wi1 i1 tt1 te Q H := by
 intro D hD
 refine ⟨fun i m H' => m = n - i /\ i <= n /\ H' D = some (.lst ((List.range i).flatMap f)) /\ Same H H', ⟨_, rfl, Nat.zero_le _, by rw [upd_same]; rfl, same_new hD _⟩, ?_⟩
 rintro i m H2 ⟨rfl, hi, hy, sH⟩
 by_cases hlt : i < n
 ·refine .inr ⟨hlt, fun x H3 y => ?_⟩
  obtain ⟨rfl, rfl⟩ := y
  refine hs D i H3 _ hD hlt sH hy fun H6 s6 h6 => ⟨n - (i + 1), by omega, rfl, hlt, ?_, s6⟩
  rw [h6, List.range_succ, List.flatMap_append]; simp
 ·have e : i = n := by omega
  subst e
  exact .inl ⟨Nat.le_refl _, hst D H2 hD sH hy⟩
theorem inner_lst {a D : Addr} {xs ys : List V} {i1 : Nat} {te : TE} {N : Hp -> Prop} (f : V -> V) (ha : H a = some (.lst xs)) (hne : a ≠ D) (hy : H D = some (.lst ys)) (hb : ys.length + xs.length <= sizeLine)
  (hs : ∀ (i : Nat) (x : V) (H' : Hp) (R : V -> Hp -> Prop), xs[i]? = some x -> SameBut1 D H H' -> R (f x) H' -> te (σ.set i1 (some x)) H' R)
  (fin : ∀ H6, SameBut1 D H H6 -> H6 D = some (.lst (ys ++ xs.map f)) -> N H6) :
  ∃ W : Nat -> Nat -> Hp -> Prop, (∃ m, W 0 m H) /\ ∀ i m H2, W i m H2 ->
   ((Itl K a).stop i H2 /\ N H2) \/ ((Itl K a).go i H2 /\ ∀ x H3, (Itl K a).yld i H2 x H3 -> tYes (σ.set i1 (some x)) H3 fun b H5 =>
    if b = true then te (σ.set i1 (some x)) H5 fun v H6 => ∃ ys, H6 D = some (.lst ys) /\ ys.length < sizeLine /\ ∃ m', m' < m /\ W (i + 1) m' (upd H6 D (.lst (ys ++ [v])))
    else ∃ m', m' < m /\ W (i + 1) m' H5) := by
 refine ⟨fun i m H' => m = xs.length - i /\ i <= xs.length /\ H' D = some (.lst (ys ++ (xs.take i).map f)) /\ SameBut1 D H H', ⟨_, rfl, Nat.zero_le _, by rw [hy]; simp, SameBut1.refl _ _⟩, ?_⟩
 rintro i m H2 ⟨rfl, hi, h2, s2⟩
 have q : SqL K H2 a xs := SqL.of (s2 _ _ ha hne)
 by_cases hlt : i < xs.length
 ·refine .inr ⟨⟨xs, xs[i], q, List.getElem?_eq_getElem hlt⟩, fun x H3 y => ?_⟩
  obtain ⟨rfl, hx⟩ := y
  have hx' := hx _ q
  refine s_yes ?_
  rw [if_pos rfl]
  refine hs i x H3 _ hx' s2 ⟨_, h2, by simp; omega, xs.length - (i + 1), by omega, rfl, hlt, ?_, s2.trans SameBut1.upd⟩
  rw [upd_same, List.take_add_one, hx']; simp
 ·have e : i = xs.length := by omega
  subst e
  rw [List.take_length] at h2
  exact .inl ⟨⟨_, q, Nat.le_refl _⟩, fin H2 s2 h2⟩
end
end L2
namespace BrS
open L2 PySem BrM BrC BrR
def spMayOpen (K:PySem.W.Frag):Sp:=fun vs H Q _=>∃ (p:Addr) (l:List Int),vs = [.ref p]/\H p = some (iL l)/\∀ H',Same H H'->Q (.bl ((evens l).any fun n=>n != 0)) H'
theorem mayOpen_use {K:PySem.W.Frag} {H:Hp} {p:Addr} {l:List Int} {Q:VK} {E:XK} (h:H p = some (iL l)) (q:∀ H',Same H H'->Q (.bl ((evens l).any fun n=>n != 0)) H'):spMayOpen K ([.ref p] ++ []) H Q E:=⟨p,l,rfl,h,q⟩
theorem evens_map {α β:Type} (f:α->β):∀ (n:Nat) (l:List α),l.length <= n->evens (l.map f) = (evens l).map f
 | _,[],_=>rfl
 | _,[x],_=>rfl
 | 0,x :: y :: r,h=>by simp at h
 | n + 1,x :: y :: r,h=>by simp only [List.map_cons,evens]; rw [evens_map f n r (by simp at h; omega)]
theorem evens_at {α : Type} : ∀ (n : Nat) (l : List α) (x : α), l.length <= n -> (x ∈ evens l ↔ ∃ p, l[2 * p]? = some x)
  | _, [], x, _ => by simp [evens]
  | _, [y], x, _ => by
    simp only [evens, List.mem_singleton]
    constructor
    · intro h; exact ⟨0, by simp [h]⟩
    · rintro ⟨p, hp⟩
      have := (List.getElem?_eq_some_iff.mp hp).1
      have e : p = 0 := by simp at this; omega
      subst e; simpa using hp.symm
  | 0, y :: z :: r, x, h => by simp at h
  | n + 1, y :: z :: r, x, h => by
    have ih := evens_at n r x (by simp at h; omega)
    simp only [evens, List.mem_cons, ih]
    constructor
    · rintro (rfl | ⟨p, hp⟩)
      · exact ⟨0, by simp⟩
      · exact ⟨p + 1, by rw [show 2 * (p + 1) = 2 * p + 1 + 1 by omega]; simpa using hp⟩
    · rintro ⟨p, hp⟩
      cases p with
      | zero => left; simpa using hp.symm
      | succ p => right; exact ⟨p, by rw [show 2 * (p + 1) = 2 * p + 1 + 1 by omega] at hp; simpa using hp⟩
theorem mo_iff {k:Nat} (hk:k <= 4) (c:Nat):((evens (plw (ones k) c)).any fun n=>n != 0) = true ↔ mo k c:=by
 rw [List.any_eq_true]
 have hl:(plw (ones k) c).length = 2 * k:=by rw [plw_len (by simp; omega)]; simp
 constructor
 ·rintro ⟨x,hx,h⟩
  obtain ⟨p,hp⟩:=(evens_at _ _ x (Nat.le_refl _)).mp hx
  have h1:=(List.getElem?_eq_some_iff.mp hp).1
  refine ⟨p,by omega,?_⟩
  have e:pw k c (2 * p) = x:=by unfold pw; rw [List.getD_eq_getElem?_getD,hp]; rfl
  have:=pw_nonneg k c (2 * p)
  have hx0:x ≠ 0:=by simpa using h
  omega
 ·rintro ⟨p,hp,h⟩
  have hlt:2 * p < (plw (ones k) c).length:=by omega
  have e1:(plw (ones k) c)[2 * p]? = some (pw k c (2 * p)):=by unfold pw; rw [List.getD_eq_getElem?_getD,List.getElem?_eq_getElem hlt]; rfl
  refine ⟨pw k c (2 * p),(evens_at _ _ _ (Nat.le_refl _)).mpr ⟨p,e1⟩,?_⟩
  simp; omega
def DL (k:Nat) (a:List Nat) (ns:List Int):Prop:=ns.Pairwise (· < ·)/\(∀ x,x ∈ ns ↔ Dep k a x)/\ns.length <= 63
theorem DL.uniq {k:Nat} {a:List Nat} {ns ms:List Int} (h:ns.Pairwise (· < ·)) (g:ms.Pairwise (· < ·)) (e:∀ x,x ∈ ns ↔ x ∈ ms):ns = ms:=by
 have nd:∀ {l:List Int},l.Pairwise (· < ·)->l.Nodup:=fun {l} h=>List.Pairwise.imp (fun z=>by omega) h
 refine List.Perm.eq_of_pairwise (le:=(· < ·)) (fun a b _ _ x y=>by omega) h g ?_
 exact (List.perm_ext_iff_of_nodup (nd h) (nd g)).mpr e
def spBefore:Sp:=fun vs H Q _=>∃ (pp sp sh:Addr) (k:Nat) (a:List Nat) (H0:Hp) (ad:Nat->Addr) (j:Nat) (L:List (List Int)),vs = [.ref pp,.ref sp,.ref sh,.int j]/\Pls H pp (a.map (plw (ones k)))/\Tb H0 H sp ad a.length (tbl (PP (a.map (plw (ones k)))) k)/\Pls H sh L/\L.length = j/\j <= a.length/\a.length <= 40/\k <= 4 /\
 (∀ i l,L[i]? = some l->DL k (a.take i) l)/\∀ p ns H',H p = none->Same H H'->H' p = some (iL ns)->DL k (a.take j) ns->Q (.ref p) H'
theorem before_use {H:Hp} {pp sp sh:Addr} {k:Nat} {a:List Nat} {H0:Hp} {ad:Nat->Addr} {j:Nat} {L:List (List Int)} {Q:VK} {E:XK} (h1:Pls H pp (a.map (plw (ones k)))) (h2:Tb H0 H sp ad a.length (tbl (PP (a.map (plw (ones k)))) k)) (h3:Pls H sh L) (h4:L.length = j) (h5:j <= a.length) (h6:a.length <= 40) (h7:k <= 4)
  (h8:∀ i l,L[i]? = some l->DL k (a.take i) l) (q:∀ p ns H',H p = none->Same H H'->H' p = some (iL ns)->DL k (a.take j) ns->Q (.ref p) H'):spBefore ([.ref pp,.ref sp,.ref sh,.int j] ++ []) H Q E:=⟨pp,sp,sh,k,a,H0,ad,j,L,rfl,h1,h2,h3,h4,h5,h6,h7,h8,q⟩
def fB (k:Nat) (a:List Nat) (j:Nat) (L:List (List Int)) (i:Nat):List Int:=if ((evens (plw (ones k) (a.getD i 0))).any fun n=>n != 0) = true/\0 < tbl (PP (a.map (plw (ones k)))) k (i + 1) j then (L.getD i []).map (· + 1) else []
theorem before_mem {k:Nat} {a:List Nat} {j:Nat} {L:List (List Int)} (hk:k <= 4) (hj:j <= a.length) (hL:L.length = j) (hD:∀ i l,L[i]? = some l->DL k (a.take i) l) (x:Int) :
  (x ∈ (List.range j).flatMap (fB k a j L)\/(x = 0/\0 < tbl (PP (a.map (plw (ones k)))) k 0 j)) ↔ Dep k (a.take j) x:=by
 have seg:∀ i,i <= j->tbl (PP (a.map (plw (ones k)))) k i j = ws k ((a.take j).drop i) []:=fun i hi=>by
  unfold tbl; rw [if_pos hi]; exact cv_seg k a hi hj []
 rw [Dep.iff]
 have h0:=seg 0 (Nat.zero_le _)
 rw [List.drop_zero] at h0
 rw [h0]
 constructor
 ·rintro (h | h)
  ·right
   obtain ⟨i,hi,hx⟩:=List.mem_flatMap.mp h
   have hi:=List.mem_range.mp hi
   unfold fB at hx
   split at hx
   ·rename_i hc
    obtain ⟨y,hy,rfl⟩:=List.mem_map.mp hx
    have el:L[i]? = some (L.getD i []):=by rw [List.getD_eq_getElem?_getD,List.getElem?_eq_getElem (by omega)]; rfl
    have ea:a[i]? = some (a.getD i 0):=by rw [List.getD_eq_getElem?_getD,List.getElem?_eq_getElem (by omega)]; rfl
    refine ⟨i,a.getD i 0,by rw [List.getElem?_take,if_pos hi]; exact ea,(mo_iff hk _).mp hc.1,by rw [<- seg (i + 1) (by omega)]; exact hc.2,?_⟩
    rw [List.take_take,Nat.min_eq_left (by omega),show y + 1 - 1 = y by omega]
    exact ((hD i _ el).2.1 y).mp hy
   ·cases hx
  ·exact .inl h
 ·rintro (h | ⟨i,c,hc,hm,hw,hd⟩)
  ·exact .inr h
  ·left
   have hi:i < j:=by have:=(List.getElem?_eq_some_iff.mp hc).1; rw [List.length_take] at this; omega
   rw [List.getElem?_take,if_pos hi] at hc
   have ea:a.getD i 0 = c:=by rw [List.getD_eq_getElem?_getD,hc]; rfl
   have el:L[i]? = some (L.getD i []):=by rw [List.getD_eq_getElem?_getD,List.getElem?_eq_getElem (by omega)]; rfl
   rw [List.take_take,Nat.min_eq_left (by omega)] at hd
   refine List.mem_flatMap.mpr ⟨i,List.mem_range.mpr hi,?_⟩
   unfold fB
   rw [ea,if_pos ⟨(mo_iff hk c).mpr hm,by rw [seg (i + 1) (by omega)]; exact hw⟩]
   exact List.mem_map.mpr ⟨x - 1,((hD i _ el).2.1 _).mpr hd,by omega⟩
theorem fB_len {k:Nat} {a:List Nat} {j:Nat} {L:List (List Int)} (hD:∀ i l,L[i]? = some l->DL k (a.take i) l) (i:Nat):(fB k a j L i).length <= 63:=by
 unfold fB
 split
 ·rw [List.length_map]
  cases e:L[i]? with
  | none=>rw [List.getD_eq_getElem?_getD,e]; simp
  | some l=>rw [List.getD_eq_getElem?_getD,e]; exact (hD i l e).2.2
 ·simp
theorem fB_all {k : Nat} {a : List Nat} {j : Nat} {L : List (List Int)} (hD : ∀ i l, L[i]? = some l -> DL k (a.take i) l) : ∀ n, ((List.range n).flatMap (fB k a j L)).length <= 63 * n
  | 0 => by simp
  | n + 1 => by
    rw [List.range_succ, List.flatMap_append, List.length_append, List.flatMap_singleton]
    have := fB_all hD (j := j) n
    have := fB_len (j := j) hD n
    omega
theorem flat_int (f:Nat->List Int) (n:Nat):(List.range n).flatMap (fun i=>(f i).map V.int) = ((List.range n).flatMap f).map V.int:=by rw [List.map_flatMap]
structure PlA (H H':Hp) (r:Addr) (ad:Nat->Addr) (L:List (List Int)):Prop where
 fr:H r = none
 fa:∀ i,i < L.length->H (ad i) = none
 top:H' r = some (.lst ((List.range L.length).map fun i=>V.ref (ad i)))
 row:∀ i,i < L.length->H' (ad i) = some (iL (L.getD i []))
 sm:Same H H'
theorem PlA.pls {H H':Hp} {r:Addr} {ad:Nat->Addr} {L:List (List Int)} (h:PlA H H' r ad L):Pls H' r L:=⟨ad,h.top,h.row⟩
theorem PlA.push {H H' H2:Hp} {r p:Addr} {ad:Nat->Addr} {L:List (List Int)} {ns:List Int} (h:PlA H H' r ad L) (s:Same H' H2) (hp:H' p = none) (gp:H2 p = some (iL ns)) :
  PlA H (upd H2 r (.lst (((List.range L.length).map fun i=>V.ref (ad i)) ++ [V.ref p]))) r (fun i=>if i < L.length then ad i else p) (L ++ [ns]):=by
 have nr:p ≠ r:=fun z=>by rw [z,h.top] at hp; cases hp
 have na:∀ i,i < L.length->ad i ≠ r:=fun i hi z=>by
  have h1:=h.row i hi
  rw [z,h.top] at h1
  injection h1 with h1
  injection h1 with h1
  have h2:=congrArg List.length h1
  simp only [List.length_map,List.length_range] at h2
  have h3:((List.range L.length).map fun i=>V.ref (ad i))[0]? = ((L.getD i []).map V.int)[0]?:=by rw [h1]
  rw [List.getElem?_map,List.getElem?_map,List.getElem?_range (by omega),List.getElem?_eq_getElem (by omega)] at h3
  simp at h3
 refine ⟨h.fr,fun i hi=>?_,?_,fun i hi=>?_,fun b o z=>?_⟩
 ·by_cases c:i < L.length
  ·rw [if_pos c]; exact h.fa i c
  ·rw [if_neg c]; exact h.sm.free hp
 ·rw [upd_same,List.length_append,List.length_singleton,List.range_succ,List.map_append]
  have e1:((List.range L.length).map fun i=>V.ref (if i < L.length then ad i else p)) = (List.range L.length).map fun i=>V.ref (ad i):=List.map_congr_left fun i hi=>by rw [if_pos (List.mem_range.mp hi)]
  rw [e1]; simp
 ·by_cases c:i < L.length
  ·simp only [if_pos c]
   rw [upd_ne (na i c),s _ _ (h.row i c),List.getD_eq_getElem?_getD,List.getD_eq_getElem?_getD,List.getElem?_append_left c]
  ·have e:i = L.length:=by simp at hi; omega
   subst e
   simp only [Nat.lt_irrefl,if_false]
   rw [upd_ne nr,gp,List.getD_eq_getElem?_getD,List.getElem?_append_right (Nat.le_refl _)]
   simp
 ·rw [upd_ne (ne_of_none z h.fr)]; exact s _ _ (h.sm b o z)
def spByStop:Sp:=fun vs H Q _=>∃ (k:Int) (a:List Nat),vs = [.int k,tx a]/\1 <= k/\k <= 4/\a.length <= 40/\∀ r H' ad L,PlA H H' r ad L->L.length = a.length + 1->(∀ i l,L[i]? = some l->DL k.toNat (a.take i) l)->Q (.ref r) H'
theorem byStop_use {H:Hp} {k:Int} {a:List Nat} {Q:VK} {E:XK} (h1:1 <= k) (h2:k <= 4) (h3:a.length <= 40) (q:∀ r H' ad L,PlA H H' r ad L->L.length = a.length + 1->(∀ i l,L[i]? = some l->DL k.toNat (a.take i) l)->Q (.ref r) H'):spByStop ([.int k,tx a] ++ []) H Q E:=⟨k,a,rfl,h1,h2,h3,q⟩
def spDepths:Sp:=fun vs H Q _=>∃ (k:Int) (a:List Nat),vs = [.int k,tx a]/\1 <= k/\k <= 4/\isRow k a = true/\∀ p ns H',H p = none->Same H H'->H' p = some (iL ns)->DL k.toNat a ns->Q (.ref p) H'
theorem depths_use {H:Hp} {k:Int} {a:List Nat} {Q:VK} {E:XK} (h1:1 <= k) (h2:k <= 4) (h3:isRow k a = true) (q:∀ p ns H',H p = none->Same H H'->H' p = some (iL ns)->DL k.toNat a ns->Q (.ref p) H'):spDepths ([.int k,tx a] ++ []) H Q E:=⟨k,a,rfl,h1,h2,h3,q⟩
def Goes (k:Nat) (a:List Nat):Prop:=∃ t,Go k a [] t
noncomputable def goB (k:Nat) (a:List Nat):Bool:=@decide (Goes k a) (Classical.propDecidable _)
theorem goB_t {k:Nat} {a:List Nat} (h:Goes k a):goB k a = true:=@decide_eq_true _ (Classical.propDecidable _) h
theorem goB_f {k:Nat} {a:List Nat} (h:¬ Goes k a):goB k a = false:=@decide_eq_false _ (Classical.propDecidable _) h
theorem DL.goes {k:Nat} {a:List Nat} {ns:List Int} (h:DL k a ns):decide (0 < ns.length) = goB k a:=by
 by_cases g:Goes k a
 ·rw [goB_t g]
  obtain ⟨t,ht⟩:=g
  have:=(h.2.1 t.length).mpr ⟨t,ht,rfl⟩
  exact decide_eq_true (List.length_pos_of_mem this)
 ·rw [goB_f g]
  refine decide_eq_false fun z=>g ?_
  obtain ⟨x,hx⟩:=List.exists_mem_of_length_pos z
  obtain ⟨t,ht,_⟩:=(h.2.1 x).mp hx
  exact ⟨t,ht⟩
theorem Goes.take {k:Nat} {a:List Nat} (h:Goes k a) (i:Nat):Goes k (a.take i):=by
 obtain ⟨t,ht⟩:=h
 rw [<- List.take_append_drop i a] at ht
 obtain ⟨u,hu,_⟩:=Go.split ht
 exact ⟨u,hu⟩
def spGoOn:Sp:=fun vs H Q _=>∃ (k:Int) (a:List Nat),vs = [.int k,tx a]/\1 <= k/\k <= 4/\isRow k a = true/\∀ H',Same H H'->Q (.bl (goB k.toNat a)) H'
theorem goOn_use {H:Hp} {k:Int} {a:List Nat} {Q:VK} {E:XK} (h1:1 <= k) (h2:k <= 4) (h3:isRow k a = true) (q:∀ H',Same H H'->Q (.bl (goB k.toNat a)) H'):spGoOn ([.int k,tx a] ++ []) H Q E:=⟨k,a,rfl,h1,h2,h3,q⟩
def hdv:List Int->V
 | []=>.non
 | x :: _=>.int x
def spFewest:Sp:=fun vs H Q _=>∃ (k:Int) (a:List Nat),vs = [.int k,tx a]/\1 <= k/\k <= 4/\isRow k a = true/\∀ ns H',Same H H'->DL k.toNat a ns->Q (hdv ns) H'
theorem fewest_use {H:Hp} {k:Int} {a:List Nat} {Q:VK} {E:XK} (h1:1 <= k) (h2:k <= 4) (h3:isRow k a = true) (q:∀ ns H',Same H H'->DL k.toNat a ns->Q (hdv ns) H'):spFewest ([.int k,tx a] ++ []) H Q E:=⟨k,a,rfl,h1,h2,h3,q⟩
end BrS
namespace L2
open PySem PySem.Spec PyProof.Rows
section
variable {X:Cx}
section
variable {σ:St} {H:Hp} {Q:VK} {K:PySem.W.Frag}
end
end
end L2
namespace BrS
open L2 PySem BrM BrC BrR
def clos (st:List Nat):List Nat:=st.map clk
theorem ws_clos {k : Nat} (hk : k <= 4) : ∀ (st t : List Nat), (∀ p ∈ st, p < k) -> (0 < ws k (clos st) t ↔ t = st)
  | [], [], _ => by show (0 : Int) < 1 ↔ _; simp
  | [], _ :: _, _ => by show (0 : Int) < 0 ↔ _; simp
  | p :: st, t, h => by
    have hp := h p (.head _)
    have hc : brs[2 * p + 1]? = some (clk p) := by
      have : p = 0 \/ p = 1 \/ p = 2 \/ p = 3 := by omega
      rcases this with rfl | rfl | rfl | rfl <;> rfl
    show 0 < ws k (clk p :: clos st) t ↔ _
    rw [ws_close hp hk hc]
    cases t with
    | nil => simp
    | cons o s' =>
      have ih := ws_clos hk st s' fun q hq => h q (.tail _ hq)
      show (0 < if o = p then ws k (clos st) s' else 0) ↔ _
      by_cases e : o = p
      · subst e; rw [if_pos rfl, ih]; simp
      · rw [if_neg e]; simp [e]
theorem sf_nn {f : List Nat -> Int} (hf : ∀ st, 0 <= f st) : ∀ {es : Es}, Wf es -> 0 <= sf f es
  | [], _ => by simp [sf]
  | x :: q, w => by
    have h1 := w.pos x (.head _)
    have h2 := sf_nn hf w.tail
    have h3 := Int.mul_nonneg (show 0 <= x.2 by omega) (hf x.1)
    unfold sf; omega
theorem sf_pos {es : Es} (w : Wf es) {f : List Nat -> Int} (hf : ∀ st, 0 <= f st) : 0 < sf f es ↔ ∃ e ∈ es, 0 < f e.1 := by
  induction es with
  | nil => simp [sf]
  | cons e r ih =>
    have hc := w.pos e (.head _)
    have ih := ih w.tail
    have h0 : 0 <= sf f r := sf_nn hf w.tail
    have h1 := hf e.1
    unfold sf
    constructor
    · intro h
      by_cases c : 0 < f e.1
      · exact ⟨e, .head _, c⟩
      · have : f e.1 = 0 := by omega
        rw [this] at h
        obtain ⟨x, hx, h2⟩ := ih.mp (by simpa using h)
        exact ⟨x, .tail _ hx, h2⟩
    · rintro ⟨x, hx, h2⟩
      have hm := Int.mul_nonneg (show 0 <= e.2 by omega) h1
      rcases List.mem_cons.mp hx with rfl | z
      · have := Int.mul_pos (show 0 < x.2 by omega) h2; omega
      · have := ih.mpr ⟨x, z, h2⟩; omega
theorem es_go {k j : Nat} (hk : k <= 4) {es : Es} {b : List Nat} (w : Wf es) (gd : Good k j es) (hs : ∀ r, sf (ws k r) es = ws k (b ++ r) []) (st : List Nat) : (∃ c, (st, c) ∈ es) ↔ Go k b [] st := by
  have key : ∀ st, (∀ p ∈ st, p < k) -> ((∃ c, (st, c) ∈ es) ↔ Go k b [] st) := fun st hst => by
    have h1 := sf_pos w (f := ws k (clos st)) fun s => ws_nonneg _ _
    rw [hs, go_ws] at h1
    constructor
    · rintro ⟨c, hc⟩
      obtain ⟨t, ht, hw⟩ := h1.mpr ⟨(st, c), hc, (ws_clos hk st st hst).mpr rfl⟩
      rw [(ws_clos hk st t hst).mp hw] at ht; exact ht
    · intro h
      obtain ⟨e, he, hw⟩ := h1.mp ⟨st, h, (ws_clos hk st st hst).mpr rfl⟩
      have := (ws_clos hk st e.1 hst).mp hw
      exact ⟨e.2, by rw [<- this]; exact he⟩
  constructor
  · intro h
    obtain ⟨c, hc⟩ := h
    exact (key st (gd _ hc).1).mp ⟨c, hc⟩
  · intro h
    have lt : ∀ {a s t : List Nat}, Go k a s t -> (∀ p ∈ s, p < k) -> ∀ p ∈ t, p < k := by
      intro a
      induction a with
      | nil => intro s t h hs; cases h; exact hs
      | cons c a ih =>
        intro s t h hs
        rcases h with ⟨p, h1, _, h3⟩ | ⟨o, r, e, _, h3⟩
        · exact ih h3 fun q hq => by
            rcases List.mem_cons.mp hq with rfl | z
            · exact h1
            · exact hs q z
        · subst e; exact ih h3 fun q hq => hs q (.tail _ hq)
    exact (key st (lt h (fun p z => nomatch z))).mpr h
theorem lens_dep {k j:Nat} (hk:k <= 4) {es:Es} {b:List Nat} (w:Wf es) (gd:Good k j es) (hs:∀ r,sf (ws k r) es = ws k (b ++ r) []) (x:Int):x ∈ (es.map fun e=>(e.1.length:Int)) ↔ Dep k b x:=by
 rw [List.mem_map]
 constructor
 ·rintro ⟨e,he,rfl⟩; exact ⟨e.1,(es_go hk w gd hs e.1).mp ⟨e.2,he⟩,rfl⟩
 ·rintro ⟨t,ht,rfl⟩
  obtain ⟨c,hc⟩:=(es_go hk w gd hs t).mpr ht
  exact ⟨(t,c),hc,rfl⟩
theorem eqVs_refl_ints (ns:List Int):eqVs (ns.map V.int) (ns.map V.int) = true:=by
 induction ns with
 | nil=>rfl
 | cons x r ih=>simp only [List.map_cons,eqVs,ih,eqV]; simp
def lenK:Key->V
 | .inr s=>.int (s.cps.size:Nat)
 | .inl _=>.non
theorem lenK_map (es:Es):((enc es).map fun p=>lenK p.1) = (es.map fun e=>(e.1.length:Int)).map V.int:=by
 unfold enc
 rw [List.map_map,List.map_map]
 refine List.map_congr_left fun e _=>?_
 show lenK (kst e.1) = .int (e.1.length:Nat)
 unfold kst lenK
 simp only [List.size_toArray]
 rw [cst_len]
end BrS
namespace L2
open PySem PySem.Spec PyProof.Rows
structure MeU (P:Program) (w:World) (K:PySem.W.Frag) (mg:Str->Option Value) (base:Heap) (k:Nat) (C:Addr) (m:Str) (ps:List Str) (sp:Sp):Prop where
 ex:∃ f fd,FnOk P w K mg base CX0 k f fd ps sp/\Meth K C m f/\Binds K fd ps []
theorem MeU.mono {P:Program} {w:World} {K:PySem.W.Frag} {mg:Str->Option Value} {base:Heap} {j k:Nat} {C:Addr} {m:Str} {ps:List Str} {sp:Sp} (U:MeU P w K mg base j C m ps sp) (h:j <= k):MeU P w K mg base k C m ps sp :=
 let ⟨f,fd,F,a,b⟩:=U.ex; ⟨f,fd,F.mono h,a,b⟩
section
variable {X:Cx} {k:Nat} {C:Addr} {m x:Str} {ps:List Str} {sp:Sp} {e o value:Expr} {es:List Expr} {ta tv:TE} {t:TA} {p pos apos pos' tpos:Pos} {f:Str}
theorem pe_mth0 {pl : Sem Bool} (c : Cls X.K C) (U : MeU X.prog X.w X.K X.mg X.base k C m ps sp) (hr : Room k X.A) (he : PE X o ta)
  (ht : eval (.Call (.Attribute o m apos) [] [] pos) X.env = (do
   let ov <- eval o X.env
   standAt apos.atName
   let (f, first) <- holding [ov] (getMethod ov m pl)
   callWith pos f first (backTo pos (starEach [] X.env)) (backToKw pos (keywordEach [] X.env))) := by rfl) :
  PE X (.Call (.Attribute o m apos) [] [] pos) (tMeth C m sp [] E0 ta tNil) :=
 let ⟨_, _, F, hm, hb⟩ := U.ex; pe_meth0 he c hm F hr hb .nil pass0 ht
theorem pe_fldK (K:PySem.W.Frag) (he:PE X e ta) (hK:X.K = K:=by rfl) (hb:attributeBase e f X.env (eval e X.env) = eval e X.env:=by rfl):PE X (.Attribute e f pos) (tFld K ta f):=by subst hK; exact pe_fld he hb
theorem ps_fldK (K:PySem.W.Frag) (ha:PE X o ta) (hv:PE X value tv) (hK:X.K = K:=by rfl) (hs:swapsWith value (some (.Attribute o f pos')) pos.line X.env = pure false:=by rfl):PS X (.Assign [.Attribute o f pos'] value pos) (sFld K ta tv f):=by subst hK; exact ps_fld ha hv hs
theorem ps_fldaugK (K:PySem.W.Frag) {op:Operator} {rd:V->V->Hp->VK->Prop} (hop:InOp X op rd) (ha:PE X o ta) (hv:PE X value tv) (hK:X.K = K:=by rfl):PS X (.AugAssign (.Attribute o f tpos) op value pos) (sFldAug K ta tv rd f):=by subst hK; exact ps_fldaug ha hv hop
def rAddA:V->V->Hp->VK->Prop:=fun x y H Q=>rAdd x y H Q\/∃ a b,x = tx a/\y = tx b/\a.length + b.length <= sizeLine/\Q (tx (a ++ b)) H
theorem in_addA:InOp X .Add rAddA:=by
 rintro pins s σ H x y u v Q I rx ry (h | ⟨a,b,rfl,rfl,hz,q⟩)
 ·exact in_add pins s σ H x y u v Q I rx ry h
 ·obtain ⟨t,rfl⟩:=rx
  obtain ⟨t',rfl⟩:=ry
  refine PyProof.Rows.iadd_str (fun t2 tk=>⟨tx (a ++ b),H,I.tok _,⟨t2,?_⟩,q⟩) (by rw [tx_len,tx_len]; exact hz)
  congr 1
  show (⟨a.toArray ++ b.toArray⟩:Str) = _
  simp
end
section
variable {σ:St} {H:Hp} {Q:VK} {K:PySem.W.Frag} {D:Ends} {C:Addr} {m f:Str} {sp:Sp} {E:XK} {ta tv:TE} {t:TA} {rd:V->V->Hp->VK->Prop}
theorem s_meth (h:ta σ H fun x H1=>∃ a dx fs,x = .ref a/\H1 a = some (.ins C dx fs)/\fs.lookup m = none/\t σ H1 fun vs H2=>sp (x :: (vs ++ [])) H2 Q E):tMeth C m sp [] E ta t σ H Q:=h
theorem s_fldT (h:ta σ H fun x H1=>∃ a C dx fs v,x = .ref a/\H1 a = some (.ins C dx fs)/\Cls K C/\NoAttr K C f/\fs.lookup f = some v/\Q v H1):tFld K ta f σ H Q:=h
theorem s_fldS (h:tv σ H fun y H1=>ta σ H1 fun x H2=>∃ a C dx fs,x = .ref a/\H2 a = some (.ins C dx fs)/\Cls K C/\NoAttr K C f/\fs.length < 1000/\D.nx σ (upd H2 a (.ins C dx (putF f y fs)))):sFld K ta tv f D σ H:=h
theorem s_fldA (h:ta σ H fun x H1=>∃ a C dx fs v,x = .ref a/\H1 a = some (.ins C dx fs)/\Cls K C/\NoAttr K C f/\fs.lookup f = some v/\tv σ H1 fun y H2=>rd v y H2 fun z H3=>∃ dx' fs',H3 a = some (.ins C dx' fs')/\fs'.length < 1000/\D.nx σ (upd H3 a (.ins C dx' (putF f z fs')))):sFldAug K ta tv rd f D σ H:=h
end
section
variable {X:Cx}
end
end L2
namespace L2
open PySem PySem.Spec PyProof.Rows
theorem eqV_refl {x:V} (h:flatV x = true):eqV x x = true:=by cases x <;> simp_all [eqV,flatV]
section
variable {X:Cx}
end
end L2
namespace BrS
open L2 PySem BrM BrC BrR
def GrO (C:Addr) (H:Hp) (g:Addr) (k:Int) (a:List Nat):Prop:=∃ dx,H g = some (.ins C dx [("k",.int k),("signs",tx a)])
theorem GrO.same {C:Addr} {H H':Hp} {g:Addr} {k:Int} {a:List Nat} (h:GrO C H g k a) (s:Same H H'):GrO C H' g k a:=let ⟨dx,e⟩:=h; ⟨dx,s _ _ e⟩
theorem GrO.but {C:Addr} {H H':Hp} {p g:Addr} {k:Int} {a:List Nat} (h:GrO C H g k a) (s:SameBut1 p H H') (hn:g ≠ p):GrO C H' g k a:=let ⟨dx,e⟩:=h; ⟨dx,s _ _ e hn⟩
def spGInit (C:Addr):Sp:=fun vs H Q _=>∃ (g dx:Addr) (k:Int),vs = [.ref g,.int k]/\1 <= k/\k <= 4/\H g = some (.ins C dx [])/\∀ H',SameBut1 g H H'->GrO C H' g k []->Q .non H'
theorem gInit_use {C:Addr} {H:Hp} {g dx:Addr} {k:Int} {Q:VK} {E:XK} (h1:1 <= k) (h2:k <= 4) (h3:H g = some (.ins C dx [])) (q:∀ H',SameBut1 g H H'->GrO C H' g k []->Q .non H'):spGInit C (.ref g :: ([.int k] ++ [])) H Q E:=⟨g,dx,k,rfl,h1,h2,h3,q⟩
def spGPut (C:Addr):Sp:=fun vs H Q _=>∃ (g:Addr) (k:Int) (a:List Nat) (c:Nat),vs = [.ref g,tx [c]]/\1 <= k/\k <= 4/\GrO C H g k a/\a.length < 40/\c ∈ sgn k/\∀ H',SameBut1 g H H'->GrO C H' g k (a ++ [c])->Q .non H'
theorem gPut_use {C:Addr} {H:Hp} {g:Addr} {k:Int} {a:List Nat} {c:Nat} {Q:VK} {E:XK} (h1:1 <= k) (h2:k <= 4) (h3:GrO C H g k a) (h4:a.length < 40) (h5:c ∈ sgn k) (q:∀ H',SameBut1 g H H'->GrO C H' g k (a ++ [c])->Q .non H'):spGPut C (.ref g :: ([tx [c]] ++ [])) H Q E:=⟨g,k,a,c,rfl,h1,h2,h3,h4,h5,q⟩
def spGBack (C:Addr):Sp:=fun vs H Q _=>∃ (g:Addr) (k:Int) (a:List Nat),vs = [.ref g]/\GrO C H g k a/\a ≠ []/\a.length <= 40/\∀ H',SameBut1 g H H'->GrO C H' g k a.dropLast->Q .non H'
def spGRow (C:Addr):Sp:=fun vs H Q _=>∃ (g:Addr) (k:Int) (a:List Nat),vs = [.ref g]/\GrO C H g k a/\Q (tx a) H
theorem gRow_use {C:Addr} {H:Hp} {g:Addr} {k:Int} {a:List Nat} {Q:VK} {E:XK} (h3:GrO C H g k a) (q:Q (tx a) H):spGRow C (.ref g :: ([] ++ [])) H Q E:=⟨g,k,a,rfl,h3,q⟩
def GAsk (C:Addr) (vs:List V) (H:Hp) (g:Addr) (k:Int) (a:List Nat):Prop:=vs = [.ref g]/\GrO C H g k a/\1 <= k/\k <= 4/\isRow k a = true
def spGMany (C:Addr):Sp:=fun vs H Q _=>∃ g k a,GAsk C vs H g k a/\∀ H',Same H H'->Q (.int (cnt k.toNat a)) H'
def spGGoOn (C:Addr):Sp:=fun vs H Q _=>∃ g k a,GAsk C vs H g k a/\∀ H',Same H H'->Q (.bl (goB k.toNat a)) H'
def spGDepths (C:Addr):Sp:=fun vs H Q _=>∃ g k a,GAsk C vs H g k a/\∀ p ns H',H p = none->Same H H'->H' p = some (iL ns)->DL k.toNat a ns->Q (.ref p) H'
def spGFewest (C:Addr):Sp:=fun vs H Q _=>∃ g k a,GAsk C vs H g k a/\∀ ns H',Same H H'->DL k.toNat a ns->Q (hdv ns) H'
theorem gAsk {C:Addr} {H:Hp} {g:Addr} {k:Int} {a:List Nat} (h:GrO C H g k a) (h1:1 <= k) (h2:k <= 4) (h3:isRow k a = true):GAsk C (.ref g :: ([] ++ [])) H g k a:=⟨rfl,h,h1,h2,h3⟩
def SameBut2 (p g:Addr) (H H':Hp):Prop:=∀ b o,H b = some o->b ≠ p->b ≠ g->H' b = some o
theorem SameBut2.l {p g:Addr} {H H1 H2:Hp} (a:SameBut2 p g H H1) (b:SameBut1 p H1 H2):SameBut2 p g H H2:=fun c o h n m=>b c o (a c o h n m) n
theorem SameBut2.r {p g:Addr} {H H1 H2:Hp} (a:SameBut2 p g H H1) (b:SameBut1 g H1 H2):SameBut2 p g H H2:=fun c o h n m=>b c o (a c o h n m) m
theorem SameBut2.s {p g:Addr} {H H1 H2:Hp} (a:SameBut2 p g H H1) (b:Same H1 H2):SameBut2 p g H H2:=fun c o h n m=>b c o (a c o h n m)
end BrS
namespace BrS
open L2 PySem BrM BrC BrR
end BrS
namespace BrS
open L2 PySem BrM BrC BrR
end BrS
namespace BrS
open L2 PySem BrM BrC BrR
end BrS
namespace BrS
open L2 PySem BrM BrC BrR
end BrS
namespace L2
open PySem PySem.Spec PyProof.Rows
section
variable {X:Cx}
theorem IntsAre.at {P : Nat -> Value -> Prop} : ∀ {ks : List Int} {vs : List Value}, vs.length = ks.length -> (∀ (j : Nat) (v : Value), vs[j]? = some v -> ∃ (k : Int) (t : Tok), ks[j]? = some k /\ v = .int k t) -> IntsAre vs ks
  | [], [], _, _ => .nil
  | [], _ :: _, h, _ => by cases h
  | _ :: _, [], h, _ => by cases h
  | k :: ks, v :: vs, h, hp => by
    obtain ⟨k2, t, e, ev⟩ := hp 0 v rfl
    cases e
    subst ev
    exact .cons k t (IntsAre.at (P := P) (by simpa using h) fun j v hv => hp (j + 1) v hv)
theorem collect_dict {prog : Program} {w : World} {A : Around} {E : Value -> Shared -> Prop} {s : Shared} {d : Addr} {vs : List (Key × Value)} {ep : Nat} {R : List Value -> Shared -> Prop} (hd : (d == sysModules) = false) (hh : A.handled = none)
    (hat : s.heap.DictAt (mixKind prog w) d vs ep) (hn : vs.length <= sizeLine)
    (q : ∀ h' tk ys, s.heap.objs.size <= h'.objs.size -> (∀ b o, s.heap.get? b = some o -> h'.get? b = some o) -> ys.length = vs.length -> (∀ (j : Nat) (v : Value), ys[j]? = some v -> ∃ k x, vs[j]? = some (k, x) /\ (mixKind prog w).is k v = true) -> R ys { s with heap := h', toks := tk }) :
    wpAny (model prog w) A (collect (.ref d)) R E s := by
  have src := PySem.W.kdl_dict (knd := mixKind prog w) (kvs := vs) (ep := ep) hd
  have hlt := (src.there _ hat).1
  unfold collect
  refine wpAny_bind (wpAny_runValue (codeAny_builtin F.entry_proto_collect ?_))
  rw [Around.under_plainId F.plain_proto_collect _]
  show wpAny _ A.in1 (newList [] >>= fun l => again (.builtin "list.__iadd__" ⟨[l, .ref d], []⟩)) _ _ s
  refine wpAny_bind (wpAny_newObj_type (wpAny_pure ⟨plainId_quiet F.plain_list_iadd _, codeAny_builtin F.entry_list_iadd ?_⟩))
  rw [Around.under_plainId F.plain_list_iadd _]
  have gL : (s.heap.push { cls := .type "list", data := .seq ([] : List Value).toArray }).get? s.heap.objs.size = some { cls := .type "list", data := .seq #[] } := Heap.get?_push_size _ rfl
  show wpAny _ A.in1 (Builtin.List.listExtendWith (.ref s.heap.objs.size) (.ref d) (.ref s.heap.objs.size)) _ _ _
  let R0 : Result -> Shared -> Prop := fun r s' => ∃ h' tk acc c, r = .ok (.ret (.ref s.heap.objs.size)) /\ s' = { s with heap := h', toks := tk } /\ (∀ b o, s.heap.get? b = some o -> h'.get? b = some o) /\
    h'.get? s.heap.objs.size = some { cls := .type "list", dict := none, data := .seq acc c, slots := #[] } /\ ItemsOf (fun i v => ∃ k x, vs[i]? = some (k, x) /\ (mixKind prog w).is k v = true) acc vs.length
  refine wpAny_mono (PySem.W.kdl_extend (A := A) (s := { s with heap := s.heap.push { cls := .type "list", data := .seq ([] : List Value).toArray } }) (R := R0) src hh (src.keep _ _ hat fun b _ o e => Heap.get?_push_of_some _ e)
    s.heap.objs.size (Nat.ne_of_gt hlt) (Nat.ne_of_gt hlt) (.ref s.heap.objs.size) 0 gL
    (fun h' tk acc c hk hS ha => ⟨h', tk, acc, c, rfl, rfl, fun b o e => hk b o (Nat.ne_of_lt (Heap.lt_size e)) (Heap.get?_push_of_some _ e), hS, ha⟩) hn) (fun fin s' x => ?_) fun e s' x => ?_
  · cases fin with
    | done f =>
      obtain ⟨h', tk, acc, c, e, rfl, hk, hS, ha⟩ := x
      cases e
      refine wpAny_bind (wpAny_load hS (wpAny_pure (q h' tk acc.toList (Nat.le_of_lt (Heap.lt_size hS)) hk (by rw [Array.length_toList]; exact ha.1) fun j v hv => ha.2 j v (by rw [<- Array.getElem?_toList]; exact hv))))
    | again c1 =>
      refine ⟨x.1, codeAny_mono x.2 fun r s2 y => ?_⟩
      obtain ⟨h', tk, acc, c, rfl, rfl, hk, hS, ha⟩ := y
      refine wpAny_bind (wpAny_load hS (wpAny_pure (q h' tk acc.toList (Nat.le_of_lt (Heap.lt_size hS)) hk (by rw [Array.length_toList]; exact ha.1) fun j v hv => ha.2 j v (by rw [<- Array.getElem?_toList]; exact hv))))
  · obtain ⟨_, _, _, _, e', _⟩ := x
    cases e'
end
end L2
namespace L2
open PySem PySem.Spec PyProof.Rows
structure MeUE (P:Program) (w:World) (K:PySem.W.Frag) (mg:Str->Option Value) (base:Heap) (k:Nat) (C:Addr) (m:Str) (ps:List Str) (sp:Sp):Prop where
 ex:∃ f fd,FnOk P w K mg base (CXE P w) k f fd ps sp/\Meth K C m f/\Binds K fd ps []
theorem MeUE.mono {P:Program} {w:World} {K:PySem.W.Frag} {mg:Str->Option Value} {base:Heap} {j k:Nat} {C:Addr} {m:Str} {ps:List Str} {sp:Sp} (U:MeUE P w K mg base j C m ps sp) (h:j <= k):MeUE P w K mg base k C m ps sp :=
 let ⟨f,fd,F,a,b⟩:=U.ex; ⟨f,fd,F.mono h,a,b⟩
structure MkUE (P:Program) (w:World) (K:PySem.W.Frag) (mg:Str->Option Value) (base:Heap) (k:Nat) (C:Addr) (ps:List Str) (sp:Sp):Prop where
 ex:∃ j f fd,j + 1 <= k/\FnOk P w K mg base (CXE P w) j f fd ps sp/\Mk K C f/\Binds K fd ps []
theorem MkUE.mono {P:Program} {w:World} {K:PySem.W.Frag} {mg:Str->Option Value} {base:Heap} {j k:Nat} {C:Addr} {ps:List Str} {sp:Sp} (U:MkUE P w K mg base j C ps sp) (h:j <= k):MkUE P w K mg base k C ps sp :=
 let ⟨i,f,fd,hi,F,a,b⟩:=U.ex; ⟨i,f,fd,Nat.le_trans hi h,F,a,b⟩
def tMethE (C:Addr) (m:Str) (sp:Sp) (R:XR) (ta:TE) (t:TA):TE:=fun σ H Q=>ta σ H fun x H1=>∃ a dx fs,x = .ref a/\H1 a = some (.ins C dx fs)/\fs.lookup m = none/\t σ H1 fun vs H2=>sp (x :: vs) H2 Q (xk R σ)
def tMakeE (C:Addr) (sp:Sp) (R:XR) (t:TA):TE:=fun σ H Q=>t σ H fun vs H1=>∀ x dx,H1 x = none->H1 dx = none->dx ≠ x ->
 sp (.ref x :: vs) (upd (upd H1 dx (.own x)) x (.ins C dx [])) (fun v H2=>v = .non/\Q (.ref x) H2) (xk R σ)
section
variable {X:Cx} {R:XR} {k:Nat} {f C:Addr} {fd:FuncData} {ps:List Str} {sp:Sp} {x m:Str} {p pos apos:Pos} {e o:Expr} {es:List Expr} {ta:TE} {t:TA}
theorem run_fnE {pins : List (Addr × Obj)} {σ : St} {H : Hp} {s : Shared} {Q : VK} {us : List Value} {vs : List V} (F : FnOk X.prog X.w X.K X.mg X.base (CXE X.prog X.w) k f fd ps sp) (hr : Room k X.A) (hb : Binds X.K fd ps []) (hx : ∀ e s', XF X R e s' -> X.xe e s')
    (I : Inv X pins σ H s) (r : Vals vs us) (h : sp vs H Q (xk R σ)) : wpAny (model X.prog X.w) X.A (call (.ref f) us) (EP X pins σ Q) X.xe s := by
  have hl : us.length = ps.length := by rw [<- r.length]; exact F.len _ _ _ _ h
  refine wpAny_call (codeAny_mono (F.run X.A X.stack s H ⟨us, []⟩ us vs Q (xk R σ) hr I.env0 ?_ r h) fun res s' hq => ?_)
  · have z := hb s us I.kIn (by rw [List.append_nil]; exact hl)
    rw [List.append_nil] at z; exact z
  · cases res with
    | error ev => exact hx _ _ ⟨pins, σ, H, s, I, hq⟩
    | ok fl =>
      cases fl with
      | ret u => exact I.after hq
      | next => exact False.elim hq
      | brk => exact False.elim hq
      | cont => exact False.elim hq
theorem pe_mthE {pl : Sem Bool} (c : Cls X.K C) (U : MeUE X.prog X.w X.K X.mg X.base k C m ps sp) (hr : Room k X.A) (hx : ∀ e s', XF X R e s' -> X.xe e s') (he : PE X o ta) (ha : PA X (e :: es) t)
  (hst : starEach (e :: es) X.env = (false, eval e X.env) :: starEach es X.env := by rfl) (hpl : (backTo pos (starEach es X.env)).any (·.1) = false := by rfl)
  (ht : eval (.Call (.Attribute o m apos) (e :: es) [] pos) X.env = (do
   let ov <- eval o X.env
   standAt apos.atName
   let (f, first) <- holding [ov] (getMethod ov m pl)
   callWith pos f first (backTo pos (starEach (e :: es) X.env)) (backToKw pos (keywordEach [] X.env))) := by rfl) :
  PE X (.Call (.Attribute o m apos) (e :: es) [] pos) (tMethE C m sp R ta t) := by
 obtain ⟨f, fd, F, hm, hb⟩ := U.ex
 intro pins s σ H Q I h
 refine PySem.W.methodCall_KW (pl := pl) (thn (he pins s σ H _ I h) fun u s1 ⟨x, H1, I1, rx, a, dx, fs, ex, ea, l, q⟩ => ?_) ht
 subst ex
 obtain rfl : u = Value.ref a := rx
 refine getmeth_ok I1 ea c hm l ?_
 refine PySem.W.callWith_K (first := [.ref a]) (h₀ := X.base) I.ok.mod.kin hm.kp (thn (ha pos pins s1 σ H1 _ I1 q) fun us s2 ⟨vs, H2, I2, r, q2⟩ => ⟨I2.kIn, ?_⟩) hst hpl
 exact run_fnE (us := .ref a :: us) (vs := .ref a :: vs) F hr hb hx I2 (.cons rfl r) q2
theorem pe_mth0E {pl : Sem Bool} (c : Cls X.K C) (U : MeUE X.prog X.w X.K X.mg X.base k C m ps sp) (hr : Room k X.A) (hx : ∀ e s', XF X R e s' -> X.xe e s') (he : PE X o ta)
  (ht : eval (.Call (.Attribute o m apos) [] [] pos) X.env = (do
   let ov <- eval o X.env
   standAt apos.atName
   let (f, first) <- holding [ov] (getMethod ov m pl)
   callWith pos f first (backTo pos (starEach [] X.env)) (backToKw pos (keywordEach [] X.env))) := by rfl) :
  PE X (.Call (.Attribute o m apos) [] [] pos) (tMethE C m sp R ta tNil) := by
 obtain ⟨f, fd, F, hm, hb⟩ := U.ex
 intro pins s σ H Q I h
 refine PySem.W.methodCall_KW (pl := pl) (thn (he pins s σ H _ I h) fun u s1 ⟨x, H1, I1, rx, a, dx, fs, ex, ea, l, q⟩ => ?_) ht
 subst ex
 obtain rfl : u = Value.ref a := rx
 refine getmeth_ok I1 ea c hm l ?_
 exact PySem.W.callWith_K0 (first := [.ref a]) I1.kIn hm.kp (run_fnE (us := [.ref a]) (vs := [.ref a]) F hr hb hx I1 (.cons rfl .nil) q)
theorem run_makeE {pins : List (Addr × Obj)} {σ : St} {H : Hp} {s : Shared} {Q : VK} {us : List Value} {vs : List V} (M : Mk X.K C f) (F : FnOk X.prog X.w X.K X.mg X.base (CXE X.prog X.w) k f fd ps sp) (hr : Room (k + 1) X.A) (hb : Binds X.K fd ps [])
    (hx : ∀ e s', XF X R e s' -> X.xe e s') (I : Inv X pins σ H s) (r : Vals vs us)
    (h : ∀ x dx, H x = none -> H dx = none -> dx ≠ x -> sp (.ref x :: vs) (upd (upd H dx (.own x)) x (.ins C dx [])) (fun v H2 => v = .non /\ Q (.ref x) H2) (xk R σ)) :
    wpAny (model X.prog X.w) X.A (call (.ref C) us) (EP X pins σ Q) X.xe s := by
  have hq := h (s.heap.objs.size + 1) s.heap.objs.size (I.hok.fresh (Nat.le_succ _)) (I.hok.fresh (Nat.le_refl _)) (Nat.ne_of_lt (Nat.lt_succ_self _))
  have I2 := Inv.made (C := C) I
  have r2 : Vals (V.ref (s.heap.objs.size + 1) :: vs) (Value.ref (s.heap.objs.size + 1) :: us) := .cons rfl r
  have hl : (Value.ref (s.heap.objs.size + 1) :: us ++ []).length = ps.length := by
    have e := r2.length
    rw [F.len _ _ _ _ hq] at e
    rw [List.append_nil]
    exact e.symm
  have hbb := hb _ (Value.ref (s.heap.objs.size + 1) :: us) I2.kIn hl
  rw [List.append_nil] at hbb
  refine wpAny_call (make_map (f := f) I.kIn M.makes M.init (beq_iff_eq.mp M.fn) (codeAny_mono (F.run _ X.stack _ _ ⟨Value.ref (s.heap.objs.size + 1) :: us, []⟩ (Value.ref (s.heap.objs.size + 1) :: us) _ _ (xk R σ) (hr.make C us [])
    (I2.env0.make C us []) hbb r2 hq) fun r s' hq' => ?_))
  cases r with
  | error e => exact hx _ _ ⟨pins, σ, _, _, I2, hq'⟩
  | ok fl =>
    cases fl with
    | ret u =>
      obtain ⟨v, H', I3, rv, ev, q3⟩ := I2.after hq'
      subst ev
      exact ⟨rv, ⟨V.ref (s.heap.objs.size + 1), H', I3, rfl, q3⟩⟩
    | next => exact False.elim hq'
    | brk => exact False.elim hq'
    | cont => exact False.elim hq'
theorem pe_mkeE (U:MkUE X.prog X.w X.K X.mg X.base k C ps sp) (hr:Room k X.A) (hx:∀ e s',XF X R e s'->X.xe e s') (hm:X.mg x = some (.ref C)) (ha:PA X (e :: es) t) (hg:Gl X x:=by rfl) (hdb:(x == ("__debug__" : Str)) = false:=by decide)
  (he:starEach (e :: es) X.env = (false,eval e X.env) :: starEach es X.env:=by rfl) (hpl:(backTo pos (starEach es X.env)).any (·.1) = false:=by rfl):PE X (.Call (.Name x p) (e :: es) [] pos) (tMakeE C sp R t):=by
 obtain ⟨j,f,fd,hj,F,M,hb⟩:=U.ex
 intro pins s σ H Q I h
 refine wpAny_Call_Name_kw (ld_glob I hg hm ?_ hdb)
 refine PySem.W.callWith_K (h₀:=X.base) I.ok.mod.kin M.kp (thn (ha pos pins s σ H _ I h) fun us s1 ⟨vs,H1,I1,r,q⟩=>⟨I1.kIn,?_⟩) he hpl
 exact run_makeE M F (hr.mono hj) hb hx I1 r q
end
section
variable {σ:St} {H:Hp} {Q:VK} {C:Addr} {m:Str} {sp:Sp} {R:XR} {ta:TE} {t:TA}
theorem s_methE (h:ta σ H fun x H1=>∃ a dx fs,x = .ref a/\H1 a = some (.ins C dx fs)/\fs.lookup m = none/\t σ H1 fun vs H2=>sp (x :: vs) H2 Q (xk R σ)):tMethE C m sp R ta t σ H Q:=h
theorem s_makeE (h:t σ H fun vs H1=>∀ x dx,H1 x = none->H1 dx = none->dx ≠ x->sp (.ref x :: vs) (upd (upd H1 dx (.own x)) x (.ins C dx [])) (fun v H2=>v = .non/\Q (.ref x) H2) (xk R σ)):tMakeE C sp R t σ H Q:=h
end
end L2
namespace L2
open PySem PySem.Spec PyProof.Rows
theorem ps_setPlB {X:Cx} {st:Stmt} {i j:Nat} {x y:Str} {es:List Expr} {ts:List TE} {pos pos' p p2 py:Pos} (est:st = .Assign [.Name x pos'] (.BinOp (.Name y py) .Add (.List es p) p2) pos) (hN:X.N.Nodup) (hi:X.N[i]? = some x) (hx:Loc X.env.scope x) (hf:X.fn x = true\/X.env.scope.names.lookup x = some .local)
  (hy:PEb X (.Name y py) (tVar j)) (hes:Pl X es ts):PSb X st (tAsg (tOp rPlus (tVar j) (tLst (tAll ts))) (gName i)):=by
 subst est
 exact ⟨ps_set hN hi hx (pe_op op_plus hy.pe (pe_lst hes.pa)) (hf:=hf)⟩
end L2
namespace BrS
open L2 PySem BrM BrC BrR
def NoS (K:PySem.W.Frag) (k:Int) (H:Hp) (v:V):Prop:=(∃ b,v = tx b/\b.length <= 1000/\(isRow k b = false\/b.length ≠ 1))\/∃ ty,TyOf K H v (.type ty)/\ty ∈ plainTy/\ty ≠ "str"
theorem NoS.same {K:PySem.W.Frag} {k:Int} {H H':Hp} {v:V} (h:NoS K k H v) (s:Same H H'):NoS K k H' v:=h.elim .inl fun ⟨ty,a,b⟩=>.inr ⟨ty,a.same s,b⟩
def spGInitE (K:PySem.W.Frag) (cs:Cs) (C:Addr):Sp:=fun vs H Q E=>spGInit C vs H Q E\/∃ (g:Addr) (kv:V),vs = [.ref g,kv]/\NoK K H kv/\Ref E cs.NoKinds H
def spGPutE (K:PySem.W.Frag) (cs:Cs) (C:Addr):Sp:=fun vs H Q E=>spGPut C vs H Q E\/∃ (g:Addr) (k:Int) (a:List Nat) (x:V),vs = [.ref g,x]/\1 <= k/\k <= 4/\GrO C H g k a/\a.length <= 40/\((NoS K k H x/\Ref E cs.NoLine H)\/(∃ c,x = tx [c]/\c ∈ sgn k/\a.length = 40/\Ref E cs.TooMany H))
def spGBackE (cs:Cs) (C:Addr):Sp:=fun vs H Q E=>spGBack C vs H Q E\/∃ (g:Addr) (k:Int),vs = [.ref g]/\GrO C H g k []/\Ref E cs.NoNumber H
def nmM:List Nat:=[84,111,111,77,97,110,121]
def wPut:List Nat:=[112,117,116]
def wBack:List Nat:=[98,97,99,107]
end BrS
namespace BrS
open L2 PySem BrM BrC BrR
theorem TxS {K:PySem.W.Frag} {H:Hp} {v:V} {ty:String} {k:Int} (h1:TyOf K H v (.type ty)) (h2:ty ∈ plainTy) (h3:ty ≠ "str"):NoS K k H v:=.inr ⟨_,h1,h2,h3⟩
end BrS
namespace BrS
open L2 PySem BrM BrC BrR
def GoodS (k:Int) (v:V):Prop:=∃ b,v = tx b/\b.length <= 1000/\(isRow k b = false\/b.length ≠ 1)
theorem GoodS.noS {K:PySem.W.Frag} {k:Int} {H:Hp} {v:V} (h:GoodS k v):NoS K k H v:=.inl h
theorem isRow_odd {k:Int} {c:Nat} (h:c ∉ sgn k):isRow k [c] = false:=by
 unfold isRow
 rw [List.all_cons,decide_eq_false h,Bool.false_and,Bool.and_false]
end BrS
namespace BrS
open L2 PySem BrM BrC BrR
theorem cut_dl (a:List Nat):cutL a none (some (-1)) = a.dropLast:=by
 rcases List.eq_nil_or_concat a with rfl | ⟨i,d,rfl⟩
 ·rfl
 ·rw [List.concat_eq_append,cut_init,List.dropLast_concat]
end BrS
namespace BrS
open L2 PySem BrM BrC BrR
end BrS
namespace L2
open PySem PySem.Spec PyProof.Rows
section
variable {X:Cx}
inductive HDs (X : Cx) : List ExceptHandler -> List (Addr × TS) -> Prop
 | nil : HDs X [] []
 | cons {cn : Str} {CR : Addr} {np hpos : Pos} {b₀ : Stmt} {suite : List Stmt} {ts : TS} {hs : List ExceptHandler} {th : List (Addr × TS)} (ZR : ECls X.K CR) (hm : X.mg cn = some (.ref CR)) (hg : Gl X cn) (hd : (cn == ("__debug__" : Str)) = false)
   (h : ∀ e : Value, PSs (X.held e) (b₀ :: suite) ts) (r : HDs X hs th) : HDs X (.ExceptHandler (some (.Name cn np)) none (b₀ :: suite) hpos :: hs) ((CR, ts) :: th)
theorem hd_cons {cn:Str} {CR:Addr} {np hpos:Pos} {b₀:Stmt} {suite:List Stmt} {ts:TS} {hs:List ExceptHandler} {th:List (Addr × TS)} (ZR:ECls X.K CR) (hm:X.mg cn = some (.ref CR))
  (h:∀ e:Value,PSs (X.held e) (b₀ :: suite) ts) (r:HDs X hs th) (hg:Gl X cn:=by rfl) (hd:(cn == ("__debug__" : Str)) = false:=by decide):HDs X (.ExceptHandler (some (.Name cn np)) none (b₀ :: suite) hpos :: hs) ((CR,ts) :: th):=.cons ZR hm hg hd h r
def tHand (K:PySem.W.Frag) (D:Ends) (C x:Addr) (σ:St) (H:Hp):List (Addr × TS)->Prop
 | []=>False
 | (CR,ts) :: r=>(PySem.W.mroIn K C (.ref CR) = some true/\∀ ob,ts D σ (upd H x (excO ob x C)))\/(PySem.W.mroIn K C (.ref CR) = some false/\tHand K D C x σ H r)
def tTryN (K:PySem.W.Frag) (th:List (Addr × TS)) (tb:XR->TS):TS:=fun D σ H=>tb (fun C x σ' H'=>tHand K D C x σ' H' th) D σ H
theorem ps_tryN {body : List Stmt} {h₀ : ExceptHandler} {hs : List ExceptHandler} {pos : Pos} {tb : XR -> TS} {th : List (Addr × TS)} (T : X.Top)
    (hb : ∀ (pn : List (Addr × Obj)) (xe : Value -> Shared -> Prop) (R : XR), (∀ e s', XF (X.tried pn xe) R e s' -> xe e s') -> PSs (X.tried pn xe) body (tb R))
    (hh : HDs X (h₀ :: hs) th) : PS X (.Try body (h₀ :: hs) [] [] pos) (tTryN X.K th tb) := by
  intro pins s σ H D I h
  refine wpAny_Try_except ?_
  refine wpAny_mono (hb (X.pn ++ pins) _ _ (fun e s1 z => ?_) [] s σ H D (I.tried _) h) (fun f s1 q => ?_) fun e s1 z => z
  · obtain ⟨pins1, σ1, H1, s1', I1, x, C, a0, H', B, rfl, os, bare, q, C', x', e1, e2, r⟩ := z
    cases e1; cases e2
    have I1 := I1.untried I.ok
    refine wpAny_looks_onW (by rw [I.ok.frames, T.stk]) T.fr (by rw [<- T.stk]; exact q.fl) fun h4 held4 up4 => ?_
    refine wpAny_landsW held4 fun h5 fl5 up5 => ?_
    have q5 := q.on (up4.trans up5) (by rw [T.stk]; exact fl5) I1.stkFree
    have I5 : Inv X pins σ1 H' { s1 with heap := h5 } := I1.call' (ch := []) os q5.un (q5.ok.kept q5.fl.1) bare (fun b z => absurd z (by simp))
    have X5 : ExcAt x C h5 := by
      obtain ⟨oe, vs, g1, g2, g3, _⟩ := q5.fl.first
      exact ⟨oe, vs, g1, g2, g3⟩
    clear h
    generalize h₀ :: hs = hl at hh
    induction hh with
    | nil => exact r.elim
    | cons ZR hm hg hd hsu hrest ih =>
      refine wpAny_handleBy_cons (codeAny_handlers_test (ld_glob (X := X.held (.ref x)) (I5.held _) hg hm ?_ hd)) (by intro z; cases z)
      rcases r with ⟨hsub, r⟩ | ⟨hsub, r⟩
      · refine exc_matches ZR I5.kIn hsub X5 ?_
        refine codeAny_handlers_suite ?_
        refine lands_againW (base := B) (l := X.env :: X.outer) (by rw [<- T.stk]; exact q5.fl) fun h6 fl6 up6 => ?_
        have q6 := q5.on up6 (by rw [T.stk]; exact fl6) I1.stkFree
        obtain ⟨ob, c6⟩ := q6.caught
        have I6 : Inv X pins σ1 (upd H' x (excO ob x C)) { s1 with heap := h6 } := I1.call' (ch := []) os c6.1 c6.2 bare (fun b z => absurd z (by simp))
        refine wpAny_mono (hsu (.ref x) pins _ _ _ D (I6.held _) (r ob)) (fun f s8 q8 => ?_) fun _ _ z => z.elim
        cases f with
        | next => obtain ⟨σ8, H8, I8, q9⟩ := q8; exact ⟨_, _, I8.unheld I.ok, q9⟩
        | brk => obtain ⟨σ8, H8, I8, q9⟩ := q8; exact ⟨_, _, I8.unheld I.ok, q9⟩
        | cont => obtain ⟨σ8, H8, I8, q9⟩ := q8; exact ⟨_, _, I8.unheld I.ok, q9⟩
        | ret u => obtain ⟨v, σ8, H8, I8, rv, q9⟩ := q8; exact ⟨_, _, _, I8.unheld I.ok, rv, q9⟩
      · refine exc_matches ZR I5.kIn hsub X5 ?_
        exact ih r
  · have q := q.untried I.ok
    cases f with
    | next => exact wpAny_execs_nil q
    | brk => exact q
    | cont => exact q
    | ret u => exact q
theorem s_tryN {K:PySem.W.Frag} {th:List (Addr × TS)} {tb:XR->TS} {D:Ends} {σ:St} {H:Hp} (h:tb (fun C x σ' H'=>tHand K D C x σ' H' th) D σ H):tTryN K th tb D σ H:=h
end
section
variable {X:Cx}
def gSlc (to:TE) (tl th:TO):TG:=fun v σ H Q=>to σ H fun o H1=>tl σ H1 fun l H2=>th σ H2 fun u H3=>∃ p b xs zs,o = .ref p/\v = .ref b/\p ≠ b/\H3 p = some (.lst xs)/\H3 b = some (.lst zs)/\xs.length + zs.length <= sizeLine /\
 ∀ ys,ys.length <= xs.length + zs.length->Q σ (upd H3 p (.lst ys))
theorem list_cut_set {prog:Program} {w:World} {A:Around} {E:Value->Shared->Prop} {s:Shared} {l b sl:Addr} {its its2:List Value} {n n2:Nat} {vl vu:Value} {lo hi:Option Int} {Q:Unit->Shared->Prop}
  (hl:s.heap.get? l = some { cls:=.type "list",data:=.seq its.toArray n }) (hb:s.heap.get? b = some { cls:=.type "list",data:=.seq its2.toArray n2 }) (hne:l ≠ b)
  (hs:s.heap.IsSliceOf sl vl vu .none) (pl:IsPart vl lo) (pu:IsPart vu hi) (hz:its.length + its2.length <= sizeLine)
  (h:∀ i j:Nat,i <= j->Q () { s with heap:=s.heap.update l (Obj.mapSeq fun xs=>xs.extract 0 i ++ its2.toArray ++ xs.extract j xs.size) }):wpAny (model prog w) A (setItem (.ref l) (.ref sl) (.ref b)) Q E s:=by
 have hL:s.heap.IsList l its.toArray:=PySem.IsL.isList (n:=n) hl
 obtain ⟨os,hos,hcs,hds⟩:=id hs
 have hTs:s.TypeIs (.ref sl) "slice":=⟨os,hos,hcs⟩
 unfold setItem
 try with_reducible refine wpAny_holding ?_
 first | refine wpAny_bind (wpAny_pure ?_) | skip
 refine wpAny_bind (wpAny_sequenceKey hL.typeIs (by decide) ?_)
 refine wpAny_bind (wpAny_callSpecial?_slot (name:=Str.ofString "__setitem__") hL.typeIs slot_list_setitem
  (wpAny_call_entry slot_list_setitem hL.typeIs entry_list_setitem ?_ (args_list_setitem _ _ _)))
 show wpAny _ _ (Builtin.List.listSubscript? (.ref sl) >>= _) _ _ s
 refine wpAny_bind ?_
 unfold Builtin.List.listSubscript?
 refine wpAny_bind (wpAny_specialOf hTs slice_no_index ?_)
 simp only [Option.isNone_none,if_true]
 refine wpAny_pure ?_
 show wpAny _ _ (typeOf (.ref sl) >>= _) _ _ s
 refine wpAny_bind (wpAny_typeOf hTs ?_)
 rw [if_neg (by decide)]
 rw [listSliceParts_eq]
 refine wpAny_bind (wpAny_bind (wpAny_field hos hds (x:=.none) rfl (wpAny_bind (wpAny_listPart .none ?_))))
 rw [if_neg (by exact Bool.false_ne_true)]
 refine wpAny_bind (wpAny_field hos hds (x:=vl) rfl (wpAny_bind (wpAny_listPart pl ?_)))
 refine wpAny_bind (wpAny_field hos hds (x:=vu) rfl (wpAny_bind (wpAny_listPart pu (wpAny_pure ?_))))
 rw [if_neg (show ¬ Builtin.List.listSameRef (Value.ref l) (Value.ref b) = true by simp [Builtin.List.listSameRef,hne])]
 unfold Builtin.List.listAllItems
 refine wpAny_bind (wpAny_bind (wpAny_typeOf (T:="list") ⟨_,hb,rfl⟩ ?_))
 rw [if_pos (by decide)]
 refine listItems_at hb rfl ?_
 refine wpAny_bind (listItems_at hl rfl ?_)
 refine wpAny_bind (wpAny_of_eq (sliceIndices_raw lo hi none its.toArray.size (by simp)) ?_)
 obtain ⟨b1,b2,b3⟩:=slice_bounds lo hi its.toArray.size
 rw [if_pos (by rw [b3]; rfl)]
 refine wpAny_bind (wpAny_rule ?_)
 rw [if_neg (by rw [notLongL (by simp; omega)]; exact Bool.false_ne_true)]
 refine wpAny_bind (listUpdate_at hl rfl ?_ (hsz2:=?_))
 ·exact wpAny_bind (wpAny_letGo (wpAny_pure ⟨_,rfl,wpAny_pure (h _ _ (by omega))⟩))
 ·simp only [Array.size_append,Array.size_extract,List.size_toArray]
  omega
theorem pg_slc {o : Expr} {lo hi : Option Expr} {p2 pos : Pos} {to : TE} {tl th : TO} (ho : PE X o to) (hl : PO X lo tl) (hu : PO X hi th)
  (ha : ∀ v, assign (.Subscript o (.Slice lo hi none p2) pos) X.env v = (do
   let ov <- holding [v] (eval o X.env)
   let iv <- holding [v, ov] (eval (.Slice lo hi none p2) X.env)
   standAt pos
   holding [v, ov, iv] (setItem ov iv v)
   release [iv, v, ov] []) := by intro _; rfl) : PG X (.Subscript o (.Slice lo hi none p2) pos) (gSlc to tl th) := by
 intro pins s σ H v u Q I r h
 rw [ha]
 refine wpAny_bind (wpAny_holding (thn (ho pins s σ H _ I h) fun ov s1 ⟨x, H1, I1, r1, q1⟩ => ?_))
 refine wpAny_bind (wpAny_holding (wpAny_Slice (thn (hl pins s1 σ H1 _ I1 q1) fun vl s2 ⟨l, H2, I2, pl, q2⟩ => thn (hu pins s2 σ H2 _ I2 q2) fun vu s3 ⟨uu, H3, I3, pu, q3⟩ => ?_)))
 rw [evalPart_none]
 refine wpAny_pure ?_
 obtain ⟨p, b, xs, zs, rfl, rfl, hpb, hp, hb, hz, q⟩ := q3
 cases r1
 cases r
 have I4 : Inv X pins σ H3 { s3 with heap := s3.heap.push { cls := .type "slice", data := .fields #[vl, vu, .none] } } := I3.kept (t' := s3.toks) fun b ob q => Heap.get?_push_of_some _ q
 obtain ⟨z1, its, n, r1, l1, e1⟩ := I4.lstM hp
 obtain ⟨z2, its2, n2, r2, l2, e2⟩ := I4.lstM hb
 refine wpAny_bind (wpAny_standAt (wpAny_bind (wpAny_holding (list_cut_set e1 e2 hpb (Heap.IsSliceOf.new ..) pl pu (by omega) fun i j hij => ?_))))
 refine wpAny_release ⟨σ, _, I4.lset (its' := its.take i ++ its2 ++ its.drop j) (ys := xs.take i ++ zs ++ xs.drop j) hp e1 (by simp; exact List.take_of_length_le (by simp)) (((r1.take i).append r2).append (r1.drop j)) ?_, q _ ?_⟩
 ·simp only [List.length_append, List.length_take, List.length_drop]; omega
 ·simp only [List.length_append, List.length_take, List.length_drop]; omega
theorem s_slc {to:TE} {tl th:TO} {v:V} {σ:St} {H:Hp} {Q:St->Hp->Prop} (h:to σ H fun o H1=>tl σ H1 fun l H2=>th σ H2 fun u H3=>∃ p b xs zs,o = .ref p/\v = .ref b/\p ≠ b/\H3 p = some (.lst xs)/\H3 b = some (.lst zs)/\xs.length + zs.length <= sizeLine /\
 ∀ ys,ys.length <= xs.length + zs.length->Q σ (upd H3 p (.lst ys))):gSlc to tl th v σ H Q:=h
def tOrX (K:PySem.W.Frag) (ta tb:TE):TE:=fun σ H Q=>ta σ H fun x H1=>∃ c,TruV K x H1 c/\if c = true then Q x H1 else tb σ H1 Q
theorem pe_orX (K:PySem.W.Frag) {a b:Expr} {rest:List Expr} {pos:Pos} {ta tb:TE} (ha:PE X a ta) (hb:PE X (.BoolOp .Or (b :: rest) pos) tb) (hK:X.K = K:=by rfl):PE X (.BoolOp .Or (a :: b :: rest) pos) (tOrX K ta tb):=by
 subst hK
 intro pins s σ H Q I h
 refine BoolOp_or (thn (ha pins s σ H _ I h) fun v s1 ⟨x,H1,I1,r1,q1⟩=>?_)
 refine thn (tru_ok pins s1 σ H1 x v (fun c H'=>if c = true then Q x H' else tb σ H' Q) I1 r1 q1) fun c s2 ⟨H2,I2,q2⟩=>?_
 cases c with
 | false=>exact hb pins s2 σ H2 Q I2 q2
 | true=>exact ⟨x,H2,I2,r1,q2⟩
theorem s_orX {K:PySem.W.Frag} {ta tb:TE} {σ:St} {H:Hp} {Q:VK} (h:ta σ H fun x H1=>∃ c,TruV K x H1 c/\if c = true then Q x H1 else tb σ H1 Q):tOrX K ta tb σ H Q:=h
end
end L2
namespace L2
open PySem PySem.Spec PyProof.Rows BrM
theorem vals_strs:∀ {us:List Value} {ss:List Str},StrsAre us ss->Vals (ss.map fun x=>tx x.cps.toList) us
 | _,_,.nil=>.nil
 | _,_,.cons x t h=>.cons ⟨t,rfl⟩ (vals_strs h)
theorem StrsAre.at {ks : List Str} : ∀ {vs : List Value}, vs.length = ks.length -> (∀ (j : Nat) (v : Value), vs[j]? = some v -> ∃ (k : Str) (t : Tok), ks[j]? = some k /\ v = .str k t) -> StrsAre vs ks := by
  induction ks with
  | nil => intro vs h _; match vs, h with | [], _ => exact .nil
  | cons k ks ih =>
    intro vs h hp
    match vs, h with
    | v :: vs, h =>
      obtain ⟨k2, t, e, ev⟩ := hp 0 v rfl
      cases e
      subst ev
      exact .cons k t (ih (by simpa using h) fun j v hv => hp (j + 1) v hv)
section
variable {X:Cx}
def rSortT (K:PySem.W.Frag):List V->Hp->VK->Prop:=fun xs H Q=>∃ (d:Addr) (kvs:List (Key × V)) (ss:List Str),xs = [.ref d]/\Rd H d (.dK kvs)/\kvs.map (·.1) = ss.map Sum.inr/\ss.length < 64 /\
 ∀ (p:Addr) (ts:List Str),H p = none->ts.Perm ss->sortedS ts = true->Q (.ref p) (upd H p (.lst (ts.map fun x=>tx x.cps.toList)))
theorem call_sortT (K:PySem.W.Frag) (hc:X.calm = true) (hK:X.K = K:=by rfl):CallR X (.builtin "sorted") (rSortT K):=by
 subst hK
 intro pins s σ H xs us Q I rv ⟨d,kvs,ss,e,hD,hks,h64,q⟩
 subst e
 obtain ⟨u,rfl,ru⟩:=rv.one
 cases ru
 obtain ⟨z,hd,vs,rel,dd⟩:=dk_rd I.hok hD
 obtain ⟨ep,hat⟩:=dd.dictAt
 have hkl:kvs.length = ss.length:=by have:=congrArg List.length hks; simpa using this
 have hvl:vs.length = ss.length:=by rw [<- rel.length]; exact hkl
 have hkeys:=rel.keys
 refine Calls.call_function_entry kind_sorted plain_sorted entry_sorted (args_sorted1 _) ?_
 unfold Builtin.«sorted»
 refine wpAny_bind (m:=checkCount "sorted" 1 1 _) (wpAny_pure ?_)
 refine wpAny_bind (collect_dict (A:=X.A.in1) hd (I.ok.hd hc) hat (by rw [sizeLine_eq]; omega) fun h' tk ys hle hk hyl0 hacc=>?_)
 have hal:ys.length = ss.length:=by rw [hyl0,hvl]
 have hI:StrsAre ys ss:=StrsAre.at hal fun j v hv=>by
  obtain ⟨k,x,hx,hkk⟩:=hacc j v hv
  have h1:(vs.map (·.1))[j]? = some k:=by rw [List.getElem?_map,hx]; rfl
  rw [<- hkeys,hks,List.getElem?_map] at h1
  obtain ⟨kz,h2,h3⟩:=Option.map_eq_some_iff.mp h1
  subst h3
  obtain ⟨t,et⟩:=(is_rel hkk:∃ t,v = Value.str kz t)
  exact ⟨kz,t,h2,et⟩
 have hyl:ys.length < 64:=by omega
 refine wpAny_bind (wpAny_newList ?_ (by rw [sizeLine_eq]; omega))
 have gL:(h'.push (seqObj "list" ys.toArray 0)).get? h'.objs.size = some (seqObj "list" ys.toArray 0):=Heap.get?_push_size _ rfl
 refine wpAny_bind (wpAny_holding (wpAny_call_entry slot_list_sort ⟨_,gL,rfl⟩ entry_list_sort (list_sort_treeK strKind_oneLt gL hI.keysOf (fun v₁ v₂ rest e=>keyKind_strs (by rw [<- e]; exact hI)) hyl fun st' hp hs=>⟨_,rfl,?_⟩) (args_list_sort _)))
 obtain ⟨ts,a1,a2,a3⟩:=sorted_out_str hI hp hs
 generalize (arrOf st').map (·.2) = out at a1 ⊢
 refine wpAny_pure ⟨_,rfl,?_⟩
 obtain ⟨e,he⟩:=sortedHeap_at (out:=out) gL
 have hb:∀ b o,s.heap.get? b = some o->b < h'.objs.size:=fun b o z=>Heap.lt_size (hk b o z)
 have kp2:∀ b o,s.heap.get? b = some o->(sortedHeap (h'.push (seqObj "list" ys.toArray 0)) h'.objs.size ys out).get? b = some o:=fun b o z=>by
  have hb:=hb b o z
  rw [sortedHeap_old (Nat.ne_of_lt hb) (by rw [size_push']; exact Nat.lt_succ_of_lt hb)]
  exact Heap.get?_push_of_some _ (hk b o z)
 have hln:ts.length <= 63:=by rw [a2.length_eq]; omega
 refine ⟨.ref h'.objs.size,_,I.laid (t':=tk) (o:=.lst (ts.map fun x=>tx x.cps.toList)) kp2 hle ⟨?_,out.toList,e,vals_strs a1,by rw [Array.toArray_toList]; exact he⟩,rfl,q _ ts (I.hok.fresh hle) a2 a3⟩
 rw [List.length_map,sizeLine_eq]; omega
end
end L2
namespace L2
open PySem PySem.Spec PyProof.Rows
section
variable {X:Cx}
def rNeU (K:PySem.W.Frag):R2:=fun x y H Q=>∃ a b xs,x = .ref a/\y = .ref b/\SqT K H a xs/\SqT K H b xs/\xs.all flatV = true/\Q (.bl false) H
theorem op_neU (K:PySem.W.Frag) (hu:X.A.units < cLine) (hK:X.K = K:=by rfl):OpR X (compareOp .NotEq) (rNeU K):=by
 subst hK
 intro pins s σ H x y v u Q I rx ry ⟨a,b,xs,e1,e2,q1,q2,hf,q⟩
 subst e1 e2
 cases rx
 cases ry
 obtain ⟨us,r1,p1,z1⟩:=I.tuple q1
 obtain ⟨ws,r2,p2,z2⟩:=I.tuple q2
 have l1:=r1.length
 have l2:=r2.length
 refine SeqAt.RcNeAt.tuples (e:=fun _=>true) p1 p2 hu (fun j h1 h2=>?_) _ _ _ _ ⟨.bl false,H,I,?_,q⟩
 ·have hj:j < xs.length:=by simpa [l1] using h1
  obtain ⟨u1,g1,ru⟩:=r1.get (i:=j) (x:=xs[j]) (List.getElem?_eq_getElem hj)
  obtain ⟨u2,g2,rw2⟩:=r2.get (i:=j) (x:=xs[j]) (List.getElem?_eq_getElem hj)
  have e1:us.toArray[j] = u1:=by
   obtain ⟨hh,e⟩:=List.getElem?_eq_some_iff.mp g1
   simpa using e
  have e2:ws.toArray[j] = u2:=by
   obtain ⟨hh,e⟩:=List.getElem?_eq_some_iff.mp g2
   simpa using e
  rw [e1,e2]
  have hfl:flatV xs[j] = true:=List.all_eq_true.mp hf _ (List.getElem_mem hj)
  have:=eqAt_V (A:=X.A.in1) (s:=s) ru rw2 hfl hfl
  rw [eqV_refl hfl] at this
  exact this
 ·show Value.bool (!(((List.range (min us.toArray.size ws.toArray.size)).all fun _=>true) && us.toArray.size == ws.toArray.size)) = Value.bool false
  simp
  omega
end
end L2
namespace BrS
open L2 PySem BrM BrC BrR
theorem sf_one (st : List Nat) : ∀ {es : Es}, Wf es -> sf (fun s => if s = st then 1 else 0) es = gt es st
  | [], _ => rfl
  | (s, c) :: r, w => by
    have h := sf_one st w.tail
    have hn := (List.nodup_cons.mp w.nd).1
    unfold sf gt
    by_cases e : s = st
    · subst e
      have h0 : sf (fun x => if x = s then 1 else 0) r = 0 := by
        have : ∀ {q : Es}, s ∉ q.map (·.1) -> sf (fun x => if x = s then 1 else 0) q = 0 := by
          intro q
          induction q with
          | nil => intro _; rfl
          | cons e q ih =>
            intro hq
            rw [List.map_cons, List.mem_cons, not_or] at hq
            unfold sf
            rw [ih hq.2, if_neg (fun z => hq.1 z.symm)]; simp
        exact this hn
      rw [h0]; simp
    · simp only [e, if_false]
      rw [h]; simp
def spStacks42:Sp:=fun vs H Q _=>∃ (k:Int) (a:List Nat),vs = [.int k,tx a]/\1 <= k/\k <= 4/\isRow k a = true/\a.count 63 <= 2 /\
 ∀ (L d:Addr) (ds:List V) (es:Es) (H':Hp),Same H H'->H' L = some (.lst (ds ++ [.ref d]))->H' d = some (.dK (enc es))->H d = none->Wf es->Good k.toNat a.length es->(∀ r,sf (ws k.toNat r) es = ws k.toNat (a ++ r) [])->es.length <= 25->Q (.ref L) H'
theorem stacks42_use {H:Hp} {k:Int} {a:List Nat} {Q:VK} {E:XK} (h1:1 <= k) (h2:k <= 4) (h3:isRow k a = true) (h4:a.count 63 <= 2)
  (q:∀ (L d:Addr) (ds:List V) (es:Es) (H':Hp),Same H H'->H' L = some (.lst (ds ++ [.ref d]))->H' d = some (.dK (enc es))->H d = none->Wf es->Good k.toNat a.length es->(∀ r,sf (ws k.toNat r) es = ws k.toNat (a ++ r) [])->es.length <= 25->Q (.ref L) H'):spStacks42 ([.int k,tx a] ++ []) H Q E:=⟨k,a,rfl,h1,h2,h3,h4,q⟩
theorem pow_25 {n:Nat} (h:n <= 2):(5:Int) ^ n <= 25:=by
 have:n = 0\/n = 1\/n = 2:=by omega
 rcases this with rfl | rfl | rfl <;> decide
inductive Deed (K:PySem.W.Frag) (k:Int) (H:Hp) (a:List Nat):List Nat->V->V->List Nat->Prop
 | no (x:V) (h:NoS K k H x):Deed K k H a wPut x (tx nmL) a
 | full (c:Nat) (h:c ∈ sgn k) (hl:a.length = 40):Deed K k H a wPut (tx [c]) (tx nmM) a
 | put (c:Nat) (h:c ∈ sgn k) (hl:a.length < 40):Deed K k H a wPut (tx [c]) .non (a ++ [c])
 | none (x:V) (h:a = []):Deed K k H a wBack x (tx nmN) a
 | back (x:V) (h:a ≠ []):Deed K k H a wBack x .non a.dropLast
def NF (H:Hp) (v:V):Prop:=∀ x,v = .ref x->H x = none
def spCaught42 (K:PySem.W.Frag) (C:Addr):Sp:=fun vs H Q _=>∃ (g:Addr) (k:Int) (a:List Nat) (w:List Nat) (x due:V) (b:List Nat),vs = [.ref g,tx w,x]/\1 <= k/\k <= 4/\GrO C H g k a/\a.length <= 40/\Deed K k H a w x due b /\
 ∀ T H',H T = none->SameBut1 g H H'->GrO C H' g k b->H' T = some (.tup [.non,due])->Q (.ref T) H'
def spNoSign42 (K:PySem.W.Frag):Sp:=fun vs H Q _=>∃ (p:Addr) (k:Int),vs = [.ref p,.int k]/\Po H p/\1 <= k/\k <= 4/\∀ v H',NoS K k H' v->NF H v->Po H' p->SameBut1 p H H'->Q v H'
def spSign42:Sp:=fun vs H Q _=>∃ (p:Addr) (k:Int) (a:List Nat),vs = [.ref p,.int k,tx a]/\Po H p/\1 <= k/\k <= 4/\isRow k a = true/\a.count 63 <= 2/\∀ c H',c ∈ sgn k->(c = 63->a.count 63 < 2)->Po H' p->SameBut1 p H H'->Q (tx [c]) H'
def spDeed42 (K:PySem.W.Frag):Sp:=fun vs H Q _=>∃ (p:Addr) (k:Int) (a:List Nat),vs = [.ref p,.int k,tx a]/\Po H p/\1 <= k/\k <= 4/\isRow k a = true/\a.count 63 <= 2 /\
 ∀ T w x due b H',H T = none->Po H' p->SameBut1 p H H'->H' T = some (.tup [tx w,x,due,tx b])->Deed K k H' a w x due b->NF H x->flatV due = true->isRow k b = true->b.count 63 <= 2->Q (.ref T) H'
def spWhole42:Sp:=fun vs H Q _=>∃ i j:Int,vs = [.int i,.int j]/\Q (.bl (decide (i = j))) H
def spSpoil42:Sp:=fun vs H Q _=>∃ (w:Int) (t:Addr) (ns:List V),vs = [.int w,.ref t,.int 99]/\H t = some (.lst ns)/\ns.length <= 63/\∀ H',SameBut1 t H H'->Q .non H'
def KB (bad:List Addr) (H H':Hp):Prop:=∀ b o,H b = some o->b ∉ bad->H' b = some o
theorem KB.refl (bad:List Addr) (H:Hp):KB bad H H:=fun _ _ h _=>h
theorem KB.s {bad:List Addr} {H H1 H2:Hp} (a:KB bad H H1) (b:Same H1 H2):KB bad H H2:=fun c o h n=>b c o (a c o h n)
theorem KB.one {bad:List Addr} {p:Addr} {H H1 H2:Hp} (a:KB bad H H1) (b:SameBut1 p H1 H2) (hp:p ∈ bad):KB bad H H2:=fun c o h n=>b c o (a c o h n) fun z=>n (z ▸ hp)
theorem KB.mono {bad bad':List Addr} {H H1:Hp} (a:KB bad H H1) (h:∀ x ∈ bad,x ∈ bad'):KB bad' H H1:=fun c o e n=>a c o e fun z=>n (h _ z)
def HdOk (bad:List Addr) (H:Hp) (hs:List V):Prop:=∀ v ∈ hs,∃ (T t m:Addr) (ns:List Int),v = .ref T/\T ∉ bad/\t ∉ bad/\m ∉ bad/\H T = some (.tup [.ref t,.ref m])/\H t = some (iL ns)/\H m = some (iL ns)
theorem HdOk.keep {bad:List Addr} {H H':Hp} {hs:List V} (h:HdOk bad H hs) (k:KB bad H H'):HdOk bad H' hs:=fun v hv =>
 let ⟨T,t,m,ns,e,n1,n2,n3,g1,g2,g3⟩:=h v hv; ⟨T,t,m,ns,e,n1,n2,n3,k _ _ g1 n1,k _ _ g2 n2,k _ _ g3 n3⟩
theorem HdOk.more {bad:List Addr} {H:Hp} {hs:List V} {T t m:Addr} {ns:List Int} (h:HdOk bad H hs) (n1:T ∉ bad) (n2:t ∉ bad) (n3:m ∉ bad) (g1:H T = some (.tup [.ref t,.ref m])) (g2:H t = some (iL ns)) (g3:H m = some (iL ns)):HdOk bad H (hs ++ [.ref T]):=fun v hv=>by
 rcases List.mem_append.mp hv with z | z
 ·exact h v z
 ·rw [List.mem_singleton.mp z]; exact ⟨T,t,m,ns,rfl,n1,n2,n3,g1,g2,g3⟩
def spLooked42 (C:Addr):Sp:=fun vs H Q _=>∃ (p g:Addr) (k:Int) (a:List Nat) (hd:Addr) (hs:List V) (bad:List Addr),vs = [.ref p,.ref g,.int k,tx a,.ref hd]/\Po H p/\GrO C H g k a/\g ≠ p/\hd ≠ p/\g ≠ hd/\1 <= k/\k <= 4/\isRow k a = true/\a.count 63 <= 2 /\
 H hd = some (.lst hs)/\hs.length <= 2000/\HdOk bad H hs/\p ∈ bad/\hd ∈ bad/\(∀ b ∈ bad,∃ o,H b = some o) /\
 ∀ hs' H',Po H' p->KB [p,hd] H H'->H' hd = some (.lst hs')->hs'.length <= hs.length + 5->HdOk bad H' hs'->Q (.bl true) H'
abbrev bad42 (p hd rw:Addr) (g:Bool->Addr):List Addr:=[p,hd,rw,g false,g true]
structure N42 (H:Hp) (p kl gl rw hd:Addr) (g:Bool->Addr) (ks:Bool->Int):Prop where
 kp:kl ≠ p
 gp:gl ≠ p
 rp:rw ≠ p
 hp:hd ≠ p
 ggp:∀ b,g b ≠ p
 kr:kl ≠ rw
 gr:gl ≠ rw
 hr:hd ≠ rw
 ggr:∀ b,g b ≠ rw
 kh:kl ≠ hd
 gh:gl ≠ hd
 ggh:∀ b,g b ≠ hd
 kg:∀ b,kl ≠ g b
 glg:∀ b,gl ≠ g b
 gg:g true ≠ g false
 Hp:H p = none
 Hr:H rw = none
 Hh:H hd = none
 Hg:∀ b,H (g b) = none
 k1:∀ b,1 <= ks b
 k4:∀ b,ks b <= 4
structure W42 (C:Addr) (H H':Hp) (p kl gl rw hd:Addr) (g:Bool->Addr) (ks:Bool->Int) (a:Bool->List Nat) (hs:List V):Prop where
 po:Po H' p
 sm:Same H H'
 gr:∀ b,GrO C H' (g b) (ks b) (a b)
 qk:H' kl = some (.lst [.int (ks false),.int (ks true)])
 qg:H' gl = some (.lst [.ref (g false),.ref (g true)])
 qr:H' rw = some (.lst [tx (a false),tx (a true)])
 qh:H' hd = some (.lst hs)
 ok:HdOk (bad42 p hd rw g) H' hs
 row:∀ b,isRow (ks b) (a b) = true
 cn:∀ b,(a b).count 63 <= 2
section
variable {C:Addr} {H H1 H2 H3:Hp} {p kl gl rw hd:Addr} {g:Bool->Addr} {ks:Bool->Int} {a a':Bool->List Nat} {hs hs':List V}
theorem W42.same (w:W42 C H H1 p kl gl rw hd g ks a hs) (s:Same H1 H2):W42 C H H2 p kl gl rw hd g ks a hs:=⟨w.po.same s,w.sm.trans s,fun b=>(w.gr b).same s,s _ _ w.qk,s _ _ w.qg,s _ _ w.qr,s _ _ w.qh,w.ok.keep ((KB.refl _ _).s s),w.row,w.cn⟩
theorem W42.draw (n:N42 H p kl gl rw hd g ks) (w:W42 C H H1 p kl gl rw hd g ks a hs) (s:SameBut1 p H1 H2) (h:Po H2 p):W42 C H H2 p kl gl rw hd g ks a hs :=
 ⟨h,Same.but w.sm s n.Hp,fun b=>(w.gr b).but s (n.ggp b),s _ _ w.qk n.kp,s _ _ w.qg n.gp,s _ _ w.qr n.rp,s _ _ w.qh n.hp,w.ok.keep ((KB.refl _ _).one s (by simp)),w.row,w.cn⟩
theorem W42.look (n:N42 H p kl gl rw hd g ks) (w:W42 C H H1 p kl gl rw hd g ks a hs) (k:KB [p,hd] H1 H2) (h:Po H2 p) (hh:H2 hd = some (.lst hs')) (ok:HdOk (bad42 p hd rw g) H2 hs'):W42 C H H2 p kl gl rw hd g ks a hs':=by
 have no:∀ {x:Addr},x ≠ p->x ≠ hd->x ∉ [p,hd]:=fun h1 h2=>by simp [h1,h2]
 have fr:∀ {x:Addr} {o},H x = some o->x ∉ [p,hd]:=fun {x o} z=>no (fun e=>by rw [e,n.Hp] at z; cases z) (fun e=>by rw [e,n.Hh] at z; cases z)
 exact ⟨h,fun b o z=>k _ _ (w.sm b o z) (fr z),fun b=>let ⟨dx,e⟩:=w.gr b; ⟨dx,k _ _ e (no (n.ggp b) (n.ggh b))⟩,k _ _ w.qk (no n.kp n.kh),k _ _ w.qg (no n.gp n.gh),k _ _ w.qr (no n.rp n.hr.symm),hh,ok,w.row,w.cn⟩
theorem W42.deed (n:N42 H p kl gl rw hd g ks) (w:W42 C H H1 p kl gl rw hd g ks a hs) (b:Bool) (hne:∀ x,x ≠ b->a' x = a x) (s:SameBut1 (g b) (upd H1 rw (.lst [tx (a' false),tx (a' true)])) H2) (hg:GrO C H2 (g b) (ks b) (a' b)) (hr:isRow (ks b) (a' b) = true) (hc:(a' b).count 63 <= 2):W42 C H H2 p kl gl rw hd g ks a' hs:=by
 have k:∀ x o,H1 x = some o->x ≠ rw->x ≠ g b->H2 x = some o:=fun x o z h1 h2=>s _ _ (by rw [upd_ne h1]; exact z) h2
 have gne:∀ {x:Bool},x ≠ b->g x ≠ g b:=fun {x} h e=>by
  cases x <;> cases b
  ·exact h rfl
  ·exact n.gg e.symm
  ·exact n.gg e
  ·exact h rfl
 refine ⟨?_,fun x o z=>k _ _ (w.sm x o z) (fun e=>by rw [e,n.Hr] at z; cases z) (fun e=>by rw [e,n.Hg] at z; cases z),fun x=>?_,k _ _ w.qk n.kr (n.kg b),k _ _ w.qg n.gr (n.glg b),s _ _ upd_same (n.ggr b).symm,k _ _ w.qh n.hr (n.ggh b).symm,w.ok.keep fun x o z h=>k _ _ z (fun e=>h (by simp [e])) (fun e=>h (by cases b <;> simp [e])),fun x=>?_,fun x=>?_⟩
 ·obtain ⟨x,y,z,e⟩:=w.po
  exact ⟨x,y,z,k _ _ e n.rp.symm (n.ggp b).symm⟩
 ·by_cases e:x = b
  ·subst e; exact hg
  ·obtain ⟨dx,z⟩:=w.gr x
   rw [hne x e]
   exact ⟨dx,k _ _ z (n.ggr x) (gne e)⟩
 ·by_cases e:x = b
  ·subst e; exact hr
  ·rw [hne x e]; exact w.row x
 ·by_cases e:x = b
  ·subst e; exact hc
  ·rw [hne x e]; exact w.cn x
end
theorem at_bool {x y:V} (b:Bool):atI [x,y] (if b = true then 1 else 0) = some (if b = true then y else x):=by cases b <;> rfl
theorem bool_of {r:Int} (h0:0 <= r) (h:r < 2):∃ b:Bool,r = if b = true then 1 else 0:=by
 have:r = 0\/r = 1:=by omega
 rcases this with rfl | rfl
 ·exact ⟨false,rfl⟩
 ·exact ⟨true,rfl⟩
theorem if_join {c:Bool} {t:TS} {D:Ends} {σ:St} {H:Hp} (P:St->Hp->Prop) (hr:∀ σ' H',P σ' H'->D.nx σ' H') (h1:c = true->∀ N:St->Hp->Prop,(∀ σ' H',P σ' H'->N σ' H')->t { D with nx:=N } σ H) (h2:c = false->P σ H):if c = true then t D σ H else tNext D σ H:=by
 cases c with
 | true=>rw [if_pos rfl]; exact h1 rfl D.nx hr
 | false=>rw [if_neg Bool.false_ne_true]; exact hr _ _ (h2 rfl)
theorem or_then {c d:Bool} {A B X:Prop} (hX:(if d = true then A else B)->X) (h:if (c || d) = true then A else B):if c = true then (if true = true then A else B) else X:=by
 cases c with
 | true=>rw [if_pos rfl,if_pos rfl]; rwa [Bool.true_or,if_pos rfl] at h
 | false=>rw [if_neg Bool.false_ne_true]; exact hX (by rwa [Bool.false_or] at h)
theorem NoS.but {K:PySem.W.Frag} {k:Int} {q:Addr} {H H':Hp} {v:V} (h:NoS K k H v) (s:SameBut1 q H H') (hx:v ≠ .ref q):NoS K k H' v:=h.elim .inl fun ⟨ty,a,b⟩=>.inr ⟨ty,a.keep (fun x e z=>hx (by rw [e,z])) s,b⟩
theorem Deed.but {K:PySem.W.Frag} {k:Int} {q:Addr} {H H':Hp} {a w b:List Nat} {x due:V} (h:Deed K k H a w x due b) (s:SameBut1 q H H') (hx:x ≠ .ref q):Deed K k H' a w x due b:=by
 cases h with
 | no x h=>exact .no _ (h.but s hx)
 | full c h hl=>exact .full c h hl
 | put c h hl=>exact .put c h hl
 | none x h=>exact .none _ h
 | back x h=>exact .back _ h
end BrS
namespace Bk
open PySem L2 BrM BrR BrS BrC
def top (i:Nat):Stmt:=PySem.Challenge.pw_bracketrows_k42_growers_by_drawn_deeds.main.body.getD i (.Pass ⟨0,0,0,0⟩)
abbrev d_is_whole:Stmt:=top 13
abbrev d_check_kinds:Stmt:=top 14
abbrev d_is_line:Stmt:=top 15
abbrev d_check_line:Stmt:=top 16
abbrev d_weighed_places:Stmt:=top 18
abbrev d_counted_places:Stmt:=top 19
abbrev d_pair_sum:Stmt:=top 20
abbrev d_no_sums:Stmt:=top 21
abbrev d_span_sums:Stmt:=top 22
abbrev d_whole_sum:Stmt:=top 23
abbrev d_how_many:Stmt:=top 25
abbrev d_may_open:Stmt:=top 28
abbrev d_depths_before:Stmt:=top 29
abbrev d_depths_by_stop:Stmt:=top 30
abbrev d_depths:Stmt:=top 31
abbrev d_may_go_on:Stmt:=top 33
abbrev d_fewest_more:Stmt:=top 35
abbrev d_Grower___init__:Stmt:=inClass (top 38) 0
abbrev d_Grower_put:Stmt:=inClass (top 38) 1
abbrev d_Grower_back:Stmt:=inClass (top 38) 2
abbrev d_Grower_row:Stmt:=inClass (top 38) 3
abbrev d_Grower_how_many:Stmt:=inClass (top 38) 4
abbrev d_Grower_may_go_on:Stmt:=inClass (top 38) 5
abbrev d_Grower_depths:Stmt:=inClass (top 38) 6
abbrev d_Grower_fewest_more:Stmt:=inClass (top 38) 7
abbrev d_law_pool:Stmt:=top 40
abbrev d_law_draw:Stmt:=top 41
abbrev d_law_stacks:Stmt:=top 42
abbrev d_law_caught:Stmt:=top 43
abbrev d_law_no_sign:Stmt:=top 44
abbrev d_law_sign:Stmt:=top 45
abbrev d_law_deed:Stmt:=top 46
abbrev d_law_whole:Stmt:=top 47
abbrev d_law_spoil:Stmt:=top 48
abbrev d_law_looked:Stmt:=top 49
abbrev d_law:Stmt:=top 50
structure Txt (K:PySem.W.Frag) (mg:Str->Option Value) (aK:Addr) (cs:Cs) (aC:Addr):Prop where
 n_all:mg "all" = none
 n_any:mg "any" = none
 n_bool:mg "bool" = none
 n_int:mg "int" = none
 n_isinstance:mg "isinstance" = none
 n_len:mg "len" = none
 n_list:mg "list" = none
 n_max:mg "max" = none
 n_min:mg "min" = none
 n_range:mg "range" = none
 n_set:mg "set" = none
 n_sorted:mg "sorted" = none
 n_str:mg "str" = none
 n_sum:mg "sum" = none
 g_OPENING:∃ u,mg "OPENING" = some u/\RelV (tx [40,91,123,60]) u
 g_CLOSING:∃ u,mg "CLOSING" = some u/\RelV (tx [41,93,125,62]) u
 g_KINDS:∃ u,mg "KINDS" = some u/\RelV (.ref aK) u
 t_KINDS:∀ H,SqT K H aK [tx [40,41],tx [91,93],tx [123,125],tx [60,62]]
 g_BRACKETS:∃ u,mg "BRACKETS" = some u/\RelV (tx [40,41,91,93,123,125,60,62]) u
 g_UNKNOWN:∃ u,mg "UNKNOWN" = some u/\RelV (tx [63]) u
 g_MOST_SIGNS:∃ u,mg "MOST_SIGNS" = some u/\RelV (.int 40) u
 c_RowError:mg "RowError" = some (.ref cs.RowError)
 e_RowError:ECls K cs.RowError
 c_NoKinds:mg "NoKinds" = some (.ref cs.NoKinds)
 e_NoKinds:ECls K cs.NoKinds
 c_NoLine:mg "NoLine" = some (.ref cs.NoLine)
 e_NoLine:ECls K cs.NoLine
 c_NoNumber:mg "NoNumber" = some (.ref cs.NoNumber)
 e_NoNumber:ECls K cs.NoNumber
 c_TooMany:mg "TooMany" = some (.ref cs.TooMany)
 e_TooMany:ECls K cs.TooMany
 c_Grower:mg "Grower" = some (.ref aC)
 cl_Grower:Cls K aC
 no_k:NoAttr K aC "k"
 no_signs:NoAttr K aC "signs"
 m_NoKinds:PySem.W.mroIn K cs.NoKinds (.ref cs.RowError) = some true
 v_NoKinds:PySem.W.kitOne K (.ref cs.NoKinds) (.type "ValueError") = some true
 k_NoKinds_RowError:PySem.W.kitOne K (.ref cs.NoKinds) (.ref cs.RowError) = some true
 k_NoKinds_NoKinds:PySem.W.kitOne K (.ref cs.NoKinds) (.ref cs.NoKinds) = some true
 k_NoKinds_NoLine:PySem.W.kitOne K (.ref cs.NoKinds) (.ref cs.NoLine) = some false
 k_NoKinds_NoNumber:PySem.W.kitOne K (.ref cs.NoKinds) (.ref cs.NoNumber) = some false
 k_NoKinds_TooMany:PySem.W.kitOne K (.ref cs.NoKinds) (.ref cs.TooMany) = some false
 m_NoLine:PySem.W.mroIn K cs.NoLine (.ref cs.RowError) = some true
 v_NoLine:PySem.W.kitOne K (.ref cs.NoLine) (.type "ValueError") = some true
 k_NoLine_RowError:PySem.W.kitOne K (.ref cs.NoLine) (.ref cs.RowError) = some true
 k_NoLine_NoKinds:PySem.W.kitOne K (.ref cs.NoLine) (.ref cs.NoKinds) = some false
 k_NoLine_NoLine:PySem.W.kitOne K (.ref cs.NoLine) (.ref cs.NoLine) = some true
 k_NoLine_NoNumber:PySem.W.kitOne K (.ref cs.NoLine) (.ref cs.NoNumber) = some false
 k_NoLine_TooMany:PySem.W.kitOne K (.ref cs.NoLine) (.ref cs.TooMany) = some false
 m_NoNumber:PySem.W.mroIn K cs.NoNumber (.ref cs.RowError) = some true
 v_NoNumber:PySem.W.kitOne K (.ref cs.NoNumber) (.type "ValueError") = some true
 k_NoNumber_RowError:PySem.W.kitOne K (.ref cs.NoNumber) (.ref cs.RowError) = some true
 k_NoNumber_NoKinds:PySem.W.kitOne K (.ref cs.NoNumber) (.ref cs.NoKinds) = some false
 k_NoNumber_NoLine:PySem.W.kitOne K (.ref cs.NoNumber) (.ref cs.NoLine) = some false
 k_NoNumber_NoNumber:PySem.W.kitOne K (.ref cs.NoNumber) (.ref cs.NoNumber) = some true
 k_NoNumber_TooMany:PySem.W.kitOne K (.ref cs.NoNumber) (.ref cs.TooMany) = some false
 m_TooMany:PySem.W.mroIn K cs.TooMany (.ref cs.RowError) = some true
 v_TooMany:PySem.W.kitOne K (.ref cs.TooMany) (.type "ValueError") = some true
 k_TooMany_RowError:PySem.W.kitOne K (.ref cs.TooMany) (.ref cs.RowError) = some true
 k_TooMany_NoKinds:PySem.W.kitOne K (.ref cs.TooMany) (.ref cs.NoKinds) = some false
 k_TooMany_NoLine:PySem.W.kitOne K (.ref cs.TooMany) (.ref cs.NoLine) = some false
 k_TooMany_NoNumber:PySem.W.kitOne K (.ref cs.TooMany) (.ref cs.NoNumber) = some false
 k_TooMany_TooMany:PySem.W.kitOne K (.ref cs.TooMany) (.ref cs.TooMany) = some true
 mm_NoLine:PySem.W.mroIn K cs.NoLine (.ref cs.NoLine) = some true
 mm_NoNumber:PySem.W.mroIn K cs.NoNumber (.ref cs.NoNumber) = some true
 mm_TooMany:PySem.W.mroIn K cs.TooMany (.ref cs.TooMany) = some true
 mo_NoKinds_NoLine:PySem.W.mroIn K cs.NoKinds (.ref cs.NoLine) = some false
 mo_NoKinds_NoNumber:PySem.W.mroIn K cs.NoKinds (.ref cs.NoNumber) = some false
 mo_NoKinds_TooMany:PySem.W.mroIn K cs.NoKinds (.ref cs.TooMany) = some false
 mo_NoLine_NoNumber:PySem.W.mroIn K cs.NoLine (.ref cs.NoNumber) = some false
 mo_NoLine_TooMany:PySem.W.mroIn K cs.NoLine (.ref cs.TooMany) = some false
 mo_NoNumber_NoLine:PySem.W.mroIn K cs.NoNumber (.ref cs.NoLine) = some false
 mo_NoNumber_TooMany:PySem.W.mroIn K cs.NoNumber (.ref cs.TooMany) = some false
 mo_TooMany_NoLine:PySem.W.mroIn K cs.TooMany (.ref cs.NoLine) = some false
 mo_TooMany_NoNumber:PySem.W.mroIn K cs.TooMany (.ref cs.NoNumber) = some false
section
variable {P:Program} {w:World} {K:PySem.W.Frag} {mg:Str->Option Value} {base:Heap} {f aK aC:Addr} {cs:Cs} {fd:FuncData} {k:Nat}
local macro_rules | `(tactic| walk_at "st")=>`(tactic| first
 | with_reducible refine s_seq ?_
 | with_reducible refine s_asg ?_
 | with_reducible refine s_name ?_
 | ((with_reducible refine s_var (v:=?v) ?e ?_); (case e=>exact rfl))
 | with_reducible refine s_c ?_
 | with_reducible refine s_op ?_
 | with_reducible refine s_if ?_
 | with_reducible refine s_test ?_
 | with_reducible refine s_bl ?_
 | with_reducible refine s_call ?_
 | with_reducible refine s_callE ?_
 | with_reducible refine s_raise ?_
 | with_reducible refine s_try ?_
 | with_reducible refine s_try0 ?_
 | with_reducible refine s_cons ?_
 | with_reducible refine s_nil ?_
 | with_reducible refine s_cb ?_
 | with_reducible refine s_ret ?_
 | with_reducible refine s_lst ?_
 | with_reducible refine s_tup ?_
 | with_reducible refine s_drop ?_
 | with_reducible refine s_next ?_
 | with_reducible refine s_cont ?_
 | with_reducible refine s_break ?_
 | with_reducible refine s_gnil ?_
 | with_reducible refine s_gcons ?_
 | with_reducible refine s_gsub ?_
 | with_reducible refine s_un ?_
 | with_reducible refine s_neg ?_
 | with_reducible refine s_ifE ?_
 | with_reducible refine s_and ?_
 | with_reducible refine s_or ?_
 | with_reducible refine s_not ?_
 | with_reducible refine s_andV ?_
 | with_reducible refine s_orV ?_
 | with_reducible refine s_notV ?_
 | with_reducible refine s_tru ?_
 | with_reducible refine s_chain ?_
 | with_reducible refine s_truB ?_
 | with_reducible refine s_truN ?_
 | with_reducible refine s_addI ?_
 | with_reducible refine s_subI ?_
 | with_reducible refine s_eqI ?_
 | with_reducible refine s_eqT ?_
 | with_reducible refine s_eqB ?_
 | with_reducible refine s_neI ?_
 | with_reducible refine s_neT ?_
 | with_reducible refine s_neB ?_
 | with_reducible refine s_inT ?_
 | with_reducible refine s_notinT ?_
 | with_reducible refine s_sl ?_
 | with_reducible refine s_nopart ?_
 | with_reducible refine s_part ?_
 | with_reducible refine s_partI ?_
 | with_reducible refine s_max ?_
 | with_reducible refine s_min ?_
 | with_reducible refine s_intB ?_
 | with_reducible refine s_intI ?_
 | with_reducible refine s_bm ?_
 | with_reducible refine s_bm0 ?_
 | with_reducible refine s_for ?_
 | with_reducible refine s_irng1 ?_
 | with_reducible refine s_irng2 ?_
 | with_reducible refine s_irng3 ?_
 | with_reducible refine s_augS ?_
 | with_reducible refine s_ilist ?_
 | with_reducible refine s_istr ?_
 | with_reducible refine s_istrT ?_
 | with_reducible refine s_ienS ?_
 | with_reducible refine s_ienST ?_
 | with_reducible refine s_ienL ?_
 | with_reducible refine s_comp ?_
 | with_reducible refine s_rev ?_
 | with_reducible refine s_revI ?_
 | with_reducible refine s_irev ?_
 | with_reducible refine s_tyT ?_
 | ((with_reducible refine s_irevT ?e ?_); (case e=>first | assumption | exact small (by omega)))
 | ((with_reducible refine s_revT ?e ?_); (case e=>first | assumption | exact small (by omega)))
 | with_reducible refine s_yes ?_
 | with_reducible refine s_methE ?_
 | with_reducible refine s_makeE ?_
 | with_reducible refine s_ssetB ?_
 | with_reducible refine s_two ?_
 | with_reducible refine s_comp2 ?_
 | with_reducible refine s_LR ?_
 | with_reducible refine s_dget ?_
 | with_reducible refine s_dget2 ?_
 | with_reducible refine s_dput ?_
 | with_reducible refine s_idict ?_
 | with_reducible refine s_cntT ?_
 | with_reducible refine s_tryN ?_
 | with_reducible refine s_slc ?_
 | with_reducible refine s_orX ?_
 | with_reducible refine s_par ?_
 | with_reducible refine s_sset ?_
 | with_reducible refine s_iziS ?_
 | with_reducible refine s_iziT ?_
 | with_reducible refine s_meth ?_
 | with_reducible refine s_make ?_
 | with_reducible refine s_fldT ?_
 | with_reducible refine s_fldS ?_
 | with_reducible refine s_fldA ?_
 | ((with_reducible refine s_aug (x:=?x) ?e ?_); (case e=>exact rfl))
 | with_reducible refine s_ipI ?_
 | ((with_reducible refine s_is ?e ?_); (case e=>exact rfl))
 | ((with_reducible refine s_isnot ?e ?_); (case e=>exact rfl))
 | ((with_reducible refine s_ixL (xs:=?xs) (v:=?v) ?h ?e ?_); (case h=>assumption); (case e=>exact rfl))
 | ((with_reducible refine s_rI ?e ?_); (case e=>first | (exact (show (0:Int) < _ by omega)) | (exact ⟨by omega,by omega⟩) | (exact ⟨by decide,by decide,by decide⟩)))
 | ((with_reducible refine s_mulI ?e ?_); (case e=>first | exact .inl ⟨by omega,by omega⟩ | exact .inr ⟨by omega,by omega⟩))
 | ((with_reducible refine s_lenT ?e ?_); (case e=>first | assumption | exact small (by omega)))
 | ((with_reducible refine s_addT ?e ?_); (case e=>first | exact small (by omega) | exact small (by simp only [List.length_append,List.length_cons,List.length_nil]; omega)))
 | ((with_reducible refine s_slT ?e ?_); (case e=>first | assumption | exact small (by omega) | exact small (by simp only [List.length_append,List.length_cons,List.length_nil]; omega)))
 )
local macro_rules | `(tactic| walk_at "go")=>`(tactic| repeat (walk_at "st"))
theorem sc_is_whole:FnScope ["thing"] ["thing"] (defScope d_is_whole):=⟨rfl,rfl,rfl,by decide +kernel,rfl,by decide +kernel,by decide +kernel⟩
theorem ok_is_whole (F:Fun K "is_whole" "is_whole" d_is_whole f fd) (T:Txt K mg aK cs aC)  : FnOk P w K mg base CX0 (k + 1) f fd ["thing"] (spWhole K):=by
 refine F.ok sc_is_whole (fun vs H Q E h=>?_) (fun cdv A outer s H vs Q E hr h=>?_)
 ·obtain ⟨x,T',rfl,_⟩:=h; rfl
 obtain ⟨x,ty,rfl,hT,hp,q⟩:=h
 refine ⟨_,(pss_one (ps_ret (pe_and (pe_callB (call_isiA K) rfl T.n_isinstance PyProof.Rows.boot_isinstance (pa_cons (pv 0) (pa_cons (pe_ty T.n_int PyProof.Rows.boot_int) pa_nil))) (pe_one (pe_not (pe_callB (call_isiA K) rfl T.n_isinstance PyProof.Rows.boot_isinstance (pa_cons (pv 0) (pa_cons (pe_ty T.n_bool PyProof.Rows.boot_bool) pa_nil)))))))),?_⟩
 walk_at "go"
 have hp':ty = "NoneType"\/ty = "bool"\/ty = "int"\/ty = "str"\/ty = "list"\/ty = "tuple"\/ty = "dict":=by simpa [plainTy] using hp
 rcases hp' with rfl | rfl | rfl | rfl | rfl | rfl | rfl
 ·refine s_isi (b:=false) hT (by with_unfolding_all rfl) (s_bl (iteF ?_)); exact q
 ·refine s_isi (b:=true) hT (by with_unfolding_all rfl) (s_bl (iteT ?_))
  walk_at "go"
  refine s_isi (b:=true) hT (by with_unfolding_all rfl) (s_bl ?_); exact q
 ·refine s_isi (b:=true) hT (by with_unfolding_all rfl) (s_bl (iteT ?_))
  walk_at "go"
  refine s_isi (b:=false) hT (by with_unfolding_all rfl) (s_bl ?_); exact q
 ·refine s_isi (b:=false) hT (by with_unfolding_all rfl) (s_bl (iteF ?_)); exact q
 ·refine s_isi (b:=false) hT (by with_unfolding_all rfl) (s_bl (iteF ?_)); exact q
 ·refine s_isi (b:=false) hT (by with_unfolding_all rfl) (s_bl (iteF ?_)); exact q
 ·refine s_isi (b:=false) hT (by with_unfolding_all rfl) (s_bl (iteF ?_)); exact q
theorem sc_check_kinds:FnScope ["k"] ["k"] (defScope d_check_kinds):=⟨rfl,rfl,rfl,by decide +kernel,rfl,by decide +kernel,by decide +kernel⟩
theorem ok_check_kinds (F:Fun K "check_kinds" "check_kinds" d_check_kinds f fd) (T:Txt K mg aK cs aC) (U_is_whole:FnU P w K mg base k "is_whole" ["thing"] (spWhole K)):FnOk P w K mg base (CXE P w) (k + 1) f fd ["k"] (spKindsE K cs):=by
 refine F.okE sc_check_kinds (fun vs H Q E h=>?_) (fun cdv A outer s H vs Q E hr h=>?_)
 ·rcases h with ⟨x,rfl,_⟩ | ⟨v,rfl,_⟩ <;> rfl
 rcases h with ⟨x,rfl,h1,h2,q⟩ | ⟨v,rfl,⟨ty,hT,hp,hi⟩,r⟩
 ·refine nox_ex ⟨_,(pss_one (ps_if (PW.pt (pw_or (pt_not (pt_tru K (pe_fn U_is_whole hr (pa_cons (pv 0) pa_nil)))) (pw_or1 (pt_not (pt_chain op_le op_le pe_int (pv 0) (pe_callB (call_lenA K) rfl T.n_len PySem.boot_len (pa_cons (pe_gl T.g_KINDS) pa_nil))))))) (pss_one ps_never) pss_nil)),?_⟩
  walk_at "go"
  refine whole_int ?_
  walk_at "go"
  refine ifq rfl ?_
  walk_at "go"
  refine ifp (decide_eq_true h1) ?_
  walk_at "go"
  refine s_lenL (.inr (T.t_KINDS H)) ?_
  walk_at "go"
  refine ifq (by simp; omega) ?_
  walk_at "go"
  exact q
 ·refine ⟨_,(pss_one (ps_if (PW.pt (pw_or (pt_not (pt_tru K (pe_fn U_is_whole hr (pa_cons (pv 0) pa_nil)))) (pw_or1 (pt_not (pt_chain op_le op_le pe_int (pv 0) (pe_callB (call_lenA K) rfl T.n_len PySem.boot_len (pa_cons (pe_gl T.g_KINDS) pa_nil))))))) (pss_one (ps_raise T.e_NoKinds T.c_NoKinds hr.hd cxE_xm (pa_cons (pe_tx (l:=[116,104,101,32,110,117,109,98,101,114,32,111,102,32,107,105,110,100,115,32,105,115,32,97,32,119,104,111,108,101,32,110,117,109,98,101,114,32,102,114,111,109,32,49,32,116,111,32,52]) (by decide +kernel)) pa_nil))) pss_nil)),?_⟩
  walk_at "go"
  refine ⟨v,ty,rfl,hT,hp,?_⟩
  walk_at "go"
  by_cases e:ty = "int"
  ·subst e
   obtain ⟨i,rfl⟩:=hT.int_of rfl
   ·have hi:=hi i rfl
    rw [decide_eq_true rfl]
    refine ifq rfl ?_
    walk_at "go"
    by_cases h1:1 <= i
    ·refine ifp (decide_eq_true h1) ?_
     walk_at "go"
     refine s_lenL (.inr (T.t_KINDS H)) ?_
     walk_at "go"
     refine ifp (by simp; omega) ?_
     walk_at "go"
     exact ⟨small (by decide),fun y hy=>r y H (Same.refl H) hy⟩
    ·refine ifq (decide_eq_false h1) ?_
     walk_at "go"
     refine ifp rfl ?_
     walk_at "go"
     exact ⟨small (by decide),fun y hy=>r y H (Same.refl H) hy⟩
  ·rw [decide_eq_false e]
   refine ifp rfl ?_
   walk_at "go"
   refine ifp rfl ?_
   walk_at "go"
   exact ⟨small (by decide),fun y hy=>r y H (Same.refl H) hy⟩
theorem sc_is_line:FnScope ["k","thing","signs"] ["k","thing"] (defScope d_is_line):=⟨rfl,rfl,rfl,by decide +kernel,rfl,by decide +kernel,by decide +kernel⟩
theorem ok_is_line (F:Fun K "is_line" "is_line" d_is_line f fd) (T:Txt K mg aK cs aC) (U_check_kinds:FnUE P w K mg base k "check_kinds" ["k"] (spKindsE K cs)):FnOk P w K mg base (CXE P w) (k + 1) f fd ["k","thing"] (spLineE K cs):=by
 refine F.okE sc_is_line (fun vs H Q E h=>?_) (fun cdv A outer s H vs Q E hr h=>?_)
 ·rcases h with ⟨kk,x,rfl,_⟩ | ⟨kv,v,rfl,_⟩ <;> rfl
 rcases h with ⟨kk,x,rfl,h1,h2,hx⟩ | ⟨kv,v,rfl,hk,r⟩
 rotate_left
 ·refine ⟨_,(pss_cons (ps_expr (pe_fnE U_check_kinds hr cxE_xf (pa_cons (pv 0) pa_nil)))  (pss_cons (ps_if (PW.pt (pw_or (pt_not (pt_tru K (pe_callB (call_isiA K) rfl T.n_isinstance PyProof.Rows.boot_isinstance (pa_cons (pv 1) (pa_cons (pe_ty T.n_str PyProof.Rows.boot_str) pa_nil))))) (pw_or1 (pt_cmpR op_gt (pe_callB (call_lenA K) rfl T.n_len PySem.boot_len (pa_cons (pv 1) pa_nil)) (pe_gl T.g_MOST_SIGNS) (nomark _)))))   (pss_one (ps_ret pe_bl))   pss_nil)  (pss_cons (ps_set (i:=2) sc_is_line.nd rfl (Or.inr rfl) (pe_op op_plus (pe_op op_plus (pe_slice (sl_A K) (pe_gl T.g_OPENING) po_none (po_some (pv 0))) (pe_slice (sl_A K) (pe_gl T.g_CLOSING) po_none (po_some (pv 0)))) (pe_gl T.g_UNKNOWN)))  (pss_one (ps_ret (pe_callB (call_allA K rfl) rfl T.n_all PyProof.Rows.boot_all (pa_cons (pe_comp (own:=["sign"]) (sel:=[2]) (compOk_of (osc:=(defScope d_is_line)) (N:=["k","thing","signs"]) (by decide +kernel)) rfl (pi_str (pv 1)) (fun _ _ _ _ _=>(pg_name (i:=0) (show (["sign","signs"]:List Str).Nodup from by decide +kernel) rfl (Or.inl rfl))) (gk_name (by decide)) (fun _ _ _ _ _=>pif_nil) (fun _ _ _ _ _=>(pe_cmpR (op_inA K) (pv 0) (pv 1) (by with_unfolding_all rfl)))) pa_nil))))))),?_⟩
  walk_at "go"
  exact .inr ⟨kv,rfl,hk,r.pass (Same.refl H)⟩
 ·refine nox_ex ⟨_,(pss_cons (ps_expr (pe_fnE U_check_kinds hr xf_no (pa_cons (pv 0) pa_nil)))  (pss_cons (ps_if (PW.pt (pw_or (pt_not (pt_tru K (pe_callB (call_isiA K) rfl T.n_isinstance PyProof.Rows.boot_isinstance (pa_cons (pv 1) (pa_cons (pe_ty T.n_str PyProof.Rows.boot_str) pa_nil))))) (pw_or1 (pt_cmpR op_gt (pe_callB (call_lenA K) rfl T.n_len PySem.boot_len (pa_cons (pv 1) pa_nil)) (pe_gl T.g_MOST_SIGNS) (nomark _)))))   (pss_one (ps_ret pe_bl))   pss_nil)  (pss_cons (ps_set (i:=2) sc_is_line.nd rfl (Or.inr rfl) (pe_op op_plus (pe_op op_plus (pe_slice (sl_A K) (pe_gl T.g_OPENING) po_none (po_some (pv 0))) (pe_slice (sl_A K) (pe_gl T.g_CLOSING) po_none (po_some (pv 0)))) (pe_gl T.g_UNKNOWN)))  (pss_one (ps_ret (pe_callB (call_allA K rfl) rfl T.n_all PyProof.Rows.boot_all (pa_cons (pe_comp (own:=["sign"]) (sel:=[2]) (compOk_of (osc:=(defScope d_is_line)) (N:=["k","thing","signs"]) (by decide +kernel)) rfl (pi_str (pv 1)) (fun _ _ _ _ _=>(pg_name (i:=0) (show (["sign","signs"]:List Str).Nodup from by decide +kernel) rfl (Or.inl rfl))) (gk_name (by decide)) (fun _ _ _ _ _=>pif_nil) (fun _ _ _ _ _=>(pe_cmpR (op_inA K) (pv 0) (pv 1) (by with_unfolding_all rfl)))) pa_nil))))))),?_⟩
  walk_at "go"
  refine .inl (kinds_use h1 h2 ?_)
  walk_at "go"
  rcases hx with ⟨a,rfl,ha,q⟩ | ⟨ty,hT,hp,hs,q⟩
  ·refine s_isi (b:=true) (TyOf.str _) (by with_unfolding_all rfl) ?_
   walk_at "go"
   refine ifq rfl ?_
   walk_at "go"
   refine ifd (fun hc=>?_) (fun hc=>?_)
   ·walk_at "go"
    have e:isRow kk a = false:=by unfold isRow; rw [decide_eq_false (by omega),Bool.false_and]
    have:=q H (Same.refl H)
    rw [e] at this
    exact this
   ·walk_at "go"
    rw [cut_to _ (by omega),cut_to _ (by omega)]
    have l1:((([40,91,123,60]:List Nat)).take kk.toNat).length <= 4:=by rw [List.length_take]; exact Nat.min_le_right _ _
    have l2:((([41,93,125,62]:List Nat)).take kk.toNat).length <= 4:=by rw [List.length_take]; exact Nat.min_le_right _ _
    first | refine s_addT (small (by omega)) ?_ | skip
    walk_at "go"
    first | refine s_addT (small (by rw [List.length_append,List.length_singleton]; omega)) ?_ | skip
    walk_at "go"
    refine comp_of (n:=a.length) (fun D i ys H'=>ys = ((a.take i).map fun c=>V.bl (decide (c ∈ sgn kk)))/\SameBut1 D H H') (fun D hD=>⟨rfl,SameBut1.of (same_new hD _)⟩) (fun D i ys H' _ hi _ _=>by simpa [Its] using hi) (fun D ys H' hD hD' hl ⟨e,sH⟩=>⟨by simp [Its],?_⟩) ?_
    ·rw [List.take_length] at e
     subst e
     have hS:SqL K H' D ((a.map fun c=>decide (c ∈ sgn kk)).map V.bl):=by
      rw [List.map_map]; exact SqL.of hD'
     refine s_all hS ?_
     have e2:((a.map fun c=>decide (c ∈ sgn kk)).all id) = isRow kk a:=by
      unfold isRow
      rw [decide_eq_true (by omega),Bool.true_and,List.all_map]
      rfl
     rw [e2]
     exact q H' fun b o z=>sH b o z (ne_of_none z hD)
    ·rintro D i ys H' x H3 hD hi hD' hl ⟨e,sH⟩ ⟨rfl,c,ec,rfl⟩
     have ec':a[i]? = some c:=by simpa using ec
     show gName 0 (tx [c]) _ _ _
     walk_at "go"
     refine iteT ?_
     walk_at "go"
     refine comp_next hi (small (by omega)) hD' hl ⟨?_,sH.trans SameBut1.upd⟩
     rw [e,List.take_add_one,ec']
     simp only [Option.toList_some,List.map_append,List.map_cons,List.map_nil]
     rfl
  ·have hp':ty = "NoneType"\/ty = "bool"\/ty = "int"\/ty = "list"\/ty = "tuple"\/ty = "dict":=by
    have:ty = "NoneType"\/ty = "bool"\/ty = "int"\/ty = "str"\/ty = "list"\/ty = "tuple"\/ty = "dict":=by simpa [plainTy] using hp
    rcases this with z | z | z | z | z | z | z
    ·exact .inl z
    ·exact .inr (.inl z)
    ·exact .inr (.inr (.inl z))
    ·exact absurd z hs
    ·exact .inr (.inr (.inr (.inl z)))
    ·exact .inr (.inr (.inr (.inr (.inl z))))
    ·exact .inr (.inr (.inr (.inr (.inr z))))
   have fin:PySem.W.kitOne K (.type ty) (.type "str") = some false:=by
    rcases hp' with rfl | rfl | rfl | rfl | rfl | rfl <;> with_unfolding_all rfl
   refine s_isi (b:=false) hT fin ?_
   walk_at "go"
   refine ifp rfl ?_
   walk_at "go"
   refine ifp rfl ?_
   walk_at "go"
   exact q
theorem sc_check_line:FnScope ["k","row"] ["k","row"] (defScope d_check_line):=⟨rfl,rfl,rfl,by decide +kernel,rfl,by decide +kernel,by decide +kernel⟩
theorem ok_check_line (F:Fun K "check_line" "check_line" d_check_line f fd) (T:Txt K mg aK cs aC) (U_is_line:FnUE P w K mg base k "is_line" ["k","thing"] (spLineE K cs)):FnOk P w K mg base (CXE P w) (k + 1) f fd ["k","row"] (spGateE K cs spCheckLine):=by
 refine F.okE sc_check_line (fun vs H Q E h=>?_) (fun cdv A outer s H vs Q E hr h=>?_)
 ·rcases h with ⟨kk,a,rfl,_⟩ | ⟨kv,v,rfl,_⟩ <;> rfl
 rcases h with ⟨kk,a,rfl,h1,h2,ha,q⟩ | ⟨kv,v,rfl,⟨hk,r⟩ | ⟨kk,rfl,h1,h2,hn,r⟩⟩
 ·refine nox_ex ⟨_,(pss_one (ps_if (pt_not (pt_tru K (pe_fnE U_is_line hr xf_no (pa_cons (pv 0) (pa_cons (pv 1) pa_nil))))) (pss_one ps_never) pss_nil)),?_⟩
  have hl:=isRow_len ha
  walk_at "go"
  refine .inl (line_use h1 h2 (by omega) (fun H' sH=>?_))
  walk_at "go"
  refine ifq (by rw [ha]; rfl) ?_
  walk_at "go"
  exact q H' sH
 ·refine ⟨_,(pss_one (ps_if (pt_not (pt_tru K (pe_fnE U_is_line hr cxE_xf (pa_cons (pv 0) (pa_cons (pv 1) pa_nil))))) (pss_one (ps_raise T.e_NoLine T.c_NoLine hr.hd cxE_xm (pa_cons (pe_tx (l:=[97,32,114,111,119,32,105,115,32,97,32,116,101,120,116,32,111,102,32,97,116,32,109,111,115,116,32,102,111,114,116,121,32,98,114,97,99,107,101,116,115,32,111,102,32,116,104,101,32,107,105,110,100,115,32,116,104,101,114,101,32,97,114,101,44,32,97,110,100,32,63]) (by decide +kernel)) pa_nil))) pss_nil)),?_⟩
  walk_at "go"
  exact .inr ⟨kv,v,rfl,hk,r.pass (Same.refl H)⟩
 ·refine ⟨_,(pss_one (ps_if (pt_not (pt_tru K (pe_fnE U_is_line hr cxE_xf (pa_cons (pv 0) (pa_cons (pv 1) pa_nil))))) (pss_one (ps_raise T.e_NoLine T.c_NoLine hr.hd cxE_xm (pa_cons (pe_tx (l:=[97,32,114,111,119,32,105,115,32,97,32,116,101,120,116,32,111,102,32,97,116,32,109,111,115,116,32,102,111,114,116,121,32,98,114,97,99,107,101,116,115,32,111,102,32,116,104,101,32,107,105,110,100,115,32,116,104,101,114,101,32,97,114,101,44,32,97,110,100,32,63]) (by decide +kernel)) pa_nil))) pss_nil)),?_⟩
  walk_at "go"
  refine noRow_use' h1 h2 hn (fun H1 s1=>?_)
  walk_at "go"
  refine ifp rfl ?_
  walk_at "go"
  exact ⟨small (by decide),fun y hy=>r y H1 s1 (s1.free hy)⟩
theorem sc_weighed_places:FnScope ["row","weights"] ["row","weights"] (defScope d_weighed_places):=⟨rfl,rfl,rfl,by decide +kernel,rfl,by decide +kernel,by decide +kernel⟩
theorem ok_weighed_places (F:Fun K "weighed_places" "weighed_places" d_weighed_places f fd) (T:Txt K mg aK cs aC)  : FnOk P w K mg base CX0 (k + 1) f fd ["row","weights"] (spWeighed K):=by
 refine F.ok sc_weighed_places (fun vs H Q E h=>?_) (fun cdv A outer s H vs Q E hr h=>?_)
 ·obtain ⟨a,p,w',rfl,_⟩:=h; rfl
 obtain ⟨a,p,w',rfl,ha,hp,hw,q⟩:=h
 have hu:=hr.units0
 refine ⟨_,(pss_one (ps_ret (pe_compC (own:=["sign"]) (sel:=[1]) (compOkC_of (osc:=(defScope d_weighed_places)) (N:=["row","weights"]) (by decide +kernel)) rfl (pi_str (pv 0)) (fun _ _ _ _ _=>(pg_name (i:=0) (show (["sign","weights"]:List Str).Nodup from by decide +kernel) rfl (Or.inr rfl))) (gk_name (by decide)) (fun _ _ _ _ _=>pif_nil) (fun _ _ _ _ _=>(pe_ifExp (pt_cmpR (op_eqA K hu) (pv 0) (pe_gl T.g_UNKNOWN) (nomark _)) (pe_callTy (call_listA K) rfl T.n_list PyProof.Rows.boot_list (pa_cons (pv 1) pa_nil)) (pe_comp (own:=["bracket"]) (sel:=[0]) (compOkIn (osc:=(defScope d_weighed_places)) (N:=["sign","weights"]) rfl rfl (by decide +kernel)) rfl (pi_str (pe_slice (sl_A K) (pe_gl T.g_BRACKETS) po_none (po_some (pe_callB (call_lenA K) rfl T.n_len PySem.boot_len (pa_cons (pv 1) pa_nil))))) (fun _ _ _ _ _=>(pg_name (i:=0) (show (["bracket","sign"]:List Str).Nodup from by decide +kernel) rfl (Or.inl rfl))) (gk_name (by decide)) (fun _ _ _ _ _=>pif_nil) (fun _ _ _ _ _=>(pe_callTy call_intA rfl T.n_int PyProof.Rows.boot_int (pa_cons (pe_cmpR (op_eqA K hu) (pv 1) (pv 0) (nomark _)) pa_nil))))))))),?_⟩
 walk_at "go"
 refine yes_str (small (by omega)) (fun D i ys H'=>∃ ad:Nat->Addr,ys = (List.range i).map (fun j=>V.ref (ad j))/\∀ j,j < i->H' (ad j) = some (iL (plw w' (a.getD j 0)))/\ad j ≠ D)
  (fun D _=>⟨fun _=>D,rfl,fun j hj=>absurd hj (by omega)⟩) (fun D i ys H1 H2 _ ⟨ad,e,h1⟩ s12=>⟨ad,e,fun j hj=>⟨s12 _ _ (h1 j hj).1 (h1 j hj).2,(h1 j hj).2⟩⟩)
  (fun D ys H' hD hy _ sH ⟨ad,e,h1⟩=>?_) ?_
 ·subst e
  refine q D H' hD sH ⟨ad,by rw [List.length_map]; exact hy,fun i hi=>?_⟩
  rw [List.length_map] at hi
  have eg:(a.map (plw w')).getD i [] = plw w' (a.getD i 0):=by
   simp only [List.getD_eq_getElem?_getD,List.getElem?_map,List.getElem?_eq_getElem hi]; rfl
  rw [eg]; exact (h1 i hi).1
 ·rintro D i ys H' R hD hi hy hl sH ⟨ad,e,h1⟩ r
  have fin:∀ l H6,H' l = none->Same H' H6->H6 l = some (iL (plw w' (a.getD i 0)))->R (.ref l) H6:=by
   intro l H6 hl' s6 h6
   have hlD:l ≠ D:=fun z=>by rw [z,hy] at hl'; cases hl'
   refine r _ _ s6 ⟨fun j=>if j = i then l else ad j,?_,fun j hj=>?_⟩
   ·subst e
    rw [List.range_succ,List.map_append]
    congr 1
    ·refine List.map_congr_left fun j hj=>?_
     have:=List.mem_range.mp hj
     show V.ref (ad j) = V.ref (if j = i then l else ad j)
     rw [if_neg (by omega)]
    ·simp
   ·by_cases ej:j = i
    ·subst ej; simp only [if_true]; exact ⟨h6,hlD⟩
    ·simp only [if_neg ej]
     obtain ⟨a1,a2⟩:=h1 j (by omega)
     exact ⟨s6 _ _ a1,a2⟩
  walk_at "go"
  refine ifd (fun hc=>?_) (fun hc=>?_)
  ·walk_at "go"
   refine s_listL (sH.seq hp) (fun l hl'=>?_)
   refine fin l _ hl' (same_new hl' _) ?_
   have e63:a.getD i 0 = 63:=by simpa using hc
   rw [upd_same]
   unfold plw
   rw [if_pos e63]
  ·have n63:¬ (a.getD i 0 = 63):=by simpa using hc
   walk_at "go"
   refine s_lenL (.inl (sH.seq hp)) ?_
   walk_at "go"
   have el:(((w'.map V.int).length:Nat):Int) = (w'.length:Int):=by rw [List.length_map]
   rw [el,cut_to _ (by omega),Int.toNat_natCast]
   walk_at "go"
   refine vals_str (fun b=>.int (if a.getD i 0 = b then 1 else 0)) (small (by rw [List.length_take]; exact Nat.le_trans (Nat.min_le_right _ _) (by decide))) (fun D2 H2 hD2 s2 h2=>?_) (fun i2 c H2 R2 hc2 s2 r2=>?_)
   ·refine fin D2 H2 hD2 s2 ?_
    rw [h2]
    unfold plw
    rw [if_neg n63]
    show some (HO.lst _) = some (HO.lst (List.map V.int (List.map _ _)))
    rw [List.map_map]
    rfl
   ·walk_at "go"
    have eb:(if (decide ([a.getD i 0] = [c])) = true then (1:Int) else 0) = if a.getD i 0 = c then 1 else 0:=by
     by_cases z:a.getD i 0 = c <;> simp [z]
    rw [eb]
    exact r2 H2 (Same.refl _)
theorem sc_counted_places:FnScope ["k","row"] ["k","row"] (defScope d_counted_places):=⟨rfl,rfl,rfl,by decide +kernel,rfl,by decide +kernel,by decide +kernel⟩
theorem ok_counted_places (F:Fun K "counted_places" "counted_places" d_counted_places f fd) (T:Txt K mg aK cs aC) (U_weighed_places:FnU P w K mg base k "weighed_places" ["row","weights"] (spWeighed K)):FnOk P w K mg base CX0 (k + 1) f fd ["k","row"] (spCounted):=by
 refine F.ok sc_counted_places (fun vs H Q E h=>?_) (fun cdv A outer s H vs Q E hr h=>?_)
 ·obtain ⟨kk,a,rfl,_⟩:=h; rfl
 obtain ⟨kk,a,rfl,h1,h2,ha,q⟩:=h
 refine ⟨_,(pss_one (ps_ret (pe_fn U_weighed_places hr (pa_cons (pv 1) (pa_cons (pe_op op_times (pe_lst (pa_cons pe_int pa_nil)) (pe_op op_times pe_int (pv 0))) pa_nil))))),?_⟩
 walk_at "go"
 refine ⟨small (show 1 <= 1000 by decide),fun z hz=>?_⟩
 walk_at "go"
 have e2:(2 * kk).toNat = 2 * kk.toNat:=by omega
 refine s_rep (xs:=[.int 1]) upd_same (by omega) (by omega) (small (by rw [List.length_singleton,e2]; omega)) (fun p hp=>?_)
 walk_at "go"
 have ew:(List.replicate (2 * kk).toNat [V.int 1]).flatten = (ones kk.toNat).map V.int:=by rw [e2,rep_ones]
 rw [ew] at *
 have sp:Same H (upd (upd H z (.lst [.int 1])) p (.lst ((ones kk.toNat).map V.int))):=(same_new hz _).trans (same_new hp _)
 refine weighed_use ha (SqL.of upd_same) (by rw [List.length_replicate]; omega) (fun r H' hr' sH hP=>?_)
 exact q r H' (sp.free hr') (sp.trans sH) hP
theorem sc_pair_sum:FnScope ["first","last"] ["first","last"] (defScope d_pair_sum):=⟨rfl,rfl,rfl,by decide +kernel,rfl,by decide +kernel,by decide +kernel⟩
theorem ok_pair_sum (F:Fun K "pair_sum" "pair_sum" d_pair_sum f fd) (T:Txt K mg aK cs aC)  : FnOk P w K mg base CX0 (k + 1) f fd ["first","last"] (spPair):=by
 refine F.ok sc_pair_sum (fun vs H Q E h=>?_) (fun cdv A outer s H vs Q E hr h=>?_)
 ·obtain ⟨p,q,x,y,kk,rfl,_⟩:=h; rfl
 obtain ⟨p,q,x,y,kk,rfl,hp,hq,lx,ly,hk,sx,sy,r⟩:=h
 have hu:=hr.units0
 refine ⟨_,(pss_one (ps_ret (pe_callB (call_sumA K rfl) rfl T.n_sum PyProof.Rows.boot_sum (pa_cons (pe_comp (own:=["opening"]) (sel:=[0,1]) (compOk_of (osc:=(defScope d_pair_sum)) (N:=["first","last"]) (by decide +kernel)) rfl (pi_range3 rfl T.n_range (pa_cons pe_int (pa_cons (pe_callB (call_lenA K) rfl T.n_len PySem.boot_len (pa_cons (pv 0) pa_nil)) (pa_cons pe_int pa_nil)))) (fun _ _ _ _ _=>(pg_name (i:=0) (show (["opening","first","last"]:List Str).Nodup from by decide +kernel) rfl (Or.inl rfl))) (gk_name (by decide)) (fun _ _ _ _ _=>pif_nil) (fun _ _ _ _ _=>(pe_op op_timesW (pe_ix (ix_A K) (pv 1) (pv 0) (fun _ _=>rfl)) (pe_ix (ix_A K) (pv 2) (pe_op op_plus (pv 0) pe_int) (fun _ _=>rfl))))) pa_nil)))),?_⟩
 walk_at "go"
 refine s_lenL (.inl (SqL.of hp)) ?_
 walk_at "go"
 have el:(((x.map V.int).length:Nat):Int) = ((2 * kk:Nat):Int):=by rw [List.length_map,lx]
 rw [el]
 refine ⟨0,((2 * kk:Nat):Int),2,rfl,⟨by decide,by decide,small_two (by decide) (by decide) (by omega) (by omega)⟩,?_⟩
 have er:rN 0 ((2 * kk:Nat):Int) 2 = kk:=by rw [rN_two]; omega
 rw [er]
 refine vals_rng3 (fun i=>.int (x.getD (2 * i) 0 * y.getD (2 * i + 1) 0)) (small (by omega)) (fun D H' hD sH hy=>?_) (fun i H' R hi sH r'=>?_)
 ·have ns:SqL K H' D (((List.range kk).map fun i=>x.getD (2 * i) 0 * y.getD (2 * i + 1) 0).map V.int):=by rw [List.map_map]; exact SqL.of hy
  refine s_sum ns ?_
  rw [sum_range]
  exact r H' sH
 ·walk_at "go"
  have e1:(0 + ((i:Nat):Int) * 2) = ((2 * i:Nat):Int):=by omega
  rw [e1]
  refine s_ixL (SqL.of (sH _ _ hp)) (v:=.int (x.getD (2 * i) 0)) (atI_nat (int_at (by omega))) ?_
  walk_at "go"
  have e2:(((2 * i:Nat):Int) + 1) = ((2 * i + 1:Nat):Int):=by omega
  rw [e2]
  refine s_ixL (SqL.of (sH _ _ hq)) (v:=.int (y.getD (2 * i + 1) 0)) (atI_nat (int_at (by omega))) ?_
  refine s_mulW (big_of (sx.at _).1 (sx.at _).2 top_big) (big_of (sy.at _).1 (sy.at _).2 top_big) ?_
  exact r' H' (Same.refl _)
theorem sc_no_sums:FnScope ["many"] ["many"] (defScope d_no_sums):=⟨rfl,rfl,rfl,by decide +kernel,rfl,by decide +kernel,by decide +kernel⟩
theorem ok_no_sums (F:Fun K "no_sums" "no_sums" d_no_sums f fd) (T:Txt K mg aK cs aC)  : FnOk P w K mg base CX0 (k + 1) f fd ["many"] (spNoSums):=by
 refine F.ok sc_no_sums (fun vs H Q E h=>?_) (fun cdv A outer s H vs Q E hr h=>?_)
 ·obtain ⟨n,rfl,_⟩:=h; rfl
 obtain ⟨n,rfl,hn,q⟩:=h
 have hu:=hr.units0
 refine ⟨_,(pss_one (ps_ret (pe_comp (own:=["start"]) (sel:=[0]) (compOk_of (osc:=(defScope d_no_sums)) (N:=["many"]) (by decide +kernel)) rfl (pi_range1 rfl T.n_range (pa_cons (pe_op op_plus (pv 0) pe_int) pa_nil)) (fun _ _ _ _ _=>(pg_name (i:=0) (show (["start","many"]:List Str).Nodup from by decide +kernel) rfl (Or.inl rfl))) (gk_name (by decide)) (fun _ _ _ _ _=>pif_nil) (fun _ _ _ _ _=>(pe_op op_times (pe_lst (pa_cons pe_int pa_nil)) (pe_op op_plus (pv 1) pe_int)))))),?_⟩
 walk_at "go"
 refine ⟨_,rfl,by omega,by omega,?_⟩
 have en:((n:Int) + 1).toNat = n + 1:=by omega
 rw [en]
 refine yes_rng (small (by omega)) (fun D i ys H'=>∃ ad:Nat->Addr,ys = (List.range i).map (fun j=>V.ref (ad j))/\(∀ j,j < i->H' (ad j) = some (.lst (rwl n fun _=>0))/\H (ad j) = none/\ad j ≠ D)/\∀ j j',j < i->j' < i->ad j = ad j'->j = j')
  (fun D _=>⟨fun _=>D,rfl,fun j hj=>absurd hj (by omega),fun j _ hj=>absurd hj (by omega)⟩) (fun D i ys H1 H2 _ ⟨ad,e,h1,h2⟩ s12=>⟨ad,e,fun j hj=>⟨s12 _ _ (h1 j hj).1 (h1 j hj).2.2,(h1 j hj).2⟩,h2⟩)
  (fun D ys H' hD hy _ sH ⟨ad,e,h1,h2⟩=>?_) ?_
 ·subst e
  exact q D ad H' ⟨hD,fun i hi=>(h1 i (by omega)).2.1,fun i hi=>(h1 i (by omega)).2.2,fun i j hi hj=>h2 i j (by omega) (by omega),hy,fun i hi=>(h1 i (by omega)).1,sH⟩
 ·rintro D i ys H' R hD hi hy hl sH ⟨ad,e,h1,h2⟩ r
  walk_at "go"
  refine ⟨small (show 1 <= 1000 by decide),fun z hz=>?_⟩
  walk_at "go"
  refine s_rep (xs:=[.int 0]) upd_same (by omega) (by omega) (small (by rw [List.length_singleton,en]; omega)) (fun p hp=>?_)
  have hpz:p ≠ z:=fun w=>by rw [w,upd_same] at hp; cases hp
  have hp':H' p = none:=by rw [upd_ne hpz] at hp; exact hp
  have hpD:p ≠ D:=fun w=>by rw [w,hy] at hp'; cases hp'
  have sp:Same H' (upd (upd H' z (.lst [.int 0])) p (.lst (List.replicate ((n:Int) + 1).toNat [V.int 0]).flatten)):=(same_new hz _).trans (same_new hp _)
  refine r _ _ sp ⟨fun j=>if j = i then p else ad j,?_,?_,?_⟩
  ·subst e
   rw [List.range_succ,List.map_append]
   congr 1
   ·refine List.map_congr_left fun j hj=>?_
    have:=List.mem_range.mp hj
    show V.ref (ad j) = V.ref (if j = i then p else ad j)
    rw [if_neg (by omega)]
   ·simp
  ·intro j hj
   by_cases ej:j = i
   ·subst ej
    simp only [if_true]
    refine ⟨?_,?_,hpD⟩
    ·rw [upd_same,en,rep_zero]
    ·exact sH.free hp'
   ·simp only [if_neg ej]
    obtain ⟨a1,a2,a3⟩:=h1 j (by omega)
    exact ⟨sp _ _ a1,a2,a3⟩
  ·intro j j' hj hj' ee
   have nq:∀ j,j < i->ad j ≠ p:=fun j hj w=>by have:=(h1 j hj).1; rw [w,hp'] at this; cases this
   by_cases e1:j = i <;> by_cases e2:j' = i
   ·omega
   ·simp only [if_pos e1,if_neg e2] at ee; exact absurd ee.symm (nq j' (by omega))
   ·simp only [if_neg e1,if_pos e2] at ee; exact absurd ee (nq j (by omega))
   ·simp only [if_neg e1,if_neg e2] at ee; exact h2 j j' (by omega) (by omega) ee
theorem sc_span_sums:FnScope ["places","many","sums","start","end","first_part","stop"] ["places"] (defScope d_span_sums):=⟨rfl,rfl,rfl,by decide +kernel,rfl,by decide +kernel,by decide +kernel⟩
theorem ok_span_sums (F:Fun K "span_sums" "span_sums" d_span_sums f fd) (T:Txt K mg aK cs aC) (U_no_sums:FnU P w K mg base k "no_sums" ["many"] (spNoSums)) (U_pair_sum:FnU P w K mg base k "pair_sum" ["first","last"] (spPair)):FnOk P w K mg base CX0 (k + 1) f fd ["places"] (spSpans):=by
 refine F.ok sc_span_sums (fun vs H Q E h=>?_) (fun cdv A outer s H vs Q E hr h=>?_)
 ·obtain ⟨p,ps,kk,rfl,_⟩:=h; rfl
 obtain ⟨p,ps,kk,rfl,hP,hn,hk,hl,q⟩:=h
 have hu:=hr.units0
 have hsm:∀ l ∈ ps,Sm l:=fun l z=>(hl l z).2
 obtain ⟨pa,hp0,hpa⟩:=id hP
 refine ⟨_,(pss_cons (ps_set (i:=1) sc_span_sums.nd rfl (Or.inl rfl) (pe_callB (call_lenA K) rfl T.n_len PySem.boot_len (pa_cons (pv 0) pa_nil))) (pss_cons (ps_set (i:=2) sc_span_sums.nd rfl (Or.inl rfl) (pe_fn U_no_sums hr (pa_cons (pv 1) pa_nil))) (pss_cons (ps_for PassesOwn.never rfl (pi_range3 rfl T.n_range (pa_cons (pv 1) (pa_cons (pe_un un_neg pe_int) (pa_cons (pe_un un_neg pe_int) pa_nil)))) (pg_name (i:=3) sc_span_sums.nd rfl (Or.inl rfl)) (pss_cons (ps_asg pe_int (pg_sub (pe_ix (ix_A K) (pv 2) (pv 3) (fun _ _=>rfl)) (pv 3) set_list)) (pss_one (ps_for PassesOwn.never rfl (pi_range3 rfl T.n_range (pa_cons (pe_op op_plus (pv 3) pe_int) (pa_cons (pv 1) (pa_cons pe_int pa_nil)))) (pg_name (i:=4) sc_span_sums.nd rfl (Or.inl rfl)) (pss_cons (ps_set (i:=5) sc_span_sums.nd rfl (Or.inl rfl) (pe_op op_timesW (pe_fn U_pair_sum hr (pa_cons (pe_ix (ix_A K) (pv 0) (pv 3) (fun _ _=>rfl)) (pa_cons (pe_ix (ix_A K) (pv 0) (pv 4) (fun _ _=>rfl)) pa_nil))) (pe_ix (ix_A K) (pe_ix (ix_A K) (pv 2) (pe_op op_plus (pv 3) pe_int) (fun _ _=>rfl)) (pv 4) (fun _ _=>rfl)))) (pss_one (ps_for PassesOwn.never rfl (pi_range3 rfl T.n_range (pa_cons (pe_op op_plus (pv 4) pe_int) (pa_cons (pe_op op_plus (pv 1) pe_int) (pa_cons pe_int pa_nil)))) (pg_name (i:=6) sc_span_sums.nd rfl (Or.inl rfl)) (pss_one (ps_augS (pe_ix (ix_A K) (pv 2) (pv 3) (fun _ _=>rfl)) (pv 6) (get_listA K) (pe_op op_timesW (pv 5) (pe_ix (ix_A K) (pe_ix (ix_A K) (pv 2) (pe_op op_plus (pv 4) pe_int) (fun _ _=>rfl)) (pv 6) (fun _ _=>rfl))) ip_add set_list))))))))) (pss_one (ps_ret (pv 2)))))),?_⟩
 walk_at "go"
 refine s_lenL (.inl (SqL.of hp0)) ?_
 have en:((((List.range ps.length).map fun i=>V.ref (pa i)).length:Nat):Int) = (ps.length:Int):=by rw [List.length_map,List.length_range]
 rw [en]
 generalize hN:ps.length = n at *
 walk_at "go"
 refine noSums_use hn (fun s' ad H1 tb1=>?_)
 walk_at "go"
 refine ⟨n,-1,-1,rfl,⟨by decide,by decide,small_down (.inl rfl) (by omega) (by omega) (by decide) (by decide)⟩,?_⟩
 have er:rN (n:Int) (-1) (-1) = n + 1:=by rw [rN_down]; omega
 rw [er]
 have place:∀ {H':Hp} {i:Nat},Same H H'->i < n->∃ l,H' (pa i) = some (iL l)/\l.length = 2 * kk/\Sm l/\∀ b,PP ps i b = l.getD b 0:=by
  intro H' i sH hi
  have e:ps[i]? = some ps[i]:=List.getElem?_eq_getElem (by omega)
  have eg:ps.getD i [] = ps[i]:=by rw [List.getD_eq_getElem?_getD,e]; rfl
  refine ⟨ps[i],?_,(hl _ (List.getElem_mem _)).1,(hl _ (List.getElem_mem _)).2,fun b=>by show (ps.getD i []).getD b 0 = _; rw [eg]⟩
  have:=sH _ _ (hpa i (by omega))
  rw [eg] at this
  exact this
 have pix:∀ {i:Nat},i < n->((List.range n).map fun i=>V.ref (pa i))[i]? = some (.ref (pa i)):=fun {i} hi=>by rw [List.getElem?_map,List.getElem?_range hi]; rfl
 refine for_rng3 (fun t σ H'=>∃ o3 o4 o5 o6,σ = [some (.ref p),some (.int n),some (.ref s'),o3,o4,o5,o6]/\Tb H H' s' ad n (fun i j=>if n < i + t then tbl (PP ps) kk i j else 0)) ?_ ?_ ?_
 ·exact ⟨_,_,_,_,rfl,tb1.congr fun i j hi hj=>by rw [if_neg (by omega)]⟩
 rotate_left
 ·rintro σ H' ⟨o3,o4,o5,o6,rfl,tb⟩
  walk_at "go"
  exact q s' ad H' (tb.congr fun i j hi hj=>by rw [if_pos (by omega)])
 rintro t σ H2 ht ⟨o3,o4,o5,o6,rfl,tb2⟩
 obtain ⟨st,est⟩:∃ st:Nat,st + t = n:=⟨n - t,by omega⟩
 have e1:((n:Int) + (t:Int) * -1) = (st:Int):=by omega
 rw [e1]
 walk_at "go"
 refine s_ixL (SqL.of tb2.top) (atI_nat (tb2.at (i:=st) (by omega))) ?_
 walk_at "go"
 refine s_setL (tb2.row st (by omega)) (j:=st) (by rw [rwl_len]; unfold ixN; rw [if_pos (by omega),if_pos (by omega)]; simp) ?_
 have tb3:=(tb2.set (i:=st) (j:=st) (v:=1) (by omega)).congr (T':=fun i j=>if st < i then tbl (PP ps) kk i j else if i = st then part (PP ps) kk st 0 j else 0) (fun i j hi hj=>by
  by_cases h1:i = st
  ·subst h1
   rw [if_neg (Nat.lt_irrefl _),if_pos rfl,part_zero]
   by_cases h2:j = i
   ·rw [if_pos ⟨rfl,h2⟩,if_pos h2]
   ·rw [if_neg (fun z=>h2 z.2),if_neg h2,if_neg (by omega)]
  ·rw [if_neg (fun z=>h1 z.1)]
   by_cases h2:st < i
   ·rw [if_pos (by omega),if_pos h2]
   ·rw [if_neg (by omega),if_neg h2,if_neg h1])
 generalize upd H2 (ad st) _ = H3 at tb3
 clear tb2
 walk_at "go"
 refine ⟨_,_,2,rfl,⟨by decide,by decide,small_two (by omega) (by omega) (by omega) (by omega)⟩,?_⟩
 have er2:rN ((st:Int) + 1) n 2 = (n - st) / 2:=by rw [rN_two]; omega
 rw [er2]
 refine for_rng3 (fun q' σ H'=>∃ o4 o5 o6,σ = [some (.ref p),some (.int n),some (.ref s'),some (.int st),o4,o5,o6]/\Tb H H' s' ad n (fun i j=>if st < i then tbl (PP ps) kk i j else if i = st then part (PP ps) kk st q' j else 0)) ?_ ?_ ?_
 ·exact ⟨_,_,_,rfl,tb3⟩
 rotate_left
 ·rintro σ H' ⟨o4,o5,o6,rfl,tb⟩
  walk_at "go"
  refine ⟨_,_,_,_,rfl,tb.congr fun i j hi hj=>?_⟩
  by_cases h2:st < i
  ·rw [if_pos h2,if_pos (by omega)]
  ·by_cases h1:i = st
   ·subst h1
    rw [if_neg h2,if_pos rfl,if_pos (by omega)]
    exact part_all hj
   ·rw [if_neg h2,if_neg h1,if_neg (by omega)]
 rintro q' σ H4 hq' ⟨o4,o5,o6,rfl,tb4⟩
 obtain ⟨en',hen⟩:∃ e:Nat,e = st + 1 + 2 * q':=⟨_,rfl⟩
 have e2:((st:Int) + 1 + (q':Int) * 2) = (en':Int):=by omega
 have hen2:en' < n:=by omega
 rw [e2]
 walk_at "go"
 obtain ⟨x,hx,lx,sx,ex⟩:=place tb4.sm (show st < n by omega)
 obtain ⟨y,hy,ly,sy,ey⟩:=place tb4.sm (show en' < n by omega)
 refine s_ixL (SqL.of (tb4.sm _ _ hp0)) (atI_nat (pix (i:=st) (by omega))) ?_
 walk_at "go"
 refine s_ixL (SqL.of (tb4.sm _ _ hp0)) (atI_nat (pix (i:=en') (by omega))) ?_
 walk_at "go"
 refine pair_use hx hy lx ly hk sx sy (fun H5 s5=>?_)
 have epr:sm kk (fun o=>x.getD (2 * o) 0 * y.getD (2 * o + 1) 0) = pr (PP ps) kk st en':=by
  unfold pr
  exact sm_congr kk fun o _=>by rw [ex,ey]
 rw [epr]
 have tb5:=tb4.same s5
 clear tb4
 have e3:((st:Int) + 1) = ((st + 1:Nat):Int):=by omega
 walk_at "go"
 rw [e3]
 refine s_ixL (SqL.of tb5.top) (atI_nat (tb5.at (i:=st + 1) (by omega))) ?_
 walk_at "go"
 refine s_ixL (SqL.of (tb5.row (st + 1) (by omega))) (atI_nat (rwl_get (j:=en') (by omega))) ?_
 have ev:(if st < st + 1 then tbl (PP ps) kk (st + 1) en' else if st + 1 = st then part (PP ps) kk st q' en' else 0) = cv (PP ps) kk (2 * q') (st + 1) []:=by
  rw [if_pos (by omega)]
  unfold tbl
  rw [if_pos (by omega),show en' - (st + 1) = 2 * q' by omega]
 rw [ev]
 have b1:=pr_cap hk hsm st en'
 have b2:=cv_cap hk hsm (n:=2 * q') (by omega) (st + 1) []
 refine s_mulW (big_of b1.1 b1.2 pt_big) (big_of b2.1 b2.2 cap_big) ?_
 have b3:0 <= pr (PP ps) kk st en' * cv (PP ps) kk (2 * q') (st + 1) []:=Int.mul_nonneg b1.1 b2.1
 have b4:pr (PP ps) kk st en' * cv (PP ps) kk (2 * q') (st + 1) [] <= 4 * (top30 * top30) * cap:=Int.mul_le_mul b1.2 b2.2 b2.1 (by decide)
 walk_at "go"
 refine ⟨_,_,2,rfl,⟨by decide,by decide,small_two (by omega) (by omega) (by omega) (by omega)⟩,?_⟩
 have er3:rN ((en':Int) + 1) ((n:Int) + 1) 2 = (n + 1 - en') / 2:=by rw [rN_two]; omega
 rw [er3]
 refine for_rng3 (fun r σ H'=>∃ o6,σ = [some (.ref p),some (.int n),some (.ref s'),some (.int st),some (.int en'),some (.int (pr (PP ps) kk st en' * cv (PP ps) kk (2 * q') (st + 1) [])),o6]/\Tb H H' s' ad n (fun i j=>if st < i then tbl (PP ps) kk i j else if i = st then (if j < en' + 1 + 2 * r then part (PP ps) kk st (q' + 1) j else part (PP ps) kk st q' j) else 0)) ?_ ?_ ?_
 ·refine ⟨_,rfl,tb5.congr fun i j hi hj=>?_⟩
  by_cases h2:st < i
  ·rw [if_pos h2,if_pos h2]
  ·rw [if_neg h2,if_neg h2]
   by_cases h1:i = st
   ·rw [if_pos h1,if_pos h1]
    by_cases h3:j < en' + 1 + 2 * 0
    ·rw [if_pos h3,part_same (by omega)]
    ·rw [if_neg h3]
   ·rw [if_neg h1,if_neg h1]
 rotate_left
 ·rintro σ H' ⟨o6,rfl,tb⟩
  refine ⟨_,_,_,rfl,tb.congr fun i j hi hj=>?_⟩
  by_cases h2:st < i
  ·rw [if_pos h2,if_pos h2]
  ·rw [if_neg h2,if_neg h2]
   by_cases h1:i = st
   ·rw [if_pos h1,if_pos h1,if_pos (by omega)]
   ·rw [if_neg h1,if_neg h1]
 rintro r σ H6 hr6 ⟨o6,rfl,tb6⟩
 obtain ⟨sp,hsp⟩:∃ e:Nat,e = en' + 1 + 2 * r:=⟨_,rfl⟩
 have e4:((en':Int) + 1 + (r:Int) * 2) = (sp:Int):=by omega
 have hsp2:sp <= n:=by omega
 rw [e4]
 walk_at "go"
 refine s_ixL (SqL.of tb6.top) (atI_nat (tb6.at (i:=st) (by omega))) ?_
 walk_at "go"
 refine s_getL (SqL.of (tb6.row st (by omega))) (rwl_get (j:=sp) hsp2) ?_
 have ev2:(if st < st then tbl (PP ps) kk st sp else if st = st then (if sp < en' + 1 + 2 * r then part (PP ps) kk st (q' + 1) sp else part (PP ps) kk st q' sp) else 0) = part (PP ps) kk st q' sp:=by
  rw [if_neg (by omega),if_pos rfl,if_neg (by omega)]
 rw [ev2]
 have e5:((en':Int) + 1) = ((en' + 1:Nat):Int):=by omega
 walk_at "go"
 rw [e5]
 refine s_ixL (SqL.of tb6.top) (atI_nat (tb6.at (i:=en' + 1) (by omega))) ?_
 walk_at "go"
 refine s_ixL (SqL.of (tb6.row (en' + 1) (by omega))) (atI_nat (rwl_get (j:=sp) hsp2)) ?_
 have ev3:(if st < en' + 1 then tbl (PP ps) kk (en' + 1) sp else if en' + 1 = st then (if sp < en' + 1 + 2 * r then part (PP ps) kk st (q' + 1) sp else part (PP ps) kk st q' sp) else 0) = cv (PP ps) kk (sp - (en' + 1)) (en' + 1) []:=by
  rw [if_pos (by omega)]
  unfold tbl
  rw [if_pos (by omega)]
 rw [ev3]
 have b5:=cv_cap hk hsm (n:=sp - (en' + 1)) (by omega) (en' + 1) []
 refine s_mulW (big_of b3 b4 cap2_big) (big_of b5.1 b5.2 cap_big) ?_
 refine s_ipI ?_
 refine s_setL (tb6.row st (by omega)) (j:=sp) (by rw [rwl_len]; unfold ixN; rw [if_pos (by omega),if_pos (by omega)]; simp) ?_
 refine ⟨_,rfl,(tb6.set (i:=st) (j:=sp) (by omega)).congr fun i j hi hj=>?_⟩
 by_cases h1:i = st
 ·subst h1
  simp only [Nat.lt_irrefl,if_false,if_true,true_and]
  by_cases h2:j = sp
  ·subst h2
   rw [if_pos rfl,if_pos (by omega)]
   exact part_next hen (by omega) (by omega)
  ·rw [if_neg h2]
   by_cases h3:j < en' + 1 + 2 * r
   ·rw [if_pos h3,if_pos (by omega)]
   ·rw [if_neg h3]
    by_cases h4:j < en' + 1 + 2 * (r + 1)
    ·rw [if_pos h4,part_odd (by omega),part_odd (by omega)]
    ·rw [if_neg h4]
 ·rw [if_neg (fun z=>h1 z.1)]
  by_cases h2:st < i
  ·rw [if_pos h2,if_pos h2]
  ·rw [if_neg h2,if_neg h2,if_neg h1,if_neg h1]
theorem sc_whole_sum:FnScope ["sums"] ["sums"] (defScope d_whole_sum):=⟨rfl,rfl,rfl,by decide +kernel,rfl,by decide +kernel,by decide +kernel⟩
theorem ok_whole_sum (F:Fun K "whole_sum" "whole_sum" d_whole_sum f fd) (T:Txt K mg aK cs aC)  : FnOk P w K mg base CX0 (k + 1) f fd ["sums"] (spWholeSum):=by
 refine F.ok sc_whole_sum (fun vs H Q E h=>?_) (fun cdv A outer s H vs Q E hr h=>?_)
 ·obtain ⟨H0,s',ad,n,T',rfl,_⟩:=h; rfl
 obtain ⟨H0,s',ad,n,T',rfl,tb,q⟩:=h
 refine ⟨_,(pss_one (ps_ret (pe_ix (ix_A K) (pe_ix (ix_A K) (pv 0) pe_int (fun _ _=>rfl)) (pe_un un_neg pe_int) (fun _ _=>rfl)))),?_⟩
 walk_at "go"
 refine s_ixL (SqL.of tb.top) (atI_nat (j:=0) (tb.at (Nat.zero_le _))) ?_
 walk_at "go"
 refine s_ixL (SqL.of (tb.row 0 (Nat.zero_le _))) (v:=.int (T' 0 n)) (atI_end ?_ ?_) ?_
 ·rw [rwl_len]; omega
 ·rw [rwl_len]; exact rwl_get (Nat.le_refl _)
 exact q
theorem sc_how_many:FnScope ["k","row"] ["k","row"] (defScope d_how_many):=⟨rfl,rfl,rfl,by decide +kernel,rfl,by decide +kernel,by decide +kernel⟩
theorem ok_how_many (F:Fun K "how_many" "how_many" d_how_many f fd) (T:Txt K mg aK cs aC) (U_check_line:FnUE P w K mg base k "check_line" ["k","row"] (spGateE K cs spCheckLine)) (U_whole_sum:FnU P w K mg base k "whole_sum" ["sums"] (spWholeSum)) (U_span_sums:FnU P w K mg base k "span_sums" ["places"] (spSpans)) (U_counted_places:FnU P w K mg base k "counted_places" ["k","row"] (spCounted)):FnOk P w K mg base (CXE P w) (k + 1) f fd ["k","row"] (spGateE K cs spMany):=by
 refine F.okE sc_how_many (fun vs H Q E h=>?_) (fun cdv A outer s H vs Q E hr h=>?_)
 ·rcases h with ⟨kk,a,rfl,_⟩ | ⟨kv,v,rfl,_⟩ <;> rfl
 rcases h with ⟨kk,a,rfl,h1,h2,ha,q⟩ | ⟨kv,v,rfl,g⟩
 rotate_left
 ·refine ⟨_,(pss_cons (ps_expr (pe_fnE U_check_line hr cxE_xf (pa_cons (pv 0) (pa_cons (pv 1) pa_nil)))) (pss_one (ps_ret (pe_fn U_whole_sum hr (pa_cons (pe_fn U_span_sums hr (pa_cons (pe_fn U_counted_places hr (pa_cons (pv 0) (pa_cons (pv 1) pa_nil))) pa_nil)) pa_nil))))),?_⟩
  walk_at "go"
  exact .inr ⟨kv,v,rfl,g.pass (Same.refl H)⟩
 ·refine nox_ex ⟨_,(pss_cons (ps_expr (pe_fnE U_check_line hr xf_no (pa_cons (pv 0) (pa_cons (pv 1) pa_nil)))) (pss_one (ps_ret (pe_fn U_whole_sum hr (pa_cons (pe_fn U_span_sums hr (pa_cons (pe_fn U_counted_places hr (pa_cons (pv 0) (pa_cons (pv 1) pa_nil))) pa_nil)) pa_nil))))),?_⟩
  have hl:=isRow_len ha
  walk_at "go"
  refine .inl (checkLine_use h1 h2 ha (fun H1 s1=>?_))
  walk_at "go"
  refine counted_use h1 h2 hl (fun r H2 hr2 s2 hP=>?_)
  walk_at "go"
  refine spans_use (k:=kk.toNat) hP (by rw [List.length_map]; exact hl) (by omega) (many_places (by omega)) (fun s3 ad H3 tb=>?_)
  walk_at "go"
  refine wholeSum_use tb ?_
  have e:tbl (PP (a.map (plw (ones kk.toNat)))) kk.toNat 0 (a.map (plw (ones kk.toNat))).length = cnt kk.toNat a:=by
   unfold tbl cnt
   rw [if_pos (Nat.zero_le _),Nat.sub_zero,List.length_map]
  rw [e]
  exact q H3 ((s1.trans s2).trans tb.sm)
theorem sc_may_open:FnScope ["place"] ["place"] (defScope d_may_open):=⟨rfl,rfl,rfl,by decide +kernel,rfl,by decide +kernel,by decide +kernel⟩
theorem ok_may_open (F:Fun K "may_open" "may_open" d_may_open f fd) (T:Txt K mg aK cs aC)  : FnOk P w K mg base CX0 (k + 1) f fd ["place"] (spMayOpen K):=by
 refine F.ok sc_may_open (fun vs H Q E h=>?_) (fun cdv A outer s H vs Q E hr h=>?_)
 ·obtain ⟨p,l,rfl,_⟩:=h; rfl
 obtain ⟨p,l,rfl,hp,q⟩:=h
 have hu:=hr.units0
 refine ⟨_,(pss_one (ps_ret (pe_callB (call_anyI K rfl) rfl T.n_any PyProof.Rows.boot_any (pa_cons (pe_two K (pv 0) pe_int) pa_nil)))),?_⟩
 walk_at "go"
 refine ⟨rfl,p,_,rfl,SqL.of hp,fun r hr2=>?_⟩
 have s1:=same_new hr2 (.lst (evens (l.map V.int)))
 rw [evens_map _ _ _ (Nat.le_refl _)] at s1 ⊢
 refine ⟨r,evens l,rfl,SqL.of upd_same,?_⟩
 exact q _ s1
theorem sc_depths_before:FnScope ["places","sums","shorter","stop","found"] ["places","sums","shorter","stop"] (defScope d_depths_before):=⟨rfl,rfl,rfl,by decide +kernel,rfl,by decide +kernel,by decide +kernel⟩
theorem ok_depths_before (F : Fun K "depths_before" "depths_before" d_depths_before f fd) (T : Txt K mg aK cs aC) (U_may_open : FnU P w K mg base k "may_open" ["place"] (spMayOpen K)) : FnOk P w K mg base CX0 (k + 1) f fd ["places", "sums", "shorter", "stop"] (spBefore) := by
  refine F.ok sc_depths_before (fun vs H Q E h => ?_) (fun cdv A outer s H vs Q E hr h => ?_)
  · obtain ⟨pp, sp, sh, kk, a, H0, ad, j, L, rfl, _⟩ := h; rfl
  obtain ⟨pp, sp, sh, kk, a, H0, ad, j, L, rfl, hP, hT, hL, hLj, hja, ha, hk4, hD, q⟩ := h
  have hu := hr.units0
  refine ⟨_, (pss_cons (ps_setComp2 (i := 4) sc_depths_before.nd rfl (Or.inl rfl) (own := ["start", "depth"]) (sel := [0, 3, 1, 2]) (compOk_of (osc := (defScope d_depths_before)) (N := ["places", "sums", "shorter", "stop", "found"]) (by decide +kernel)) rfl (pi_range1 rfl T.n_range (pa_cons (pv 3) pa_nil)) (by decide) (fun _ _ _ _ _ => (pg_name (i := 0) (show (["start", "depth", "places", "stop", "sums", "shorter"] : List Str).Nodup from by decide +kernel) rfl (Or.inl rfl))) (fun _ _ _ _ _ => pif_one (PW.pt (pw_and (pt_tru K (pe_fn U_may_open hr (pa_cons (pe_ix (ix_A K) (pv 2) (pv 0) (fun _ _ => rfl)) pa_nil))) (pw_and1 (pt_cmpR op_gt (pe_ix (ix_A K) (pe_ix (ix_A K) (pv 4) (pe_op op_plus (pv 0) pe_int) (fun _ _ => rfl)) (pv 3) (fun _ _ => rfl)) pe_int (nomark _)))))) (fun _ _ _ _ _ => (pi_listK K (pe_ix (ix_A K) (pv 5) (pv 0) (fun _ _ => rfl)))) (fun _ _ _ _ _ => (pg_name (i := 1) (show (["start", "depth", "places", "stop", "sums", "shorter"] : List Str).Nodup from by decide +kernel) rfl (Or.inl rfl))) (fun _ _ _ _ _ => pif_nil) (fun _ _ _ _ _ => (pe_op op_plus (pv 1) pe_int)))  (pss_cons (ps_if (pt_cmpR op_gt (pe_ix (ix_A K) (pe_ix (ix_A K) (pv 1) pe_int (fun _ _ => rfl)) (pv 3) (fun _ _ => rfl)) pe_int (nomark _))   (pss_one (ps_expr (pe_bmK K PySem.F.plainAttrs_list PySem.F.slot_list_append PySem.F.type_list_append mt_append (pv 4) (pa_cons pe_int pa_nil))))   pss_nil)  (pss_one (ps_ret (pe_ssetB K T.n_set T.n_sorted hr rfl (pv 4)))))), ?_⟩
  walk_at "go"
  refine ⟨_, rfl, by omega, by omega, ?_⟩
  rw [Int.toNat_natCast]
  obtain ⟨pa, hp0, hpa⟩ := id hP
  obtain ⟨la, hl0, hla⟩ := id hL
  have hn : (a.map (plw (ones kk))).length = a.length := List.length_map ..
  rw [hn] at hp0 hpa
  rw [hLj] at hl0 hla
  have hcap : ((List.range j).flatMap (fB kk a j L)).length <= 2520 := Nat.le_trans (fB_all (j := j) hD j) (by omega)
  refine comp2_rng (fun i => (fB kk a j L i).map V.int) (fun D H1 hDn s1 hy => ?_) (fun D i H1 N hDn hi s1 hy hN => ?_)
  rotate_left
  · have e0 : (0 : Int) + (i : Int) = (i : Int) := by omega
    rw [e0]
    have ea : a[i]? = some (a.getD i 0) := by rw [List.getD_eq_getElem?_getD, List.getElem?_eq_getElem (by omega)]; rfl
    have gp : H1 (pa i) = some (iL (plw (ones kk) (a.getD i 0))) := by
      have := s1 _ _ (hpa i (by omega))
      rw [List.getD_eq_getElem?_getD, List.getElem?_map, ea] at this
      exact this
    have gl : H1 (la i) = some (iL (L.getD i [])) := s1 _ _ (hla i hi)
    walk_at "go"
    refine s_ixL (SqL.of (s1 _ _ hp0)) (atI_nat (by rw [List.getElem?_map, List.getElem?_range (by omega)]; rfl)) ?_
    walk_at "go"
    refine mayOpen_use gp (fun H2 s2 => ?_)
    walk_at "go"
    have nD : ∀ b o, H b = some o -> b ≠ D := fun b o z => ne_of_none z hDn
    cases hm : (evens (plw (ones kk) (a.getD i 0))).any fun n => n != 0 with
    | false =>
      refine ifq rfl (ifq rfl ?_)
      refine hN H2 (s1.trans s2) ?_
      rw [s2 _ _ hy]
      have : fB kk a j L i = [] := by unfold fB; rw [if_neg (by rw [hm]; simp)]
      rw [this]; simp
    | true =>
      refine ifp rfl ?_
      walk_at "go"
      have e1 : ((i : Int) + 1) = ((i + 1 : Nat) : Int) := by omega
      rw [e1]
      have tb2 := hT.same (s1.trans s2)
      refine s_ixL (SqL.of tb2.top) (atI_nat (tb2.at (i := i + 1) (by omega))) ?_
      walk_at "go"
      refine s_ixL (SqL.of (tb2.row (i + 1) (by omega))) (atI_nat (rwl_get (j := j) (by omega))) ?_
      walk_at "go"
      by_cases hw : 0 < tbl (PP (a.map (plw (ones kk)))) kk (i + 1) j
      · refine ifp (by simpa using hw) ?_
        have ef : fB kk a j L i = (L.getD i []).map (· + 1) := by unfold fB; rw [if_pos ⟨hm, hw⟩]
        rw [ef] at hN
        have hn63 : (L.getD i []).length <= 63 := by
          have := fB_len (j := j) hD i
          rw [ef, List.length_map] at this; exact this
        have hpre : ((List.range i).flatMap (fB kk a j L)).length <= 2520 := Nat.le_trans (fB_all (j := j) hD i) (by omega)
        unfold tInner
        walk_at "go"
        refine s_ixL (SqL.of (s2 _ _ (s1 _ _ hl0))) (atI_nat (by rw [List.getElem?_map, List.getElem?_range (by omega)]; rfl)) ?_
        refine ⟨la i, rfl, ⟨_, SqL.of (s2 _ _ gl)⟩, ?_⟩
        refine inner_lst (fun x => match x with | .int z => .int (z + 1) | y => y) (s2 _ _ gl) (nD _ _ (hla i hi)) (s2 _ _ hy) ?_ (fun i2 x H3 R hx s3 r => ?_) (fun H3 s3 h3 => ?_)
        · rw [flat_int, List.length_map, List.length_map, sizeLine_eq]; omega
        · rw [List.getElem?_map] at hx
          obtain ⟨z, hz, rfl⟩ := Option.map_eq_some_iff.mp hx
          walk_at "go"
          exact r
        · refine hN H3 (fun b o z => s3 b o (s2 b o (s1 b o z)) (nD b o z)) ?_
          rw [h3, List.map_map, List.map_map]; rfl
      · refine ifq (by simpa using hw) ?_
        refine hN H2 (s1.trans s2) ?_
        rw [s2 _ _ hy]
        have : fB kk a j L i = [] := by unfold fB; rw [if_neg (fun z => hw z.2)]
        rw [this]; simp
  rw [flat_int] at hy
  have hmem := before_mem hk4 hja hLj hD
  have tb1 := hT.same s1
  walk_at "go"
  refine s_ixL (SqL.of tb1.top) (show atI _ (0 : Int) = some (V.ref (ad 0)) from atI_nat (j := 0) (tb1.at (i := 0) (by omega))) ?_
  walk_at "go"
  refine s_ixL (SqL.of (tb1.row 0 (by omega))) (atI_nat (rwl_get (j := j) (by omega))) ?_
  walk_at "go"
  by_cases hw : 0 < tbl (PP (a.map (plw (ones kk)))) kk 0 j
  · refine ifp (by simpa using hw) ?_
    walk_at "go"
    refine ⟨.inl ⟨rfl, _, SqL.of hy⟩, ?_⟩
    walk_at "go"
    refine ⟨D, _, _, rfl, rfl, hy, by rw [List.length_map, sizeLine_eq]; omega, ?_⟩
    walk_at "go"
    refine ⟨D, (List.range j).flatMap (fB kk a j L) ++ [0], rfl, SqL.of (by rw [upd_same, List.map_append]; rfl), by rw [List.length_append]; simp only [List.length_singleton]; omega, fun x hx => ?_, fun p ns hp hpw hm hle => ?_⟩
    · have hx' : Dep kk (a.take j) x := (hmem x).mp (by
        rcases List.mem_append.mp hx with z | z
        · exact .inl z
        · exact .inr ⟨by simpa using z, hw⟩)
      have := hx'.bound
      rw [List.length_take] at this
      omega
    · have hne : ∀ b o, H b = some o -> b ≠ D := fun b o z => ne_of_none z hDn
      have hpn : H p = none := by
        by_cases e : p = D
        · rw [e]; exact hDn
        · rw [upd_ne e] at hp; exact s1.free hp
      refine q p ns _ hpn (fun b o z => ?_) upd_same ⟨hpw, fun x => ?_, hle⟩
      · rw [upd_ne (ne_of_none z hpn), upd_ne (hne b o z)]; exact s1 b o z
      · rw [hm x, <- hmem x, List.mem_append]
        constructor
        · rintro (z | z)
          · exact .inl z
          · exact .inr ⟨by simpa using z, hw⟩
        · rintro (z | z)
          · exact .inl z
          · exact .inr (by simp [z.1])
  · refine ifq (by simpa using hw) ?_
    walk_at "go"
    refine ⟨D, (List.range j).flatMap (fB kk a j L), rfl, SqL.of hy, by omega, fun x hx => ?_, fun p ns hp hpw hm hle => ?_⟩
    · have hx' : Dep kk (a.take j) x := (hmem x).mp (.inl hx)
      have := hx'.bound
      rw [List.length_take] at this
      omega
    · refine q p ns _ (s1.free hp) (s1.trans (same_new hp _)) upd_same ⟨hpw, fun x => ?_, hle⟩
      rw [hm x, <- hmem x]
      exact ⟨fun z => .inl z, fun z => z.elim id fun y => absurd y.2 hw⟩
theorem sc_depths_by_stop:FnScope ["k","row","places","sums","found","stop"] ["k","row"] (defScope d_depths_by_stop):=⟨rfl,rfl,rfl,by decide +kernel,rfl,by decide +kernel,by decide +kernel⟩
theorem ok_depths_by_stop (F:Fun K "depths_by_stop" "depths_by_stop" d_depths_by_stop f fd) (T:Txt K mg aK cs aC) (U_counted_places:FnU P w K mg base k "counted_places" ["k","row"] (spCounted)) (U_span_sums:FnU P w K mg base k "span_sums" ["places"] (spSpans)) (U_depths_before:FnU P w K mg base k "depths_before" ["places","sums","shorter","stop"] (spBefore)):FnOk P w K mg base CX0 (k + 1) f fd ["k","row"] (spByStop):=by
 refine F.ok sc_depths_by_stop (fun vs H Q E h=>?_) (fun cdv A outer s H vs Q E hr h=>?_)
 ·obtain ⟨k,a,rfl,_⟩:=h; rfl
 obtain ⟨kk,a,rfl,hk1,hk4,hl,q⟩:=h
 have hu:=hr.units0
 refine ⟨_,(pss_cons (ps_set (i:=2) sc_depths_by_stop.nd rfl (Or.inl rfl) (pe_fn U_counted_places hr (pa_cons (pv 0) (pa_cons (pv 1) pa_nil)))) (pss_cons (ps_set (i:=3) sc_depths_by_stop.nd rfl (Or.inl rfl) (pe_fn U_span_sums hr (pa_cons (pv 2) pa_nil))) (pss_cons (ps_set (i:=4) sc_depths_by_stop.nd rfl (Or.inl rfl) (pe_lst pa_nil)) (pss_cons (ps_for PassesOwn.never rfl (pi_range1 rfl T.n_range (pa_cons (pe_op op_plus (pe_callB (call_lenA K) rfl T.n_len PySem.boot_len (pa_cons (pv 1) pa_nil)) pe_int) pa_nil)) (pg_name (i:=5) sc_depths_by_stop.nd rfl (Or.inl rfl)) (pss_one (ps_expr (pe_bmK K PySem.F.plainAttrs_list PySem.F.slot_list_append PySem.F.type_list_append mt_append (pv 4) (pa_cons (pe_fn U_depths_before hr (pa_cons (pv 2) (pa_cons (pv 3) (pa_cons (pv 4) (pa_cons (pv 5) pa_nil))))) pa_nil))))) (pss_one (ps_ret (pv 4))))))),?_⟩
 walk_at "go"
 refine counted_use hk1 hk4 hl (fun pp H1 hp1 s1 hP=>?_)
 walk_at "go"
 refine spans_use (k:=kk.toNat) hP (by rw [List.length_map]; exact hl) (by omega) (many_places (by omega)) (fun sp ad0 H2 tb=>?_)
 have hP2:=hP.same tb.sm
 have en:(a.map (plw (ones kk.toNat))).length = a.length:=List.length_map ..
 rw [en] at tb
 walk_at "go"
 refine ⟨small (show 0 <= 1000 by decide),fun fo hfo=>?_⟩
 have s3:=same_new hfo (.lst [])
 walk_at "go"
 refine ⟨_,rfl,by omega,by omega,?_⟩
 have et:((a.length:Int) + 1).toNat = a.length + 1:=by omega
 rw [et]
 have sH2:Same H H2:=s1.trans tb.sm
 have hfoH:H fo = none:=sH2.free hfo
 refine for_rng (fun j σ H'=>∃ (ad:Nat->Addr) (L:List (List Int)) (o5:Option V),σ = [some (.int kk),some (tx a),some (.ref pp),some (.ref sp),some (.ref fo),o5]/\PlA H2 H' fo ad L/\L.length = j/\∀ i l,L[i]? = some l->DL kk.toNat (a.take i) l)
  ⟨fun _=>0,[],_,rfl,⟨hfo,(fun _ z=>absurd z (Nat.not_lt_zero _)),upd_same,(fun _ z=>absurd z (Nat.not_lt_zero _)),s3⟩,rfl,fun i l z=>by simp at z⟩ ?_ ?_
 ·rintro j σ H3 hj ⟨ad,L,o5,rfl,pl,hL,hD⟩
  have ej:(0:Int) + (j:Int) = (j:Int):=by omega
  rw [ej]
  walk_at "go"
  refine ⟨.inl ⟨rfl,_,SqL.of pl.top⟩,?_⟩
  walk_at "go"
  refine before_use (j:=j) (hP2.same pl.sm) (tb.same pl.sm) pl.pls hL (by omega) hl (by omega) hD (fun p ns H4 hp s4 gp dl=>?_)
  walk_at "go"
  refine ⟨fo,_,_,rfl,rfl,s4 _ _ pl.top,by simp only [List.length_map,List.length_range]; rw [sizeLine_eq]; omega,?_⟩
  refine ⟨_,L ++ [ns],_,rfl,pl.push s4 hp gp,by simp [hL],fun i l z=>?_⟩
  by_cases c:i < L.length
  ·rw [List.getElem?_append_left c] at z; exact hD i l z
  ·rw [List.getElem?_append_right (by omega)] at z
   have hi:i = L.length:=by
    have:=(List.getElem?_eq_some_iff.mp z).1
    simp at this; omega
   subst hi
   simp at z
   subst z
   rw [hL]; exact dl
 ·rintro σ H3 ⟨ad,L,o5,rfl,pl,hL,hD⟩
  walk_at "go"
  exact q fo H3 ad L ⟨hfoH,fun i hi=>sH2.free (pl.fa i hi),pl.top,pl.row,sH2.trans pl.sm⟩ hL hD
theorem sc_depths:FnScope ["k","row"] ["k","row"] (defScope d_depths):=⟨rfl,rfl,rfl,by decide +kernel,rfl,by decide +kernel,by decide +kernel⟩
theorem ok_depths (F:Fun K "depths" "depths" d_depths f fd) (T:Txt K mg aK cs aC) (U_check_line:FnUE P w K mg base k "check_line" ["k","row"] (spGateE K cs spCheckLine)) (U_depths_by_stop:FnU P w K mg base k "depths_by_stop" ["k","row"] (spByStop)):FnOk P w K mg base (CXE P w) (k + 1) f fd ["k","row"] (spDepths):=by
 refine F.okE sc_depths (fun vs H Q E h=>?_) (fun cdv A outer s H vs Q E hr h=>?_)
 ·obtain ⟨k,a,rfl,_⟩:=h; rfl
 obtain ⟨kk,a,rfl,hk1,hk4,hro,q⟩:=h
 have hu:=hr.units0
 have hl:=isRow_len hro
 refine nox_ex ⟨_,(pss_cons (ps_expr (pe_fnE U_check_line hr xf_no (pa_cons (pv 0) (pa_cons (pv 1) pa_nil)))) (pss_one (ps_ret (pe_ix (ix_A K) (pe_fn U_depths_by_stop hr (pa_cons (pv 0) (pa_cons (pv 1) pa_nil))) (pe_un un_neg pe_int) (fun _ _=>rfl))))),?_⟩
 walk_at "go"
 refine .inl (checkLine_use hk1 hk4 hro (fun H1 s1=>?_))
 walk_at "go"
 refine byStop_use hk1 hk4 hl (fun r H2 ad L pl hL hD=>?_)
 walk_at "go"
 have el:L[a.length]? = some (L.getD a.length []):=by rw [List.getD_eq_getElem?_getD,List.getElem?_eq_getElem (by omega)]; rfl
 have dl:=hD _ _ el
 rw [List.take_length] at dl
 refine s_ixL (SqL.of pl.top) (v:=.ref (ad a.length)) (atI_end (by simp; omega) (by simp only [List.length_map,List.length_range]; rw [hL,List.getElem?_map,List.getElem?_range (by omega)]; rfl)) ?_
 exact q _ _ H2 (s1.free (pl.fa _ (by omega))) (s1.trans pl.sm) (pl.row _ (by omega)) dl
theorem sc_may_go_on:FnScope ["k","row"] ["k","row"] (defScope d_may_go_on):=⟨rfl,rfl,rfl,by decide +kernel,rfl,by decide +kernel,by decide +kernel⟩
theorem ok_may_go_on (F:Fun K "may_go_on" "may_go_on" d_may_go_on f fd) (T:Txt K mg aK cs aC) (U_depths_begun:FnUE P w K mg base k "depths_begun" ["k","row"] (spDepths)):FnOk P w K mg base (CXE P w) (k + 1) f fd ["k","row"] (spGoOn):=by
 refine F.okE sc_may_go_on (fun vs H Q E h=>?_) (fun cdv A outer s H vs Q E hr h=>?_)
 ·obtain ⟨k,a,rfl,_⟩:=h; rfl
 obtain ⟨kk,a,rfl,hk1,hk4,hro,q⟩:=h
 have hu:=hr.units0
 refine nox_ex ⟨_,(pss_one (ps_ret (pe_cmpR op_gt (pe_callB (call_lenA K) rfl T.n_len PySem.boot_len (pa_cons (pe_fnE U_depths_begun hr xf_no (pa_cons (pv 0) (pa_cons (pv 1) pa_nil))) pa_nil)) pe_int (nomark _)))),?_⟩
 walk_at "go"
 refine depths_use hk1 hk4 hro (fun p ns H1 hp s1 gp dl=>?_)
 walk_at "go"
 refine s_lenL (.inl (SqL.of gp)) ?_
 walk_at "go"
 rw [List.length_map]
 have e:decide ((0:Int) < (ns.length:Int)) = goB kk.toNat a:=by
  rw [<- dl.goes]
  exact decide_eq_decide.mpr (by omega)
 rw [e]
 exact q H1 s1
theorem sc_fewest_more:FnScope ["k","row","found"] ["k","row"] (defScope d_fewest_more):=⟨rfl,rfl,rfl,by decide +kernel,rfl,by decide +kernel,by decide +kernel⟩
theorem ok_fewest_more (F : Fun K "fewest_more" "fewest_more" d_fewest_more f fd) (T : Txt K mg aK cs aC) (U_depths_begun : FnUE P w K mg base k "depths_begun" ["k", "row"] (spDepths)) : FnOk P w K mg base (CXE P w) (k + 1) f fd ["k", "row"] (spFewest) := by
  refine F.okE sc_fewest_more (fun vs H Q E h => ?_) (fun cdv A outer s H vs Q E hr h => ?_)
  · obtain ⟨k, a, rfl, _⟩ := h; rfl
  obtain ⟨kk, a, rfl, hk1, hk4, hro, q⟩ := h
  have hu := hr.units0
  refine nox_ex ⟨_, (pss_cons (ps_set (i := 2) sc_fewest_more.nd rfl (Or.inl rfl) (pe_fnE U_depths_begun hr xf_no (pa_cons (pv 0) (pa_cons (pv 1) pa_nil))))  (pss_one (ps_ret (pe_ifExp (pt_tru K (pv 2)) (pe_ix (ix_A K) (pv 2) pe_int (fun _ _ => rfl)) pe_non)))), ?_⟩
  walk_at "go"
  refine depths_use hk1 hk4 hro (fun p ns H1 hp s1 gp dl => ?_)
  walk_at "go"
  cases ns with
  | nil =>
    refine s_truL (SqL.of gp) ?_
    refine ifq rfl ?_
    walk_at "go"
    exact q [] H1 s1 dl
  | cons x r =>
    refine s_truL (SqL.of gp) ?_
    refine ifp rfl ?_
    walk_at "go"
    refine s_ixL (SqL.of gp) (atI_0 _ _) ?_
    exact q (x :: r) H1 s1 dl
theorem sc_Grower___init__:FnScope ["self","k"] ["self","k"] (defScope d_Grower___init__):=⟨rfl,rfl,rfl,by decide +kernel,rfl,by decide +kernel,by decide +kernel⟩
theorem ok_Grower___init__ (F:Fun K "__init__" "Grower.__init__" d_Grower___init__ f fd) (T:Txt K mg aK cs aC) (U_check_kinds:FnUE P w K mg base k "check_kinds" ["k"] (spKindsE K cs)):FnOk P w K mg base (CXE P w) (k + 1) f fd ["self","k"] (spGInitE K cs aC):=by
 refine F.okE sc_Grower___init__ (fun vs H Q E h=>?_) (fun cdv A outer s H vs Q E hr h=>?_)
 ·rcases h with ⟨g,dx,k,rfl,_⟩ | ⟨g,kv,rfl,_⟩ <;> rfl
 rcases h with ⟨g,dx,kk,rfl,k1,k4,hg,q⟩ | ⟨g,kv,rfl,hk,rf⟩
 ·have hu:=hr.units0
  refine nox_ex ⟨_,(pss_cons (ps_expr (pe_fnE U_check_kinds hr xf_no (pa_cons (pv 1) pa_nil))) (pss_cons (ps_fldK K (pv 0) (pv 1)) (pss_one (ps_fldK K (pv 0) (pe_tx (l:=[]) (by decide +kernel)))))),?_⟩
  walk_at "go"
  refine .inl (kinds_use k1 k4 ?_)
  walk_at "go"
  refine ⟨g,aC,dx,[],rfl,hg,T.cl_Grower,T.no_k,by show 0 < 1000; decide,?_⟩
  walk_at "go"
  refine ⟨g,aC,dx,_,rfl,upd_same,T.cl_Grower,T.no_signs,by show 1 < 1000; decide,?_⟩
  refine q _ (SameBut1.upd.trans SameBut1.upd) ⟨dx,?_⟩
  rw [upd_same]
  rfl
 ·refine ⟨_,(pss_cons (ps_expr (pe_fnE U_check_kinds hr cxE_xf (pa_cons (pv 1) pa_nil))) (pss_cons (ps_fldK K (pv 0) (pv 1)) (pss_one (ps_fldK K (pv 0) (pe_tx (l:=[]) (by decide +kernel)))))),?_⟩
  walk_at "go"
  exact .inr ⟨kv,rfl,hk,rf.pass (Same.refl H)⟩
theorem sc_Grower_put:FnScope ["self","sign"] ["self","sign"] (defScope d_Grower_put):=⟨rfl,rfl,rfl,by decide +kernel,rfl,by decide +kernel,by decide +kernel⟩
theorem ok_Grower_put (F:Fun K "put" "Grower.put" d_Grower_put f fd) (T:Txt K mg aK cs aC) (U_is_line:FnUE P w K mg base k "is_line" ["k","thing"] (spLineE K cs)):FnOk P w K mg base (CXE P w) (k + 1) f fd ["self","sign"] (spGPutE K cs aC):=by
 refine F.okE sc_Grower_put (fun vs H Q E h=>?_) (fun cdv A outer s H vs Q E hr h=>?_)
 ·rcases h with ⟨g,k,a,c,rfl,_⟩ | ⟨g,k,a,x,rfl,_⟩ <;> rfl
 have hu:=hr.units0
 rcases h with ⟨g,kk,a,c,rfl,k1,k4,⟨dx,hg⟩,hl,hc,q⟩ | ⟨g,kk,a,x,rfl,k1,k4,⟨dx,hg⟩,hl,hx⟩
 ·have hu:=hr.units0
  have hro:isRow kk [c] = true:=isRow_mk (by show 1 <= 40; decide) fun d hd=>by rw [List.mem_singleton.mp hd]; exact hc
  refine nox_ex ⟨_,(pss_cons (ps_if (PW.pt (pw_or (pt_not (pt_tru K (pe_fnE U_is_line hr xf_no (pa_cons (pe_fldK K (pv 0)) (pa_cons (pv 1) pa_nil))))) (pw_or1 (pt_cmpR (op_neA K hu) (pe_callB (call_lenA K) rfl T.n_len PySem.boot_len (pa_cons (pv 1) pa_nil)) pe_int (nomark _))))) (pss_one ps_never) pss_nil) (pss_cons (ps_if (pt_cmpR (op_eqA K hu) (pe_callB (call_lenA K) rfl T.n_len PySem.boot_len (pa_cons (pe_fldK K (pv 0)) pa_nil)) (pe_gl T.g_MOST_SIGNS) (nomark _)) (pss_one ps_never) pss_nil) (pss_one (ps_fldaugK K in_addA (pv 0) (pv 1))))),?_⟩
  walk_at "go"
  refine ⟨g,aC,dx,_,_,rfl,hg,T.cl_Grower,T.no_k,rfl,?_⟩
  walk_at "go"
  refine .inl (line_use k1 k4 (show 1 <= 1000 by decide) (fun H1 s1=>?_))
  rw [hro]
  walk_at "go"
  refine ifq rfl ?_
  walk_at "go"
  refine s_lenT (small (show 1 <= 1000 by decide)) ?_
  walk_at "go"
  refine ifq rfl ?_
  have hg1:=s1 _ _ hg
  walk_at "go"
  refine ⟨g,aC,dx,_,_,rfl,hg1,T.cl_Grower,T.no_signs,rfl,?_⟩
  walk_at "go"
  first | refine s_lenT (small (show a.length <= 1000 by omega)) ?_ | skip
  walk_at "go"
  refine ifq (decide_eq_false (by omega)) ?_
  walk_at "go"
  refine ⟨g,aC,dx,_,_,rfl,hg1,T.cl_Grower,T.no_signs,rfl,?_⟩
  walk_at "go"
  refine .inr ⟨a,[c],rfl,rfl,small (by simp; omega),?_⟩
  refine ⟨dx,_,hg1,by show 2 < 1000; decide,?_⟩
  refine q _ ((SameBut1.of s1).trans SameBut1.upd) ⟨dx,?_⟩
  rw [upd_same]
  rfl
 ·refine ⟨_,(pss_cons (ps_if (PW.pt (pw_or (pt_not (pt_tru K (pe_fnE U_is_line hr cxE_xf (pa_cons (pe_fldK K (pv 0)) (pa_cons (pv 1) pa_nil))))) (pw_or1 (pt_cmpR (op_neA K hu) (pe_callB (call_lenA K) rfl T.n_len PySem.boot_len (pa_cons (pv 1) pa_nil)) pe_int (nomark _))))) (pss_one (ps_raise T.e_NoLine T.c_NoLine hr.hd cxE_xm (pa_cons (pe_tx (l:=[97,32,115,105,103,110,32,105,115,32,111,110,101,32,98,114,97,99,107,101,116,32,111,102,32,116,104,101,32,107,105,110,100,115,32,116,104,101,114,101,32,97,114,101,44,32,111,114,32,63]) (by decide +kernel)) pa_nil))) pss_nil) (pss_cons (ps_if (pt_cmpR (op_eqA K hu) (pe_callB (call_lenA K) rfl T.n_len PySem.boot_len (pa_cons (pe_fldK K (pv 0)) pa_nil)) (pe_gl T.g_MOST_SIGNS) (nomark _)) (pss_one (ps_raise T.e_TooMany T.c_TooMany hr.hd cxE_xm (pa_cons (pe_tx (l:=[97,32,114,111,119,32,104,97,115,32,97,116,32,109,111,115,116,32,102,111,114,116,121,32,115,105,103,110,115]) (by decide +kernel)) pa_nil))) pss_nil) (pss_one (ps_fldaugK K in_addA (pv 0) (pv 1))))),?_⟩
  walk_at "go"
  refine ⟨g,aC,dx,_,_,rfl,hg,T.cl_Grower,T.no_k,rfl,?_⟩
  walk_at "go"
  rcases hx with ⟨⟨b,rfl,hb,hn⟩ | ⟨ty,hT,hp,hs⟩,rf⟩ | ⟨c,rfl,hc,h40,rf⟩
  ·refine .inl (line_use k1 k4 hb (fun H1 s1=>?_))
   walk_at "go"
   by_cases h1:isRow kk b = true
   ·rw [h1]
    refine ifq rfl ?_
    walk_at "go"
    first | refine s_lenT (small (show b.length <= 1000 by omega)) ?_ | skip
    walk_at "go"
    have h2:b.length ≠ 1:=hn.resolve_left (by rw [h1]; decide)
    refine ifp (by rw [decide_eq_false (by omega)]; rfl) ?_
    walk_at "go"
    exact ⟨small (by decide),fun y hy=>rf y H1 s1 (s1.free hy)⟩
   ·have h1:isRow kk b = false:=by simpa using h1
    rw [h1]
    refine ifp rfl ?_
    walk_at "go"
    first | refine ifp rfl ?_ | skip
    walk_at "go"
    exact ⟨small (by decide),fun y hy=>rf y H1 s1 (s1.free hy)⟩
  ·refine .inl ⟨kk,x,rfl,k1,k4,.inr ⟨ty,hT,hp,hs,?_⟩⟩
   walk_at "go"
   refine ifp rfl ?_
   walk_at "go"
   first | refine ifp rfl ?_ | skip
   walk_at "go"
   exact ⟨small (by decide),fun y hy=>rf y H (Same.refl H) hy⟩
  ·have hro:isRow kk [c] = true:=isRow_mk (by show 1 <= 40; decide) fun d hd=>by rw [List.mem_singleton.mp hd]; exact hc
   refine .inl (line_use k1 k4 (show 1 <= 1000 by decide) (fun H1 s1=>?_))
   rw [hro]
   walk_at "go"
   refine ifq rfl ?_
   walk_at "go"
   refine s_lenT (small (show 1 <= 1000 by decide)) ?_
   walk_at "go"
   refine ifq rfl ?_
   have hg1:=s1 _ _ hg
   walk_at "go"
   refine ⟨g,aC,dx,_,_,rfl,hg1,T.cl_Grower,T.no_signs,rfl,?_⟩
   walk_at "go"
   first | refine s_lenT (small (show a.length <= 1000 by omega)) ?_ | skip
   walk_at "go"
   refine ifp (decide_eq_true (by omega)) ?_
   walk_at "go"
   exact ⟨small (by decide),fun y hy=>rf y H1 s1 (s1.free hy)⟩
theorem sc_Grower_back:FnScope ["self"] ["self"] (defScope d_Grower_back):=⟨rfl,rfl,rfl,by decide +kernel,rfl,by decide +kernel,by decide +kernel⟩
theorem ok_Grower_back (F:Fun K "back" "Grower.back" d_Grower_back f fd) (T:Txt K mg aK cs aC)  : FnOk P w K mg base (CXE P w) (k + 1) f fd ["self"] (spGBackE cs aC):=by
 refine F.okE sc_Grower_back (fun vs H Q E h=>?_) (fun cdv A outer s H vs Q E hr h=>?_)
 ·rcases h with ⟨g,k,a,rfl,_⟩ | ⟨g,k,rfl,_⟩ <;> rfl
 rcases h with ⟨g,kk,a,rfl,⟨dx,hg⟩,hne,hl,q⟩ | ⟨g,kk,rfl,⟨dx,hg⟩,rf⟩
 ·have hu:=hr.units0
  refine nox_ex ⟨_,(pss_cons (ps_if (pt_not (pt_tru K (pe_fldK K (pv 0)))) (pss_one ps_never) pss_nil) (pss_one (ps_fldK K (pv 0) (pe_slice (sl_A K) (pe_fldK K (pv 0)) po_none (po_some (pe_un un_neg pe_int)))))),?_⟩
  walk_at "go"
  refine ⟨g,aC,dx,_,_,rfl,hg,T.cl_Grower,T.no_signs,rfl,?_⟩
  walk_at "go"
  refine s_truT (small (by omega)) ?_
  refine ifq (by simp [hne]) ?_
  walk_at "go"
  refine ⟨g,aC,dx,_,_,rfl,hg,T.cl_Grower,T.no_signs,rfl,?_⟩
  walk_at "go"
  first | refine s_slT (small (show a.length <= 1000 by omega)) ?_ | skip
  walk_at "go"
  refine ⟨g,aC,dx,_,rfl,hg,T.cl_Grower,T.no_signs,by show 2 < 1000; decide,?_⟩
  refine q _ SameBut1.upd ⟨dx,?_⟩
  have e:cutL a none (some (-1)) = a.dropLast:=by
   rcases List.eq_nil_or_concat a with z | ⟨b,c,z⟩
   ·exact absurd z hne
   ·rw [z,List.concat_eq_append,cut_init,List.dropLast_concat]
  rw [upd_same,e]
  rfl
 ·refine ⟨_,(pss_cons (ps_if (pt_not (pt_tru K (pe_fldK K (pv 0)))) (pss_one (ps_raise T.e_NoNumber T.c_NoNumber hr.hd cxE_xm (pa_cons (pe_tx (l:=[116,104,101,32,114,111,119,32,104,97,115,32,110,111,32,115,105,103,110,32,116,111,32,116,97,107,101,32,98,97,99,107]) (by decide +kernel)) pa_nil))) pss_nil) (pss_one (ps_fldK K (pv 0) (pe_slice (sl_A K) (pe_fldK K (pv 0)) po_none (po_some (pe_un un_neg pe_int)))))),?_⟩
  walk_at "go"
  refine ⟨g,aC,dx,_,_,rfl,hg,T.cl_Grower,T.no_signs,rfl,?_⟩
  walk_at "go"
  refine s_truT (small (by decide)) ?_
  refine ifp rfl ?_
  walk_at "go"
  exact ⟨small (by decide),fun y hy=>rf y H (Same.refl H) hy⟩
theorem sc_Grower_row:FnScope ["self"] ["self"] (defScope d_Grower_row):=⟨rfl,rfl,rfl,by decide +kernel,rfl,by decide +kernel,by decide +kernel⟩
theorem ok_Grower_row (F:Fun K "row" "Grower.row" d_Grower_row f fd) (T:Txt K mg aK cs aC)  : FnOk P w K mg base CX0 (k + 1) f fd ["self"] (spGRow aC):=by
 refine F.ok sc_Grower_row (fun vs H Q E h=>?_) (fun cdv A outer s H vs Q E hr h=>?_)
 ·obtain ⟨g,k,a,rfl,_⟩:=h; rfl
 obtain ⟨g,kk,a,rfl,⟨dx,hg⟩,q⟩:=h
 have hu:=hr.units0
 refine ⟨_,(pss_one (ps_ret (pe_fldK K (pv 0)))),?_⟩
 walk_at "go"
 exact ⟨g,aC,dx,_,_,rfl,hg,T.cl_Grower,T.no_signs,rfl,q⟩
theorem sc_Grower_how_many:FnScope ["self"] ["self"] (defScope d_Grower_how_many):=⟨rfl,rfl,rfl,by decide +kernel,rfl,by decide +kernel,by decide +kernel⟩
theorem ok_Grower_how_many (F:Fun K "how_many" "Grower.how_many" d_Grower_how_many f fd) (T:Txt K mg aK cs aC) (U_how_many_fillings:FnUE P w K mg base k "how_many_fillings" ["k","row"] (spGateE K cs spMany)):FnOk P w K mg base (CXE P w) (k + 1) f fd ["self"] (spGMany aC):=by
 refine F.okE sc_Grower_how_many (fun vs H Q E h=>?_) (fun cdv A outer s H vs Q E hr h=>?_)
 ·obtain ⟨g,k,a,⟨rfl,_⟩,_⟩:=h; rfl
 obtain ⟨g,kk,a,⟨rfl,⟨dx,hg⟩,k1,k4,hro⟩,q⟩:=h
 have hu:=hr.units0
 refine nox_ex ⟨_,(pss_one (ps_ret (pe_fnE U_how_many_fillings hr xf_no (pa_cons (pe_fldK K (pv 0)) (pa_cons (pe_fldK K (pv 0)) pa_nil))))),?_⟩
 walk_at "go"
 refine ⟨g,aC,dx,_,_,rfl,hg,T.cl_Grower,T.no_k,rfl,?_⟩
 walk_at "go"
 refine ⟨g,aC,dx,_,_,rfl,hg,T.cl_Grower,T.no_signs,rfl,?_⟩
 walk_at "go"
 exact .inl (many_use k1 k4 hro (fun H1 s1=>q H1 s1))
theorem sc_Grower_may_go_on:FnScope ["self"] ["self"] (defScope d_Grower_may_go_on):=⟨rfl,rfl,rfl,by decide +kernel,rfl,by decide +kernel,by decide +kernel⟩
theorem ok_Grower_may_go_on (F:Fun K "may_go_on" "Grower.may_go_on" d_Grower_may_go_on f fd) (T:Txt K mg aK cs aC) (U_may_go_on_begun:FnUE P w K mg base k "may_go_on_begun" ["k","row"] (spGoOn)):FnOk P w K mg base (CXE P w) (k + 1) f fd ["self"] (spGGoOn aC):=by
 refine F.okE sc_Grower_may_go_on (fun vs H Q E h=>?_) (fun cdv A outer s H vs Q E hr h=>?_)
 ·obtain ⟨g,k,a,⟨rfl,_⟩,_⟩:=h; rfl
 obtain ⟨g,kk,a,⟨rfl,⟨dx,hg⟩,k1,k4,hro⟩,q⟩:=h
 have hu:=hr.units0
 refine nox_ex ⟨_,(pss_one (ps_ret (pe_fnE U_may_go_on_begun hr xf_no (pa_cons (pe_fldK K (pv 0)) (pa_cons (pe_fldK K (pv 0)) pa_nil))))),?_⟩
 walk_at "go"
 refine ⟨g,aC,dx,_,_,rfl,hg,T.cl_Grower,T.no_k,rfl,?_⟩
 walk_at "go"
 refine ⟨g,aC,dx,_,_,rfl,hg,T.cl_Grower,T.no_signs,rfl,?_⟩
 walk_at "go"
 exact goOn_use k1 k4 hro (fun H1 s1=>q H1 s1)
theorem sc_Grower_depths:FnScope ["self"] ["self"] (defScope d_Grower_depths):=⟨rfl,rfl,rfl,by decide +kernel,rfl,by decide +kernel,by decide +kernel⟩
theorem ok_Grower_depths (F:Fun K "depths" "Grower.depths" d_Grower_depths f fd) (T:Txt K mg aK cs aC) (U_depths_begun:FnUE P w K mg base k "depths_begun" ["k","row"] (spDepths)):FnOk P w K mg base (CXE P w) (k + 1) f fd ["self"] (spGDepths aC):=by
 refine F.okE sc_Grower_depths (fun vs H Q E h=>?_) (fun cdv A outer s H vs Q E hr h=>?_)
 ·obtain ⟨g,k,a,⟨rfl,_⟩,_⟩:=h; rfl
 obtain ⟨g,kk,a,⟨rfl,⟨dx,hg⟩,k1,k4,hro⟩,q⟩:=h
 have hu:=hr.units0
 refine nox_ex ⟨_,(pss_one (ps_ret (pe_fnE U_depths_begun hr xf_no (pa_cons (pe_fldK K (pv 0)) (pa_cons (pe_fldK K (pv 0)) pa_nil))))),?_⟩
 walk_at "go"
 refine ⟨g,aC,dx,_,_,rfl,hg,T.cl_Grower,T.no_k,rfl,?_⟩
 walk_at "go"
 refine ⟨g,aC,dx,_,_,rfl,hg,T.cl_Grower,T.no_signs,rfl,?_⟩
 walk_at "go"
 exact depths_use k1 k4 hro q
theorem sc_Grower_fewest_more:FnScope ["self"] ["self"] (defScope d_Grower_fewest_more):=⟨rfl,rfl,rfl,by decide +kernel,rfl,by decide +kernel,by decide +kernel⟩
theorem ok_Grower_fewest_more (F:Fun K "fewest_more" "Grower.fewest_more" d_Grower_fewest_more f fd) (T:Txt K mg aK cs aC) (U_fewest_more_begun:FnUE P w K mg base k "fewest_more_begun" ["k","row"] (spFewest)):FnOk P w K mg base (CXE P w) (k + 1) f fd ["self"] (spGFewest aC):=by
 refine F.okE sc_Grower_fewest_more (fun vs H Q E h=>?_) (fun cdv A outer s H vs Q E hr h=>?_)
 ·obtain ⟨g,k,a,⟨rfl,_⟩,_⟩:=h; rfl
 obtain ⟨g,kk,a,⟨rfl,⟨dx,hg⟩,k1,k4,hro⟩,q⟩:=h
 have hu:=hr.units0
 refine nox_ex ⟨_,(pss_one (ps_ret (pe_fnE U_fewest_more_begun hr xf_no (pa_cons (pe_fldK K (pv 0)) (pa_cons (pe_fldK K (pv 0)) pa_nil))))),?_⟩
 walk_at "go"
 refine ⟨g,aC,dx,_,_,rfl,hg,T.cl_Grower,T.no_k,rfl,?_⟩
 walk_at "go"
 refine ⟨g,aC,dx,_,_,rfl,hg,T.cl_Grower,T.no_signs,rfl,?_⟩
 walk_at "go"
 exact fewest_use k1 k4 hro q
theorem sc_law_pool:FnScope ["script","k","cell"] ["script","k"] (defScope d_law_pool):=⟨rfl,rfl,rfl,by decide +kernel,rfl,by decide +kernel,by decide +kernel⟩
theorem ok_law_pool (F:Fun K "_law_pool" "_law_pool" d_law_pool f fd) (T:Txt K mg aK cs aC)  : FnOk P w K mg base CX0 (k + 1) f fd ["script","k"] (spPoolD K):=by
 refine F.ok sc_law_pool (fun vs H Q E h=>?_) (fun cdv A outer s H vs Q E hr h=>?_)
 ·obtain ⟨a,ns,k,rfl,_⟩:=h; rfl
 obtain ⟨a,ns,k,rfl,hS,h0,h1,q⟩:=h
 have hu:=hr.units0
 have big:∀ (cell:Int),CPow 10 18:=fun _=>⟨by decide,by decide,by decide⟩
 refine ⟨_,(pss_cons (ps_set (i:=2) sc_law_pool.nd rfl (Or.inl rfl) pe_int) (pss_cons (ps_if (pt_cmpR op_lt (pv 1) (pe_callB (call_lenA K) rfl T.n_len PySem.boot_len (pa_cons (pv 0) pa_nil)) (nomark _)) (pss_one (ps_set (i:=2) sc_law_pool.nd rfl (Or.inl rfl) (pe_ix (ix_A K) (pv 0) (pv 1) (fun _ _=>rfl)))) pss_nil) (pss_one (ps_ret (pe_lst (pa_cons (pv 2) (pa_cons (pe_callTy call_intA rfl T.n_int PyProof.Rows.boot_int (pa_cons (pe_cmpR op_ge (pv 2) (pe_op op_pow pe_int pe_int) (nomark _)) pa_nil)) (pa_cons (pe_op op_times pe_int (pv 1)) pa_nil)))))))),?_⟩
 walk_at "go"
 refine s_lenL (.inl hS) ?_
 walk_at "go"
 refine ifd (fun c=>?_) (fun c=>?_)
 ·rw [List.length_map] at c
  obtain ⟨v,hv⟩:=atI_ints (ns:=ns) h0 c
  walk_at "go"
  refine s_ixL hS hv ?_
  walk_at "go"
  refine ⟨small (show 3 <= 1000 by decide),fun p hp=>?_⟩
  exact q p _ hp (same_new hp _) Po.new
 ·walk_at "go"
  refine ⟨small (show 3 <= 1000 by decide),fun p hp=>?_⟩
  exact q p _ hp (same_new hp _) Po.new
theorem sc_law_draw:FnScope ["pool","many","found","x"] ["pool","many"] (defScope d_law_draw):=⟨rfl,rfl,rfl,by decide +kernel,rfl,by decide +kernel,by decide +kernel⟩
theorem ok_law_draw (F:Fun K "_law_draw" "_law_draw" d_law_draw f fd) (T:Txt K mg aK cs aC)  : FnOk P w K mg base CX0 (k + 1) f fd ["pool","many"] (spDraw):=by
 refine F.ok sc_law_draw (fun vs H Q E h=>?_) (fun cdv A outer s H vs Q E hr h=>?_)
 ·obtain ⟨p,m,rfl,_⟩:=h; rfl
 obtain ⟨p,m,rfl,⟨a,b,c,hp⟩,hm0,hm1,q⟩:=h
 have hu:=hr.units0
 have hS:SqL K H p [.int a,.int b,.int c]:=SqL.of hp
 refine ⟨_,(pss_cons (ps_if (pt_cmpR (op_eqA K hu) (pe_ix (ix_A K) (pv 0) pe_int (fun _ _=>rfl)) pe_int (nomark _)) (pss_cons (ps_set (i:=2) sc_law_draw.nd rfl (Or.inl rfl) (pe_op op_mod (pe_ix (ix_A K) (pv 0) pe_int (fun _ _=>rfl)) (pv 1))) (pss_cons (ps_asg (pe_op op_fdivB (pe_ix (ix_A K) (pv 0) pe_int (fun _ _=>rfl)) (pv 1)) (pg_sub (pv 0) pe_int set_list)) (pss_one (ps_ret (pv 2))))) pss_nil) (pss_cons (ps_asg (pe_op op_plus (pe_ix (ix_A K) (pv 0) pe_int (fun _ _=>rfl)) pe_int) (pg_sub (pv 0) pe_int set_list)) (pss_cons (ps_set (i:=3) sc_law_draw.nd rfl (Or.inl rfl) (pe_op op_mod (pe_op op_plus (pe_op op_mod (pe_ix (ix_A K) (pv 0) pe_int (fun _ _=>rfl)) pe_int) (pe_op op_times pe_int (pe_ix (ix_A K) (pv 0) pe_int (fun _ _=>rfl)))) pe_int)) (pss_cons (ps_set (i:=3) sc_law_draw.nd rfl (Or.inl rfl) (pe_op op_mod (pe_op op_times (pv 3) (pv 3)) pe_int)) (pss_cons (ps_set (i:=3) sc_law_draw.nd rfl (Or.inl rfl) (pe_op op_mod (pe_op op_times (pe_op op_plus (pv 3) pe_int) (pv 3)) pe_int)) (pss_one (ps_ret (pe_op op_mod (pe_op op_fdiv (pv 3) pe_int) (pv 1))))))))),?_⟩
 walk_at "go"
 refine ifd (fun hb=>?_) (fun hb=>?_)
 ·walk_at "go"
  refine s_setL hp (j:=0) rfl ?_
  walk_at "go"
  exact q _ _ (Int.emod_nonneg _ (by omega)) (Int.emod_lt_of_pos _ hm0) Po.new SameBut1.upd
 ·walk_at "go"
  refine s_setL hp (j:=2) rfl ?_
  have hS2:SqL K (upd H p (.lst [.int a,.int b,.int (c + 1)])) p [.int a,.int b,.int (c + 1)]:=SqL.of upd_same
  walk_at "go"
  exact q _ _ (Int.emod_nonneg _ (by omega)) (Int.emod_lt_of_pos _ hm0) Po.new SameBut1.upd
theorem sc_law_stacks:FnScope ["k","row","found","sign","further","waiting","kind","more"] ["k","row"] (defScope d_law_stacks):=⟨rfl,rfl,rfl,by decide +kernel,rfl,by decide +kernel,by decide +kernel⟩
theorem ok_law_stacks (F:Fun K "_law_stacks" "_law_stacks" d_law_stacks f fd) (T:Txt K mg aK cs aC)  : FnOk P w K mg base CX0 (k + 1) f fd ["k","row"] (spStacks42):=by
 refine F.ok sc_law_stacks (fun vs H Q E h=>?_) (fun cdv A outer s H vs Q E hr h=>?_)
 ·obtain ⟨k,a,rfl,_⟩:=h; rfl
 obtain ⟨kk,a,rfl,k1,k4,hro,hcn2,q⟩:=h
 have hcn:a.count 63 <= 4:=by omega
 have hu:=hr.units0
 have hu2:=units1 hr
 have hl:=isRow_len hro
 have hin:=isRow_mem hro
 have hk4:kk.toNat <= 4:=by omega
 refine ⟨_,(pss_cons (ps_set (i:=2) sc_law_stacks.nd rfl (Or.inl rfl) (pe_lst (pa_cons (pe_disp (pps_cons (pe_tx (l:=[]) (by decide +kernel)) pe_int pps_nil) rfl rfl (by intro h; cases h) (by decide)) pa_nil))) (pss_cons (ps_for PassesOwn.never rfl (pi_str (pv 1)) (pg_name (i:=3) sc_law_stacks.nd rfl (Or.inl rfl)) (pss_cons (ps_set (i:=4) sc_law_stacks.nd rfl (Or.inl rfl) pe_dnewK) (pss_cons (ps_for PassesOwn.never rfl (pi_dict (pe_ix (ix_A K) (pv 2) (pe_un un_neg pe_int) (fun _ _=>rfl))) (pg_name (i:=5) sc_law_stacks.nd rfl (Or.inl rfl)) (pss_cons (ps_for PassesOwn.never rfl (pi_range1 rfl T.n_range (pa_cons (pv 0) pa_nil)) (pg_name (i:=6) sc_law_stacks.nd rfl (Or.inl rfl)) (pss_one (ps_if (PW.pt (pw_or (pt_cmpR (op_eqA K hu) (pv 3) (pe_tx (l:=[63]) (by decide +kernel)) (nomark _)) (pw_or1 (pt_cmpR (op_eqA K hu) (pv 3) (pe_ix (ix_A K) (pe_tx (l:=[40,91,123,60]) (by decide +kernel)) (pv 6) (fun _ _=>rfl)) (nomark _))))) (pss_cons (ps_set (i:=7) sc_law_stacks.nd rfl (Or.inl rfl) (pe_op op_plus (pv 5) (pe_ix (ix_A K) (pe_tx (l:=[41,93,125,62]) (by decide +kernel)) (pv 6) (fun _ _=>rfl)))) (pss_one (ps_dput hu2 (pv 4) (pv 7) (pe_op op_plus (pe_dget2 hu2 (pv 4) (pv 7) pe_int ⟨rfl,rfl,rfl,rfl⟩) (pe_dget hu2 (pe_ix (ix_A K) (pv 2) (pe_un un_neg pe_int) (fun _ _=>rfl)) (pv 5) (fun _ _=>rfl))) rfl))) pss_nil))) (pss_one (ps_if (PW.pt (pw_and (pt_cmpR (op_neA K hu) (pv 5) (pe_tx (l:=[]) (by decide +kernel)) (nomark _)) (pw_and1 (pt_cmpR (op_inA K) (pv 3) (pe_tup (pa_cons (pe_tx (l:=[63]) (by decide +kernel)) (pa_cons (pe_ix (ix_A K) (pv 5) (pe_un un_neg pe_int) (fun _ _=>rfl)) pa_nil))) (by with_unfolding_all rfl))))) (pss_one (ps_dput hu2 (pv 4) (pe_slice (sl_A K) (pv 5) po_none (po_some (pe_un un_neg pe_int))) (pe_op op_plus (pe_dget2 hu2 (pv 4) (pe_slice (sl_A K) (pv 5) po_none (po_some (pe_un un_neg pe_int))) pe_int ⟨rfl,rfl,rfl,rfl⟩) (pe_dget hu2 (pe_ix (ix_A K) (pv 2) (pe_un un_neg pe_int) (fun _ _=>rfl)) (pv 5) (fun _ _=>rfl))) rfl)) pss_nil)))) (pss_one (ps_expr (pe_bmK K PySem.F.plainAttrs_list PySem.F.slot_list_append PySem.F.type_list_append mt_append (pv 2) (pa_cons (pv 4) pa_nil))))))) (pss_one (ps_ret (pv 2))))),?_⟩
 walk_at "go"
 intro d0 hd0
 refine ⟨upd_same,[(.inr ⟨#[]⟩,.int 1)],rfl,by decide,?_⟩
 refine ⟨small (show 1 <= 1000 by decide),fun l0 hl0=>?_⟩
 have nl:l0 ≠ d0:=fun z=>by rw [z,upd_same] at hl0; cases hl0
 have hl0':H l0 = none:=by rw [upd_ne nl,upd_ne nl] at hl0; exact hl0
 have s0:Same H (upd (upd (upd H d0 (.dK [])) d0 (.dK (mergeK [] [(.inr ⟨#[]⟩,.int 1)]))) l0 (.lst [.ref d0])):=fun b o z=>by
  rw [upd_ne (ne_of_none z hl0'),upd_ne (ne_of_none z hd0),upd_ne (ne_of_none z hd0)]; exact z
 have gd0:(upd (upd (upd H d0 (.dK [])) d0 (.dK (mergeK [] [(.inr ⟨#[]⟩,.int 1)]))) l0 (.lst [.ref d0])) d0 = some (.dK (enc [([],1)])):=by
  rw [upd_ne nl.symm,upd_same]; rfl
 have gl0:(upd (upd (upd H d0 (.dK [])) d0 (.dK (mergeK [] [(.inr ⟨#[]⟩,.int 1)]))) l0 (.lst [.ref d0])) l0 = some (.lst [.ref d0]):=upd_same
 generalize upd (upd (upd H d0 _) d0 _) l0 _ = G0 at *
 walk_at "go"
 refine for_str (fun j σ H'=>∃ (d:Addr) (ds:List V) (es:Es) (o3 o4 o5 o6 o7:Option V),σ = [some (.int kk),some (tx a),some (.ref l0),o3,o4,o5,o6,o7]/\Same H H'/\H' l0 = some (.lst (ds ++ [.ref d]))/\ds.length = j/\H' d = some (.dK (enc es))/\H d = none/\Wf es/\Good kk.toNat j es/\(∀ r,sf (ws kk.toNat r) es = ws kk.toNat (a.take j ++ r) [])/\sf (fun _=>1) es <= 5 ^ (a.take j).count 63)
  ⟨d0,[],[([],1)],_,_,_,_,_,rfl,s0,gl0,rfl,gd0,hd0,es0_wf,es0_good _,fun r=>by simp [sf],by simp [sf]⟩ ?_ ?_
 ·rintro j c σ H1 hc ⟨d,ds,es,o3,o4,o5,o6,o7,rfl,s1,hL,hds,hd,hdn,wf,gd,hsum,hb⟩
  have hcs:=hin c (List.mem_of_getElem? hc)
  have hj:j < a.length:=(List.getElem?_eq_some_iff.mp hc).1
  have hlen:es.length <= 625:=by
   have h1:=len_sf wf
   have h2:=pow_625 (cnt_take (j:=j) hcn)
   omega
  walk_at "go"
  intro F hF
  walk_at "go"
  have nLF:l0 ≠ F:=ne_of_none hL hF
  have ndF:d ≠ F:=ne_of_none hd hF
  have nLd:l0 ≠ d:=ne_of hL hd (fun z=>by cases z)
  refine s_ixL (SqL.of (by rw [upd_ne nLF]; exact hL)) (last_at ds _) ?_
  refine ⟨d,enc es,rfl,by rw [upd_ne ndF]; exact hd,fun o=>?_⟩
  have gF:(upd (upd H1 F (.dK [])) d (.frz o (.dK (enc es)))) F = some (.dK []):=by rw [upd_ne ndF.symm,upd_same]
  have gL:(upd (upd H1 F (.dK [])) d (.frz o (.dK (enc es)))) l0 = some (.lst (ds ++ [.ref d])):=by rw [upd_ne nLd,upd_ne nLF]; exact hL
  have gD:(upd (upd H1 F (.dK [])) d (.frz o (.dK (enc es)))) d = some (.frz o (.dK (enc es))):=upd_same
  have hFn:H F = none:=s1.free hF
  have sG:Same H (upd (upd H1 F (.dK [])) d (.frz o (.dK (enc es)))):=fun b ob z=>by
   rw [upd_ne (ne_of_none z hdn),upd_ne (ne_of_none z hFn)]; exact s1 b ob z
  generalize upd (upd H1 F _) d _ = G at *
  refine for_dict (fun i σ H'=>∃ (fs:Es) (o5 o6 o7:Option V),σ = [some (.int kk),some (tx a),some (.ref l0),some (tx [c]),some (.ref F),o5,o6,o7]/\Fl G H' F kk.toNat (j + 1) c fs (5 * i)/\∀ f,sf f fs = sf (stp kk.toNat c f) (es.take i))
   ⟨[],_,_,_,rfl,⟨SameBut1.refl _ _,gF,Wf.nil,(fun _ z=>nomatch z),Nat.zero_le _⟩,fun f=>rfl⟩ (fun i σ H' _ ⟨_,_,_,_,_,fl,_⟩=>fl.sm _ _ gD ndF) ?_ ?_
  ·rintro i key v σ H2 hk ⟨fs,o5,o6,o7,rfl,fl,hsf⟩
   obtain ⟨⟨st,cc⟩,he,hkv⟩:∃ e,es[i]? = some e/\(kst e.1,V.int e.2) = (key,v):=by
    unfold enc at hk
    rw [List.getElem?_map] at hk
    exact Option.map_eq_some_iff.mp hk
   obtain ⟨rfl,rfl⟩:=Prod.mk.inj hkv
   have hm:=List.mem_of_getElem? he
   obtain ⟨hst,hsl⟩:=gd _ hm
   have hcc:=wf.pos _ hm
   have hval:=val_at wf he
   have hi:i < es.length:=(List.getElem?_eq_some_iff.mp he).1
   have hst4:Ok4 st:=fun p hp=>Nat.lt_of_lt_of_le (hst p hp) hk4
   have hstl:=cst_len st
   have hst:∀ p ∈ st,p < kk.toNat:=hst
   have hsl:st.length <= j:=hsl
   have hcc:1 <= cc:=hcc
   have hc40:(cst st).length <= 40:=by rw [hstl]; omega
   rw [kst_tx]
   walk_at "go"
   refine ⟨_,rfl,by omega,by omega,?_⟩
   refine for_rng (fun p σ H'=>∃ (fs:Es) (o6 o7:Option V),σ = [some (.int kk),some (tx a),some (.ref l0),some (tx [c]),some (.ref F),some (tx (cst st)),o6,o7]/\Fl G H' F kk.toNat (j + 1) c fs (5 * i + p)/\∀ f,sf f fs = sf (stp kk.toNat c f) (es.take i) + cc * sm p (fun q=>pw kk.toNat c (2 * q) * f (q :: st)))
    ⟨fs,_,_,rfl,fl,fun f=>by rw [hsf f]; simp [sm]⟩ ?_ ?_
   ·rintro p σ H3 hp ⟨gs,o6,o7,rfl,fl3,hs3⟩
    obtain ⟨a1,a2⟩:=op_cl_at (p:=p) (by omega)
    have hjl:(p :: st).length <= j + 1:=by rw [List.length_cons]; omega
    have hps:∀ x ∈ p :: st,x < kk.toNat:=fun x hx=>by
     rcases List.mem_cons.mp hx with z | z
     ·rw [z]; exact hp
     ·exact hst x z
    have hps4:Ok4 (p :: st):=fun x hx=>Nat.lt_of_lt_of_le (hps x hx) hk4
    have ekey:tx (cst st ++ [BrS.clk p]) = kV (kst (p :: st)):=by rw [<- cst_push]; rfl
    have hpo:=pw_open hk4 hp hcs
    walk_at "go"
    refine ifd (fun h1=>ifp rfl ?body1) (fun h1=>?rest)
    case' rest =>
     walk_at "go"
     refine s_ixT (small (by decide)) a1 ?_
     walk_at "go"
     refine ifd (fun h2=>?body2) (fun h2=>?els)
    case' body1 =>
     have hcd:c = 63\/c = opn.getD p 0:=.inl (by simpa using h1)
     clear h1
    case' body2 =>
     have hcd:c = 63\/c = opn.getD p 0:=.inr (by simpa using h2)
     clear h1 h2
    case els =>
     have hcd:¬ (c = 63\/c = opn.getD p 0):=by
      rintro (z | z)
      ·exact h1 (by rw [z])
      ·exact h2 (by rw [z])
     rw [if_neg hcd] at hpo
     walk_at "go"
     exact ⟨gs,_,_,rfl,fl3.mono (by omega),fun f=>by rw [hs3 f,sm_next,hpo]; exact kind_no⟩
    case body1 | body2 =>
     rw [if_pos hcd] at hpo
     walk_at "go"
     refine s_ixT (small (by decide)) a2 ?_
     have ha3:(cst st).length + [BrS.clk p].length <= 1000:=by rw [List.length_singleton]; omega
     refine s_addT (small ha3) ?_
     rw [ekey]
     walk_at "go"
     refine ⟨F,rfl,.inl ⟨_,.inl fl3.at'⟩,?_⟩
     walk_at "go"
     refine ⟨_,.inl ⟨enc gs,kst (p :: st),.inl fl3.at',rfl,rfl⟩,?_⟩
     rw [val_gt hps4 fl3.wf]
     walk_at "go"
     refine s_ixL (SqL.of (fl3.sm _ _ gL nLF)) (last_at ds _) ?_
     walk_at "go"
     refine ⟨d,.int cc,rfl,.inl ⟨enc es,kst st,.inr ⟨o,fl3.sm _ _ gD ndF⟩,rfl,hval.symm⟩,?_⟩
     walk_at "go"
     refine ⟨F,_,rfl,.inl ⟨enc gs,kst (p :: st),fl3.at',rfl,by rw [enc_len,PySem.sizeLine_eq]; have:=fl3.ln; omega,rfl⟩,?_⟩
     exact ⟨BrS.put gs (p :: st) cc,_,_,rfl,(fl3.put hk4 hps hjl hcc).mono (by omega),fun f=>by rw [sf_put,hs3 f,sm_next,hpo]; exact kind_yes⟩
   ·rintro σ H3 ⟨gs,o6,o7,rfl,fl3,hs3⟩
    walk_at "go"
    obtain hst0 | ⟨p,r,hst0⟩:st = []\/∃ p r,st = p :: r:=by
     cases st with
     | nil=>exact .inl rfl
     | cons p r=>exact .inr ⟨p,r,rfl⟩
    ·subst hst0
     refine ifq (by simp [cst]) ?_
     refine ifq rfl ?_
     walk_at "go"
     exact ⟨gs,_,_,_,rfl,fl3.mono (by omega),fun f=>by rw [hs3 f,take_sf _ he]; simp [BrS.stp]⟩
    ·subst hst0
     have hpk:=hst p (by simp)
     have hpc:=pw_close (kk:=kk) hk4 hpk hcs
     have hrs:∀ x ∈ r,x < kk.toNat:=fun x hx=>hst x (List.mem_cons_of_mem _ hx)
     have hrs4:Ok4 r:=fun x hx=>Nat.lt_of_lt_of_le (hrs x hx) hk4
     have hrl:r.length <= j + 1:=by rw [List.length_cons] at hsl; omega
     have er:cutL (cst (p :: r)) none (some (-1)) = cst r:=by rw [cst_push,cut_init]
     refine ifp (by rw [cst_push]; simp) ?_
     walk_at "go"
     refine s_ixT (small (by omega)) (show atI (cst (p :: r)) (-1) = some (BrS.clk p) by rw [cst_push]; exact atI_snoc _ _) ?_
     walk_at "go"
     refine ⟨small (show 2 <= 1000 by decide),fun T hT=>?_⟩
     have fl4:=fl3.same (same_new hT (.tup [tx [63],tx [BrS.clk p]]))
     have hSq:SqT K (upd H3 T (.tup [tx [63],tx [BrS.clk p]])) T [tx [63],tx [BrS.clk p]]:=SqT.of upd_same
     generalize upd H3 T _ = H4 at *
     refine s_inS (.inr hSq) rfl rfl ?_
     rw [in_2]
     walk_at "go"
     refine ifd (fun hq=>?_) (fun hq=>?_)
     ·rw [if_pos hq] at hpc
      walk_at "go"
      refine ⟨F,rfl,.inl ⟨_,.inl fl4.at'⟩,?_⟩
      walk_at "go"
      rw [er]
      walk_at "go"
      refine ⟨_,.inl ⟨enc gs,kst r,.inl fl4.at',rfl,rfl⟩,?_⟩
      rw [val_gt hrs4 fl4.wf]
      walk_at "go"
      refine s_ixL (SqL.of (fl4.sm _ _ gL nLF)) (last_at ds _) ?_
      walk_at "go"
      refine ⟨d,.int cc,rfl,.inl ⟨enc es,kst (p :: r),.inr ⟨o,fl4.sm _ _ gD ndF⟩,rfl,hval.symm⟩,?_⟩
      walk_at "go"
      rw [er]
      refine ⟨F,_,rfl,.inl ⟨enc gs,kst r,fl4.at',rfl,by rw [enc_len,PySem.sizeLine_eq]; have:=fl4.ln; omega,rfl⟩,?_⟩
      exact ⟨BrS.put gs r cc,_,_,_,rfl,(fl4.put hk4 hrs hrl hcc).mono (by omega),fun f=>by rw [sf_put,hs3 f,take_sf _ he]; simp only [BrS.stp,hpc,Int.one_mul,Int.mul_add]; omega⟩
     ·rw [if_neg hq] at hpc
      walk_at "go"
      exact ⟨gs,_,_,_,rfl,fl4.mono (by omega),fun f=>by rw [hs3 f,take_sf _ he]; simp only [BrS.stp,hpc,Int.zero_mul,Int.add_zero]⟩
  ·rintro σ H2 ⟨fs,o5,o6,o7,rfl,fl,hsf⟩
   rw [enc_len,List.take_length] at hsf
   walk_at "go"
   refine ⟨.inl ⟨rfl,_,SqL.of (fl.sm _ _ gL nLF)⟩,?_⟩
   walk_at "go"
   refine ⟨l0,_,_,rfl,rfl,fl.sm _ _ gL nLF,by rw [List.length_append,List.length_singleton,hds,PySem.sizeLine_eq]; omega,?_⟩
   have ea:a.take (j + 1) = a.take j ++ [c]:=by rw [List.take_add_one,hc]; rfl
   refine ⟨F,ds ++ [.ref d],fs,_,_,_,_,_,rfl,fun b ob z=>?_,upd_same,by simp [hds],by rw [upd_ne nLF.symm]; exact fl.at',hFn,fl.wf,fl.gd,fun r=>?_,stack_bound hk4 hcs wf gd hc hb (hsf _)⟩
   ·rw [upd_ne (ne_of_none z hl0')]; exact fl.sm b ob (sG b ob z) (ne_of_none z hFn)
   ·rw [hsf,ea,List.append_assoc,show BrS.stp kk.toNat c (ws kk.toNat r) = ws kk.toNat (c :: r) from funext fun st=>(ws_stp _ _ _ _).symm,hsum]; rfl
 ·rintro σ H1 ⟨d,ds,es,o3,o4,o5,o6,o7,rfl,s1,hL,hds,hd,hdn,wf,gd,hsum,hb⟩
  walk_at "go"
  rw [List.take_length] at hsum hb
  exact q l0 d ds es H1 s1 hL hd hdn wf gd hsum (by have h1:=len_sf wf; have h2:=pow_25 hcn2; omega)
theorem sc_law_caught:FnScope ["grower","word","sign","found","refused"] ["grower","word","sign"] (defScope d_law_caught):=⟨rfl,rfl,rfl,by decide +kernel,rfl,by decide +kernel,by decide +kernel⟩
theorem ok_law_caught (F : Fun K "_law_caught" "_law_caught" d_law_caught f fd) (T : Txt K mg aK cs aC) (U_Grower_put : MeUE P w K mg base k aC "put" ["self", "sign"] (spGPutE K cs aC)) (U_Grower_back : MeUE P w K mg base k aC "back" ["self"] (spGBackE cs aC)) : FnOk P w K mg base CX0 (k + 1) f fd ["grower", "word", "sign"] (spCaught42 K aC) := by
  refine F.ok sc_law_caught (fun vs H Q E h => ?_) (fun cdv A outer s H vs Q E hr h => ?_)
  · obtain ⟨g, k, a, w, x, due, b, rfl, _⟩ := h; rfl
  obtain ⟨g, kk, a, w, x, due, b, rfl, k1, k4, hG, hl, hD, q⟩ := h
  have hu := hr.units0
  obtain ⟨dx, hg⟩ := id hG
  have tailx : ∀ (C : Addr) (ob : Obj) (y : Addr) (G : Hp) (res : List Nat), Same H G -> H y = none -> (∀ T H', H T = none -> Same H H' -> H' T = some (.tup [.non, tx res]) -> Q (.ref T) H') ->
      (tAsg (tC (tx res)) (gName 4)) { nx := tRet (tTup (tCons (tVar 3) (tCons (tVar 4) tNil))) { nx := fun _ H' => Q .non H', rt := Q }, rt := Q }
        [some (.ref g), some (tx w), some x, some .non, some .non] (upd G y (excO ob y C)) := by
    intro C ob y G res sg hy q
    have s1 : Same H (upd G y (excO ob y C)) := same_exc sg hy
    walk_at "go"
    exact ⟨small (show 2 <= 1000 by decide), fun T hT => q T _ (s1.free hT) (s1.trans (same_new hT _)) upd_same⟩
  have told : ∀ {G : Hp} {v : V}, SameBut1 g H G -> G g ≠ none -> (∀ T H', H T = none -> Same G H' -> H' T = some (.tup [.non, .non]) -> Q (.ref T) H') -> v = .non -> tRet (tTup (tCons (tVar 3) (tCons (tVar 4) tNil))) { nx := fun _ H' => Q .non H', rt := Q } [some (.ref g), some (tx w), some x, some v, some .non] G := fun {G v} sG hgG q e => by
    subst e
    walk_at "go"
    refine ⟨small (show 2 <= 1000 by decide), fun T hT => q T _ ?_ (same_new hT _) upd_same⟩
    have nT : T ≠ g := fun z => hgG (z ▸ hT)
    cases e : H T with
    | none => rfl
    | some o => rw [sG T o e nT] at hT; cases hT
  refine ⟨_, (pss_cons (ps_set (i := 3) sc_law_caught.nd rfl (Or.inl rfl) pe_non)  (pss_cons (ps_set (i := 4) sc_law_caught.nd rfl (Or.inl rfl) pe_non)  (pss_cons (ps_tryN ⟨rfl, rfl, rfl⟩ (fun pn xe R hx => (pss_one (ps_if (pt_cmpR (op_eqA K hu) (pv 1) (pe_tx (l := [112, 117, 116]) (by decide +kernel)) (nomark _))   (pss_one (ps_set (i := 3) sc_law_caught.nd rfl (Or.inl rfl) (pe_mthE T.cl_Grower U_Grower_put hr hx (pv 0) (pa_cons (pv 2) pa_nil))))   (pss_one (ps_set (i := 3) sc_law_caught.nd rfl (Or.inl rfl) (pe_mth0E T.cl_Grower U_Grower_back hr hx (pv 0))))))) (hd_cons T.e_NoLine T.c_NoLine (fun ev => (pss_one (ps_set (i := 4) sc_law_caught.nd rfl (Or.inl rfl) (pe_tx (l := [78, 111, 76, 105, 110, 101]) (by decide +kernel))))) (hd_cons T.e_TooMany T.c_TooMany (fun ev => (pss_one (ps_set (i := 4) sc_law_caught.nd rfl (Or.inl rfl) (pe_tx (l := [84, 111, 111, 77, 97, 110, 121]) (by decide +kernel))))) (hd_cons T.e_NoNumber T.c_NoNumber (fun ev => (pss_one (ps_set (i := 4) sc_law_caught.nd rfl (Or.inl rfl) (pe_tx (l := [78, 111, 78, 117, 109, 98, 101, 114]) (by decide +kernel))))) (hd_cons T.e_RowError T.c_RowError (fun ev => (pss_one (ps_set (i := 4) sc_law_caught.nd rfl (Or.inl rfl) (pe_tx (l := [111, 100, 100]) (by decide +kernel))))) HDs.nil)))))  (pss_one (ps_ret (pe_tup (pa_cons (pv 3) (pa_cons (pv 4) pa_nil)))))))), ?_⟩
  walk_at "go"
  cases hD with
  | no x hS =>
    refine ifp (by decide) ?_
    walk_at "go"
    refine ⟨g, dx, _, rfl, hg, rfl, ?_⟩
    walk_at "go"
    exact .inr ⟨g, kk, _, _, rfl, k1, k4, hG, hl, .inl ⟨hS, ref_of fun e H' s' n => .inl ⟨T.mm_NoLine, fun ob => tailx _ ob e H' nmL s' n fun T' H2 a1 a2 a3 => q T' H2 a1 (SameBut1.of a2) (hG.same a2) a3⟩⟩⟩
  | full c hc h40 =>
    refine ifp (by decide) ?_
    walk_at "go"
    refine ⟨g, dx, _, rfl, hg, rfl, ?_⟩
    walk_at "go"
    exact .inr ⟨g, kk, _, _, rfl, k1, k4, hG, hl, .inr ⟨c, rfl, hc, h40, ref_of fun e H' s' n => .inr ⟨T.mo_TooMany_NoLine, .inl ⟨T.mm_TooMany, fun ob => tailx _ ob e H' nmM s' n fun T' H2 a1 a2 a3 => q T' H2 a1 (SameBut1.of a2) (hG.same a2) a3⟩⟩⟩⟩
  | put c hc h40 =>
    refine ifp (by decide) ?_
    walk_at "go"
    refine ⟨g, dx, _, rfl, hg, rfl, ?_⟩
    walk_at "go"
    refine .inl ⟨g, kk, _, c, rfl, k1, k4, hG, h40, hc, fun H2 s2 hG2 => ?_⟩
    obtain ⟨dx2, e2⟩ := id hG2
    exact told s2 (by rw [e2]; simp) (fun T' H3 a1 a2 a3 => q T' H3 a1 (fun b o z n => a2 _ _ (s2 b o z n)) (hG2.same a2) a3) rfl
  | none x h0 =>
    subst h0
    refine ifq (by decide) ?_
    walk_at "go"
    refine ⟨g, dx, _, rfl, hg, rfl, ?_⟩
    walk_at "go"
    exact .inr ⟨g, kk, rfl, hG, ref_of fun e H' s' n => .inr ⟨T.mo_NoNumber_NoLine, .inr ⟨T.mo_NoNumber_TooMany, .inl ⟨T.mm_NoNumber, fun ob => tailx _ ob e H' nmN s' n fun T' H2 a1 a2 a3 => q T' H2 a1 (SameBut1.of a2) (hG.same a2) a3⟩⟩⟩⟩
  | back x hne =>
    refine ifq (by decide) ?_
    walk_at "go"
    refine ⟨g, dx, _, rfl, hg, rfl, ?_⟩
    walk_at "go"
    refine .inl ⟨g, kk, _, rfl, hG, hne, hl, fun H2 s2 hG2 => ?_⟩
    obtain ⟨dx2, e2⟩ := id hG2
    exact told s2 (by rw [e2]; simp) (fun T' H3 a1 a2 a3 => q T' H3 a1 (fun b o z n => a2 _ _ (s2 b o z n)) (hG2.same a2) a3) rfl
theorem sc_law_no_sign:FnScope ["pool","k","odd","signs","sign","several","some"] ["pool","k"] (defScope d_law_no_sign):=⟨rfl,rfl,rfl,by decide +kernel,rfl,by decide +kernel,by decide +kernel⟩
theorem ok_law_no_sign (F:Fun K "_law_no_sign" "_law_no_sign" d_law_no_sign f fd) (T:Txt K mg aK cs aC) (U_law_draw:FnU P w K mg base k "_law_draw" ["pool","many"] (spDraw)):FnOk P w K mg base CX0 (k + 1) f fd ["pool","k"] (spNoSign42 K):=by
 refine F.ok sc_law_no_sign (fun vs H Q E h=>?_) (fun cdv A outer s H vs Q E hr h=>?_)
 ·obtain ⟨p,k,rfl,_⟩:=h; rfl
 obtain ⟨p,kk,rfl,hD,k1,k4,q⟩:=h
 have hu:=hr.units0
 apply ex_consE
 ·exact rfl
 ·exact (ps_set (i:=2) sc_law_no_sign.nd rfl (Or.inl rfl) (pe_tx (l:=oddG) (by decide +kernel)))
 apply ex_consE
 ·exact rfl
 ·exact (ps_set (i:=2) sc_law_no_sign.nd rfl (Or.inl rfl) (pe_op op_plus (pv 2) (pe_op op_times (pe_op op_plus (pe_slice (sl_A K) (pe_tx (l:=[40,91,123,60]) (by decide +kernel)) (po_some (pv 1)) po_none) (pe_slice (sl_A K) (pe_tx (l:=[41,93,125,62]) (by decide +kernel)) (po_some (pv 1)) po_none)) pe_int)))
 apply ex_consE
 ·exact rfl
 ·exact (ps_set (i:=3) sc_law_no_sign.nd rfl (Or.inr rfl) (pe_op op_plus (pe_op op_plus (pe_slice (sl_A K) (pe_tx (l:=[40,91,123,60]) (by decide +kernel)) po_none (po_some (pv 1))) (pe_slice (sl_A K) (pe_tx (l:=[41,93,125,62]) (by decide +kernel)) po_none (po_some (pv 1)))) (pe_tx (l:=[63]) (by decide +kernel))))
 apply ex_consE
 ·exact rfl
 ·exact (ps_set (i:=4) sc_law_no_sign.nd rfl (Or.inl rfl) (pe_ix (ix_A K) (pv 3) (pe_fn U_law_draw hr (pa_cons (pv 0) (pa_cons (pe_callB (call_lenA K) rfl T.n_len PySem.boot_len (pa_cons (pv 3) pa_nil)) pa_nil))) (fun _ _=>rfl)))
 apply ex_consE
 ·exact rfl
 ·exact (ps_set (i:=5) sc_law_no_sign.nd rfl (Or.inl rfl) (pe_op op_plus (pv 4) (pe_bmK K PySem.F.plainAttrs_str PySem.F.slot_str_join PySem.F.type_str_join (mt_join K) (pe_tx (l:=[]) (by decide +kernel)) (pa_cons (pe_comp (own:=["turn"]) (sel:=[3,0]) (compOk_of (osc:=(defScope d_law_no_sign)) (N:=["pool","k","odd","signs","sign","several","some"]) (by decide +kernel)) rfl (pi_range1 rfl T.n_range (pa_cons (pe_op op_plus pe_int (pe_fn U_law_draw hr (pa_cons (pv 0) (pa_cons pe_int pa_nil)))) pa_nil)) (fun _ _ _ _ _=>(pg_name (i:=0) (show (["turn","signs","pool"]:List Str).Nodup from by decide +kernel) rfl (Or.inl rfl))) (gk_name (by decide)) (fun _ _ _ _ _=>pif_nil) (fun _ _ _ _ _=>(pe_ix (ix_A K) (pv 1) (pe_fn U_law_draw hr (pa_cons (pv 2) (pa_cons (pe_callB (call_lenA K) rfl T.n_len PySem.boot_len (pa_cons (pv 1) pa_nil)) pa_nil))) (fun _ _=>rfl)))) pa_nil))))
 apply ex_consE
 ·exact rfl
 ·exact (ps_set (i:=6) sc_law_no_sign.nd rfl (Or.inl rfl) (pe_op op_plus (pe_op op_plus (pe_op op_times (pe_lst (pa_cons (pe_ix (ix_A K) (pv 2) (pe_fn U_law_draw hr (pa_cons (pv 0) (pa_cons (pe_callB (call_lenA K) rfl T.n_len PySem.boot_len (pa_cons (pv 2) pa_nil)) pa_nil))) (fun _ _=>rfl)) pa_nil)) pe_int) (pe_op op_times (pe_lst (pa_cons (pv 5) pa_nil)) pe_int)) (pe_lst (pa_cons (pe_op op_plus (pv 4) (pe_tx (l:=[32]) (by decide +kernel))) (pa_cons (pe_op op_plus (pv 4) (pe_tx (l:=[10]) (by decide +kernel))) (pa_cons (pe_op op_plus (pe_tx (l:=[32]) (by decide +kernel)) (pv 4)) (pa_cons (pe_op op_plus (pe_tx (l:=[10]) (by decide +kernel)) (pv 4)) pa_nil)))))))
 apply ex_consB
 ·exact rfl
 ·exact (ps_setPlB (i:=6) (j:=6) rfl sc_law_no_sign.nd rfl (Or.inl rfl) (Or.inl rfl) (PEb.mk (pv 6)) (Pl.con (pe_tx (l:=[]) (by decide +kernel)) (Pl.con (pe_tx (l:=[40,41]) (by decide +kernel)) (Pl.con (pe_tx (l:=[63,63]) (by decide +kernel)) (Pl.con pe_non (Pl.con pe_int (Pl.con pe_bl (Pl.lst (pe_lst (pa_cons (pe_tx (l:=[40]) (by decide +kernel)) pa_nil)) (Pl.tup (pe_tup (pa_cons (pe_tx (l:=[63]) (by decide +kernel)) pa_nil)) (Pl.dct pe_dnewK (Pl.bin (pe_op op_times (pe_tx (l:=[40]) (by decide +kernel)) pe_int) (Pl.lst (pe_lst pa_nil) (Pl.tup (pe_tup pa_nil) (Pl.bin (pe_op op_pow pe_int pe_int) (Pl.lst (pe_lst (pa_cons (pv 4) pa_nil)) Pl.nil)))))))))))))))
 apply ex_oneE
 ·exact rfl
 ·exact (ps_ret (pe_ix (ix_A K) (pv 6) (pe_fn U_law_draw hr (pa_cons (pv 0) (pa_cons pe_int pa_nil))) (fun _ _=>rfl)))
 walk_at "go"
 have c1:=cut_le [40,91,123,60] (some kk) none
 have c2:=cut_le [41,93,125,62] (some kk) none
 have hfo:∀ c ∈ cutL [40,91,123,60] (some kk) none ++ cutL [41,93,125,62] (some kk) none,c < 16 ^ 8/\c ∉ sgn kk:=by
  have hk:kk = 1\/kk = 2\/kk = 3\/kk = 4:=by omega
  rcases hk with rfl | rfl | rfl | rfl <;> decide +kernel
 have lo8:(cutL [40,91,123,60] (some kk) none ++ cutL [41,93,125,62] (some kk) none).length <= 8:=by
  rw [List.length_append]; simp at c1 c2; omega
 refine s_addT (small (by simp at c1 c2; omega)) ?_
 generalize cutL [40,91,123,60] (some kk) none ++ cutL [41,93,125,62] (some kk) none = fo at hfo lo8 ⊢
 walk_at "go"
 refine s_mulT (by decide) (by decide) (by omega) ?_
 have o87:oddG.length = 87:=by decide
 have lr:(List.replicate (20:Int).toNat fo).flatten.length = 20 * fo.length:=by rw [rep_len]; rfl
 have hrm:∀ c ∈ (List.replicate (20:Int).toNat fo).flatten,c ∈ fo:=fun c hc=>by
  obtain ⟨l,h1,h2⟩:=List.mem_flatten.mp hc
  rw [List.eq_of_mem_replicate h1] at h2
  exact h2
 generalize (List.replicate (20:Int).toNat fo).flatten = fo20 at lr hrm ⊢
 have hod:∀ c ∈ oddG ++ fo20,c < 16 ^ 8/\c ∉ sgn kk:=fun c hc=>(List.mem_append.mp hc).elim (fun z=>⟨(oddG_ok c z).1,sgn_4 k1 k4 (oddG_ok c z).2⟩) fun z=>hfo c (hrm c z)
 have lod:(oddG ++ fo20).length <= 400:=by rw [List.length_append,o87,lr]; omega
 have lod1:0 < (oddG ++ fo20).length:=by rw [List.length_append,o87]; omega
 refine s_addT (small (by rw [o87,lr]; omega)) ?_
 generalize oddG ++ fo20 = od at hod lod lod1 ⊢
 clear o87 lr hrm hfo lo8 c1 c2
 walk_at "go"
 rw [cut_to _ (by omega),cut_to _ (by omega)]
 have l1:((([40,91,123,60]:List Nat)).take kk.toNat).length <= 4:=by rw [List.length_take]; exact Nat.min_le_right _ _
 have l2:((([41,93,125,62]:List Nat)).take kk.toNat).length <= 4:=by rw [List.length_take]; exact Nat.min_le_right _ _
 first | refine s_addT (small (by omega)) ?_ | skip
 walk_at "go"
 have esg:List.take kk.toNat [40,91,123,60] ++ List.take kk.toNat [41,93,125,62] ++ [63] = sgn kk:=rfl
 have lsg:(sgn kk).length <= 9:=by rw [<- esg]; simp only [List.length_append,List.length_singleton]; omega
 have lsg1:0 < (sgn kk).length:=by rw [<- esg]; simp only [List.length_append,List.length_singleton]; omega
 rw [esg]
 have gsg:∀ c ∈ sgn kk,c ∈ sgn kk:=fun _ h=>h
 generalize hsg:sgn kk = sg at lsg lsg1 gsg ⊢
 first | refine s_lenT (small (by omega)) ?_ | skip
 walk_at "go"
 refine draw_use hD (by omega) (by omega) (fun r1 H1 r10 r11 d1 s1=>?_)
 obtain ⟨c,ec,hcm⟩:=at_mem (l:=sg) (i:=r1) r10 r11
 walk_at "go"
 refine s_ixT (small (by omega)) ec ?_
 walk_at "go"
 refine draw_use d1 (by decide) (by decide) (fun r2 H2 r20 r21 d2 s2=>?_)
 walk_at "go"
 refine ⟨_,rfl,by omega,by omega,?_⟩
 have u2:SameBut1 p H H2:=s1.trans s2
 obtain ⟨n,en⟩:∃ n:Nat,(1 + r2).toNat = n:=⟨_,rfl⟩
 rw [en]
 have hn1:1 <= n:=by omega
 have hn5:n <= 5:=by omega
 refine comp_rng (n:=n) (small (by omega)) (fun D j ys H'=>SameBut1 p H2 H'/\Po H' p/\∃ xs:List Nat,ys = (xs.map fun c=>[c]).map tx/\xs.length = j) (fun D hD=>⟨fun b o z _=>same_new hD _ _ _ z,d2.same (same_new hD _),[],rfl,rfl⟩) (fun D ys H3 hD hy ⟨s3,d3,xs,e,hxl⟩=>?_) ?_
 rotate_left
 ·rintro D j ys H3 hD3 hj hy hyl ⟨s3,d3,xs,rfl,hxl⟩
  have nD:D ≠ p:=d2.ne hD3
  walk_at "go"
  refine iteT ?_
  walk_at "go"
  first | refine s_lenT (small (by omega)) ?_ | skip
  walk_at "go"
  refine draw_use d3 (by omega) (by omega) (fun r4 H4 r40 r41 d4 s4=>?_)
  obtain ⟨c4,ec4,_⟩:=at_mem (l:=sg) (i:=r4) r40 r41
  walk_at "go"
  refine s_ixT (small (by omega)) ec4 ?_
  walk_at "go"
  refine comp_next hj (small (by omega)) (s4 _ _ hy nD) hyl ⟨fun b o z n=>?_,d4.keep SameBut1.upd nD.symm,xs ++ [c4],by rw [List.map_append,List.map_append]; rfl,by rw [List.length_append,hxl]; rfl⟩
  rw [upd_ne (ne_of_none z hD3)]
  exact s4 _ _ (s3 _ _ z n) n
 subst e
 walk_at "go"
 have efl:(xs.map fun c=>[c]).flatten = xs:=flat_one xs
 refine s_join (xss:=xs.map fun c=>[c]) (SqL.of hy) (by rw [List.length_map,efl]; omega) ?_
 rw [efl]
 have u3:SameBut1 p H H3:=u2.trans s3
 walk_at "go"
 refine draw_use d3 (by omega) (by omega) (fun r5 H5 r50 r51 d5 s5=>?_)
 obtain ⟨o,eo,hom⟩:=at_mem (l:=od) (i:=r5) r50 r51
 have ho:=(hod o hom).2
 have u5:SameBut1 p H H5:=u3.trans s5
 walk_at "go"
 refine s_ixT (small (by omega)) eo ?_
 walk_at "go"
 have sv2:([c] ++ xs).length ≠ 1:=by rw [List.length_append,List.length_singleton]; omega
 have sv9:([c] ++ xs).length <= 10:=by rw [List.length_append,List.length_singleton]; omega
 generalize [c] ++ xs = sv at sv2 sv9 ⊢
 refine ⟨small (show 1 <= 1000 by decide),fun m1 hm1=>?_⟩
 have t1:=same_new hm1 (.lst [tx [o]])
 have g1:=upd_same (H:=H5) (a:=m1) (o:=.lst [tx [o]])
 have e1:=d5.same t1
 generalize upd H5 m1 _ = G1 at *
 walk_at "go"
 refine s_rep (k:=6) g1 (by decide) (by decide) (small (show 1 * 6 <= 1000 by decide)) (fun m2 hm2=>?_)
 have A2:∀ x ∈ (List.replicate (6:Int).toNat [tx [o]]).flatten,GoodS kk x:=fun x hx=>by
  obtain ⟨l,hl,hx⟩:=List.mem_flatten.mp hx
  rw [List.eq_of_mem_replicate hl] at hx
  rw [List.mem_singleton.mp hx]
  exact ⟨_,rfl,show 1 <= 1000 by decide,.inl (isRow_odd ho)⟩
 have n2:(List.replicate (6:Int).toNat [tx [o]]).flatten.length = 6:=rfl
 generalize (List.replicate (6:Int).toNat [tx [o]]).flatten = L2 at A2 n2 ⊢
 have t2:=same_new hm2 (.lst L2)
 have g2:=upd_same (H:=G1) (a:=m2) (o:=.lst L2)
 have e2:=e1.same t2
 generalize upd G1 m2 _ = G2 at *
 walk_at "go"
 refine ⟨small (show 1 <= 1000 by decide),fun m3 hm3=>?_⟩
 have t3:=same_new hm3 (.lst [tx sv])
 have g3:=upd_same (H:=G2) (a:=m3) (o:=.lst [tx sv])
 have e3:=e2.same t3
 have g23:=t3 _ _ g2
 generalize upd G2 m3 _ = G3 at *
 walk_at "go"
 refine s_rep (k:=4) g3 (by decide) (by decide) (small (show 1 * 4 <= 1000 by decide)) (fun m4 hm4=>?_)
 have A4:∀ x ∈ (List.replicate (4:Int).toNat [tx sv]).flatten,GoodS kk x:=fun x hx=>by
  obtain ⟨l,hl,hx⟩:=List.mem_flatten.mp hx
  rw [List.eq_of_mem_replicate hl] at hx
  rw [List.mem_singleton.mp hx]
  exact ⟨_,rfl,by omega,.inr sv2⟩
 have n4:(List.replicate (4:Int).toNat [tx sv]).flatten.length = 4:=rfl
 generalize (List.replicate (4:Int).toNat [tx sv]).flatten = L4 at A4 n4 ⊢
 have t4:=same_new hm4 (.lst L4)
 have g4:=upd_same (H:=G3) (a:=m4) (o:=.lst L4)
 have e4:=e3.same t4
 have g24:=t4 _ _ g23
 generalize upd G3 m4 _ = G4 at *
 refine s_addL g24 g4 (by rw [n2,n4]; exact small (by decide)) (fun m5 hm5=>?_)
 have A5:∀ x ∈ L2 ++ L4,GoodS kk x:=fun x hx=>(List.mem_append.mp hx).elim (A2 x) (A4 x)
 have n5:(L2 ++ L4).length = 10:=by rw [List.length_append,n2,n4]
 generalize L2 ++ L4 = L5 at A5 n5 ⊢
 have t5:=same_new hm5 (.lst L5)
 have g5:=upd_same (H:=G4) (a:=m5) (o:=.lst L5)
 have e5:=e4.same t5
 generalize upd G4 m5 _ = G5 at *
 walk_at "go"
 refine ⟨small (show 4 <= 1000 by decide),fun m6 hm6=>?_⟩
 have two:∀ x y:Nat,GoodS kk (tx ([x] ++ [y])):=fun x y=>⟨_,rfl,by show 2 <= 1000; decide,.inr (by show 2 ≠ 1; decide)⟩
 have A6:∀ x ∈ [tx ([c] ++ [32]),tx ([c] ++ [10]),tx ([32] ++ [c]),tx ([10] ++ [c])],GoodS kk x:=allD_cons (two _ _) (allD_cons (two _ _) (allD_cons (two _ _) (allD_cons (two _ _) allD_nil)))
 have n6:[tx ([c] ++ [32]),tx ([c] ++ [10]),tx ([32] ++ [c]),tx ([10] ++ [c])].length = 4:=rfl
 generalize [tx ([c] ++ [32]),tx ([c] ++ [10]),tx ([32] ++ [c]),tx ([10] ++ [c])] = L6 at A6 n6 ⊢
 have t6:=same_new hm6 (.lst L6)
 have g6:=upd_same (H:=G5) (a:=m6) (o:=.lst L6)
 have e6:=e5.same t6
 have g56:=t6 _ _ g5
 generalize upd G5 m6 _ = G6 at *
 refine s_addL g56 g6 (by rw [n5,n6]; exact small (by decide)) (fun m7 hm7=>?_)
 have A7:∀ x ∈ L5 ++ L6,GoodS kk x:=fun x hx=>(List.mem_append.mp hx).elim (A5 x) (A6 x)
 have n7:(L5 ++ L6).length = 14:=by rw [List.length_append,n5,n6]
 generalize L5 ++ L6 = L7 at A7 n7 ⊢
 have t7:=same_new hm7 (.lst L7)
 have g7:=upd_same (H:=G6) (a:=m7) (o:=.lst L7)
 have e7:=e6.same t7
 have w7:SameBut1 p H (upd G6 m7 (.lst L7)):=u5.trans (SameBut1.of ((((((t1.trans t2).trans t3).trans t4).trans t5).trans t6).trans t7))
 generalize upd G6 m7 _ = G7 at *
 clear A2 A4 A5 A6 g1 g2 g3 g4 g5 g6 g23 g24 g56 t1 t2 t3 t4 t5 t6 t7 e1 e2 e3 e4 e5 e6
 simp only [tAll]
 walk_at "go"
 refine ⟨small (show 1 <= 1000 by decide),fun k1 hk1=>?_⟩
 have t1:=same_new hk1 (.lst [tx [40]])
 have g1:=upd_same (H:=G7) (a:=k1) (o:=.lst [tx [40]])
 have j1:=e7.ne hk1
 have f1:=e7.same t1
 generalize upd G7 k1 _ = I1 at *
 walk_at "go"
 refine ⟨small (show 1 <= 1000 by decide),fun k2 hk2=>?_⟩
 have t2:=same_new hk2 (.tup [tx [63]])
 have g2:=upd_same (H:=I1) (a:=k2) (o:=.tup [tx [63]])
 have j2:=f1.ne hk2
 have f2:=f1.same t2
 generalize upd I1 k2 _ = I2 at *
 walk_at "go"
 intro k3 hk3
 have t3:=same_new hk3 (.dK [])
 have g3:=upd_same (H:=I2) (a:=k3) (o:=.dK [])
 have j3:=f2.ne hk3
 have f3:=f2.same t3
 generalize upd I2 k3 _ = I3 at *
 walk_at "go"
 refine s_mulT (by decide) (by decide) (by decide) ?_
 have l41:(List.replicate (41:Int).toNat [40]).flatten.length = 41:=by rw [rep_len]; rfl
 generalize (List.replicate (41:Int).toNat [40]).flatten = q41 at l41 ⊢
 walk_at "go"
 refine ⟨small (show 0 <= 1000 by decide),fun k4 hk4=>?_⟩
 have t4:=same_new hk4 (.lst [])
 have g4:=upd_same (H:=I3) (a:=k4) (o:=.lst [])
 have j4:=f3.ne hk4
 have f4:=f3.same t4
 generalize upd I3 k4 _ = I4 at *
 walk_at "go"
 refine ⟨small (show 0 <= 1000 by decide),fun k5 hk5=>?_⟩
 have t5:=same_new hk5 (.tup [])
 have g5:=upd_same (H:=I4) (a:=k5) (o:=.tup [])
 have j5:=f4.ne hk5
 have f5:=f4.same t5
 generalize upd I4 k5 _ = I5 at *
 walk_at "go"
 refine ⟨small (show 1 <= 1000 by decide),fun k6 hk6=>?_⟩
 have t6:=same_new hk6 (.lst [tx [c]])
 have g6:=upd_same (H:=I5) (a:=k6) (o:=.lst [tx [c]])
 have j6:=f5.ne hk6
 have f6:=f5.same t6
 generalize upd I5 k6 _ = I6 at *
 walk_at "go"
 refine ⟨small (show 14 <= 1000 by decide),fun k8 hk8=>?_⟩
 have e29:(10:Int) ^ (29:Int).toNat = 10 ^ 29:=rfl
 rw [e29]
 obtain ⟨L8,eL8⟩:∃ L:List V,L = [tx [],tx [40,41],tx [63,63],.non,.int 0,.bl true,.ref k1,.ref k2,.ref k3,tx q41,.ref k4,.ref k5,.int (10 ^ 29),.ref k6]:=⟨_,rfl⟩
 have n8:L8.length = 14:=by rw [eL8]; rfl
 rw [<- eL8]
 have t8:=same_new hk8 (.lst L8)
 have g9:=upd_same (H:=I6) (a:=k8) (o:=.lst L8)
 have f8:=f6.same t8
 have tt6:Same G7 I6:=((((t1.trans t2).trans t3).trans t4).trans t5).trans t6
 have g7':=t8 _ _ (tt6 _ _ g7)
 generalize upd I6 k8 _ = I8 at *
 refine s_addL g7' g9 (by rw [n7,n8]; exact small (by decide)) (fun k9 hk9=>?_)
 have n9:(L7 ++ L8).length = 28:=by rw [List.length_append,n7,n8]
 have t9:=same_new hk9 (.lst (L7 ++ L8))
 have g10:=upd_same (H:=I8) (a:=k9) (o:=.lst (L7 ++ L8))
 have j9:=f8.ne hk9
 have f9:=f8.same t9
 generalize upd I8 k9 _ = I9 at *
 walk_at "go"
 refine draw_use f9 (by decide) (by decide) (fun rA HA rA0 rA1 dA sA=>?_)
 obtain ⟨v,ev,hv⟩:=at_memV (l:=L7 ++ L8) (i:=rA) rA0 (by rw [n9]; exact rA1)
 walk_at "go"
 refine s_ixL (SqL.of (sA _ _ g10 j9)) ev ?_
 walk_at "go"
 have x6:SameBut1 p I6 HA:=(SameBut1.of (t8.trans t9)).trans sA
 have x5:SameBut1 p I5 HA:=(SameBut1.of t6).trans x6
 have x4:SameBut1 p I4 HA:=(SameBut1.of t5).trans x5
 have x3:SameBut1 p I3 HA:=(SameBut1.of t4).trans x4
 have x2:SameBut1 p I2 HA:=(SameBut1.of t3).trans x3
 have x1:SameBut1 p I1 HA:=(SameBut1.of t2).trans x2
 have x0:SameBut1 p G7 HA:=(SameBut1.of t1).trans x1
 have y1:=x1 _ _ g1 j1
 have y2:=x2 _ _ g2 j2
 have y3:=x3 _ _ g3 j3
 have y4:=x4 _ _ g4 j4
 have y5:=x5 _ _ g5 j5
 have y6:=x6 _ _ g6 j6
 have st:∀ {x:List Nat},x.length <= 1000->x.length ≠ 1->NoS K kk HA (tx x):=fun h1 h2=>.inl ⟨_,rfl,h1,.inr h2⟩
 have AL:∀ x ∈ L8,NoS K kk HA x:=by
  rw [eL8]
  exact allD_cons (st (by decide) (by decide)) (allD_cons (st (by decide) (by decide)) (allD_cons (st (by decide) (by decide)) (allD_cons (TxS .non (by decide) (by decide)) (allD_cons (TxS (.int _) (by decide) (by decide)) (allD_cons (TxS (.bl _) (by decide) (by decide)) (allD_cons (TxS (.lst y1) (by decide) (by decide)) (allD_cons (TxS (.tup y2) (by decide) (by decide)) (allD_cons (TxS (.dK y3) (by decide) (by decide))
   (allD_cons (st (by omega) (by omega)) (allD_cons (TxS (.lst y4) (by decide) (by decide)) (allD_cons (TxS (.tup y5) (by decide) (by decide)) (allD_cons (TxS (.int _) (by decide) (by decide)) (allD_cons (TxS (.lst y6) (by decide) (by decide)) allD_nil)))))))))))))
 have AA:NoS K kk HA v:=(List.mem_append.mp hv).elim (fun z=>(A7 v z).noS) (AL v)
 have fr:∀ {G:Hp} {x:Addr},SameBut1 p H G->G x = none->x ≠ p->H x = none:=fun {G x} s h n=>by
  cases e:H x with
  | none=>rfl
  | some o=>rw [s x o e n] at h; cases h
 have NT:∀ (l:List Nat),NF H (tx l):=fun l x h=>nomatch h
 have NR:∀ {x:Addr},H x = none->NF H (.ref x):=fun {x} h y e=>by cases e; exact h
 have NFL:∀ x ∈ L8,NF H x:=by
  rw [eL8]
  exact allD_cons (NT _) (allD_cons (NT _) (allD_cons (NT _) (allD_cons (fun _ h=>nomatch h) (allD_cons (fun _ h=>nomatch h) (allD_cons (fun _ h=>nomatch h) (allD_cons (NR (fr w7 hk1 j1)) (allD_cons (NR (fr (w7.trans (SameBut1.of t1)) hk2 j2)) (allD_cons (NR (fr (w7.trans (SameBut1.of (t1.trans t2))) hk3 j3))
   (allD_cons (NT _) (allD_cons (NR (fr (w7.trans (SameBut1.of ((t1.trans t2).trans t3))) hk4 j4)) (allD_cons (NR (fr (w7.trans (SameBut1.of (((t1.trans t2).trans t3).trans t4))) hk5 j5)) (allD_cons (fun _ h=>nomatch h) (allD_cons (NR (fr (w7.trans (SameBut1.of ((((t1.trans t2).trans t3).trans t4).trans t5))) hk6 j6)) allD_nil)))))))))))))
 have NFv:NF H v:=(List.mem_append.mp hv).elim (fun z=>by obtain ⟨b,e,_⟩:=A7 v z; rw [e]; exact NT b) (NFL v)
 exact q v HA AA NFv dA (w7.trans x0)
theorem sc_law_sign:FnScope ["pool","k","row","way","signs","waiting"] ["pool","k","row"] (defScope d_law_sign):=⟨rfl,rfl,rfl,by decide +kernel,rfl,by decide +kernel,by decide +kernel⟩
theorem ok_law_sign (F : Fun K "_law_sign" "_law_sign" d_law_sign f fd) (T : Txt K mg aK cs aC) (U_law_draw : FnU P w K mg base k "_law_draw" ["pool", "many"] (spDraw)) (U_law_stacks : FnU P w K mg base k "_law_stacks" ["k", "row"] (spStacks42)) : FnOk P w K mg base CX0 (k + 1) f fd ["pool", "k", "row"] (spSign42) := by
  refine F.ok sc_law_sign (fun vs H Q E h => ?_) (fun cdv A outer s H vs Q E hr h => ?_)
  · obtain ⟨p, k, a, rfl, _⟩ := h; rfl
  obtain ⟨p, kk, a, rfl, hp, k1, k4, hro, hcn, q⟩ := h
  have hu := hr.units0
  have hl := isRow_len hro
  refine ⟨_, (pss_cons (ps_set (i := 3) sc_law_sign.nd rfl (Or.inl rfl) (pe_fn U_law_draw hr (pa_cons (pv 0) (pa_cons pe_int pa_nil))))  (pss_cons (ps_set (i := 4) sc_law_sign.nd rfl (Or.inl rfl) (pe_op op_plus (pe_slice (sl_A K) (pe_tx (l := [40, 91, 123, 60]) (by decide +kernel)) po_none (po_some (pv 1))) (pe_slice (sl_A K) (pe_tx (l := [41, 93, 125, 62]) (by decide +kernel)) po_none (po_some (pv 1)))))  (pss_cons (ps_if (pt_cmpR (op_eqA K hu) (pv 3) pe_int (nomark _))   (pss_one (ps_ret (pe_ix (ix_A K) (pv 4) (pe_fn U_law_draw hr (pa_cons (pv 0) (pa_cons (pe_op op_times pe_int (pv 1)) pa_nil))) (fun _ _ => rfl))))   pss_nil)  (pss_cons (ps_if (PW.pt (pw_and (pt_cmpR op_lt (pv 3) pe_int (nomark _)) (pw_and1 (pt_cmpR op_lt (pe_bmK K PySem.F.plainAttrs_str PySem.F.slot_str_count PySem.F.type_str_count mt_countT (pv 2) (pa_cons (pe_tx (l := [63]) (by decide +kernel)) pa_nil)) pe_int (nomark _)))))   (pss_one (ps_ret (pe_tx (l := [63]) (by decide +kernel))))   pss_nil)  (pss_cons (ps_set (i := 5) sc_law_sign.nd rfl (Or.inl rfl) (pe_callB (call_sortT K rfl) rfl T.n_sorted PyProof.Rows.boot_sorted (pa_cons (pe_ix (ix_A K) (pe_fn U_law_stacks hr (pa_cons (pv 1) (pa_cons (pv 2) pa_nil))) (pe_un un_neg pe_int) (fun _ _ => rfl)) pa_nil)))  (pss_cons (ps_if (PW.pt (pw_and (pt_cmpR op_lt (pv 3) pe_int (nomark _)) (pw_and (pt_cmpR (op_neA K hu) (pv 5) (pe_lst pa_nil) (nomark _)) (pw_and1 (pt_cmpR (op_neA K hu) (pe_ix (ix_A K) (pv 5) (pe_un un_neg pe_int) (fun _ _ => rfl)) (pe_tx (l := []) (by decide +kernel)) (nomark _))))))   (pss_one (ps_ret (pe_orX K (pe_slice (sl_A K) (pe_ix (ix_A K) (pv 5) (pe_fn U_law_draw hr (pa_cons (pv 0) (pa_cons (pe_callB (call_lenA K) rfl T.n_len PySem.boot_len (pa_cons (pv 5) pa_nil)) pa_nil))) (fun _ _ => rfl)) (po_some (pe_un un_neg pe_int)) po_none) (pe_one (pe_tx (l := [40]) (by decide +kernel))))))   pss_nil)  (pss_one (ps_ret (pe_ix (ix_A K) (pe_tx (l := [40, 91, 123, 60]) (by decide +kernel)) (pe_fn U_law_draw hr (pa_cons (pv 0) (pa_cons (pv 1) pa_nil))) (fun _ _ => rfl)))))))))), ?_⟩
  walk_at "go"
  refine draw_use hp (by decide) (by decide) (fun r1 H1 r10 r11 d1 s1 => ?_)
  walk_at "go"
  rw [cut_to _ (by omega), cut_to _ (by omega)]
  have l1 : ((([40, 91, 123, 60] : List Nat)).take kk.toNat).length <= 4 := by rw [List.length_take]; exact Nat.min_le_right _ _
  have l2 : ((([41, 93, 125, 62] : List Nat)).take kk.toNat).length <= 4 := by rw [List.length_take]; exact Nat.min_le_right _ _
  refine s_addT (small (by omega)) ?_
  have esg : List.take kk.toNat [40, 91, 123, 60] ++ List.take kk.toNat [41, 93, 125, 62] = sgb kk := rfl
  rw [esg]
  have lsg : (sgb kk).length = (2 * kk).toNat := sgb_len k1 k4
  have gsg : ∀ c ∈ sgb kk, c ∈ sgn kk /\ c ≠ 63 := by
    have hk : kk = 1 \/ kk = 2 \/ kk = 3 \/ kk = 4 := by omega
    rcases hk with rfl | rfl | rfl | rfl <;> decide
  generalize sgb kk = sg at lsg gsg ⊢
  walk_at "go"
  refine ifd (fun h0 => ?_) (fun h0 => ?_)
  · walk_at "go"
    refine draw_use d1 (by omega) (by omega) (fun r2 H2 r20 r21 d2 s2 => ?_)
    obtain ⟨c, ec, hcm⟩ := at_mem (l := sg) (i := r2) r20 (by omega)
    walk_at "go"
    refine s_ixT (small (by omega)) ec ?_
    walk_at "go"
    exact q c H2 (gsg c hcm).1 (fun z => absurd z (gsg c hcm).2) d2 (s1.trans s2)
  walk_at "go"
  by_cases h3 : r1 < 3
  case' pos =>
    refine ifp (decide_eq_true h3) ?_
    walk_at "go"
    refine ifd (fun h4 => ?yes) (fun h4 => ?rest)
  case' neg =>
    refine ifq (decide_eq_false h3) ?_
    refine ifq rfl ?_
  case yes =>
    walk_at "go"
    exact q 63 H1 (sgn_unk kk) (fun _ => by omega) d1 s1
  case rest | neg =>
    walk_at "go"
    refine stacks42_use k1 k4 hro hcn (fun L d ds es H2 s2 hL hd hdn wf gd hsum hlen => ?_)
    walk_at "go"
    refine s_ixL (SqL.of hL) (last_at ds _) ?_
    walk_at "go"
    have d2 := d1.same s2
    have u2 := s1.trans (SameBut1.of s2)
    refine ⟨d, enc es, es.map fun e => ⟨(cst e.1).toArray⟩, rfl, .inl hd, ?_, by rw [List.length_map]; omega, fun m ts hm hpm _ => ?_⟩
    · unfold enc
      rw [List.map_map, List.map_map]
      rfl
    have hts : ∀ t ∈ ts, ∃ st, t.cps.toList = cst st /\ (∀ p ∈ st, p < kk.toNat) /\ st.length <= a.length := fun t ht => by
      obtain ⟨e, he, rfl⟩ := List.mem_map.mp (hpm.mem_iff.mp ht)
      exact ⟨e.1, rfl, (gd e he).1, (gd e he).2⟩
    have lts : ts.length <= 25 := by rw [hpm.length_eq, List.length_map]; exact hlen
    have t3 := same_new hm (.lst (ts.map fun x => tx x.cps.toList))
    have g3 : (upd H2 m (.lst (ts.map fun x => tx x.cps.toList))) m = _ := upd_same
    have d3 := d2.same t3
    have nm3 : m ≠ p := d2.ne hm
    have u3 : SameBut1 p H (upd H2 m (.lst (ts.map fun x => tx x.cps.toList))) := u2.trans (SameBut1.of t3)
    generalize upd H2 m _ = G3 at *
    have last : ∀ G, Po G p -> SameBut1 p H G -> tRet (tOp (rIxA K) (tC (tx [40, 91, 123, 60])) (tCall spDraw [] E0 (tCons (tVar 0) (tCons (tVar 1) tNil)))) { nx := fun _ H' => Q .non H', rt := Q } [some (.ref p), some (.int kk), some (tx a), some (.int r1), some (tx sg), some (.ref m)] G := by
      intro G dG sG
      walk_at "go"
      refine draw_use dG (by omega) (by omega) (fun r5 H5 r50 r51 d5 s5 => ?_)
      obtain ⟨c, ec, hcm⟩ : ∃ c, atI [40, 91, 123, 60] r5 = some c /\ c ∈ sgn kk /\ c ≠ 63 := by
        have hk : kk = 1 \/ kk = 2 \/ kk = 3 \/ kk = 4 := by omega
        have hr5 : r5 = 0 \/ r5 = 1 \/ r5 = 2 \/ r5 = 3 := by omega
        rcases hr5 with rfl | rfl | rfl | rfl
        · exact ⟨40, rfl, by rcases hk with rfl | rfl | rfl | rfl <;> decide⟩
        · exact ⟨91, rfl, by rcases hk with rfl | rfl | rfl | rfl <;> first | decide | omega⟩
        · exact ⟨123, rfl, by rcases hk with rfl | rfl | rfl | rfl <;> first | decide | omega⟩
        · exact ⟨60, rfl, by rcases hk with rfl | rfl | rfl | rfl <;> first | decide | omega⟩
      walk_at "go"
      refine s_ixT (small (by decide)) ec ?_
      walk_at "go"
      exact q c H5 hcm.1 (fun z => absurd z hcm.2) d5 (sG.trans s5)
    walk_at "go"
    by_cases h6 : r1 < 6
    · refine ifp (decide_eq_true h6) ?_
      walk_at "go"
      refine ⟨small (Nat.zero_le _), fun e he => ?_⟩
      have t4 := same_new he (.lst [])
      have d4 := d3.same t4
      have u4 := u3.trans (SameBut1.of t4)
      have flt : ∀ l : List Str, (l.map fun x => tx x.cps.toList).all flatV = true := fun l => by rw [List.all_map, List.all_eq_true]; intro x _; rfl
      refine s_neL (SqL.of (t4 _ _ g3)) (SqL.of upd_same) (flt ts) rfl ?_
      have g4 := t4 _ _ g3
      generalize upd G3 e _ = G4 at *
      rcases List.eq_nil_or_concat ts with h | ⟨i, t, h⟩
      · subst h
        refine ⟨_, rfl, ?_⟩
        refine ifq rfl ?_
        refine ifq rfl ?_
        exact last _ d4 u4
      · rw [List.concat_eq_append] at h
        have e1 : eqVs (ts.map fun x => tx x.cps.toList) [] = false := by rw [h]; cases i <;> rfl
        rw [e1]
        refine ⟨_, rfl, ?_⟩
        refine ifp rfl ?_
        walk_at "go"
        refine s_ixL (SqL.of g4) (by rw [h, List.map_append]; exact last_at _ _) ?_
        walk_at "go"
        rw [<- decide_not]
        refine ifd (fun h7 => ?_) (fun h7 => ?_)
        · walk_at "go"
          refine s_lenL (.inl (SqL.of g4)) ?_
          rw [List.length_map]
          have lp : 0 < ts.length := by rw [h]; simp
          walk_at "go"
          refine draw_use d4 (by omega) (by omega) (fun r5 H5 r50 r51 d5 s5 => ?_)
          walk_at "go"
          obtain ⟨t5, e5, h5⟩ : ∃ t5, atI (ts.map fun x => tx x.cps.toList) r5 = some (tx t5.cps.toList) /\ t5 ∈ ts := by
            obtain ⟨n, rfl⟩ := Int.eq_ofNat_of_zero_le r50
            have hn : n < ts.length := by omega
            exact ⟨ts[n], atI_nat (by rw [List.getElem?_map, List.getElem?_eq_getElem hn]; rfl), List.getElem_mem hn⟩
          refine s_ixL (SqL.of (s5 _ _ g4 nm3)) e5 ?_
          obtain ⟨st, est, hst, hsl⟩ := hts t5 h5
          rw [est]
          have lst := cst_len st
          walk_at "go"
          first | refine s_slT (small (by omega)) ?_ | skip
          walk_at "go"
          have h4k : kk.toNat <= 4 := by omega
          cases st with
          | nil =>
            refine s_truT (small (by decide)) ?_
            refine ifq rfl ?_
            walk_at "go"
            refine q 40 H5 ?_ (fun z => by cases z) d5 (u4.trans s5)
            have hk : kk = 1 \/ kk = 2 \/ kk = 3 \/ kk = 4 := by omega
            rcases hk with rfl | rfl | rfl | rfl <;> decide
          | cons o r =>
            have ho := hst o (List.mem_cons_self ..)
            have ec : cutL (cst (o :: r)) (some (-1)) none = [BrS.clk o] := by
              rw [cst_push]
              exact cut_last1 _ _
            rw [ec]
            refine s_truT (small (show 1 <= 1000 by decide)) ?_
            refine ifp rfl ?_
            have ho4 : o = 0 \/ o = 1 \/ o = 2 \/ o = 3 := by omega
            refine q (BrS.clk o) H5 ?_ (fun z => ?_) d5 (u4.trans s5)
            · have hk : kk = 1 \/ kk = 2 \/ kk = 3 \/ kk = 4 := by omega
              rcases hk with rfl | rfl | rfl | rfl <;> rcases ho4 with rfl | rfl | rfl | rfl <;> first | decide | (exfalso; revert ho; decide)
            · rcases ho4 with rfl | rfl | rfl | rfl <;> cases z
        · exact last _ d4 u4
    · refine ifq (decide_eq_false h6) ?_
      refine ifq rfl ?_
      exact last _ d3 u3
theorem sc_law_deed:FnScope ["pool","k","row","way","sign"] ["pool","k","row"] (defScope d_law_deed):=⟨rfl,rfl,rfl,by decide +kernel,rfl,by decide +kernel,by decide +kernel⟩
theorem ok_law_deed (F:Fun K "_law_deed" "_law_deed" d_law_deed f fd) (T:Txt K mg aK cs aC) (U_law_draw:FnU P w K mg base k "_law_draw" ["pool","many"] (spDraw)) (U_law_sign:FnU P w K mg base k "_law_sign" ["pool","k","row"] (spSign42)) (U_law_no_sign:FnU P w K mg base k "_law_no_sign" ["pool","k"] (spNoSign42 K)):FnOk P w K mg base CX0 (k + 1) f fd ["pool","k","row"] (spDeed42 K):=by
 refine F.ok sc_law_deed (fun vs H Q E h=>?_) (fun cdv A outer s H vs Q E hr h=>?_)
 ·obtain ⟨p,k,a,rfl,_⟩:=h; rfl
 obtain ⟨p,kk,a,rfl,hp,k1,k4,hro,hcn,q⟩:=h
 have hu:=hr.units0
 have hl:=isRow_len hro
 have fr:∀ {G:Hp} {x:Addr},SameBut1 p H G->G x = none->x ≠ p->H x = none:=fun {G x} s h n=>by
  cases e:H x with
  | none=>rfl
  | some o=>rw [s x o e n] at h; cases h
 refine ⟨_,(pss_cons (ps_set (i:=3) sc_law_deed.nd rfl (Or.inl rfl) (pe_fn U_law_draw hr (pa_cons (pv 0) (pa_cons pe_int pa_nil)))) (pss_cons (ps_if (pt_cmpR op_lt (pv 3) pe_int (nomark _)) (pss_one (ps_ret (pe_tup (pa_cons (pe_tx (l:=[98,97,99,107]) (by decide +kernel)) (pa_cons pe_non (pa_cons (pe_ix (ix_A K) (pe_lst (pa_cons pe_non (pa_cons (pe_tx (l:=[78,111,78,117,109,98,101,114]) (by decide +kernel)) pa_nil))) (pe_callTy call_intA rfl T.n_int PyProof.Rows.boot_int (pa_cons (pe_cmpR (op_eqA K hu) (pv 2) (pe_tx (l:=[]) (by decide +kernel)) (nomark _)) pa_nil)) (fun _ _=>rfl)) (pa_cons (pe_slice (sl_A K) (pv 2) po_none (po_some (pe_un un_neg pe_int))) pa_nil))))))) pss_nil) (pss_cons (ps_if (pt_cmpR (op_eqA K hu) (pv 3) pe_int (nomark _)) (pss_one (ps_ret (pe_tup (pa_cons (pe_tx (l:=[112,117,116]) (by decide +kernel)) (pa_cons (pe_fn U_law_no_sign hr (pa_cons (pv 0) (pa_cons (pv 1) pa_nil))) (pa_cons (pe_tx (l:=[78,111,76,105,110,101]) (by decide +kernel)) (pa_cons (pv 2) pa_nil))))))) pss_nil) (pss_cons (ps_set (i:=4) sc_law_deed.nd rfl (Or.inl rfl) (pe_fn U_law_sign hr (pa_cons (pv 0) (pa_cons (pv 1) (pa_cons (pv 2) pa_nil))))) (pss_cons (ps_if (pt_cmpR (op_eqA K hu) (pe_callB (call_lenA K) rfl T.n_len PySem.boot_len (pa_cons (pv 2) pa_nil)) pe_int (nomark _)) (pss_one (ps_ret (pe_tup (pa_cons (pe_tx (l:=[112,117,116]) (by decide +kernel)) (pa_cons (pv 4) (pa_cons (pe_tx (l:=[84,111,111,77,97,110,121]) (by decide +kernel)) (pa_cons (pv 2) pa_nil))))))) pss_nil) (pss_one (ps_ret (pe_tup (pa_cons (pe_tx (l:=[112,117,116]) (by decide +kernel)) (pa_cons (pv 4) (pa_cons pe_non (pa_cons (pe_op op_plus (pv 2) (pv 4)) pa_nil)))))))))))),?_⟩
 walk_at "go"
 refine draw_use hp (by decide) (by decide) (fun r1 H1 r10 r11 d1 s1=>?_)
 walk_at "go"
 refine ifd (fun h1=>?_) (fun h1=>?_)
 ·walk_at "go"
  refine ⟨small (show 2 <= 1000 by decide),fun l2 hl2=>?_⟩
  have t2:=same_new hl2 (.lst [.non,tx [78,111,78,117,109,98,101,114]])
  have g2:(upd H1 l2 (.lst [.non,tx [78,111,78,117,109,98,101,114]])) l2 = _:=upd_same
  have n2:l2 ≠ p:=d1.ne hl2
  have d2:=d1.same t2
  have s2:SameBut1 p H (upd H1 l2 (.lst [.non,tx [78,111,78,117,109,98,101,114]])):=s1.trans (SameBut1.of t2)
  generalize upd H1 l2 _ = G2 at *
  walk_at "go"
  have fin:∀ (due:V) (b:List Nat),Deed K kk G2 a wBack .non due b->flatV due = true->isRow kk b = true->b.count 63 <= 2->∀ Tt,G2 Tt = none->Q (.ref Tt) (upd G2 Tt (.tup [tx wBack,.non,due,tx b])):=fun due b hD hf hb hc Tt hT=>by
   have t3:=same_new hT (.tup [tx wBack,.non,due,tx b])
   refine q Tt wBack .non due b _ (fr s2 hT (d2.ne hT)) (d2.same t3) (s2.trans (SameBut1.of t3)) upd_same ?_ (fun _ h=>nomatch h) hf hb hc
   cases hD with
   | none x h=>exact .none _ h
   | back x h=>exact .back _ h
  by_cases h0:a = []
  ·subst h0
   refine s_ixL (SqL.of g2) (v:=tx nmN) rfl ?_
   walk_at "go"
   first | refine s_slT (small (by decide)) ?_ | skip
   walk_at "go"
   exact ⟨small (show 4 <= 1000 by decide),fin (tx nmN) [] (.none _ rfl) rfl hro hcn⟩
  ·refine s_ixL (SqL.of g2) (v:=.non) (by rw [decide_eq_false h0]; rfl) ?_
   walk_at "go"
   first | refine s_slT (small (by omega)) ?_ | skip
   walk_at "go"
   rw [cut_dl]
   refine ⟨small (show 4 <= 1000 by decide),fin .non a.dropLast (.back _ h0) rfl ?_ ?_⟩
   ·rw [List.dropLast_eq_take]; exact isRow_take _ hro
   ·exact Nat.le_trans ((List.dropLast_sublist a).count_le 63) hcn
 walk_at "go"
 refine ifd (fun h3=>?_) (fun h3=>?_)
 ·walk_at "go"
  refine ⟨p,kk,rfl,d1,k1,k4,fun v H2 nv nf d2 s2=>?_⟩
  walk_at "go"
  refine ⟨small (show 4 <= 1000 by decide),fun Tt hT=>?_⟩
  have s12:=s1.trans s2
  have t3:=same_new hT (.tup [tx wPut,v,tx nmL,tx a])
  have hTp:Tt ≠ p:=d2.ne hT
  have nfH:NF H v:=fun x e=>by
   have h0:=nf x e
   have hx:x ≠ p:=fun z=>by exact d1.ne h0 z
   exact fr s1 h0 hx
  exact q Tt wPut v (tx nmL) a _ (fr s12 hT hTp) (d2.same t3) (s12.trans (SameBut1.of t3)) upd_same (.no _ (nv.same t3)) nfH rfl hro hcn
 walk_at "go"
 refine ⟨p,kk,a,rfl,d1,k1,k4,hro,hcn,fun c H2 hc h63 d2 s2=>?_⟩
 have s12:=s1.trans s2
 walk_at "go"
 first | refine s_lenT (small (by omega)) ?_ | skip
 walk_at "go"
 refine ifd (fun h4=>?_) (fun h4=>?_)
 ·have h4:a.length = 40:=by omega
  walk_at "go"
  refine ⟨small (show 4 <= 1000 by decide),fun Tt hT=>?_⟩
  have t3:=same_new hT (.tup [tx wPut,tx [c],tx nmM,tx a])
  exact q Tt wPut (tx [c]) (tx nmM) a _ (fr s12 hT (d2.ne hT)) (d2.same t3) (s12.trans (SameBut1.of t3)) upd_same (.full c hc h4) (fun _ h=>nomatch h) rfl hro hcn
 ·have h4:a.length < 40:=by omega
  walk_at "go"
  first | refine s_addT (small (by simp; omega)) ?_ | skip
  walk_at "go"
  refine ⟨small (show 4 <= 1000 by decide),fun Tt hT=>?_⟩
  have t3:=same_new hT (.tup [tx wPut,tx [c],.non,tx (a ++ [c])])
  refine q Tt wPut (tx [c]) .non (a ++ [c]) _ (fr s12 hT (d2.ne hT)) (d2.same t3) (s12.trans (SameBut1.of t3)) upd_same (.put c hc h4) (fun _ h=>nomatch h) rfl ?_ ?_
  ·exact isRow_mk (by simp; omega) fun d hd=>by
    rcases List.mem_append.mp hd with z | z
    ·exact isRow_mem hro d z
    ·rw [List.mem_singleton.mp z]; exact hc
  ·rw [List.count_append]
   by_cases e:c = 63
   ·have:=h63 e
    have:List.count 63 [c] <= 1:=List.count_le_length
    omega
   ·rw [List.count_eq_zero_of_not_mem (a:=63) (l:=[c]) (by simpa using fun z=>e z.symm)]; omega
theorem sc_law_whole:FnScope ["found","due"] ["found","due"] (defScope d_law_whole):=⟨rfl,rfl,rfl,by decide +kernel,rfl,by decide +kernel,by decide +kernel⟩
theorem ok_law_whole (F:Fun K "_law_whole" "_law_whole" d_law_whole f fd) (T:Txt K mg aK cs aC)  : FnOk P w K mg base CX0 (k + 1) f fd ["found","due"] (spWhole42):=by
 refine F.ok sc_law_whole (fun vs H Q E h=>?_) (fun cdv A outer s H vs Q E hr h=>?_)
 ·obtain ⟨i,j,rfl,_⟩:=h; rfl
 obtain ⟨i,j,rfl,q⟩:=h
 have hu:=hr.units0
 refine ⟨_,(pss_one (ps_ret (pe_and (pe_callB (call_isiA K) rfl T.n_isinstance PyProof.Rows.boot_isinstance (pa_cons (pv 0) (pa_cons (pe_ty T.n_int PyProof.Rows.boot_int) pa_nil))) (pe_and (pe_not (pe_callB (call_isiA K) rfl T.n_isinstance PyProof.Rows.boot_isinstance (pa_cons (pv 0) (pa_cons (pe_ty T.n_bool PyProof.Rows.boot_bool) pa_nil)))) (pe_one (pe_cmpR (op_eqA K hu) (pv 0) (pv 1) (nomark _))))))),?_⟩
 walk_at "go"
 refine s_isi (b:=true) (TyOf.int _) (by with_unfolding_all rfl) (s_bl (iteT ?_))
 walk_at "go"
 refine s_isi (b:=false) (TyOf.int _) (by with_unfolding_all rfl) (s_bl ?_)
 walk_at "go"
 refine ifp rfl ?_
 walk_at "go"
 exact q
theorem sc_law_spoil:FnScope ["way","told","odd"] ["way","told","odd"] (defScope d_law_spoil):=⟨rfl,rfl,rfl,by decide +kernel,rfl,by decide +kernel,by decide +kernel⟩
theorem ok_law_spoil (F:Fun K "_law_spoil" "_law_spoil" d_law_spoil f fd) (T:Txt K mg aK cs aC)  : FnOk P w K mg base CX0 (k + 1) f fd ["way","told","odd"] (spSpoil42):=by
 refine F.ok sc_law_spoil (fun vs H Q E h=>?_) (fun cdv A outer s H vs Q E hr h=>?_)
 ·obtain ⟨w,t,ns,rfl,_⟩:=h; rfl
 obtain ⟨w,t,ns,rfl,ht,hl,q⟩:=h
 have hu:=hr.units0
 have bump:∀ {H':Hp} {ys:List V},SameBut1 t H H'->SameBut1 t H (upd H' t (.lst ys)):=fun s b o h n=>by rw [upd_ne n]; exact s b o h n
 refine ⟨_,(pss_cons (ps_if (pt_cmpR (op_eqA K hu) (pv 0) pe_int (nomark _)) (pss_one (ps_expr (pe_bmK K PySem.F.plainAttrs_list PySem.F.slot_list_append PySem.F.type_list_append mt_append (pv 1) (pa_cons (pv 2) pa_nil)))) pss_nil) (pss_cons (ps_if (pt_cmpR (op_eqA K hu) (pv 0) pe_int (nomark _)) (pss_one (ps_expr (pe_bm0K K PySem.F.plainAttrs_list PySem.F.slot_list_clear PySem.F.type_list_clear mt_clear (pv 1)))) pss_nil) (pss_cons (ps_if (pt_cmpR (op_eqA K hu) (pv 0) pe_int (nomark _)) (pss_one (ps_asg (pe_lst (pa_cons (pv 2) pa_nil)) (pg_slc (pv 1) po_none (po_some pe_int)))) pss_nil) (pss_one (ps_if (pt_cmpR (op_eqA K hu) (pv 0) pe_int (nomark _)) (pss_one (ps_expr (pe_bm0K K PySem.F.plainAttrs_list PySem.F.slot_list_reverse PySem.F.type_list_reverse mt_reverse (pv 1)))) pss_nil))))),?_⟩
 walk_at "go"
 by_cases h0:w = 0
 ·subst h0
  refine ifp rfl ?_
  walk_at "go"
  refine ⟨SqL.ty (SqL.of ht),?_⟩
  walk_at "go"
  refine ⟨t,_,_,rfl,rfl,ht,small1000 (by omega),?_⟩
  walk_at "go"
  refine ifq rfl ?_
  walk_at "go"
  refine ifq rfl ?_
  walk_at "go"
  refine ifq rfl ?_
  exact q _ SameBut1.upd
 refine ifq (decide_eq_false h0) ?_
 walk_at "go"
 by_cases h1:w = 1
 ·subst h1
  refine ifp rfl ?_
  walk_at "go"
  refine ⟨SqL.ty (SqL.of ht),?_⟩
  walk_at "go"
  refine ⟨t,_,rfl,rfl,ht,?_⟩
  walk_at "go"
  refine ifq rfl ?_
  walk_at "go"
  refine ifq rfl ?_
  exact q _ SameBut1.upd
 refine ifq (decide_eq_false h1) ?_
 walk_at "go"
 by_cases h2:w = 2
 ·subst h2
  refine ifp rfl ?_
  walk_at "go"
  refine ⟨small (show 1 <= 1000 by decide),fun b hb=>?_⟩
  have t1:=same_new hb (.lst [.int 99])
  walk_at "go"
  refine ⟨t,b,_,_,rfl,rfl,ne_of_none ht hb,t1 _ _ ht,upd_same,by rw [PySem.sizeLine_eq]; simp; omega,fun ys _=>?_⟩
  walk_at "go"
  refine ifq rfl ?_
  exact q _ (bump (SameBut1.of t1))
 refine ifq (decide_eq_false h2) ?_
 walk_at "go"
 by_cases h3:w = 3
 ·subst h3
  refine ifp rfl ?_
  walk_at "go"
  refine ⟨SqL.ty (SqL.of ht),?_⟩
  walk_at "go"
  refine ⟨t,_,rfl,rfl,ht,?_⟩
  exact q _ SameBut1.upd
 refine ifq (decide_eq_false h3) ?_
 exact q _ (SameBut1.refl _ _)
theorem sc_law_looked:FnScope ["pool","grower","k","row","held","last","many","begin","turn","way","may","told"] ["pool","grower","k","row","held"] (defScope d_law_looked):=⟨rfl,rfl,rfl,by decide +kernel,rfl,by decide +kernel,by decide +kernel⟩
theorem ok_law_looked (F : Fun K "_law_looked" "_law_looked" d_law_looked f fd) (T : Txt K mg aK cs aC) (U_law_draw : FnU P w K mg base k "_law_draw" ["pool", "many"] (spDraw)) (U_law_stacks : FnU P w K mg base k "_law_stacks" ["k", "row"] (spStacks42)) (U_Grower_may_go_on : MeUE P w K mg base k aC "may_go_on" ["self"] (spGGoOn aC)) (U_Grower_depths : MeUE P w K mg base k aC "depths" ["self"] (spGDepths aC)) (U_Grower_fewest_more : MeUE P w K mg base k aC "fewest_more" ["self"] (spGFewest aC)) (U_law_spoil : FnU P w K mg base k "_law_spoil" ["way", "told", "odd"] (spSpoil42)) (U_Grower_row : MeU P w K mg base k aC "row" ["self"] (spGRow aC)) (U_law_whole : FnU P w K mg base k "_law_whole" ["found", "due"] (spWhole42)) (U_Grower_how_many : MeUE P w K mg base k aC "how_many" ["self"] (spGMany aC)) : FnOk P w K mg base (CXE P w) (k + 1) f fd ["pool", "grower", "k", "row", "held"] (spLooked42 aC) := by
  refine F.okE sc_law_looked (fun vs H Q E h => ?_) (fun cdv A outer s H vs Q E hr h => ?_)
  · obtain ⟨p, g, k, a, hd, hs, bad, rfl, _⟩ := h; rfl
  obtain ⟨p, g, kk, a, hd, hs, bad, rfl, hp, hg, ngp, nhp, ngh, k1, k4, hro, hcn, hh, hhl, hok, pb, hb, hbad, q⟩ := h
  have hu := hr.units0
  have hu2 := units1 hr
  have hl := isRow_len hro
  have hk4 : kk.toNat <= 4 := by omega
  have fr : ∀ {G : Hp} {x : Addr}, KB [p, hd] H G -> G p ≠ none -> G hd ≠ none -> G x = none -> x ∉ bad /\ H x = none := fun {G x} s h1 h2 h => by
    have hx : H x = none := by
      cases e : H x with
      | none => rfl
      | some o =>
        by_cases e1 : x = p
        · exact absurd (e1 ▸ h) h1
        · by_cases e2 : x = hd
          · exact absurd (e2 ▸ h) h2
          · rw [s x o e (by simp [e1, e2])] at h; cases h
    refine ⟨fun z => ?_, hx⟩
    obtain ⟨o, e⟩ := hbad x z
    rw [e] at hx; cases hx
  have pn : ∀ {G : Hp}, Po G p -> G p ≠ none := fun {G} h => by obtain ⟨x, y, z, e⟩ := h; rw [e]; simp
  refine nox_ex ⟨_, (pss_cons (ps_set (i := 5) sc_law_looked.nd rfl (Or.inl rfl) (pe_ix (ix_A K) (pe_fn U_law_stacks hr (pa_cons (pv 2) (pa_cons (pv 3) pa_nil))) (pe_un un_neg pe_int) (fun _ _ => rfl)))  (pss_cons (ps_set (i := 6) sc_law_looked.nd rfl (Or.inl rfl) (pe_ssetB K T.n_set T.n_sorted hr rfl (pe_comp (own := ["waiting"]) (sel := []) (compOk_of (osc := (defScope d_law_looked)) (N := ["pool", "grower", "k", "row", "held", "last", "many", "begin", "turn", "way", "may", "told"]) (by decide +kernel)) rfl (pi_dict (pv 5)) (fun _ _ _ _ _ => (pg_name (i := 0) (show (["waiting"] : List Str).Nodup from by decide +kernel) rfl (Or.inl rfl))) (gk_name (by decide)) (fun _ _ _ _ _ => pif_nil) (fun _ _ _ _ _ => (pe_callB (call_lenA K) rfl T.n_len PySem.boot_len (pa_cons (pv 0) pa_nil))))))  (pss_cons (ps_set (i := 7) sc_law_looked.nd rfl (Or.inl rfl) (pe_fn U_law_draw hr (pa_cons (pv 0) (pa_cons pe_int pa_nil))))  (pss_cons (ps_for PassesOwn.never rfl (pi_range1 rfl T.n_range (pa_cons (pe_op op_plus pe_int (pe_fn U_law_draw hr (pa_cons (pv 0) (pa_cons pe_int pa_nil)))) pa_nil)) (pg_name (i := 8) sc_law_looked.nd rfl (Or.inl rfl))   (pss_cons (ps_set (i := 9) sc_law_looked.nd rfl (Or.inl rfl) (pe_op op_mod (pe_op op_plus (pv 7) (pv 8)) pe_int))  (pss_cons (ps_if (PW.pt (pw_or (PW.pt (pw_and (pt_cmpR (op_eqA K hu) (pv 9) pe_int (nomark _)) (pw_and1 (pt_cmpR (op_neA K hu) (pe_mth0 T.cl_Grower U_Grower_row hr (pv 1)) (pv 3) (nomark _))))) (pw_or1 (PW.pt (pw_and (pt_cmpR (op_eqA K hu) (pv 9) pe_int (nomark _)) (pw_and1 (pt_not (pt_tru K (pe_fn U_law_whole hr (pa_cons (pe_mth0E T.cl_Grower U_Grower_how_many hr xf_no (pv 1)) (pa_cons (pe_dget2 hu2 (pv 5) (pe_tx (l := []) (by decide +kernel)) pe_int ⟨rfl, rfl, rfl, rfl⟩) pa_nil)))))))))))   (pss_one (ps_ret pe_bl))   pss_nil)  (pss_cons (ps_if (pt_cmpR (op_eqA K hu) (pv 9) pe_int (nomark _))   (pss_cons (ps_set (i := 10) sc_law_looked.nd rfl (Or.inl rfl) (pe_mth0E T.cl_Grower U_Grower_may_go_on hr xf_no (pv 1)))  (pss_one (ps_if (PW.pt (pw_or (pt_not (pt_tru K (pe_callB (call_isiA K) rfl T.n_isinstance PyProof.Rows.boot_isinstance (pa_cons (pv 10) (pa_cons (pe_ty T.n_bool PyProof.Rows.boot_bool) pa_nil))))) (pw_or1 (pt_cmpR (op_neA K hu) (pv 10) (pe_cmpR (op_neA K hu) (pv 6) (pe_lst pa_nil) (nomark _)) (nomark _)))))   (pss_one (ps_ret pe_bl))   pss_nil)))   pss_nil)  (pss_cons (ps_if (pt_cmpR (op_eqA K hu) (pv 9) pe_int (nomark _))   (pss_cons (ps_set (i := 11) sc_law_looked.nd rfl (Or.inl rfl) (pe_mth0E T.cl_Grower U_Grower_depths hr xf_no (pv 1)))  (pss_cons (ps_if (PW.pt (pw_or (pt_not (pt_tru K (pe_callB (call_isiA K) rfl T.n_isinstance PyProof.Rows.boot_isinstance (pa_cons (pv 11) (pa_cons (pe_ty T.n_list PyProof.Rows.boot_list) pa_nil))))) (pw_or (pt_cmpR (op_neA K hu) (pv 11) (pv 6) (nomark _)) (pw_or1 (pt_cmpR (op_neA K hu) (pe_comp (own := ["one"]) (sel := []) (compOk_of (osc := (defScope d_law_looked)) (N := ["pool", "grower", "k", "row", "held", "last", "many", "begin", "turn", "way", "may", "told"]) (by decide +kernel)) rfl (pi_listK K (pv 11)) (fun _ _ _ _ _ => (pg_name (i := 0) (show (["one"] : List Str).Nodup from by decide +kernel) rfl (Or.inl rfl))) (gk_name (by decide)) (fun _ _ _ _ _ => pif_one (pt_tru K (pe_callB (call_isiA K) rfl T.n_isinstance PyProof.Rows.boot_isinstance (pa_cons (pv 0) (pa_cons (pe_ty T.n_bool PyProof.Rows.boot_bool) pa_nil))))) (fun _ _ _ _ _ => pe_int)) (pe_lst pa_nil) (nomark _))))))   (pss_one (ps_ret pe_bl))   pss_nil)  (pss_one (ps_if (pt_cmpR (op_eqA K hu) (pe_fn U_law_draw hr (pa_cons (pv 0) (pa_cons pe_int pa_nil))) pe_int (nomark _))   (pss_one (ps_expr (pe_fn U_law_spoil hr (pa_cons (pe_fn U_law_draw hr (pa_cons (pv 0) (pa_cons pe_int pa_nil))) (pa_cons (pv 11) (pa_cons pe_int pa_nil))))))   (pss_one (ps_expr (pe_bmK K PySem.F.plainAttrs_list PySem.F.slot_list_append PySem.F.type_list_append mt_append (pv 4) (pa_cons (pe_tup (pa_cons (pv 11) (pa_cons (pv 6) pa_nil))) pa_nil))))))))   pss_nil)  (pss_one (ps_if (pt_cmpR (op_eqA K hu) (pv 9) pe_int (nomark _))   (pss_cons (ps_set (i := 11) sc_law_looked.nd rfl (Or.inl rfl) (pe_mth0E T.cl_Grower U_Grower_fewest_more hr xf_no (pv 1)))  (pss_one (ps_if (PW.pt (pw_or (PW.pt (pw_and (pt_cmpR (op_eqA K hu) (pv 6) (pe_lst pa_nil) (nomark _)) (pw_and1 (pt_cmpR op_isnotA (pv 11) pe_non (nomark _))))) (pw_or1 (PW.pt (pw_and (pt_cmpR (op_neA K hu) (pv 6) (pe_lst pa_nil) (nomark _)) (pw_and1 (pt_not (pt_tru K (pe_fn U_law_whole hr (pa_cons (pv 11) (pa_cons (pe_ix (ix_A K) (pv 6) pe_int (fun _ _ => rfl)) pa_nil)))))))))))   (pss_one (ps_ret pe_bl))   pss_nil)))   pss_nil)))))))  (pss_one (ps_ret pe_bl)))))), ?_⟩
  walk_at "go"
  refine stacks42_use k1 k4 hro hcn (fun L d ds es H1 s1 hL hd1 hdn wf gd hsum hlen => ?_)
  walk_at "go"
  refine s_ixL (SqL.of hL) (last_at ds _) ?_
  walk_at "go"
  refine ⟨d, enc es, rfl, hd1, fun o => ?_⟩
  have gD : (upd H1 d (.frz o (.dK (enc es)))) d = some (.frz o (.dK (enc es))) := upd_same
  have sG : Same H (upd H1 d (.frz o (.dK (enc es)))) := fun b ob z => by
    rw [upd_ne (ne_of_none z hdn)]; exact s1 b ob z
  generalize upd H1 d _ = G at *
  refine comp_dict lenK (by rw [enc_len]; exact small (by omega)) gD ?_ ?_
  rotate_left
  · intro D3 i key v H3 R hD3 hk s3 hR
    obtain ⟨⟨st, cc⟩, he, hkv⟩ : ∃ e, es[i]? = some e /\ (kst e.1, V.int e.2) = (key, v) := by
      unfold enc at hk
      rw [List.getElem?_map] at hk
      exact Option.map_eq_some_iff.mp hk
    obtain ⟨rfl, rfl⟩ := Prod.mk.inj hkv
    obtain ⟨_, hsl⟩ := gd _ (List.mem_of_getElem? he)
    have hsl : st.length <= a.length := hsl
    have hcl := cst_len st
    rw [kst_tx]
    walk_at "go"
    first | refine s_lenT (small (show (cst st).length <= 1000 by omega)) ?_ | skip
    have := hR H3 (Same.refl _)
    unfold kst lenK at this
    simpa using this
  intro D3 H3 hD3 s3 hy3
  rw [lenK_map] at hy3
  have hmem := lens_dep hk4 wf gd hsum
  have hln : (es.map fun e => (e.1.length : Int)).length <= 25 := by rw [List.length_map]; exact hlen
  generalize (es.map fun e => (e.1.length : Int)) = ms at *
  walk_at "go"
  refine ⟨D3, ms, rfl, SqL.of hy3, by omega, fun x hx => ?_, fun m ns hm hpw hmm hle => ?_⟩
  · have := ((hmem x).mp hx).bound
    omega
  have dl : DL kk.toNat a ns := ⟨hpw, fun x => (hmm x).trans (hmem x), hle⟩
  have t4 := same_new hm (.lst (ns.map V.int))
  have gm : (upd H3 m (.lst (ns.map V.int))) m = some (iL ns) := upd_same
  have u4 : Same H (upd H3 m (.lst (ns.map V.int))) := sG.trans (s3.trans t4)
  have gd4 := t4 _ _ (s3 _ _ gD)
  have hmH : H m = none := (sG.trans s3).free hm
  have hmb : m ∉ bad := fun z => by obtain ⟨o', e⟩ := hbad m z; rw [e] at hmH; cases hmH
  generalize upd H3 m _ = G4 at *
  have hdb : d ∉ bad := fun z => by obtain ⟨o', e⟩ := hbad d z; rw [e] at hdn; cases hdn
  have ecn : gt es [] = cnt kk.toNat a := by
    have h0 := hsum []
    rw [List.append_nil] at h0
    rw [cnt_ws, <- h0, <- sf_one [] wf]
    congr 1
    funext st
    cases st <;> rfl
  walk_at "go"
  refine draw_use (hp.same u4) (by decide) (by decide) (fun r5 H5 r50 r51 d5 s5 => ?_)
  walk_at "go"
  refine draw_use d5 (by decide) (by decide) (fun r6 H6 r60 r61 d6 s6 => ?_)
  have k6 : KB [p, hd] H H6 := ((((KB.refl [p, hd] H).s u4).one s5 (by simp)).one s6 (by simp))
  have mp : m ≠ p := fun z => hmb (z ▸ pb)
  have mh : m ≠ hd := fun z => hmb (z ▸ hb)
  have dp' : d ≠ p := fun z => hdb (z ▸ pb)
  have dh : d ≠ hd := fun z => hdb (z ▸ hb)
  have gm6 := s6 _ _ (s5 _ _ gm mp) mp
  have gd6 := s6 _ _ (s5 _ _ gd4 dp') dp'
  have hh6 := s6 _ _ (s5 _ _ (u4 _ _ hh) nhp) nhp
  have hg6 := ((hg.same u4).but s5 ngp).but s6 ngp
  have ok6 := hok.keep (k6.mono (by intro x hx; rcases List.mem_cons.mp hx with rfl | hx; exact pb; rw [List.mem_singleton.mp hx]; exact hb))
  walk_at "go"
  refine ⟨_, rfl, by omega, by omega, ?_⟩
  refine for_rng (fun t σ H' => ∃ (hs' : List V) (o8 o9 o10 o11 : Option V), σ = [some (.ref p), some (.ref g), some (.int kk), some (tx a), some (.ref hd), some (.ref d), some (.ref m), some (.int r5), o8, o9, o10, o11] /\ Po H' p /\ KB [p, hd] H H' /\ H' hd = some (.lst hs') /\ hs'.length <= hs.length + t /\ HdOk bad H' hs' /\ GrO aC H' g kk a /\ H' m = some (iL ns) /\ H' d = some (.frz o (.dK (enc es)))) ⟨hs, _, _, _, _, rfl, d6, k6, hh6, Nat.le_add_right _ _, ok6, hg6, gm6, gd6⟩ ?_ ?_
  rotate_left
  · rintro σ H7 ⟨hs', o8, o9, o10, o11, rfl, d7, k7, hh7, hl7, ok7, hg7, gm7, gd7⟩
    walk_at "go"
    exact q hs' H7 d7 k7 hh7 (by omega) ok7
  rintro t σ H7 ht ⟨hs', o8, o9, o10, o11, rfl, d7, k7, hh7, hl7, ok7, hg7, gm7, gd7⟩
  walk_at "go"
  obtain ⟨dx, e7⟩ := id hg7
  have hw0 : 0 <= (r5 + (0 + (t : Int))) % 5 := Int.emod_nonneg _ (by decide)
  have hw5 : (r5 + (0 + (t : Int))) % 5 < 5 := Int.emod_lt_of_pos _ (by decide)
  generalize (r5 + (0 + (t : Int))) % 5 = w at hw0 hw5 ⊢
  have hw : w = 0 \/ w = 1 \/ w = 2 \/ w = 3 \/ w = 4 := by omega
  rcases hw with rfl | rfl | rfl | rfl | rfl
  · refine ifp rfl ?_
    walk_at "go"
    refine ⟨g, dx, _, rfl, e7, rfl, ?_⟩
    walk_at "go"
    refine gRow_use hg7 ?_
    walk_at "go"
    refine ifq (by simp) ?_
    walk_at "go"
    repeat (refine ifq rfl ?_; walk_at "go")
    exact ⟨hs', _, _, _, _, rfl, d7, k7, hh7, by omega, ok7, hg7, gm7, gd7⟩
  · refine ifq rfl ?_
    refine ifq rfl ?_
    walk_at "go"
    refine ifp rfl ?_
    walk_at "go"
    refine ⟨g, dx, _, rfl, e7, rfl, ?_⟩
    walk_at "go"
    refine ⟨g, kk, a, gAsk hg7 k1 k4 hro, fun H8 s8 => ?_⟩
    walk_at "go"
    refine ⟨d, rfl, .inl ⟨_, .inr ⟨o, s8 _ _ gd7⟩⟩, ?_⟩
    walk_at "go"
    refine ⟨_, .inl ⟨enc es, kst [], .inr ⟨o, s8 _ _ gd7⟩, rfl, rfl⟩, ?_⟩
    rw [val_gt (by intro p hp; cases hp) wf, ecn]
    refine ⟨_, _, rfl, ?_⟩
    walk_at "go"
    rw [decide_eq_true rfl]
    refine ifq rfl ?_
    walk_at "go"
    repeat (refine ifq rfl ?_; walk_at "go")
    exact ⟨hs', _, _, _, _, rfl, d7.same s8, k7.s s8, s8 _ _ hh7, by omega, ok7.keep ((KB.refl _ _).s s8), hg7.same s8, s8 _ _ gm7, s8 _ _ gd7⟩
  · refine ifq rfl ?_
    refine ifq rfl ?_
    walk_at "go"
    refine ifq rfl ?_
    refine ifq rfl ?_
    walk_at "go"
    refine ifp rfl ?_
    walk_at "go"
    refine ⟨g, dx, _, rfl, e7, rfl, ?_⟩
    walk_at "go"
    refine ⟨g, kk, a, gAsk hg7 k1 k4 hro, fun H8 s8 => ?_⟩
    walk_at "go"
    refine s_isi (b := true) (TyOf.bl _) (by with_unfolding_all rfl) ?_
    walk_at "go"
    refine ifq rfl ?_
    walk_at "go"
    refine ⟨small (Nat.zero_le _), fun e he => ?_⟩
    have t9 := same_new he (.lst [])
    refine s_neL (SqL.of (t9 _ _ (s8 _ _ gm7))) (SqL.of upd_same) (flat_ints _) rfl ?_
    rw [eqVs_nil]
    have egb : (!decide (ns = [])) = goB kk.toNat a := by
      rw [<- dl.goes]
      cases ns <;> simp
    rw [egb]
    have s9 := s8.trans t9
    generalize upd H8 e _ = G9 at *
    walk_at "go"
    rw [decide_eq_true rfl]
    refine ifq rfl ?_
    walk_at "go"
    repeat (refine ifq rfl ?_; walk_at "go")
    exact ⟨hs', _, _, _, _, rfl, d7.same s9, k7.s s9, s9 _ _ hh7, by omega, ok7.keep ((KB.refl _ _).s s9), hg7.same s9, s9 _ _ gm7, s9 _ _ gd7⟩
  · refine ifq rfl ?_
    refine ifq rfl ?_
    walk_at "go"
    refine ifq rfl ?_
    refine ifq rfl ?_
    walk_at "go"
    refine ifq rfl ?_
    walk_at "go"
    refine ifp rfl ?_
    walk_at "go"
    refine ⟨g, dx, _, rfl, e7, rfl, ?_⟩
    walk_at "go"
    refine ⟨g, kk, a, gAsk hg7 k1 k4 hro, fun tl ms8 H8 htl s8 gtl D8 => ?_⟩
    have e : ms8 = ns := DL.uniq (k := 0) (a := []) D8.1 dl.1 fun x => (D8.2.1 x).trans (dl.2.1 x).symm
    subst e
    obtain ⟨htb, htH⟩ := fr k7 (pn d7) (by rw [hh7]; simp) htl
    walk_at "go"
    refine s_isi (b := true) (TyOf.lst gtl) (by with_unfolding_all rfl) ?_
    walk_at "go"
    refine ifq rfl ?_
    walk_at "go"
    refine s_neL (SqL.of gtl) (SqL.of (s8 _ _ gm7)) (flat_ints _) (flat_ints _) ?_
    rw [eqVs_refl_ints]
    walk_at "go"
    refine ifq rfl ?_
    walk_at "go"
    refine ⟨tl, rfl, ⟨_, SqL.of gtl⟩, ?_⟩
    refine comp_none gtl (fun D H' hD sH hD' => ?_) (fun D j x H' R hD hx sH hR => ?_)
    rotate_left
    · obtain ⟨i, rfl⟩ : ∃ i, x = .int i := by
        rw [List.getElem?_map] at hx
        obtain ⟨i, _, e⟩ := Option.map_eq_some_iff.mp hx
        exact ⟨i, e.symm⟩
      walk_at "go"
      refine s_isi (b := false) (TyOf.int _) (by with_unfolding_all rfl) ?_
      walk_at "go"
      exact hR _ _ (Same.refl _)
    walk_at "go"
    refine ⟨small (Nat.zero_le _), fun e he => ?_⟩
    have t9 := same_new he (.lst [])
    refine s_neL (SqL.of (t9 _ _ hD')) (SqL.of upd_same) rfl rfl ?_
    have s9 := (s8.trans sH).trans t9
    have gt9 := t9 _ _ (sH _ _ gtl)
    generalize upd H' e _ = G9 at *
    walk_at "go"
    refine ifq rfl ?_
    walk_at "go"
    refine draw_use (d7.same s9) (by decide) (by decide) (fun r10 H10 r100 r101 d10 s10 => ?_)
    walk_at "go"
    have ntp : tl ≠ p := fun z => htb (z ▸ pb)
    have nth : tl ≠ hd := fun z => htb (z ▸ hb)
    have ntg : tl ≠ g := ne_of (s10 _ _ gt9 ntp) (s10 _ _ (s9 _ _ e7) ngp) (fun z => by cases z)
    have ntm : tl ≠ m := (ne_of_none gm7 htl).symm
    have ntd : tl ≠ d := (ne_of_none gd7 htl).symm
    have gt10 := s10 _ _ gt9 ntp
    have hh10 := s10 _ _ (s9 _ _ hh7) nhp
    have k10 : KB [p, hd] H7 H10 := ((KB.refl [p, hd] H7).s s9).one s10 (by simp)
    have mono : ∀ x ∈ [p, hd], x ∈ bad := by intro x hx; rcases List.mem_cons.mp hx with rfl | hx; exact pb; rw [List.mem_singleton.mp hx]; exact hb
    have ok10 := ok7.keep (k10.mono mono)
    have hg10 := (hg7.same s9).but s10 ngp
    have gm10 := s10 _ _ (s9 _ _ gm7) mp
    have gd10 := s10 _ _ (s9 _ _ gd7) dp'
    refine ifd (fun h11 => ?_) (fun h11 => ?_)
    · walk_at "go"
      refine draw_use d10 (by decide) (by decide) (fun r11 H11 r110 r111 d11 s11 => ?_)
      walk_at "go"
      refine ⟨r11, tl, _, rfl, s11 _ _ gt10 ntp, by rw [List.length_map]; exact dl.2.2, fun H12 s12 => ?_⟩
      walk_at "go"
      refine ifq rfl ?_
      walk_at "go"
      have k12 : KB [p, hd] H H12 := fun b o' z n => by
        have hz := s11 _ _ (k10 _ _ (k7 _ _ z n) n) (by simp at n; exact n.1)
        exact s12 _ _ hz fun w => by rw [w, htH] at z; cases z
      have kk12 : KB bad H7 H12 -> HdOk bad H12 hs' := fun z => ok7.keep z
      refine ⟨hs', _, _, _, _, rfl, d11.keep s12 ntp.symm, k12, s12 _ _ (s11 _ _ hh10 nhp) nth.symm, by omega, ?_, ((hg10.but s11 ngp).but s12 ntg.symm), s12 _ _ (s11 _ _ gm10 mp) ntm.symm, s12 _ _ (s11 _ _ gd10 dp') ntd.symm⟩
      refine ok7.keep fun b o' z n => ?_
      have hz := s11 _ _ ((k10.mono mono) _ _ z n) (fun w => n (w ▸ pb))
      exact s12 _ _ hz fun w => by rw [w, htl] at z; cases z
    · walk_at "go"
      refine ⟨.inl ⟨rfl, _, SqL.of hh10⟩, ?_⟩
      walk_at "go"
      refine ⟨small (show 2 <= 1000 by decide), fun T' hT => ?_⟩
      have t11 := same_new hT (.tup [.ref tl, .ref m])
      have gT : (upd H10 T' (.tup [.ref tl, .ref m])) T' = _ := upd_same
      have k10' : KB [p, hd] H H10 := fun b o' z n => k10 _ _ (k7 _ _ z n) n
      obtain ⟨hTb, hTH⟩ := fr k10' (pn d10) (by rw [hh10]; simp) hT
      have hh11 := t11 _ _ hh10
      have ok11 := ok10.keep ((KB.refl bad _).s t11)
      have d11 := d10.same t11
      have hg11 := hg10.same t11
      have gm11 := t11 _ _ gm10
      have gd11 := t11 _ _ gd10
      have gt11 := t11 _ _ gt10
      have k11 := k10'.s t11
      generalize upd H10 T' _ = G11 at *
      walk_at "go"
      refine ⟨hd, _, _, rfl, rfl, hh11, by rw [PySem.sizeLine_eq]; omega, ?_⟩
      walk_at "go"
      refine ifq rfl ?_
      walk_at "go"
      have sb : SameBut1 hd G11 (upd G11 hd (.lst (hs' ++ [.ref T']))) := SameBut1.upd
      have nTh : T' ≠ hd := fun z => hTb (z ▸ hb)
      refine ⟨hs' ++ [.ref T'], _, _, _, _, rfl, d11.keep sb nhp.symm, k11.one sb (by simp), upd_same, by rw [List.length_append, List.length_singleton]; omega, ?_, hg11.but sb ngh, sb _ _ gm11 mh, sb _ _ gd11 dh⟩
      refine (ok11.keep ((KB.refl bad _).one sb hb)).more hTb htb hmb (sb _ _ gT nTh) (sb _ _ gt11 nth) (sb _ _ gm11 mh)
  · refine ifq rfl ?_
    refine ifq rfl ?_
    walk_at "go"
    refine ifq rfl ?_
    refine ifq rfl ?_
    walk_at "go"
    refine ifq rfl ?_
    walk_at "go"
    refine ifq rfl ?_
    walk_at "go"
    refine ifp rfl ?_
    walk_at "go"
    refine ⟨g, dx, _, rfl, e7, rfl, ?_⟩
    walk_at "go"
    refine ⟨g, kk, a, gAsk hg7 k1 k4 hro, fun ms8 H8 s8 D8 => ?_⟩
    have e : ms8 = ns := DL.uniq (k := 0) (a := []) D8.1 dl.1 fun x => (D8.2.1 x).trans (dl.2.1 x).symm
    subst e
    walk_at "go"
    refine ⟨small (Nat.zero_le _), fun e he => ?_⟩
    have t9 := same_new he (.lst [])
    refine s_eqL (SqL.of (t9 _ _ (s8 _ _ gm7))) (SqL.of upd_same) (flat_ints _) rfl ?_
    rw [eqVs_nil]
    have s9 := s8.trans t9
    generalize upd H8 e _ = G9 at *
    walk_at "go"
    have fin : ∀ G, Same H7 G -> ∃ (hs'' : List V) (o8' o9' o10' o11' : Option V), [some (V.ref p), some (.ref g), some (.int kk), some (tx a), some (.ref hd), some (.ref d), some (.ref m), some (.int r5), some (.int (0 + (t : Int))), some (.int 4), o10, some (hdv ms8)] = [some (V.ref p), some (.ref g), some (.int kk), some (tx a), some (.ref hd), some (.ref d), some (.ref m), some (.int r5), o8', o9', o10', o11'] /\ Po G p /\ KB [p, hd] H G /\ G hd = some (.lst hs'') /\ hs''.length <= hs.length + (t + 1) /\ HdOk bad G hs'' /\ GrO aC G g kk a /\ G m = some (iL ms8) /\ G d = some (.frz o (.dK (enc es))) :=
      fun G s => ⟨hs', _, _, _, _, rfl, d7.same s, k7.s s, s _ _ hh7, by omega, ok7.keep ((KB.refl _ _).s s), hg7.same s, s _ _ gm7, s _ _ gd7⟩
    cases ms8 with
    | nil =>
      refine ifp rfl ?_
      walk_at "go"
      refine ifq rfl ?_
      walk_at "go"
      refine ⟨small (Nat.zero_le _), fun e he => ?_⟩
      have t10 := same_new he (.lst [])
      refine s_neL (SqL.of (t10 _ _ (s9 _ _ gm7))) (SqL.of upd_same) (flat_ints _) rfl ?_
      rw [eqVs_nil]
      have s10 := s9.trans t10
      generalize upd G9 e _ = G10 at *
      walk_at "go"
      refine ifq rfl ?_
      refine ifq rfl ?_
      walk_at "go"
      exact fin _ s10
    | cons n nr =>
      refine ifq rfl ?_
      refine ifq rfl ?_
      walk_at "go"
      refine ⟨small (Nat.zero_le _), fun e he => ?_⟩
      have t10 := same_new he (.lst [])
      refine s_neL (SqL.of (t10 _ _ (s9 _ _ gm7))) (SqL.of upd_same) (flat_ints _) rfl ?_
      rw [eqVs_nil]
      have s10 := s9.trans t10
      generalize upd G9 e _ = G10 at *
      walk_at "go"
      refine ifp rfl ?_
      walk_at "go"
      refine s_ixL (SqL.of (s10 _ _ gm7)) (v := .int n) (atI_0 _ _) ?_
      walk_at "go"
      refine ⟨n, n, rfl, ?_⟩
      rw [decide_eq_true rfl]
      walk_at "go"
      refine ifq rfl ?_
      walk_at "go"
      exact fin _ s10
theorem sc_law:FnScope ["script","k","pool","long","kinds","growers","rows","held","sign","looks","many","turn","at","word","due","right"] ["script"] (defScope d_law):=⟨rfl,rfl,rfl,by decide +kernel,rfl,by decide +kernel,by decide +kernel⟩
theorem ok_law (F:Fun K "law" "law" d_law f fd) (T:Txt K mg aK cs aC) (U_law_pool:FnU P w K mg base k "_law_pool" ["script","k"] (spPoolD K)) (U_law_draw:FnU P w K mg base k "_law_draw" ["pool","many"] (spDraw)) (U_Grower___init__:MkUE P w K mg base k aC ["self","k"] (spGInitE K cs aC)) (U_law_deed:FnU P w K mg base k "_law_deed" ["pool","k","row"] (spDeed42 K)) (U_law_looked:FnUE P w K mg base k "_law_looked" ["pool","grower","k","row","held"] (spLooked42 aC)) (U_Grower_put:MeUE P w K mg base k aC "put" ["self","sign"] (spGPutE K cs aC)) (U_law_caught:FnU P w K mg base k "_law_caught" ["grower","word","sign"] (spCaught42 K aC)) (U_Grower_row:MeU P w K mg base k aC "row" ["self"] (spGRow aC)):FnOk P w K mg base CX0 (k + 1) f fd ["script"] (spLaw K):=by
 refine F.ok sc_law (fun vs H Q E h=>?_) (fun cdv A outer s H vs Q E hr h=>?_)
 ·obtain ⟨a,ns,rfl,_⟩:=h; rfl
 obtain ⟨sa,ns,rfl,hS,h63,q⟩:=h
 have hu:=hr.units0
 refine ⟨_,(pss_cons (ps_for PassesOwn.never rfl (pi_range1 rfl T.n_range (pa_cons (pe_callB (call_maxA rfl) rfl T.n_max PyProof.Rows.boot_max (pa_cons pe_int (pa_cons (pe_callB (call_minA rfl) rfl T.n_min PyProof.Rows.boot_min (pa_cons pe_int (pa_cons (pe_callB (call_lenA K) rfl T.n_len PySem.boot_len (pa_cons (pv 0) pa_nil)) pa_nil))) pa_nil))) pa_nil)) (pg_name (i:=1) sc_law.nd rfl (Or.inl rfl))   (pss_cons (ps_set (i:=2) sc_law.nd rfl (Or.inr rfl) (pe_fn U_law_pool hr (pa_cons (pv 0) (pa_cons (pv 1) pa_nil))))  (pss_cons (ps_set (i:=3) sc_law.nd rfl (Or.inl rfl) (pe_op op_times (pe_fn U_law_draw hr (pa_cons (pv 2) (pa_cons pe_int pa_nil))) (pe_callTy call_intA rfl T.n_int PyProof.Rows.boot_int (pa_cons (pe_cmpR (op_eqA K hu) (pv 1) pe_int (nomark _)) pa_nil))))  (pss_cons (ps_setComp (i:=4) sc_law.nd rfl (Or.inl rfl) (own:=["turn"]) (sel:=[2]) (compOk_of (osc:=(defScope d_law)) (N:=["script","k","pool","long","kinds","growers","rows","held","sign","looks","many","turn","at","word","due","right"]) (by decide +kernel)) rfl (pi_range1 rfl T.n_range (pa_cons pe_int pa_nil)) (fun _ _ _ _ _=>(pg_name (i:=0) (show (["turn","pool"]:List Str).Nodup from by decide +kernel) rfl (Or.inl rfl))) (gk_name (by decide)) (fun _ _ _ _ _=>pif_nil) (fun _ _ _ _ _=>(pe_op op_plus pe_int (pe_fn U_law_draw hr (pa_cons (pv 1) (pa_cons pe_int pa_nil))))))  (pss_cons (ps_set (i:=5) sc_law.nd rfl (Or.inl rfl) (pe_lst (pa_cons (pe_mkeE U_Grower___init__ hr xf_no T.c_Grower (pa_cons (pe_ix (ix_A K) (pv 4) pe_int (fun _ _=>rfl)) pa_nil)) (pa_cons (pe_mkeE U_Grower___init__ hr xf_no T.c_Grower (pa_cons (pe_ix (ix_A K) (pv 4) pe_int (fun _ _=>rfl)) pa_nil)) pa_nil))))  (pss_cons (ps_set (i:=6) sc_law.nd rfl (Or.inl rfl) (pe_lst (pa_cons (pe_tx (l:=[]) (by decide +kernel)) (pa_cons (pe_tx (l:=[]) (by decide +kernel)) pa_nil))))  (pss_cons (ps_set (i:=7) sc_law.nd rfl (Or.inl rfl) (pe_lst pa_nil))  (pss_cons (ps_if (pt_cmpR (op_eqA K hu) (pe_fn U_law_draw hr (pa_cons (pv 2) (pa_cons pe_int pa_nil))) pe_int (nomark _))   (pss_cons (ps_asg (pe_ix (ix_A K) (pe_lst (pa_cons (pe_op op_times (pe_tx (l:=[40,41]) (by decide +kernel)) pe_int) (pa_cons (pe_op op_times (pe_tx (l:=[40]) (by decide +kernel)) pe_int) (pa_cons (pe_op op_plus (pe_op op_times (pe_tx (l:=[40,40]) (by decide +kernel)) pe_int) (pe_op op_times (pe_tx (l:=[41,41]) (by decide +kernel)) pe_int)) pa_nil)))) (pe_fn U_law_draw hr (pa_cons (pv 2) (pa_cons pe_int pa_nil))) (fun _ _=>rfl)) (pg_sub (pv 6) pe_int set_list))  (pss_one (ps_for PassesOwn.never rfl (pi_str (pe_ix (ix_A K) (pv 6) pe_int (fun _ _=>rfl))) (pg_name (i:=8) sc_law.nd rfl (Or.inl rfl))   (pss_one (ps_expr (pe_mthE T.cl_Grower U_Grower_put hr xf_no (pe_ix (ix_A K) (pv 5) pe_int (fun _ _=>rfl)) (pa_cons (pv 8) pa_nil)))))))   pss_nil)  (pss_cons (ps_set (i:=9) sc_law.nd rfl (Or.inl rfl) (pe_ix (ix_A K) (pe_lst (pa_cons pe_int (pa_cons pe_int (pa_cons pe_int (pa_cons (pe_op op_pow pe_int pe_int) pa_nil))))) (pe_fn U_law_draw hr (pa_cons (pv 2) (pa_cons pe_int pa_nil))) (fun _ _=>rfl)))  (pss_cons (ps_set (i:=10) sc_law.nd rfl (Or.inl rfl) (pe_op op_plus pe_int (pe_fn U_law_draw hr (pa_cons (pv 2) (pa_cons pe_int pa_nil)))))  (pss_cons (ps_if (PW.pt (pw_or (pt_cmpR (op_eqA K hu) (pv 3) pe_int (nomark _)) (pw_or1 (pt_cmpR (op_eqA K hu) (pv 3) pe_int (nomark _)))))   (pss_cons (ps_set (i:=10) sc_law.nd rfl (Or.inl rfl) (pe_ix (ix_A K) (pe_lst (pa_cons pe_int (pa_cons pe_int pa_nil))) (pe_op op_sub (pv 3) pe_int) (fun _ _=>rfl)))  (pss_one (ps_set (i:=9) sc_law.nd rfl (Or.inl rfl) (pe_callB (call_maxA rfl) rfl T.n_max PyProof.Rows.boot_max (pa_cons pe_int (pa_cons (pv 9) pa_nil))))))   pss_nil)  (pss_cons (ps_for PassesOwn.never rfl (pi_range1 rfl T.n_range (pa_cons (pv 10) pa_nil)) (pg_name (i:=11) sc_law.nd rfl (Or.inl rfl))   (pss_cons (ps_set (i:=12) sc_law.nd rfl (Or.inl rfl) (pe_callTy call_intA rfl T.n_int PyProof.Rows.boot_int (pa_cons (pe_cmpR (op_eqA K hu) (pe_fn U_law_draw hr (pa_cons (pv 2) (pa_cons pe_int pa_nil))) pe_int (nomark _)) pa_nil)))  (pss_cons (ps_asg (pe_fn U_law_deed hr (pa_cons (pv 2) (pa_cons (pe_ix (ix_A K) (pv 4) (pv 12) (fun _ _=>rfl)) (pa_cons (pe_ix (ix_A K) (pv 6) (pv 12) (fun _ _=>rfl)) pa_nil)))) (pg_tupK (n:=4) K rfl (pgs_cons (pg_name (i:=13) sc_law.nd rfl (Or.inl rfl)) (pgs_cons (pg_name (i:=8) sc_law.nd rfl (Or.inl rfl)) (pgs_cons (pg_name (i:=14) sc_law.nd rfl (Or.inl rfl)) (pgs_cons (pg_sub (pv 6) (pv 12) set_list) pgs_nil))))))  (pss_cons (ps_if (pt_cmpR (op_neU K hu) (pe_fn U_law_caught hr (pa_cons (pe_ix (ix_A K) (pv 5) (pv 12) (fun _ _=>rfl)) (pa_cons (pv 13) (pa_cons (pv 8) pa_nil)))) (pe_tup (pa_cons pe_non (pa_cons (pv 14) pa_nil))) (nomark _))   (pss_one (ps_ret pe_bl))   pss_nil)  (pss_cons (ps_set (i:=12) sc_law.nd rfl (Or.inl rfl) (pe_fn U_law_draw hr (pa_cons (pv 2) (pa_cons pe_int pa_nil))))  (pss_one (ps_if (pt_cmpR (op_eqA K hu) (pe_fn U_law_draw hr (pa_cons (pv 2) (pa_cons (pv 9) pa_nil))) pe_int (nomark _))   (pss_one (ps_if (pt_not (pt_tru K (pe_fnE U_law_looked hr xf_no (pa_cons (pv 2) (pa_cons (pe_ix (ix_A K) (pv 5) (pv 12) (fun _ _=>rfl)) (pa_cons (pe_ix (ix_A K) (pv 4) (pv 12) (fun _ _=>rfl)) (pa_cons (pe_ix (ix_A K) (pv 6) (pv 12) (fun _ _=>rfl)) (pa_cons (pv 7) pa_nil))))))))   (pss_one (ps_ret pe_bl))   pss_nil))   pss_nil)))))))  (pss_cons (ps_for PassesOwn.never rfl (pi_range1 rfl T.n_range (pa_cons pe_int pa_nil)) (pg_name (i:=12) sc_law.nd rfl (Or.inl rfl))   (pss_cons (ps_set (i:=15) sc_law.nd rfl (Or.inl rfl) (pe_fnE U_law_looked hr xf_no (pa_cons (pv 2) (pa_cons (pe_ix (ix_A K) (pv 5) (pv 12) (fun _ _=>rfl)) (pa_cons (pe_ix (ix_A K) (pv 4) (pv 12) (fun _ _=>rfl)) (pa_cons (pe_ix (ix_A K) (pv 6) (pv 12) (fun _ _=>rfl)) (pa_cons (pv 7) pa_nil)))))))  (pss_one (ps_if (PW.pt (pw_or (pt_not (pt_tru K (pv 15))) (pw_or1 (pt_cmpR (op_neA K hu) (pe_mth0 T.cl_Grower U_Grower_row hr (pe_ix (ix_A K) (pv 5) (pv 12) (fun _ _=>rfl))) (pe_ix (ix_A K) (pv 6) (pv 12) (fun _ _=>rfl)) (nomark _)))))   (pss_one (ps_ret pe_bl))   pss_nil))))  (pss_one (ps_if (pt_cmpR (op_neA K hu) (pe_comp (own:=["told","due"]) (sel:=[]) (compOk_of (osc:=(defScope d_law)) (N:=["script","k","pool","long","kinds","growers","rows","held","sign","looks","many","turn","at","word","due","right"]) (by decide +kernel)) rfl (pi_listK K (pv 7)) (fun _ _ _ _ _=>(pg_tupK (n:=2) K rfl (pgs_cons (pg_name (i:=0) (show (["told","due"]:List Str).Nodup from by decide +kernel) rfl (Or.inl rfl)) (pgs_cons (pg_name (i:=1) (show (["told","due"]:List Str).Nodup from by decide +kernel) rfl (Or.inl rfl)) pgs_nil)))) (gk_tup (gk_cons gm_name (gm_cons gm_name gm_nil) (gk_name (by decide)) (gk_cons gm_name gm_nil (gk_name (by decide)) gk_nil))) (fun _ _ _ _ _=>pif_one (pt_cmpR (op_neA K hu) (pv 0) (pv 1) (nomark _))) (fun _ _ _ _ _=>(pv 0))) (pe_lst pa_nil) (nomark _))   (pss_one (ps_ret pe_bl))   pss_nil)))))))))))))))  (pss_one (ps_ret pe_bl))),?_⟩
 walk_at "go"
 refine s_lenL (.inl hS) ?_
 walk_at "go"
 refine ⟨_,rfl,by split <;> (try split) <;> omega,by rw [List.length_map]; split <;> (try split) <;> omega,?_⟩
 refine for_rng (fun i σ H'=>∃ (o1 o2 o3 o4 o5 o6 o7 o8 o9 o10 o11 o12 o13 o14 o15:Option V),σ = [some (.ref sa),o1,o2,o3,o4,o5,o6,o7,o8,o9,o10,o11,o12,o13,o14,o15]/\Same H H') ⟨_,_,_,_,_,_,_,_,_,_,_,_,_,_,_,rfl,Same.refl H⟩ ?_ ?_
 rotate_left
 ·rintro σ H1 ⟨o1,o2,o3,o4,o5,o6,o7,o8,o9,o10,o11,o12,o13,o14,o15,rfl,s1⟩
  walk_at "go"
  exact q _
 rintro i σ H1 hi ⟨o1,o2,o3,o4,o5,o6,o7,o8,o9,o10,o11,o12,o13,o14,o15,rfl,s1⟩
 have hi10:i < 8:=by
  rw [List.length_map] at hi
  revert hi; split <;> (try split) <;> omega
 have ei:(0:Int) + (i:Int) = (i:Int):=by omega
 rw [ei]
 walk_at "go"
 refine poolD_use (s1.seq hS) (by omega) (by omega) (fun p H2 hp2 s2 d2=>?_)
 have hHp:H p = none:=s1.free hp2
 have s12:=s1.trans s2
 walk_at "go"
 refine draw_use d2 (by decide) (by decide) (fun r3 H3 r30 r31 d3 s3=>?_)
 have u3:Same H H3:=Same.but s12 s3 hHp
 walk_at "go"
 obtain ⟨lg,elg,lg0,lg8⟩:∃ lg:Int,r3 * (if decide ((i:Int) = 0) = true then 1 else 0) = lg/\0 <= lg/\lg < 8:=by
  by_cases h:(i:Int) = 0
  ·exact ⟨r3,by simp [h],r30,r31⟩
  ·exact ⟨0,by rw [decide_eq_false h]; simp,by decide,by decide⟩
 rw [elg]
 clear elg
 refine ⟨_,rfl,by omega,by omega,?_⟩
 refine comp_rng (n:=2) (small (by decide)) (fun D j ys H'=>SameBut1 p H3 H'/\Po H' p/\∃ xs:List Int,ys = xs.map V.int/\xs.length = j/\∀ x ∈ xs,1 <= x/\x <= 4) (fun D hD=>⟨SameBut1.of (same_new hD _),d3.same (same_new hD _),[],rfl,rfl,(fun _ h=>nomatch h)⟩) (fun kl ys H4 hkl hy ⟨s4,d4,xs,ey,hxl,hx⟩=>?_) ?_
 rotate_left
 ·rintro D j ys H4 hD4 hj hy hyl ⟨s4,d4,xs,rfl,hxl,hx⟩
  have nD:D ≠ p:=d3.ne hD4
  walk_at "go"
  refine iteT ?_
  walk_at "go"
  refine draw_use d4 (by decide) (by decide) (fun r5 H5 r50 r51 d5 s5=>?_)
  walk_at "go"
  refine comp_next hj (small (by omega)) (s5 _ _ hy nD) hyl ⟨fun b o z n=>?_,d5.keep SameBut1.upd nD.symm,xs ++ [1 + r5],by rw [List.map_append]; rfl,by rw [List.length_append,hxl]; rfl,fun x hx'=>?_⟩
  ·rw [upd_ne (ne_of_none z hD4)]
   exact s5 _ _ (s4 _ _ z n) n
  ·rcases List.mem_append.mp hx' with z | z
   ·exact hx x z
   ·rw [List.mem_singleton.mp z]; omega
 subst ey
 obtain ⟨ks,eks⟩:∃ ks:Bool->Int,xs = [ks false,ks true]:=by
  match xs,hxl with
  | [x,y],_=>exact ⟨fun b=>if b then y else x,rfl⟩
 subst eks
 have hk:∀ b,1 <= ks b/\ks b <= 4:=fun b=>hx _ (by cases b <;> simp)
 have u4:Same H H4:=Same.but u3 s4 hHp
 have nkp:kl ≠ p:=d3.ne hkl
 clear hx hxl s4
 walk_at "go"
 refine s_ixL (SqL.of hy) (v:=.int (ks false)) rfl ?_
 walk_at "go"
 intro g0 dx0 hg0 hdx0 hne0
 have s0:Same H4 (upd (upd H4 dx0 (.own g0)) g0 (.ins aC dx0 [])):=fun x o z=>by rw [upd_ne (ne_of_none z hg0),upd_ne (ne_of_none z hdx0)]; exact z
 refine .inl (gInit_use (dx:=dx0) (hk false).1 (hk false).2 upd_same (fun H5 s5 g5=>?_))
 refine ⟨rfl,?_⟩
 have ng0:g0 ≠ p:=d4.ne hg0
 have hHg0:H g0 = none:=u4.free hg0
 have d5:Po H5 p:=(d4.same s0).keep s5 ng0.symm
 have u5:Same H H5:=fun x o z=>s5 x o (s0 x o (u4 x o z)) (ne_of_none z hHg0)
 have nkg0:kl ≠ g0:=ne_of_none hy hg0
 have hy5:=s5 _ _ (s0 _ _ hy) nkg0
 clear s0 s5
 walk_at "go"
 refine s_ixL (SqL.of hy5) (v:=.int (ks true)) rfl ?_
 walk_at "go"
 intro g1 dx1 hg1 hdx1 hne1
 have s0:Same H5 (upd (upd H5 dx1 (.own g1)) g1 (.ins aC dx1 [])):=fun x o z=>by rw [upd_ne (ne_of_none z hg1),upd_ne (ne_of_none z hdx1)]; exact z
 refine .inl (gInit_use (dx:=dx1) (hk true).1 (hk true).2 upd_same (fun H6 s6 g6=>?_))
 refine ⟨rfl,?_⟩
 have ng1:g1 ≠ p:=d5.ne hg1
 have hHg1:H g1 = none:=u5.free hg1
 have d6:Po H6 p:=(d5.same s0).keep s6 ng1.symm
 have u6:Same H H6:=fun x o z=>s6 x o (s0 x o (u5 x o z)) (ne_of_none z hHg1)
 have nkg1:kl ≠ g1:=ne_of_none hy5 hg1
 have hy6:=s6 _ _ (s0 _ _ hy5) nkg1
 have ng10:g1 ≠ g0:=by obtain ⟨dx,e⟩:=id g5; exact (ne_of_none e hg1).symm
 have g06:GrO aC H6 g0 (ks false) []:=by obtain ⟨dx,e⟩:=id g5; exact ⟨dx,s6 _ _ (s0 _ _ e) ng10.symm⟩
 clear s0 s6 g5 hy5
 walk_at "go"
 refine ⟨small (show 2 <= 1000 by decide),fun gl hgl=>?_⟩
 have t7:=same_new hgl (.lst [.ref g0,.ref g1])
 have e7:(upd H6 gl (.lst [.ref g0,.ref g1])) gl = _:=upd_same
 have ngp:gl ≠ p:=d6.ne hgl
 have nglk:gl ≠ kl:=(ne_of_none hy6 hgl).symm
 have nglg0:gl ≠ g0:=by obtain ⟨dx,e⟩:=id g06; exact (ne_of_none e hgl).symm
 have nglg1:gl ≠ g1:=by obtain ⟨dx,e⟩:=id g6; exact (ne_of_none e hgl).symm
 have d7:=d6.same t7
 have u7:=u6.trans t7
 have g07:=g06.same t7
 have g17:=g6.same t7
 have hy7:=t7 _ _ hy6
 generalize upd H6 gl _ = H7 at *
 clear d6 u6 g06 g6 hy6 t7
 walk_at "go"
 refine ⟨small (show 2 <= 1000 by decide),fun rw hrw=>?_⟩
 have t8:=same_new hrw (.lst [tx [],tx []])
 have e8:(upd H7 rw (.lst [tx [],tx []])) rw = _:=upd_same
 have nrp:rw ≠ p:=d7.ne hrw
 have nrk:kl ≠ rw:=ne_of_none hy7 hrw
 have nrgl:gl ≠ rw:=ne_of_none e7 hrw
 have nrg0:g0 ≠ rw:=by obtain ⟨dx,e⟩:=id g07; exact ne_of_none e hrw
 have nrg1:g1 ≠ rw:=by obtain ⟨dx,e⟩:=id g17; exact ne_of_none e hrw
 have hHr:H rw = none:=u7.free hrw
 have d8:=d7.same t8
 have u8:=u7.trans t8
 have g08:=g07.same t8
 have g18:=g17.same t8
 have hy8:=t8 _ _ hy7
 have e78:=t8 _ _ e7
 generalize upd H7 rw _ = H8 at *
 clear d7 u7 g07 g17 hy7 e7 t8
 walk_at "go"
 refine ⟨small (show 0 <= 1000 by decide),fun hd hhd=>?_⟩
 have t9:=same_new hhd (.lst [])
 have e9:(upd H8 hd (.lst [])) hd = _:=upd_same
 obtain ⟨g,eg0,eg1⟩:∃ g:Bool->Addr,g false = g0/\g true = g1:=⟨fun b=>if b then g1 else g0,rfl,rfl⟩
 have N:N42 H p kl gl rw hd g ks:=by
  have nhg0:g0 ≠ hd:=by obtain ⟨dx,e⟩:=id g08; exact ne_of_none e hhd
  have nhg1:g1 ≠ hd:=by obtain ⟨dx,e⟩:=id g18; exact ne_of_none e hhd
  refine ⟨nkp,ngp,nrp,d8.ne hhd,?_,nrk,nrgl,(ne_of_none e8 hhd).symm,?_,ne_of_none hy8 hhd,ne_of_none e78 hhd,?_,?_,?_,by rw [eg0,eg1]; exact ng10,hHp,hHr,u8.free hhd,?_,fun b=>(hk b).1,fun b=>(hk b).2⟩ <;> intro b <;> cases b <;> (try rw [eg0]) <;> (try rw [eg1]) <;> assumption
 have W:W42 aC H (upd H8 hd (.lst [])) p kl gl rw hd g ks (fun _=>[]) []:=by
  refine ⟨d8.same t9,u8.trans t9,?_,t9 _ _ hy8,?_,t9 _ _ e8,e9,(fun _ h=>nomatch h),fun b=>rfl,fun b=>Nat.zero_le _⟩
  ·intro b
   cases b
   ·rw [eg0]; exact g08.same t9
   ·rw [eg1]; exact g18.same t9
  ·rw [eg0,eg1]; exact t9 _ _ e78
 clear ng10 nrg1 nrg0 nrgl nrk nrp hHr nglg1 nglg0 nglk ngp ng1 hHg1 nkg1 ng0 hHg0 nkg0 nkp d8 u8 g08 g18 hy8 e78 e8 e9 hdx0 hdx1 hne0 hne1 hg0 hg1 hgl hrw hhd t9 d2 d3 d4 d5 u3 u4 u5 hy s2 s3 s12
 generalize upd H8 hd _ = H9 at *
 walk_at "go"
 refine draw_use W.po (by decide) (by decide) (fun r10 H10 _ _ d10 s10=>?_)
 have W:=W.draw N s10 d10
 clear s10 d10
 walk_at "go"
 refine if_join (fun σ' H'=>∃ (o8:Option V) (a:Bool->List Nat),σ' = [some (.ref sa),some (.int (i:Int)),some (.ref p),some (.int lg),some (.ref kl),some (.ref gl),some (.ref rw),some (.ref hd),o8,o9,o10,o11,o12,o13,o14,o15]/\W42 aC H H' p kl gl rw hd g ks a []) ?_ ?_ (fun _=>⟨_,_,rfl,W⟩)
 rotate_left
 ·intro hc NX hN
  clear hc
  walk_at "go"
  refine s_mulT (by decide) (by decide) (by decide) ?_
  walk_at "go"
  refine s_mulT (by decide) (by decide) (by decide) ?_
  walk_at "go"
  refine s_mulT (by decide) (by decide) (by decide) ?_
  walk_at "go"
  refine s_mulT (by decide) (by decide) (by decide) ?_
  walk_at "go"
  refine s_addT (small (by decide)) ?_
  walk_at "go"
  have A1:∀ c ∈ (List.replicate (19:Int).toNat [40,41]).flatten,c = 40\/c = 41:=by decide
  have B1:(List.replicate (19:Int).toNat [40,41]).flatten.length = 38:=by decide
  have A2:∀ c ∈ (List.replicate (38:Int).toNat [40]).flatten,c = 40\/c = 41:=by decide
  have B2:(List.replicate (38:Int).toNat [40]).flatten.length = 38:=by decide
  have A3:∀ c ∈ (List.replicate (10:Int).toNat [40,40]).flatten ++ (List.replicate (9:Int).toNat [41,41]).flatten,c = 40\/c = 41:=by decide
  have B3:((List.replicate (10:Int).toNat [40,40]).flatten ++ (List.replicate (9:Int).toNat [41,41]).flatten).length = 38:=by decide
  generalize (List.replicate (19:Int).toNat [40,41]).flatten = p1 at A1 B1 ⊢
  generalize (List.replicate (38:Int).toNat [40]).flatten = p2 at A2 B2 ⊢
  generalize (List.replicate (10:Int).toNat [40,40]).flatten ++ (List.replicate (9:Int).toNat [41,41]).flatten = p3 at A3 B3 ⊢
  refine ⟨small (show 3 <= 1000 by decide),fun l11 hl11=>?_⟩
  have t11:=same_new hl11 (.lst [tx p1,tx p2,tx p3])
  have e11:(upd H10 l11 (.lst [tx p1,tx p2,tx p3])) l11 = _:=upd_same
  have n11:l11 ≠ p:=W.po.ne hl11
  have W:=W.same t11
  generalize upd H10 l11 _ = H11 at *
  clear t11
  walk_at "go"
  refine draw_use W.po (by decide) (by decide) (fun r12 H12 r120 r121 d12 s12=>?_)
  have W:=W.draw N s12 d12
  obtain ⟨pre,epre,hpre,lpre⟩:∃ pre:List Nat,atI [tx p1,tx p2,tx p3] r12 = some (tx pre)/\(∀ c ∈ pre,c = 40\/c = 41)/\pre.length = 38:=by
   have:r12 = 0\/r12 = 1\/r12 = 2:=by omega
   rcases this with rfl | rfl | rfl
   ·exact ⟨p1,rfl,A1,B1⟩
   ·exact ⟨p2,rfl,A2,B2⟩
   ·exact ⟨p3,rfl,A3,B3⟩
  walk_at "go"
  refine s_ixL (SqL.of (s12 _ _ e11 n11)) epre ?_
  clear s12 d12 A1 A2 A3 B1 B2 B3 epre e11 n11
  have k1:=N.k1 false
  have k4:=N.k4 false
  have s41:∀ c ∈ pre,c ∈ sgn (ks false):=fun c hc=>by
   have hk4:ks false = 1\/ks false = 2\/ks false = 3\/ks false = 4:=by omega
   rcases hpre c hc with rfl | rfl <;> rcases hk4 with e | e | e | e <;> rw [e] <;> decide
  have rpre:isRow (ks false) pre = true:=isRow_mk (by omega) s41
  have cpre:pre.count 63 <= 2:=by rw [List.count_eq_zero_of_not_mem]; decide; intro h; rcases hpre 63 h with z | z <;> cases z
  walk_at "go"
  refine ⟨rw,_,_,0,rfl,rfl,W.qr,rfl,?_⟩
  have e13:(upd H12 rw (.lst [tx pre,tx []])) rw = some (.lst [tx pre,tx []]):=upd_same
  walk_at "go"
  refine s_ixL (SqL.of e13) (v:=tx pre) rfl ?_
  walk_at "go"
  have g13:GrO aC (upd H12 rw (.lst [tx pre,tx []])) (g false) (ks false) (pre.take 0):=by
   obtain ⟨dx,e⟩:=W.gr false
   exact ⟨dx,by rw [upd_ne (N.ggr false)]; exact e⟩
  have q13:(upd H12 rw (.lst [tx pre,tx []])) gl = some (.lst [.ref (g false),.ref (g true)]):=by rw [upd_ne N.gr]; exact W.qg
  refine for_str (fun j σ' H'=>∃ (o8:Option V),σ' = [some (.ref sa),some (.int (i:Int)),some (.ref p),some (.int lg),some (.ref kl),some (.ref gl),some (.ref rw),some (.ref hd),o8,o9,o10,o11,o12,o13,o14,o15]/\SameBut1 (g false) (upd H12 rw (.lst [tx pre,tx []])) H'/\GrO aC H' (g false) (ks false) (pre.take j)) ⟨_,rfl,SameBut1.refl _ _,g13⟩ ?_ ?_
  ·rintro j c σ H14 hc ⟨o8,rfl,s14,g14⟩
   have hj:j < pre.length:=(List.getElem?_eq_some_iff.mp hc).1
   walk_at "go"
   refine s_ixL (SqL.of (s14 _ _ q13 (N.glg false))) (v:=.ref (g false)) rfl ?_
   walk_at "go"
   obtain ⟨dx14,e14⟩:=id g14
   refine ⟨g false,dx14,_,rfl,e14,rfl,?_⟩
   walk_at "go"
   refine .inl (gPut_use k1 k4 g14 (by rw [List.length_take]; omega) (s41 c (List.mem_of_getElem? hc)) (fun H15 s15 g15=>?_))
   walk_at "go"
   refine ⟨_,rfl,s14.trans s15,?_⟩
   rw [List.take_add_one,hc]
   exact g15
  rintro σ H14 ⟨o8,rfl,s14,g14⟩
  rw [List.take_length] at g14
  exact hN _ _ ⟨_,fun b=>if b = true then [] else pre,rfl,W.deed N false (a':=fun b=>if b = true then [] else pre) (fun x hx=>by cases x; exact absurd rfl hx; rfl) s14 g14 rpre cpre⟩
 rintro σ H11 ⟨o8,a,rfl,W⟩
 walk_at "go"
 refine ⟨small (show 4 <= 1000 by decide),fun l12 hl12=>?_⟩
 have t12:=same_new hl12 (.lst [V.int 1,V.int 2,V.int 5,V.int (10 ^ Int.toNat 9)])
 have e12:(upd H11 l12 (.lst [V.int 1,V.int 2,V.int 5,V.int (10 ^ Int.toNat 9)])) l12 = _:=upd_same
 have n12:l12 ≠ p:=W.po.ne hl12
 have W:=W.same t12
 generalize upd H11 l12 _ = H12 at *
 clear t12 hl12
 walk_at "go"
 refine draw_use W.po (by decide) (by decide) (fun r13 H13 r130 r131 d13 s13=>?_)
 have W:=W.draw N s13 d13
 obtain ⟨lk,elk,lk1,lk9⟩:∃ lk:Int,atI [V.int 1,V.int 2,V.int 5,V.int (10 ^ Int.toNat 9)] r13 = some (.int lk)/\1 <= lk/\lk <= 10 ^ 9:=by
  have:r13 = 0\/r13 = 1\/r13 = 2\/r13 = 3:=by omega
  rcases this with rfl | rfl | rfl | rfl
  ·exact ⟨1,rfl,by decide,by decide⟩
  ·exact ⟨2,rfl,by decide,by decide⟩
  ·exact ⟨5,rfl,by decide,by decide⟩
  ·exact ⟨10 ^ 9,rfl,by decide,by decide⟩
 walk_at "go"
 refine s_ixL (SqL.of (s13 _ _ e12 n12)) elk ?_
 clear s13 d13 elk e12 n12
 walk_at "go"
 refine draw_use W.po (by decide) (by decide) (fun r14 H14 r140 r141 d14 s14=>?_)
 have W:=W.draw N s14 d14
 clear s14 d14
 walk_at "go"
 have hmn:1 <= 1 + r14/\1 + r14 <= 300:=by omega
 generalize 1 + r14 = mn at hmn ⊢
 refine or_then (d:=decide (lg = 2)) (fun z=>?_) ?_
 ·walk_at "go"
  exact z
 refine if_join (fun σ' H'=>∃ (lk mn:Int),1 <= lk/\lk <= 10 ^ 9/\1 <= mn/\mn <= 300/\σ' = [some (.ref sa),some (.int (i:Int)),some (.ref p),some (.int lg),some (.ref kl),some (.ref gl),some (.ref rw),some (.ref hd),o8,some (.int lk),some (.int mn),o11,o12,o13,o14,o15]/\W42 aC H H' p kl gl rw hd g ks a []) ?_ ?_ (fun _=>⟨lk,mn,lk1,lk9,hmn.1,hmn.2,rfl,W⟩)
 rotate_left
 ·intro hc NX hN
  walk_at "go"
  refine ⟨small (show 2 <= 1000 by decide),fun l15 hl15=>?_⟩
  have t15:=same_new hl15 (.lst [V.int 90,V.int 300])
  have e15:(upd H14 l15 (.lst [V.int 90,V.int 300])) l15 = _:=upd_same
  have W:=W.same t15
  generalize upd H14 l15 _ = H15 at *
  walk_at "go"
  obtain ⟨m2,em2,m21,m22⟩:∃ m2:Int,atI [V.int 90,V.int 300] (lg - 1) = some (.int m2)/\1 <= m2/\m2 <= 300:=by
   have:lg = 1\/lg = 2:=by simpa using hc
   rcases this with rfl | rfl
   ·exact ⟨90,rfl,by decide,by decide⟩
   ·exact ⟨300,rfl,by decide,by decide⟩
  refine s_ixL (SqL.of e15) em2 ?_
  walk_at "go"
  refine hN _ _ ⟨_,m2,?_,?_,m21,m22,rfl,W⟩
  ·split <;> omega
  ·split <;> omega
 rintro σ H15 ⟨lk,mn,lk1,lk9,mn1,mn3,rfl,W⟩
 walk_at "go"
 refine ⟨_,rfl,by omega,by omega,?_⟩
 have obj:∀ {H':Hp} {a:Bool->List Nat} {hs:List V},W42 aC H H' p kl gl rw hd g ks a hs->∀ b ∈ bad42 p hd rw g,∃ o,H' b = some o:=fun {H' a hs} W b hb=>by
  simp only [bad42,List.mem_cons,List.not_mem_nil,or_false] at hb
  rcases hb with rfl | rfl | rfl | rfl | rfl
  ·obtain ⟨x,y,z,e⟩:=W.po; exact ⟨_,e⟩
  ·exact ⟨_,W.qh⟩
  ·exact ⟨_,W.qr⟩
  ·obtain ⟨dx,e⟩:=W.gr false; exact ⟨_,e⟩
  ·obtain ⟨dx,e⟩:=W.gr true; exact ⟨_,e⟩
 refine for_rng (fun t σ H'=>∃ (a:Bool->List Nat) (hs:List V) (o8 o11 o12 o13 o14:Option V),σ = [some (.ref sa),some (.int (i:Int)),some (.ref p),some (.int lg),some (.ref kl),some (.ref gl),some (.ref rw),some (.ref hd),o8,some (.int lk),some (.int mn),o11,o12,o13,o14,o15]/\W42 aC H H' p kl gl rw hd g ks a hs/\hs.length <= 5 * t) ⟨a,[],_,_,_,_,_,rfl,W,Nat.zero_le _⟩ ?_ ?_
 ·clear W
  rintro t σ H16 ht ⟨a,hs,o8,o11,o12,o13,o14,rfl,W,hhs⟩
  walk_at "go"
  refine draw_use W.po (by decide) (by decide) (fun r17 H17 r170 r171 d17 s17=>?_)
  have W:=W.draw N s17 d17
  clear s17 d17
  walk_at "go"
  generalize decide (r17 = 0) = b
  refine s_ixL (SqL.of W.qk) (at_bool b) ?_
  walk_at "go"
  refine s_ixL (SqL.of W.qr) (at_bool b) ?_
  have eb1:(if b = true then V.int (ks true) else V.int (ks false)) = V.int (ks b):=by cases b <;> rfl
  have eb2:(if b = true then tx (a true) else tx (a false)) = tx (a b):=by cases b <;> rfl
  rw [eb1,eb2]
  walk_at "go"
  refine ⟨p,ks b,a b,rfl,W.po,N.k1 b,N.k4 b,W.row b,W.cn b,fun T' w x due a2 H18 hT d18 s18 eT hD hNF hfd hr2 hc2=>?_⟩
  have hqr17:=W.qr
  have W:=W.draw N s18 d18
  walk_at "go"
  refine ⟨T',_,rfl,SqT.of eT,rfl,?_⟩
  walk_at "go"
  obtain ⟨a',ea',hne'⟩:∃ a':Bool->List Nat,a' b = a2/\∀ x,x ≠ b->a' x = a x:=⟨fun x=>if x = b then a2 else a x,by simp,fun x hx=>by simp [hx]⟩
  have eset:[tx (a false),tx (a true)].set (if b = true then 1 else 0) (tx a2) = [tx (a' false),tx (a' true)]:=by
   cases b
   ·rw [<- ea',hne' true (by decide)]; rfl
   ·rw [<- ea',hne' false (by decide)]; rfl
  refine ⟨rw,_,_,if b = true then 1 else 0,rfl,rfl,W.qr,by cases b <;> rfl,?_⟩
  rw [eset]
  clear eset eb1 eb2
  have s19:SameBut1 rw H18 (upd H18 rw (.lst [tx (a' false),tx (a' true)])):=SameBut1.upd
  have xrw:x ≠ .ref rw:=fun e=>by
   have h0:=hNF rw e
   rw [hqr17] at h0; cases h0
  have hD:=hD.but s19 xrw
  have g19:=(W.gr b).but s19 (N.ggr b)
  walk_at "go"
  refine s_ixL (SqL.of (s19 _ _ W.qg N.gr)) (at_bool b) ?_
  have eb3:(if b = true then V.ref (g true) else V.ref (g false)) = V.ref (g b):=by cases b <;> rfl
  rw [eb3]
  walk_at "go"
  have hl40:=isRow_len (W.row b)
  refine ⟨g b,ks b,a b,w,x,due,a2,rfl,N.k1 b,N.k4 b,g19,hl40,hD,fun T2 H20 hT2 s20 g20 e20=>?_⟩
  rw [<- ea'] at g20 hr2 hc2
  have W:=W.deed N b hne' s20 g20 hr2 hc2
  walk_at "go"
  refine ⟨small (show 2 <= 1000 by decide),fun T3 hT3=>?_⟩
  have t21:=same_new hT3 (.tup [.non,due])
  have W:=W.same t21
  refine ⟨T2,T3,[.non,due],rfl,rfl,SqT.of (t21 _ _ e20),SqT.of upd_same,by simp [hfd]; rfl,?_⟩
  generalize upd H20 T3 _ = H21 at *
  clear t21 e20 s20 g20 g19 s19 hD eT s18 d18
  walk_at "go"
  refine ifq rfl ?_
  walk_at "go"
  refine draw_use W.po (by decide) (by decide) (fun r22 H22 r220 r221 d22 s22=>?_)
  have W:=W.draw N s22 d22
  obtain ⟨b2,rfl⟩:=bool_of r220 r221
  walk_at "go"
  refine draw_use W.po (by omega) (by omega) (fun r23 H23 r230 r231 d23 s23=>?_)
  have W:=W.draw N s23 d23
  walk_at "go"
  clear s22 d22 s23 d23
  refine ifd (fun h24=>?_) (fun h24=>?_)
  ·walk_at "go"
   refine s_ixL (SqL.of W.qg) (at_bool b2) ?_
   walk_at "go"
   refine s_ixL (SqL.of W.qk) (at_bool b2) ?_
   walk_at "go"
   refine s_ixL (SqL.of W.qr) (at_bool b2) ?_
   walk_at "go"
   have f1:(if b2 = true then V.ref (g true) else V.ref (g false)) = V.ref (g b2):=by cases b2 <;> rfl
   have f2:(if b2 = true then V.int (ks true) else V.int (ks false)) = V.int (ks b2):=by cases b2 <;> rfl
   have f3:(if b2 = true then tx (a' true) else tx (a' false)) = tx (a' b2):=by cases b2 <;> rfl
   rw [f1,f2,f3]
   refine ⟨p,g b2,ks b2,a' b2,hd,hs,bad42 p hd rw g,rfl,W.po,W.gr b2,N.ggp b2,N.hp,N.ggh b2,N.k1 b2,N.k4 b2,W.row b2,W.cn b2,W.qh,by omega,W.ok,by simp,by simp,obj W,fun hs' H25 d25 k25 q25 l25 ok25=>?_⟩
   have W:=W.look N k25 d25 q25 ok25
   walk_at "go"
   refine ifq rfl ?_
   walk_at "go"
   exact ⟨a',hs',_,_,_,_,_,rfl,W,by omega⟩
  ·walk_at "go"
   exact ⟨a',hs,_,_,_,_,_,rfl,W,by omega⟩
 clear W
 rintro σ H16 ⟨a,hs,o8,o11,o12,o13,o14,rfl,W,hhs⟩
 walk_at "go"
 refine ⟨_,rfl,by decide,by decide,?_⟩
 refine for_rng (fun t σ H'=>∃ (hs:List V) (o12 o15:Option V),σ = [some (.ref sa),some (.int (i:Int)),some (.ref p),some (.int lg),some (.ref kl),some (.ref gl),some (.ref rw),some (.ref hd),o8,some (.int lk),some (.int mn),o11,o12,o13,o14,o15]/\W42 aC H H' p kl gl rw hd g ks a hs/\hs.length <= 1500 + 5 * t) ⟨hs,_,_,rfl,W,by omega⟩ ?_ ?_
 ·clear W hhs
  rintro t σ H17 ht ⟨hs,o12,o15,rfl,W,hhs⟩
  have ht:t < 2:=ht
  obtain ⟨b2,eb2⟩:=bool_of (r:=0 + (t:Int)) (by omega) (by omega)
  rw [eb2]
  walk_at "go"
  refine s_ixL (SqL.of W.qg) (at_bool b2) ?_
  walk_at "go"
  refine s_ixL (SqL.of W.qk) (at_bool b2) ?_
  walk_at "go"
  refine s_ixL (SqL.of W.qr) (at_bool b2) ?_
  walk_at "go"
  have f1:(if b2 = true then V.ref (g true) else V.ref (g false)) = V.ref (g b2):=by cases b2 <;> rfl
  have f2:(if b2 = true then V.int (ks true) else V.int (ks false)) = V.int (ks b2):=by cases b2 <;> rfl
  have f3:(if b2 = true then tx (a true) else tx (a false)) = tx (a b2):=by cases b2 <;> rfl
  rw [f1,f2,f3]
  refine ⟨p,g b2,ks b2,a b2,hd,hs,bad42 p hd rw g,rfl,W.po,W.gr b2,N.ggp b2,N.hp,N.ggh b2,N.k1 b2,N.k4 b2,W.row b2,W.cn b2,W.qh,by omega,W.ok,by simp,by simp,obj W,fun hs' H25 d25 k25 q25 l25 ok25=>?_⟩
  have W:=W.look N k25 d25 q25 ok25
  walk_at "go"
  refine ifq rfl ?_
  walk_at "go"
  refine s_ixL (SqL.of W.qg) (at_bool b2) ?_
  rw [f1]
  walk_at "go"
  obtain ⟨dx,e26⟩:=W.gr b2
  refine ⟨g b2,dx,_,rfl,e26,rfl,?_⟩
  walk_at "go"
  refine gRow_use (W.gr b2) ?_
  walk_at "go"
  refine s_ixL (SqL.of W.qr) (at_bool b2) ?_
  rw [f3]
  walk_at "go"
  refine ifq (by simp) ?_
  walk_at "go"
  exact ⟨hs',_,_,rfl,W,by omega⟩
 clear W hhs
 rintro σ H17 ⟨hs,o12,o15,rfl,W,hhs⟩
 have hhs:hs.length <= 1510:=hhs
 walk_at "go"
 refine ⟨hd,rfl,⟨_,SqL.of W.qh⟩,?_⟩
 refine comp_none W.qh (fun D H' hD sH hD'=>?_) (fun D j x H' R hD hx sH hR=>?_)
 ·walk_at "go"
  refine ⟨small (Nat.zero_le _),fun e he=>?_⟩
  have t18:=same_new he (.lst [])
  refine s_neL (SqL.of (t18 _ _ hD')) (SqL.of upd_same) rfl rfl ?_
  have u18:=(W.sm.trans sH).trans t18
  generalize upd H' e _ = H18 at *
  walk_at "go"
  refine ifq rfl ?_
  walk_at "go"
  exact ⟨_,_,_,_,_,_,_,_,_,_,_,_,_,_,_,rfl,u18⟩
 ·obtain ⟨T',t,m,ns',rfl,_,_,_,eT,et,em⟩:=W.ok x (List.mem_of_getElem? hx)
  walk_at "go"
  refine ⟨T',_,rfl,SqT.of (sH _ _ eT),rfl,?_⟩
  walk_at "go"
  refine s_neL (SqL.of (sH _ _ et)) (SqL.of (sH _ _ em)) (flat_ints _) (flat_ints _) ?_
  rw [eqVs_refl_ints]
  walk_at "go"
  exact hR _ _ (Same.refl _)
end
theorem all_mk {l:PySem.W.OpenLaw} {w:World} {K:PySem.W.Frag} {h:Heap} {mg:Str->Option Value} {fa:Addr} (X:K.In h) (G:h.Ns mainGlobals mg) (hfa:mg "law" = some (.ref fa)) {f0:Addr} {od0 an0:Option Addr} {sl0:Array (Option Value)} {oc0 kV0 dc0 pm0 cd0 ct0:Value} {f1:Addr} {od1 an1:Option Addr} {sl1:Array (Option Value)} {oc1 kV1 dc1 pm1 cd1 ct1:Value} {f2:Addr} {od2 an2:Option Addr} {sl2:Array (Option Value)} {oc2 kV2 dc2 pm2 cd2 ct2:Value} {f3:Addr} {od3 an3:Option Addr} {sl3:Array (Option Value)} {oc3 kV3 dc3 pm3 cd3 ct3:Value} {f4:Addr} {od4 an4:Option Addr} {sl4:Array (Option Value)} {oc4 kV4 dc4 pm4 cd4 ct4:Value} {f5:Addr} {od5 an5:Option Addr} {sl5:Array (Option Value)} {oc5 kV5 dc5 pm5 cd5 ct5:Value} {f6:Addr} {od6 an6:Option Addr} {sl6:Array (Option Value)} {oc6 kV6 dc6 pm6 cd6 ct6:Value} {f7:Addr} {od7 an7:Option Addr} {sl7:Array (Option Value)} {oc7 kV7 dc7 pm7 cd7 ct7:Value} {f8:Addr} {od8 an8:Option Addr} {sl8:Array (Option Value)} {oc8 kV8 dc8 pm8 cd8 ct8:Value} {f9:Addr} {od9 an9:Option Addr} {sl9:Array (Option Value)} {oc9 kV9 dc9 pm9 cd9 ct9:Value} {f10:Addr} {od10 an10:Option Addr} {sl10:Array (Option Value)} {oc10 kV10 dc10 pm10 cd10 ct10:Value} {f11:Addr} {od11 an11:Option Addr} {sl11:Array (Option Value)} {oc11 kV11 dc11 pm11 cd11 ct11:Value} {f12:Addr} {od12 an12:Option Addr} {sl12:Array (Option Value)} {oc12 kV12 dc12 pm12 cd12 ct12:Value} {f13:Addr} {od13 an13:Option Addr} {sl13:Array (Option Value)} {oc13 kV13 dc13 pm13 cd13 ct13:Value} {f14:Addr} {od14 an14:Option Addr} {sl14:Array (Option Value)} {oc14 kV14 dc14 pm14 cd14 ct14:Value} {f15:Addr} {od15 an15:Option Addr} {sl15:Array (Option Value)} {oc15 kV15 dc15 pm15 cd15 ct15:Value} {f16:Addr} {od16 an16:Option Addr} {sl16:Array (Option Value)} {oc16 kV16 dc16 pm16 cd16 ct16:Value} {f17:Addr} {od17 an17:Option Addr} {sl17:Array (Option Value)} {oc17 kV17 dc17 pm17 cd17 ct17:Value} {f18:Addr} {od18 an18:Option Addr} {sl18:Array (Option Value)} {oc18 kV18 dc18 pm18 cd18 ct18:Value} {f19:Addr} {od19 an19:Option Addr} {sl19:Array (Option Value)} {oc19 kV19 dc19 pm19 cd19 ct19:Value} {f20:Addr} {od20 an20:Option Addr} {sl20:Array (Option Value)} {oc20 kV20 dc20 pm20 cd20 ct20:Value} {f21:Addr} {od21 an21:Option Addr} {sl21:Array (Option Value)} {oc21 kV21 dc21 pm21 cd21 ct21:Value} {f22:Addr} {od22 an22:Option Addr} {sl22:Array (Option Value)} {oc22 kV22 dc22 pm22 cd22 ct22:Value} {f23:Addr} {od23 an23:Option Addr} {sl23:Array (Option Value)} {oc23 kV23 dc23 pm23 cd23 ct23:Value} {f24:Addr} {od24 an24:Option Addr} {sl24:Array (Option Value)} {oc24 kV24 dc24 pm24 cd24 ct24:Value} {f25:Addr} {od25 an25:Option Addr} {sl25:Array (Option Value)} {oc25 kV25 dc25 pm25 cd25 ct25:Value} {f26:Addr} {od26 an26:Option Addr} {sl26:Array (Option Value)} {oc26 kV26 dc26 pm26 cd26 ct26:Value} {f27:Addr} {od27 an27:Option Addr} {sl27:Array (Option Value)} {oc27 kV27 dc27 pm27 cd27 ct27:Value} {f28:Addr} {od28 an28:Option Addr} {sl28:Array (Option Value)} {oc28 kV28 dc28 pm28 cd28 ct28:Value} {f29:Addr} {od29 an29:Option Addr} {sl29:Array (Option Value)} {oc29 kV29 dc29 pm29 cd29 ct29:Value} {f30:Addr} {od30 an30:Option Addr} {sl30:Array (Option Value)} {oc30 kV30 dc30 pm30 cd30 ct30:Value} {f31:Addr} {od31 an31:Option Addr} {sl31:Array (Option Value)} {oc31 kV31 dc31 pm31 cd31 ct31:Value} {f32:Addr} {od32 an32:Option Addr} {sl32:Array (Option Value)} {oc32 kV32 dc32 pm32 cd32 ct32:Value} {f33:Addr} {od33 an33:Option Addr} {sl33:Array (Option Value)} {oc33 kV33 dc33 pm33 cd33 ct33:Value} {f34:Addr} {od34 an34:Option Addr} {sl34:Array (Option Value)} {oc34 kV34 dc34 pm34 cd34 ct34:Value} {f35:Addr} {od35 an35:Option Addr} {sl35:Array (Option Value)} {oc35 kV35 dc35 pm35 cd35 ct35:Value} {x_RowError:Addr} {x_NoKinds:Addr} {x_NoLine:Addr} {x_NoNumber:Addr} {x_TooMany:Addr} {aC:Addr} {x_OPENING:Str} {t_OPENING:Tok} {x_CLOSING:Str} {t_CLOSING:Tok} {aK:Addr} {oK:Obj} {itK:Array Value} {nK:Nat} {x_BRACKETS:Str} {t_BRACKETS:Tok} {x_UNKNOWN:Str} {t_UNKNOWN:Tok} {x_MOST_SIGNS:Int} {t_MOST_SIGNS:Tok}
  (a0:PySem.W.nsIn K mainGlobals "is_whole" = some (some (.ref f0))) (l0:K.lookup f0 = some ⟨oc0,od0,.func (PySem.W.fnOf "is_whole" "is_whole" (defArgs d_is_whole) (defBody d_is_whole) (defScope d_is_whole) .none kV0 dc0 pm0 an0 cd0 ct0),sl0⟩) (c0:PySem.W.codeIn K cd0 "is_whole" = true) (k0:PySem.W.keepIn K (.ref f0) = true)
  (a1:PySem.W.nsIn K mainGlobals "check_kinds" = some (some (.ref f1))) (l1:K.lookup f1 = some ⟨oc1,od1,.func (PySem.W.fnOf "check_kinds" "check_kinds" (defArgs d_check_kinds) (defBody d_check_kinds) (defScope d_check_kinds) .none kV1 dc1 pm1 an1 cd1 ct1),sl1⟩) (c1:PySem.W.codeIn K cd1 "check_kinds" = true) (k1:PySem.W.keepIn K (.ref f1) = true)
  (a2:PySem.W.nsIn K mainGlobals "is_line" = some (some (.ref f2))) (l2:K.lookup f2 = some ⟨oc2,od2,.func (PySem.W.fnOf "is_line" "is_line" (defArgs d_is_line) (defBody d_is_line) (defScope d_is_line) .none kV2 dc2 pm2 an2 cd2 ct2),sl2⟩) (c2:PySem.W.codeIn K cd2 "is_line" = true) (k2:PySem.W.keepIn K (.ref f2) = true)
  (a3:PySem.W.nsIn K mainGlobals "check_line" = some (some (.ref f3))) (l3:K.lookup f3 = some ⟨oc3,od3,.func (PySem.W.fnOf "check_line" "check_line" (defArgs d_check_line) (defBody d_check_line) (defScope d_check_line) .none kV3 dc3 pm3 an3 cd3 ct3),sl3⟩) (c3:PySem.W.codeIn K cd3 "check_line" = true) (k3:PySem.W.keepIn K (.ref f3) = true)
  (a4:PySem.W.nsIn K mainGlobals "weighed_places" = some (some (.ref f4))) (l4:K.lookup f4 = some ⟨oc4,od4,.func (PySem.W.fnOf "weighed_places" "weighed_places" (defArgs d_weighed_places) (defBody d_weighed_places) (defScope d_weighed_places) .none kV4 dc4 pm4 an4 cd4 ct4),sl4⟩) (c4:PySem.W.codeIn K cd4 "weighed_places" = true) (k4:PySem.W.keepIn K (.ref f4) = true)
  (a5:PySem.W.nsIn K mainGlobals "counted_places" = some (some (.ref f5))) (l5:K.lookup f5 = some ⟨oc5,od5,.func (PySem.W.fnOf "counted_places" "counted_places" (defArgs d_counted_places) (defBody d_counted_places) (defScope d_counted_places) .none kV5 dc5 pm5 an5 cd5 ct5),sl5⟩) (c5:PySem.W.codeIn K cd5 "counted_places" = true) (k5:PySem.W.keepIn K (.ref f5) = true)
  (a6:PySem.W.nsIn K mainGlobals "pair_sum" = some (some (.ref f6))) (l6:K.lookup f6 = some ⟨oc6,od6,.func (PySem.W.fnOf "pair_sum" "pair_sum" (defArgs d_pair_sum) (defBody d_pair_sum) (defScope d_pair_sum) .none kV6 dc6 pm6 an6 cd6 ct6),sl6⟩) (c6:PySem.W.codeIn K cd6 "pair_sum" = true) (k6:PySem.W.keepIn K (.ref f6) = true)
  (a7:PySem.W.nsIn K mainGlobals "no_sums" = some (some (.ref f7))) (l7:K.lookup f7 = some ⟨oc7,od7,.func (PySem.W.fnOf "no_sums" "no_sums" (defArgs d_no_sums) (defBody d_no_sums) (defScope d_no_sums) .none kV7 dc7 pm7 an7 cd7 ct7),sl7⟩) (c7:PySem.W.codeIn K cd7 "no_sums" = true) (k7:PySem.W.keepIn K (.ref f7) = true)
  (a8:PySem.W.nsIn K mainGlobals "span_sums" = some (some (.ref f8))) (l8:K.lookup f8 = some ⟨oc8,od8,.func (PySem.W.fnOf "span_sums" "span_sums" (defArgs d_span_sums) (defBody d_span_sums) (defScope d_span_sums) .none kV8 dc8 pm8 an8 cd8 ct8),sl8⟩) (c8:PySem.W.codeIn K cd8 "span_sums" = true) (k8:PySem.W.keepIn K (.ref f8) = true)
  (a9:PySem.W.nsIn K mainGlobals "whole_sum" = some (some (.ref f9))) (l9:K.lookup f9 = some ⟨oc9,od9,.func (PySem.W.fnOf "whole_sum" "whole_sum" (defArgs d_whole_sum) (defBody d_whole_sum) (defScope d_whole_sum) .none kV9 dc9 pm9 an9 cd9 ct9),sl9⟩) (c9:PySem.W.codeIn K cd9 "whole_sum" = true) (k9:PySem.W.keepIn K (.ref f9) = true)
  (a10:PySem.W.nsIn K mainGlobals "how_many" = some (some (.ref f10))) (l10:K.lookup f10 = some ⟨oc10,od10,.func (PySem.W.fnOf "how_many" "how_many" (defArgs d_how_many) (defBody d_how_many) (defScope d_how_many) .none kV10 dc10 pm10 an10 cd10 ct10),sl10⟩) (c10:PySem.W.codeIn K cd10 "how_many" = true) (k10:PySem.W.keepIn K (.ref f10) = true)
  (a11:PySem.W.nsIn K mainGlobals "may_open" = some (some (.ref f11))) (l11:K.lookup f11 = some ⟨oc11,od11,.func (PySem.W.fnOf "may_open" "may_open" (defArgs d_may_open) (defBody d_may_open) (defScope d_may_open) .none kV11 dc11 pm11 an11 cd11 ct11),sl11⟩) (c11:PySem.W.codeIn K cd11 "may_open" = true) (k11:PySem.W.keepIn K (.ref f11) = true)
  (a12:PySem.W.nsIn K mainGlobals "depths_before" = some (some (.ref f12))) (l12:K.lookup f12 = some ⟨oc12,od12,.func (PySem.W.fnOf "depths_before" "depths_before" (defArgs d_depths_before) (defBody d_depths_before) (defScope d_depths_before) .none kV12 dc12 pm12 an12 cd12 ct12),sl12⟩) (c12:PySem.W.codeIn K cd12 "depths_before" = true) (k12:PySem.W.keepIn K (.ref f12) = true)
  (a13:PySem.W.nsIn K mainGlobals "depths_by_stop" = some (some (.ref f13))) (l13:K.lookup f13 = some ⟨oc13,od13,.func (PySem.W.fnOf "depths_by_stop" "depths_by_stop" (defArgs d_depths_by_stop) (defBody d_depths_by_stop) (defScope d_depths_by_stop) .none kV13 dc13 pm13 an13 cd13 ct13),sl13⟩) (c13:PySem.W.codeIn K cd13 "depths_by_stop" = true) (k13:PySem.W.keepIn K (.ref f13) = true)
  (a14:PySem.W.nsIn K mainGlobals "depths" = some (some (.ref f14))) (l14:K.lookup f14 = some ⟨oc14,od14,.func (PySem.W.fnOf "depths" "depths" (defArgs d_depths) (defBody d_depths) (defScope d_depths) .none kV14 dc14 pm14 an14 cd14 ct14),sl14⟩) (c14:PySem.W.codeIn K cd14 "depths" = true) (k14:PySem.W.keepIn K (.ref f14) = true)
  (a15:PySem.W.nsIn K mainGlobals "may_go_on" = some (some (.ref f15))) (l15:K.lookup f15 = some ⟨oc15,od15,.func (PySem.W.fnOf "may_go_on" "may_go_on" (defArgs d_may_go_on) (defBody d_may_go_on) (defScope d_may_go_on) .none kV15 dc15 pm15 an15 cd15 ct15),sl15⟩) (c15:PySem.W.codeIn K cd15 "may_go_on" = true) (k15:PySem.W.keepIn K (.ref f15) = true)
  (a16:PySem.W.nsIn K mainGlobals "fewest_more" = some (some (.ref f16))) (l16:K.lookup f16 = some ⟨oc16,od16,.func (PySem.W.fnOf "fewest_more" "fewest_more" (defArgs d_fewest_more) (defBody d_fewest_more) (defScope d_fewest_more) .none kV16 dc16 pm16 an16 cd16 ct16),sl16⟩) (c16:PySem.W.codeIn K cd16 "fewest_more" = true) (k16:PySem.W.keepIn K (.ref f16) = true)
  (a17:PySem.W.findIn K (.ref aC) "__init__" = some (some (.ref f17))) (n17:PySem.W.isFn K (.ref f17) = true) (l17:K.lookup f17 = some ⟨oc17,od17,.func (PySem.W.fnOf "__init__" "Grower.__init__" (defArgs d_Grower___init__) (defBody d_Grower___init__) (defScope d_Grower___init__) .none kV17 dc17 pm17 an17 cd17 ct17),sl17⟩) (c17:PySem.W.codeIn K cd17 "Grower.__init__" = true) (k17:PySem.W.keepIn K (.ref f17) = true)
  (a18:PySem.W.findIn K (.ref aC) "put" = some (some (.ref f18))) (n18:PySem.W.isFn K (.ref f18) = true) (l18:K.lookup f18 = some ⟨oc18,od18,.func (PySem.W.fnOf "put" "Grower.put" (defArgs d_Grower_put) (defBody d_Grower_put) (defScope d_Grower_put) .none kV18 dc18 pm18 an18 cd18 ct18),sl18⟩) (c18:PySem.W.codeIn K cd18 "Grower.put" = true) (k18:PySem.W.keepIn K (.ref f18) = true)
  (a19:PySem.W.findIn K (.ref aC) "back" = some (some (.ref f19))) (n19:PySem.W.isFn K (.ref f19) = true) (l19:K.lookup f19 = some ⟨oc19,od19,.func (PySem.W.fnOf "back" "Grower.back" (defArgs d_Grower_back) (defBody d_Grower_back) (defScope d_Grower_back) .none kV19 dc19 pm19 an19 cd19 ct19),sl19⟩) (c19:PySem.W.codeIn K cd19 "Grower.back" = true) (k19:PySem.W.keepIn K (.ref f19) = true)
  (a20:PySem.W.findIn K (.ref aC) "row" = some (some (.ref f20))) (n20:PySem.W.isFn K (.ref f20) = true) (l20:K.lookup f20 = some ⟨oc20,od20,.func (PySem.W.fnOf "row" "Grower.row" (defArgs d_Grower_row) (defBody d_Grower_row) (defScope d_Grower_row) .none kV20 dc20 pm20 an20 cd20 ct20),sl20⟩) (c20:PySem.W.codeIn K cd20 "Grower.row" = true) (k20:PySem.W.keepIn K (.ref f20) = true)
  (a21:PySem.W.findIn K (.ref aC) "how_many" = some (some (.ref f21))) (n21:PySem.W.isFn K (.ref f21) = true) (l21:K.lookup f21 = some ⟨oc21,od21,.func (PySem.W.fnOf "how_many" "Grower.how_many" (defArgs d_Grower_how_many) (defBody d_Grower_how_many) (defScope d_Grower_how_many) .none kV21 dc21 pm21 an21 cd21 ct21),sl21⟩) (c21:PySem.W.codeIn K cd21 "Grower.how_many" = true) (k21:PySem.W.keepIn K (.ref f21) = true)
  (a22:PySem.W.findIn K (.ref aC) "may_go_on" = some (some (.ref f22))) (n22:PySem.W.isFn K (.ref f22) = true) (l22:K.lookup f22 = some ⟨oc22,od22,.func (PySem.W.fnOf "may_go_on" "Grower.may_go_on" (defArgs d_Grower_may_go_on) (defBody d_Grower_may_go_on) (defScope d_Grower_may_go_on) .none kV22 dc22 pm22 an22 cd22 ct22),sl22⟩) (c22:PySem.W.codeIn K cd22 "Grower.may_go_on" = true) (k22:PySem.W.keepIn K (.ref f22) = true)
  (a23:PySem.W.findIn K (.ref aC) "depths" = some (some (.ref f23))) (n23:PySem.W.isFn K (.ref f23) = true) (l23:K.lookup f23 = some ⟨oc23,od23,.func (PySem.W.fnOf "depths" "Grower.depths" (defArgs d_Grower_depths) (defBody d_Grower_depths) (defScope d_Grower_depths) .none kV23 dc23 pm23 an23 cd23 ct23),sl23⟩) (c23:PySem.W.codeIn K cd23 "Grower.depths" = true) (k23:PySem.W.keepIn K (.ref f23) = true)
  (a24:PySem.W.findIn K (.ref aC) "fewest_more" = some (some (.ref f24))) (n24:PySem.W.isFn K (.ref f24) = true) (l24:K.lookup f24 = some ⟨oc24,od24,.func (PySem.W.fnOf "fewest_more" "Grower.fewest_more" (defArgs d_Grower_fewest_more) (defBody d_Grower_fewest_more) (defScope d_Grower_fewest_more) .none kV24 dc24 pm24 an24 cd24 ct24),sl24⟩) (c24:PySem.W.codeIn K cd24 "Grower.fewest_more" = true) (k24:PySem.W.keepIn K (.ref f24) = true)
  (a25:PySem.W.nsIn K mainGlobals "_law_pool" = some (some (.ref f25))) (l25:K.lookup f25 = some ⟨oc25,od25,.func (PySem.W.fnOf "_law_pool" "_law_pool" (defArgs d_law_pool) (defBody d_law_pool) (defScope d_law_pool) .none kV25 dc25 pm25 an25 cd25 ct25),sl25⟩) (c25:PySem.W.codeIn K cd25 "_law_pool" = true) (k25:PySem.W.keepIn K (.ref f25) = true)
  (a26:PySem.W.nsIn K mainGlobals "_law_draw" = some (some (.ref f26))) (l26:K.lookup f26 = some ⟨oc26,od26,.func (PySem.W.fnOf "_law_draw" "_law_draw" (defArgs d_law_draw) (defBody d_law_draw) (defScope d_law_draw) .none kV26 dc26 pm26 an26 cd26 ct26),sl26⟩) (c26:PySem.W.codeIn K cd26 "_law_draw" = true) (k26:PySem.W.keepIn K (.ref f26) = true)
  (a27:PySem.W.nsIn K mainGlobals "_law_stacks" = some (some (.ref f27))) (l27:K.lookup f27 = some ⟨oc27,od27,.func (PySem.W.fnOf "_law_stacks" "_law_stacks" (defArgs d_law_stacks) (defBody d_law_stacks) (defScope d_law_stacks) .none kV27 dc27 pm27 an27 cd27 ct27),sl27⟩) (c27:PySem.W.codeIn K cd27 "_law_stacks" = true) (k27:PySem.W.keepIn K (.ref f27) = true)
  (a28:PySem.W.nsIn K mainGlobals "_law_caught" = some (some (.ref f28))) (l28:K.lookup f28 = some ⟨oc28,od28,.func (PySem.W.fnOf "_law_caught" "_law_caught" (defArgs d_law_caught) (defBody d_law_caught) (defScope d_law_caught) .none kV28 dc28 pm28 an28 cd28 ct28),sl28⟩) (c28:PySem.W.codeIn K cd28 "_law_caught" = true) (k28:PySem.W.keepIn K (.ref f28) = true)
  (a29:PySem.W.nsIn K mainGlobals "_law_no_sign" = some (some (.ref f29))) (l29:K.lookup f29 = some ⟨oc29,od29,.func (PySem.W.fnOf "_law_no_sign" "_law_no_sign" (defArgs d_law_no_sign) (defBody d_law_no_sign) (defScope d_law_no_sign) .none kV29 dc29 pm29 an29 cd29 ct29),sl29⟩) (c29:PySem.W.codeIn K cd29 "_law_no_sign" = true) (k29:PySem.W.keepIn K (.ref f29) = true)
  (a30:PySem.W.nsIn K mainGlobals "_law_sign" = some (some (.ref f30))) (l30:K.lookup f30 = some ⟨oc30,od30,.func (PySem.W.fnOf "_law_sign" "_law_sign" (defArgs d_law_sign) (defBody d_law_sign) (defScope d_law_sign) .none kV30 dc30 pm30 an30 cd30 ct30),sl30⟩) (c30:PySem.W.codeIn K cd30 "_law_sign" = true) (k30:PySem.W.keepIn K (.ref f30) = true)
  (a31:PySem.W.nsIn K mainGlobals "_law_deed" = some (some (.ref f31))) (l31:K.lookup f31 = some ⟨oc31,od31,.func (PySem.W.fnOf "_law_deed" "_law_deed" (defArgs d_law_deed) (defBody d_law_deed) (defScope d_law_deed) .none kV31 dc31 pm31 an31 cd31 ct31),sl31⟩) (c31:PySem.W.codeIn K cd31 "_law_deed" = true) (k31:PySem.W.keepIn K (.ref f31) = true)
  (a32:PySem.W.nsIn K mainGlobals "_law_whole" = some (some (.ref f32))) (l32:K.lookup f32 = some ⟨oc32,od32,.func (PySem.W.fnOf "_law_whole" "_law_whole" (defArgs d_law_whole) (defBody d_law_whole) (defScope d_law_whole) .none kV32 dc32 pm32 an32 cd32 ct32),sl32⟩) (c32:PySem.W.codeIn K cd32 "_law_whole" = true) (k32:PySem.W.keepIn K (.ref f32) = true)
  (a33:PySem.W.nsIn K mainGlobals "_law_spoil" = some (some (.ref f33))) (l33:K.lookup f33 = some ⟨oc33,od33,.func (PySem.W.fnOf "_law_spoil" "_law_spoil" (defArgs d_law_spoil) (defBody d_law_spoil) (defScope d_law_spoil) .none kV33 dc33 pm33 an33 cd33 ct33),sl33⟩) (c33:PySem.W.codeIn K cd33 "_law_spoil" = true) (k33:PySem.W.keepIn K (.ref f33) = true)
  (a34:PySem.W.nsIn K mainGlobals "_law_looked" = some (some (.ref f34))) (l34:K.lookup f34 = some ⟨oc34,od34,.func (PySem.W.fnOf "_law_looked" "_law_looked" (defArgs d_law_looked) (defBody d_law_looked) (defScope d_law_looked) .none kV34 dc34 pm34 an34 cd34 ct34),sl34⟩) (c34:PySem.W.codeIn K cd34 "_law_looked" = true) (k34:PySem.W.keepIn K (.ref f34) = true)
  (a35:PySem.W.nsIn K mainGlobals "law" = some (some (.ref f35))) (l35:K.lookup f35 = some ⟨oc35,od35,.func (PySem.W.fnOf "law" "law" (defArgs d_law) (defBody d_law) (defScope d_law) .none kV35 dc35 pm35 an35 cd35 ct35),sl35⟩) (c35:PySem.W.codeIn K cd35 "law" = true) (k35:PySem.W.keepIn K (.ref f35) = true)
  (yc:PySem.W.nsIn K mainGlobals "Grower" = some (some (.ref aC))) (pg:PySem.W.plainGet K aC Str.empty = true) (hdi:PySem.W.hasDictIn K aC = true) (po:PySem.W.plainOver K aC = true) (sat:PySem.W.findIn K (.ref aC) "__setattr__" = some (some (.builtin "object.__setattr__"))) (mks:PySem.W.makesIn K aC = true) (kpc:PySem.W.keepIn K (.ref aC) = true)
  (nf_k:PySem.W.findIn K (.ref aC) "k" = some none)
  (nf_signs:PySem.W.findIn K (.ref aC) "signs" = some none)
  (al_depths_begun:PySem.W.nsIn K mainGlobals "depths_begun" = some (some (.ref f14)))
  (al_fewest_more_begun:PySem.W.nsIn K mainGlobals "fewest_more_begun" = some (some (.ref f16)))
  (al_how_many_fillings:PySem.W.nsIn K mainGlobals "how_many_fillings" = some (some (.ref f10)))
  (al_may_go_on_begun:PySem.W.nsIn K mainGlobals "may_go_on_begun" = some (some (.ref f15)))
  (y_RowError:PySem.W.nsIn K mainGlobals "RowError" = some (some (.ref x_RowError))) (w_RowError:eclsB K x_RowError = true)
  (y_NoKinds:PySem.W.nsIn K mainGlobals "NoKinds" = some (some (.ref x_NoKinds))) (w_NoKinds:eclsB K x_NoKinds = true)
  (y_NoLine:PySem.W.nsIn K mainGlobals "NoLine" = some (some (.ref x_NoLine))) (w_NoLine:eclsB K x_NoLine = true)
  (y_NoNumber:PySem.W.nsIn K mainGlobals "NoNumber" = some (some (.ref x_NoNumber))) (w_NoNumber:eclsB K x_NoNumber = true)
  (y_TooMany:PySem.W.nsIn K mainGlobals "TooMany" = some (some (.ref x_TooMany))) (w_TooMany:eclsB K x_TooMany = true)
  (m_NoKinds:PySem.W.mroIn K x_NoKinds (.ref x_RowError) = some true)
  (v_NoKinds:PySem.W.kitOne K (.ref x_NoKinds) (.type "ValueError") = some true)
  (q_NoKinds_RowError:PySem.W.kitOne K (.ref x_NoKinds) (.ref x_RowError) = some true)
  (q_NoKinds_NoKinds:PySem.W.kitOne K (.ref x_NoKinds) (.ref x_NoKinds) = some true)
  (q_NoKinds_NoLine:PySem.W.kitOne K (.ref x_NoKinds) (.ref x_NoLine) = some false)
  (q_NoKinds_NoNumber:PySem.W.kitOne K (.ref x_NoKinds) (.ref x_NoNumber) = some false)
  (q_NoKinds_TooMany:PySem.W.kitOne K (.ref x_NoKinds) (.ref x_TooMany) = some false)
  (m_NoLine:PySem.W.mroIn K x_NoLine (.ref x_RowError) = some true)
  (v_NoLine:PySem.W.kitOne K (.ref x_NoLine) (.type "ValueError") = some true)
  (q_NoLine_RowError:PySem.W.kitOne K (.ref x_NoLine) (.ref x_RowError) = some true)
  (q_NoLine_NoKinds:PySem.W.kitOne K (.ref x_NoLine) (.ref x_NoKinds) = some false)
  (q_NoLine_NoLine:PySem.W.kitOne K (.ref x_NoLine) (.ref x_NoLine) = some true)
  (q_NoLine_NoNumber:PySem.W.kitOne K (.ref x_NoLine) (.ref x_NoNumber) = some false)
  (q_NoLine_TooMany:PySem.W.kitOne K (.ref x_NoLine) (.ref x_TooMany) = some false)
  (m_NoNumber:PySem.W.mroIn K x_NoNumber (.ref x_RowError) = some true)
  (v_NoNumber:PySem.W.kitOne K (.ref x_NoNumber) (.type "ValueError") = some true)
  (q_NoNumber_RowError:PySem.W.kitOne K (.ref x_NoNumber) (.ref x_RowError) = some true)
  (q_NoNumber_NoKinds:PySem.W.kitOne K (.ref x_NoNumber) (.ref x_NoKinds) = some false)
  (q_NoNumber_NoLine:PySem.W.kitOne K (.ref x_NoNumber) (.ref x_NoLine) = some false)
  (q_NoNumber_NoNumber:PySem.W.kitOne K (.ref x_NoNumber) (.ref x_NoNumber) = some true)
  (q_NoNumber_TooMany:PySem.W.kitOne K (.ref x_NoNumber) (.ref x_TooMany) = some false)
  (m_TooMany:PySem.W.mroIn K x_TooMany (.ref x_RowError) = some true)
  (v_TooMany:PySem.W.kitOne K (.ref x_TooMany) (.type "ValueError") = some true)
  (q_TooMany_RowError:PySem.W.kitOne K (.ref x_TooMany) (.ref x_RowError) = some true)
  (q_TooMany_NoKinds:PySem.W.kitOne K (.ref x_TooMany) (.ref x_NoKinds) = some false)
  (q_TooMany_NoLine:PySem.W.kitOne K (.ref x_TooMany) (.ref x_NoLine) = some false)
  (q_TooMany_NoNumber:PySem.W.kitOne K (.ref x_TooMany) (.ref x_NoNumber) = some false)
  (q_TooMany_TooMany:PySem.W.kitOne K (.ref x_TooMany) (.ref x_TooMany) = some true)
  (mm_NoLine:PySem.W.mroIn K x_NoLine (.ref x_NoLine) = some true)
  (mm_NoNumber:PySem.W.mroIn K x_NoNumber (.ref x_NoNumber) = some true)
  (mm_TooMany:PySem.W.mroIn K x_TooMany (.ref x_TooMany) = some true)
  (mo_NoKinds_NoLine:PySem.W.mroIn K x_NoKinds (.ref x_NoLine) = some false)
  (mo_NoKinds_NoNumber:PySem.W.mroIn K x_NoKinds (.ref x_NoNumber) = some false)
  (mo_NoKinds_TooMany:PySem.W.mroIn K x_NoKinds (.ref x_TooMany) = some false)
  (mo_NoLine_NoNumber:PySem.W.mroIn K x_NoLine (.ref x_NoNumber) = some false)
  (mo_NoLine_TooMany:PySem.W.mroIn K x_NoLine (.ref x_TooMany) = some false)
  (mo_NoNumber_NoLine:PySem.W.mroIn K x_NoNumber (.ref x_NoLine) = some false)
  (mo_NoNumber_TooMany:PySem.W.mroIn K x_NoNumber (.ref x_TooMany) = some false)
  (mo_TooMany_NoLine:PySem.W.mroIn K x_TooMany (.ref x_NoLine) = some false)
  (mo_TooMany_NoNumber:PySem.W.mroIn K x_TooMany (.ref x_NoNumber) = some false)
  (z_all:PySem.W.nsIn K mainGlobals "all" = some none)
  (z_any:PySem.W.nsIn K mainGlobals "any" = some none)
  (z_bool:PySem.W.nsIn K mainGlobals "bool" = some none)
  (z_int:PySem.W.nsIn K mainGlobals "int" = some none)
  (z_isinstance:PySem.W.nsIn K mainGlobals "isinstance" = some none)
  (z_len:PySem.W.nsIn K mainGlobals "len" = some none)
  (z_list:PySem.W.nsIn K mainGlobals "list" = some none)
  (z_max:PySem.W.nsIn K mainGlobals "max" = some none)
  (z_min:PySem.W.nsIn K mainGlobals "min" = some none)
  (z_range:PySem.W.nsIn K mainGlobals "range" = some none)
  (z_set:PySem.W.nsIn K mainGlobals "set" = some none)
  (z_sorted:PySem.W.nsIn K mainGlobals "sorted" = some none)
  (z_str:PySem.W.nsIn K mainGlobals "str" = some none)
  (z_sum:PySem.W.nsIn K mainGlobals "sum" = some none)
  (g_OPENING:PySem.W.nsIn K mainGlobals "OPENING" = some (some (.str x_OPENING t_OPENING))) (h_OPENING:x_OPENING = ⟨([40,91,123,60]:List Nat).toArray⟩)
  (g_CLOSING:PySem.W.nsIn K mainGlobals "CLOSING" = some (some (.str x_CLOSING t_CLOSING))) (h_CLOSING:x_CLOSING = ⟨([41,93,125,62]:List Nat).toArray⟩)
  (g_K:PySem.W.nsIn K mainGlobals "KINDS" = some (some (.ref aK))) (l_K:K.lookup aK = some oK) (c_K:oK.cls = .type "tuple") (s_K:oK.data = .seq itK nK) (r_K:tupIs itK [tx [40,41],tx [91,93],tx [123,125],tx [60,62]] = true)
  (g_BRACKETS:PySem.W.nsIn K mainGlobals "BRACKETS" = some (some (.str x_BRACKETS t_BRACKETS))) (h_BRACKETS:x_BRACKETS = ⟨([40,41,91,93,123,125,60,62]:List Nat).toArray⟩)
  (g_UNKNOWN:PySem.W.nsIn K mainGlobals "UNKNOWN" = some (some (.str x_UNKNOWN t_UNKNOWN))) (h_UNKNOWN:x_UNKNOWN = ⟨([63]:List Nat).toArray⟩)
  (g_MOST_SIGNS:PySem.W.nsIn K mainGlobals "MOST_SIGNS" = some (some (.int x_MOST_SIGNS t_MOST_SIGNS))) (h_MOST_SIGNS:x_MOST_SIGNS = 40) :
  ∃ fd:FuncData,(∀ (s:Shared) (v:Value),BindsTo s fd ⟨[v],[]⟩ [("script",v)])/\∀ base:Heap,K.In base->base.Ns mainGlobals mg->FnOk l.prog w K mg base CX0 9 fa fd ["script"] (spLaw K):=by
 have e:=hfa.symm.trans (PySem.W.mg_of X G a35)
 cases e
 have T:Txt K mg aK ⟨x_RowError,x_NoKinds,x_NoLine,0,0,x_NoNumber,0,0,0,x_TooMany,0,0⟩ aC:=⟨PySem.W.mg_none_of X G z_all,PySem.W.mg_none_of X G z_any,PySem.W.mg_none_of X G z_bool,PySem.W.mg_none_of X G z_int,PySem.W.mg_none_of X G z_isinstance,PySem.W.mg_none_of X G z_len,PySem.W.mg_none_of X G z_list,PySem.W.mg_none_of X G z_max,PySem.W.mg_none_of X G z_min,PySem.W.mg_none_of X G z_range,PySem.W.mg_none_of X G z_set,PySem.W.mg_none_of X G z_sorted,PySem.W.mg_none_of X G z_str,PySem.W.mg_none_of X G z_sum,⟨_,PySem.W.mg_of X G g_OPENING,by rw [h_OPENING]; exact ⟨_,rfl⟩⟩,⟨_,PySem.W.mg_of X G g_CLOSING,by rw [h_CLOSING]; exact ⟨_,rfl⟩⟩,⟨_,PySem.W.mg_of X G g_K,rfl⟩,fun H=>.inr ⟨oK,itK,nK,l_K,c_K,s_K,tupIs_size r_K (by decide),tupIs_vals r_K⟩,⟨_,PySem.W.mg_of X G g_BRACKETS,by rw [h_BRACKETS]; exact ⟨_,rfl⟩⟩,⟨_,PySem.W.mg_of X G g_UNKNOWN,by rw [h_UNKNOWN]; exact ⟨_,rfl⟩⟩,⟨_,PySem.W.mg_of X G g_MOST_SIGNS,by rw [h_MOST_SIGNS]; exact ⟨_,rfl⟩⟩,PySem.W.mg_of X G y_RowError,ecls_of w_RowError,PySem.W.mg_of X G y_NoKinds,ecls_of w_NoKinds,PySem.W.mg_of X G y_NoLine,ecls_of w_NoLine,PySem.W.mg_of X G y_NoNumber,ecls_of w_NoNumber,PySem.W.mg_of X G y_TooMany,ecls_of w_TooMany,PySem.W.mg_of X G yc,⟨pg,hdi,po,sat⟩,nf_k,nf_signs,m_NoKinds,v_NoKinds,q_NoKinds_RowError,q_NoKinds_NoKinds,q_NoKinds_NoLine,q_NoKinds_NoNumber,q_NoKinds_TooMany,m_NoLine,v_NoLine,q_NoLine_RowError,q_NoLine_NoKinds,q_NoLine_NoLine,q_NoLine_NoNumber,q_NoLine_TooMany,m_NoNumber,v_NoNumber,q_NoNumber_RowError,q_NoNumber_NoKinds,q_NoNumber_NoLine,q_NoNumber_NoNumber,q_NoNumber_TooMany,m_TooMany,v_TooMany,q_TooMany_RowError,q_TooMany_NoKinds,q_TooMany_NoLine,q_TooMany_NoNumber,q_TooMany_TooMany,mm_NoLine,mm_NoNumber,mm_TooMany,mo_NoKinds_NoLine,mo_NoKinds_NoNumber,mo_NoKinds_TooMany,mo_NoLine_NoNumber,mo_NoLine_TooMany,mo_NoNumber_NoLine,mo_NoNumber_TooMany,mo_TooMany_NoLine,mo_TooMany_NoNumber⟩
 have F0:=fun_mk (st:=d_is_whole) l0 c0 k0
 have D0:DefAt K mg "is_whole" d_is_whole ["thing"] _ _:=⟨F0,PySem.W.mg_of X G a0,F0.binds (ps:=["thing"]) fun _ _ _ _ _ _ us hl=>match us,hl with | [_],_=>rfl⟩
 have F1:=fun_mk (st:=d_check_kinds) l1 c1 k1
 have D1:DefAt K mg "check_kinds" d_check_kinds ["k"] _ _:=⟨F1,PySem.W.mg_of X G a1,F1.binds (ps:=["k"]) fun _ _ _ _ _ _ us hl=>match us,hl with | [_],_=>rfl⟩
 have F2:=fun_mk (st:=d_is_line) l2 c2 k2
 have D2:DefAt K mg "is_line" d_is_line ["k","thing"] _ _:=⟨F2,PySem.W.mg_of X G a2,F2.binds (ps:=["k","thing"]) fun _ _ _ _ _ _ us hl=>match us,hl with | [_,_],_=>rfl⟩
 have F3:=fun_mk (st:=d_check_line) l3 c3 k3
 have D3:DefAt K mg "check_line" d_check_line ["k","row"] _ _:=⟨F3,PySem.W.mg_of X G a3,F3.binds (ps:=["k","row"]) fun _ _ _ _ _ _ us hl=>match us,hl with | [_,_],_=>rfl⟩
 have F4:=fun_mk (st:=d_weighed_places) l4 c4 k4
 have D4:DefAt K mg "weighed_places" d_weighed_places ["row","weights"] _ _:=⟨F4,PySem.W.mg_of X G a4,F4.binds (ps:=["row","weights"]) fun _ _ _ _ _ _ us hl=>match us,hl with | [_,_],_=>rfl⟩
 have F5:=fun_mk (st:=d_counted_places) l5 c5 k5
 have D5:DefAt K mg "counted_places" d_counted_places ["k","row"] _ _:=⟨F5,PySem.W.mg_of X G a5,F5.binds (ps:=["k","row"]) fun _ _ _ _ _ _ us hl=>match us,hl with | [_,_],_=>rfl⟩
 have F6:=fun_mk (st:=d_pair_sum) l6 c6 k6
 have D6:DefAt K mg "pair_sum" d_pair_sum ["first","last"] _ _:=⟨F6,PySem.W.mg_of X G a6,F6.binds (ps:=["first","last"]) fun _ _ _ _ _ _ us hl=>match us,hl with | [_,_],_=>rfl⟩
 have F7:=fun_mk (st:=d_no_sums) l7 c7 k7
 have D7:DefAt K mg "no_sums" d_no_sums ["many"] _ _:=⟨F7,PySem.W.mg_of X G a7,F7.binds (ps:=["many"]) fun _ _ _ _ _ _ us hl=>match us,hl with | [_],_=>rfl⟩
 have F8:=fun_mk (st:=d_span_sums) l8 c8 k8
 have D8:DefAt K mg "span_sums" d_span_sums ["places"] _ _:=⟨F8,PySem.W.mg_of X G a8,F8.binds (ps:=["places"]) fun _ _ _ _ _ _ us hl=>match us,hl with | [_],_=>rfl⟩
 have F9:=fun_mk (st:=d_whole_sum) l9 c9 k9
 have D9:DefAt K mg "whole_sum" d_whole_sum ["sums"] _ _:=⟨F9,PySem.W.mg_of X G a9,F9.binds (ps:=["sums"]) fun _ _ _ _ _ _ us hl=>match us,hl with | [_],_=>rfl⟩
 have F10:=fun_mk (st:=d_how_many) l10 c10 k10
 have D10:DefAt K mg "how_many" d_how_many ["k","row"] _ _:=⟨F10,PySem.W.mg_of X G a10,F10.binds (ps:=["k","row"]) fun _ _ _ _ _ _ us hl=>match us,hl with | [_,_],_=>rfl⟩
 have F11:=fun_mk (st:=d_may_open) l11 c11 k11
 have D11:DefAt K mg "may_open" d_may_open ["place"] _ _:=⟨F11,PySem.W.mg_of X G a11,F11.binds (ps:=["place"]) fun _ _ _ _ _ _ us hl=>match us,hl with | [_],_=>rfl⟩
 have F12:=fun_mk (st:=d_depths_before) l12 c12 k12
 have D12:DefAt K mg "depths_before" d_depths_before ["places","sums","shorter","stop"] _ _:=⟨F12,PySem.W.mg_of X G a12,F12.binds (ps:=["places","sums","shorter","stop"]) fun _ _ _ _ _ _ us hl=>match us,hl with | [_,_,_,_],_=>rfl⟩
 have F13:=fun_mk (st:=d_depths_by_stop) l13 c13 k13
 have D13:DefAt K mg "depths_by_stop" d_depths_by_stop ["k","row"] _ _:=⟨F13,PySem.W.mg_of X G a13,F13.binds (ps:=["k","row"]) fun _ _ _ _ _ _ us hl=>match us,hl with | [_,_],_=>rfl⟩
 have F14:=fun_mk (st:=d_depths) l14 c14 k14
 have D14:DefAt K mg "depths" d_depths ["k","row"] _ _:=⟨F14,PySem.W.mg_of X G a14,F14.binds (ps:=["k","row"]) fun _ _ _ _ _ _ us hl=>match us,hl with | [_,_],_=>rfl⟩
 have F15:=fun_mk (st:=d_may_go_on) l15 c15 k15
 have D15:DefAt K mg "may_go_on" d_may_go_on ["k","row"] _ _:=⟨F15,PySem.W.mg_of X G a15,F15.binds (ps:=["k","row"]) fun _ _ _ _ _ _ us hl=>match us,hl with | [_,_],_=>rfl⟩
 have F16:=fun_mk (st:=d_fewest_more) l16 c16 k16
 have D16:DefAt K mg "fewest_more" d_fewest_more ["k","row"] _ _:=⟨F16,PySem.W.mg_of X G a16,F16.binds (ps:=["k","row"]) fun _ _ _ _ _ _ us hl=>match us,hl with | [_,_],_=>rfl⟩
 have F17:=fun_mk (st:=d_Grower___init__) l17 c17 k17
 have B17:Binds K _ ["self","k"] []:=F17.binds (ps:=["self","k"]) fun _ _ _ _ _ _ us hl=>match us,hl with | [_,_],_=>rfl
 have F18:=fun_mk (st:=d_Grower_put) l18 c18 k18
 have B18:Binds K _ ["self","sign"] []:=F18.binds (ps:=["self","sign"]) fun _ _ _ _ _ _ us hl=>match us,hl with | [_,_],_=>rfl
 have F19:=fun_mk (st:=d_Grower_back) l19 c19 k19
 have B19:Binds K _ ["self"] []:=F19.binds (ps:=["self"]) fun _ _ _ _ _ _ us hl=>match us,hl with | [_],_=>rfl
 have F20:=fun_mk (st:=d_Grower_row) l20 c20 k20
 have B20:Binds K _ ["self"] []:=F20.binds (ps:=["self"]) fun _ _ _ _ _ _ us hl=>match us,hl with | [_],_=>rfl
 have F21:=fun_mk (st:=d_Grower_how_many) l21 c21 k21
 have B21:Binds K _ ["self"] []:=F21.binds (ps:=["self"]) fun _ _ _ _ _ _ us hl=>match us,hl with | [_],_=>rfl
 have F22:=fun_mk (st:=d_Grower_may_go_on) l22 c22 k22
 have B22:Binds K _ ["self"] []:=F22.binds (ps:=["self"]) fun _ _ _ _ _ _ us hl=>match us,hl with | [_],_=>rfl
 have F23:=fun_mk (st:=d_Grower_depths) l23 c23 k23
 have B23:Binds K _ ["self"] []:=F23.binds (ps:=["self"]) fun _ _ _ _ _ _ us hl=>match us,hl with | [_],_=>rfl
 have F24:=fun_mk (st:=d_Grower_fewest_more) l24 c24 k24
 have B24:Binds K _ ["self"] []:=F24.binds (ps:=["self"]) fun _ _ _ _ _ _ us hl=>match us,hl with | [_],_=>rfl
 have F25:=fun_mk (st:=d_law_pool) l25 c25 k25
 have D25:DefAt K mg "_law_pool" d_law_pool ["script","k"] _ _:=⟨F25,PySem.W.mg_of X G a25,F25.binds (ps:=["script","k"]) fun _ _ _ _ _ _ us hl=>match us,hl with | [_,_],_=>rfl⟩
 have F26:=fun_mk (st:=d_law_draw) l26 c26 k26
 have D26:DefAt K mg "_law_draw" d_law_draw ["pool","many"] _ _:=⟨F26,PySem.W.mg_of X G a26,F26.binds (ps:=["pool","many"]) fun _ _ _ _ _ _ us hl=>match us,hl with | [_,_],_=>rfl⟩
 have F27:=fun_mk (st:=d_law_stacks) l27 c27 k27
 have D27:DefAt K mg "_law_stacks" d_law_stacks ["k","row"] _ _:=⟨F27,PySem.W.mg_of X G a27,F27.binds (ps:=["k","row"]) fun _ _ _ _ _ _ us hl=>match us,hl with | [_,_],_=>rfl⟩
 have F28:=fun_mk (st:=d_law_caught) l28 c28 k28
 have D28:DefAt K mg "_law_caught" d_law_caught ["grower","word","sign"] _ _:=⟨F28,PySem.W.mg_of X G a28,F28.binds (ps:=["grower","word","sign"]) fun _ _ _ _ _ _ us hl=>match us,hl with | [_,_,_],_=>rfl⟩
 have F29:=fun_mk (st:=d_law_no_sign) l29 c29 k29
 have D29:DefAt K mg "_law_no_sign" d_law_no_sign ["pool","k"] _ _:=⟨F29,PySem.W.mg_of X G a29,F29.binds (ps:=["pool","k"]) fun _ _ _ _ _ _ us hl=>match us,hl with | [_,_],_=>rfl⟩
 have F30:=fun_mk (st:=d_law_sign) l30 c30 k30
 have D30:DefAt K mg "_law_sign" d_law_sign ["pool","k","row"] _ _:=⟨F30,PySem.W.mg_of X G a30,F30.binds (ps:=["pool","k","row"]) fun _ _ _ _ _ _ us hl=>match us,hl with | [_,_,_],_=>rfl⟩
 have F31:=fun_mk (st:=d_law_deed) l31 c31 k31
 have D31:DefAt K mg "_law_deed" d_law_deed ["pool","k","row"] _ _:=⟨F31,PySem.W.mg_of X G a31,F31.binds (ps:=["pool","k","row"]) fun _ _ _ _ _ _ us hl=>match us,hl with | [_,_,_],_=>rfl⟩
 have F32:=fun_mk (st:=d_law_whole) l32 c32 k32
 have D32:DefAt K mg "_law_whole" d_law_whole ["found","due"] _ _:=⟨F32,PySem.W.mg_of X G a32,F32.binds (ps:=["found","due"]) fun _ _ _ _ _ _ us hl=>match us,hl with | [_,_],_=>rfl⟩
 have F33:=fun_mk (st:=d_law_spoil) l33 c33 k33
 have D33:DefAt K mg "_law_spoil" d_law_spoil ["way","told","odd"] _ _:=⟨F33,PySem.W.mg_of X G a33,F33.binds (ps:=["way","told","odd"]) fun _ _ _ _ _ _ us hl=>match us,hl with | [_,_,_],_=>rfl⟩
 have F34:=fun_mk (st:=d_law_looked) l34 c34 k34
 have D34:DefAt K mg "_law_looked" d_law_looked ["pool","grower","k","row","held"] _ _:=⟨F34,PySem.W.mg_of X G a34,F34.binds (ps:=["pool","grower","k","row","held"]) fun _ _ _ _ _ _ us hl=>match us,hl with | [_,_,_,_,_],_=>rfl⟩
 have F35:=fun_mk (st:=d_law) l35 c35 k35
 have D35:DefAt K mg "law" d_law ["script"] _ _:=⟨F35,PySem.W.mg_of X G a35,F35.binds (ps:=["script"]) fun _ _ _ _ _ _ us hl=>match us,hl with | [_],_=>rfl⟩
 refine ⟨PySem.W.fnOf "law" "law" (defArgs d_law) (defBody d_law) (defScope d_law) .none kV35 dc35 pm35 an35 cd35 ct35,fun s v=>.of_eq rfl,fun base _ _=>?_⟩
 have U_is_whole:FnU l.prog w K mg base 1 "is_whole" ["thing"] (spWhole K):=D0.fnU (ok_is_whole (k:=0) F0 T )
 have U_check_kinds:FnUE l.prog w K mg base 2 "check_kinds" ["k"] (spKindsE K (⟨x_RowError,x_NoKinds,x_NoLine,0,0,x_NoNumber,0,0,0,x_TooMany,0,0⟩:Cs)):=D1.fnUE (ok_check_kinds (k:=1) F1 T (U_is_whole.mono (by decide)))
 have U_is_line:FnUE l.prog w K mg base 3 "is_line" ["k","thing"] (spLineE K (⟨x_RowError,x_NoKinds,x_NoLine,0,0,x_NoNumber,0,0,0,x_TooMany,0,0⟩:Cs)):=D2.fnUE (ok_is_line (k:=2) F2 T (U_check_kinds.mono (by decide)))
 have U_check_line:FnUE l.prog w K mg base 4 "check_line" ["k","row"] (spGateE K (⟨x_RowError,x_NoKinds,x_NoLine,0,0,x_NoNumber,0,0,0,x_TooMany,0,0⟩:Cs) spCheckLine):=D3.fnUE (ok_check_line (k:=3) F3 T (U_is_line.mono (by decide)))
 have U_weighed_places:FnU l.prog w K mg base 1 "weighed_places" ["row","weights"] (spWeighed K):=D4.fnU (ok_weighed_places (k:=0) F4 T )
 have U_counted_places:FnU l.prog w K mg base 2 "counted_places" ["k","row"] (spCounted):=D5.fnU (ok_counted_places (k:=1) F5 T (U_weighed_places.mono (by decide)))
 have U_pair_sum:FnU l.prog w K mg base 1 "pair_sum" ["first","last"] (spPair):=D6.fnU (ok_pair_sum (k:=0) F6 T )
 have U_no_sums:FnU l.prog w K mg base 1 "no_sums" ["many"] (spNoSums):=D7.fnU (ok_no_sums (k:=0) F7 T )
 have U_span_sums:FnU l.prog w K mg base 2 "span_sums" ["places"] (spSpans):=D8.fnU (ok_span_sums (k:=1) F8 T (U_no_sums.mono (by decide)) (U_pair_sum.mono (by decide)))
 have U_whole_sum:FnU l.prog w K mg base 1 "whole_sum" ["sums"] (spWholeSum):=D9.fnU (ok_whole_sum (k:=0) F9 T )
 have U_how_many:FnUE l.prog w K mg base 5 "how_many" ["k","row"] (spGateE K (⟨x_RowError,x_NoKinds,x_NoLine,0,0,x_NoNumber,0,0,0,x_TooMany,0,0⟩:Cs) spMany):=D10.fnUE (ok_how_many (k:=4) F10 T (U_check_line.mono (by decide)) (U_whole_sum.mono (by decide)) (U_span_sums.mono (by decide)) (U_counted_places.mono (by decide)))
 have U_how_many_fillings:FnUE l.prog w K mg base 5 "how_many_fillings" ["k","row"] (spGateE K (⟨x_RowError,x_NoKinds,x_NoLine,0,0,x_NoNumber,0,0,0,x_TooMany,0,0⟩:Cs) spMany):=let ⟨f_,fd_,F_,_,kp_,b_⟩:=U_how_many.ex; ⟨⟨_,_,ok_how_many (k:=4) F10 T (U_check_line.mono (by decide)) (U_whole_sum.mono (by decide)) (U_span_sums.mono (by decide)) (U_counted_places.mono (by decide)),PySem.W.mg_of X G al_how_many_fillings,D10.F.kp,D10.b⟩⟩
 have U_may_open:FnU l.prog w K mg base 1 "may_open" ["place"] (spMayOpen K):=D11.fnU (ok_may_open (k:=0) F11 T )
 have U_depths_before:FnU l.prog w K mg base 2 "depths_before" ["places","sums","shorter","stop"] (spBefore):=D12.fnU (ok_depths_before (k:=1) F12 T (U_may_open.mono (by decide)))
 have U_depths_by_stop:FnU l.prog w K mg base 3 "depths_by_stop" ["k","row"] (spByStop):=D13.fnU (ok_depths_by_stop (k:=2) F13 T (U_counted_places.mono (by decide)) (U_span_sums.mono (by decide)) (U_depths_before.mono (by decide)))
 have U_depths:FnUE l.prog w K mg base 5 "depths" ["k","row"] (spDepths):=D14.fnUE (ok_depths (k:=4) F14 T (U_check_line.mono (by decide)) (U_depths_by_stop.mono (by decide)))
 have U_depths_begun:FnUE l.prog w K mg base 5 "depths_begun" ["k","row"] (spDepths):=let ⟨f_,fd_,F_,_,kp_,b_⟩:=U_depths.ex; ⟨⟨_,_,ok_depths (k:=4) F14 T (U_check_line.mono (by decide)) (U_depths_by_stop.mono (by decide)),PySem.W.mg_of X G al_depths_begun,D14.F.kp,D14.b⟩⟩
 have U_may_go_on:FnUE l.prog w K mg base 6 "may_go_on" ["k","row"] (spGoOn):=D15.fnUE (ok_may_go_on (k:=5) F15 T (U_depths_begun.mono (by decide)))
 have U_may_go_on_begun:FnUE l.prog w K mg base 6 "may_go_on_begun" ["k","row"] (spGoOn):=let ⟨f_,fd_,F_,_,kp_,b_⟩:=U_may_go_on.ex; ⟨⟨_,_,ok_may_go_on (k:=5) F15 T (U_depths_begun.mono (by decide)),PySem.W.mg_of X G al_may_go_on_begun,D15.F.kp,D15.b⟩⟩
 have U_fewest_more:FnUE l.prog w K mg base 6 "fewest_more" ["k","row"] (spFewest):=D16.fnUE (ok_fewest_more (k:=5) F16 T (U_depths_begun.mono (by decide)))
 have U_fewest_more_begun:FnUE l.prog w K mg base 6 "fewest_more_begun" ["k","row"] (spFewest):=let ⟨f_,fd_,F_,_,kp_,b_⟩:=U_fewest_more.ex; ⟨⟨_,_,ok_fewest_more (k:=5) F16 T (U_depths_begun.mono (by decide)),PySem.W.mg_of X G al_fewest_more_begun,D16.F.kp,D16.b⟩⟩
 have U_Grower___init__:MkUE l.prog w K mg base 4 aC ["self","k"] (spGInitE K (⟨x_RowError,x_NoKinds,x_NoLine,0,0,x_NoNumber,0,0,0,x_TooMany,0,0⟩:Cs) aC):=⟨⟨3,_,_,Nat.le_refl _,ok_Grower___init__ (k:=2) F17 T (U_check_kinds.mono (by decide)),⟨mks,a17,n17,kpc⟩,B17⟩⟩
 have U_Grower_put:MeUE l.prog w K mg base 4 aC "put" ["self","sign"] (spGPutE K (⟨x_RowError,x_NoKinds,x_NoLine,0,0,x_NoNumber,0,0,0,x_TooMany,0,0⟩:Cs) aC):=⟨⟨_,_,ok_Grower_put (k:=3) F18 T (U_is_line.mono (by decide)),⟨a18,n18,k18⟩,B18⟩⟩
 have U_Grower_back:MeUE l.prog w K mg base 1 aC "back" ["self"] (spGBackE (⟨x_RowError,x_NoKinds,x_NoLine,0,0,x_NoNumber,0,0,0,x_TooMany,0,0⟩:Cs) aC):=⟨⟨_,_,ok_Grower_back (k:=0) F19 T ,⟨a19,n19,k19⟩,B19⟩⟩
 have U_Grower_row:MeU l.prog w K mg base 1 aC "row" ["self"] (spGRow aC):=⟨⟨_,_,ok_Grower_row (k:=0) F20 T ,⟨a20,n20,k20⟩,B20⟩⟩
 have U_Grower_how_many:MeUE l.prog w K mg base 6 aC "how_many" ["self"] (spGMany aC):=⟨⟨_,_,ok_Grower_how_many (k:=5) F21 T (U_how_many_fillings.mono (by decide)),⟨a21,n21,k21⟩,B21⟩⟩
 have U_Grower_may_go_on:MeUE l.prog w K mg base 7 aC "may_go_on" ["self"] (spGGoOn aC):=⟨⟨_,_,ok_Grower_may_go_on (k:=6) F22 T (U_may_go_on_begun.mono (by decide)),⟨a22,n22,k22⟩,B22⟩⟩
 have U_Grower_depths:MeUE l.prog w K mg base 6 aC "depths" ["self"] (spGDepths aC):=⟨⟨_,_,ok_Grower_depths (k:=5) F23 T (U_depths_begun.mono (by decide)),⟨a23,n23,k23⟩,B23⟩⟩
 have U_Grower_fewest_more:MeUE l.prog w K mg base 7 aC "fewest_more" ["self"] (spGFewest aC):=⟨⟨_,_,ok_Grower_fewest_more (k:=6) F24 T (U_fewest_more_begun.mono (by decide)),⟨a24,n24,k24⟩,B24⟩⟩
 have U_law_pool:FnU l.prog w K mg base 1 "_law_pool" ["script","k"] (spPoolD K):=D25.fnU (ok_law_pool (k:=0) F25 T )
 have U_law_draw:FnU l.prog w K mg base 1 "_law_draw" ["pool","many"] (spDraw):=D26.fnU (ok_law_draw (k:=0) F26 T )
 have U_law_stacks:FnU l.prog w K mg base 1 "_law_stacks" ["k","row"] (spStacks42):=D27.fnU (ok_law_stacks (k:=0) F27 T )
 have U_law_caught:FnU l.prog w K mg base 5 "_law_caught" ["grower","word","sign"] (spCaught42 K aC):=D28.fnU (ok_law_caught (k:=4) F28 T (U_Grower_put.mono (by decide)) (U_Grower_back.mono (by decide)))
 have U_law_no_sign:FnU l.prog w K mg base 2 "_law_no_sign" ["pool","k"] (spNoSign42 K):=D29.fnU (ok_law_no_sign (k:=1) F29 T (U_law_draw.mono (by decide)))
 have U_law_sign:FnU l.prog w K mg base 2 "_law_sign" ["pool","k","row"] (spSign42):=D30.fnU (ok_law_sign (k:=1) F30 T (U_law_draw.mono (by decide)) (U_law_stacks.mono (by decide)))
 have U_law_deed:FnU l.prog w K mg base 3 "_law_deed" ["pool","k","row"] (spDeed42 K):=D31.fnU (ok_law_deed (k:=2) F31 T (U_law_draw.mono (by decide)) (U_law_sign.mono (by decide)) (U_law_no_sign.mono (by decide)))
 have U_law_whole:FnU l.prog w K mg base 1 "_law_whole" ["found","due"] (spWhole42):=D32.fnU (ok_law_whole (k:=0) F32 T )
 have U_law_spoil:FnU l.prog w K mg base 1 "_law_spoil" ["way","told","odd"] (spSpoil42):=D33.fnU (ok_law_spoil (k:=0) F33 T )
 have U_law_looked:FnUE l.prog w K mg base 8 "_law_looked" ["pool","grower","k","row","held"] (spLooked42 aC):=D34.fnUE (ok_law_looked (k:=7) F34 T (U_law_draw.mono (by decide)) (U_law_stacks.mono (by decide)) (U_Grower_may_go_on.mono (by decide)) (U_Grower_depths.mono (by decide)) (U_Grower_fewest_more.mono (by decide)) (U_law_spoil.mono (by decide)) (U_Grower_row.mono (by decide)) (U_law_whole.mono (by decide)) (U_Grower_how_many.mono (by decide)))
 exact ok_law (k:=8) F35 T (U_law_pool.mono (by decide)) (U_law_draw.mono (by decide)) (U_Grower___init__.mono (by decide)) (U_law_deed.mono (by decide)) (U_law_looked.mono (by decide)) (U_Grower_put.mono (by decide)) (U_law_caught.mono (by decide)) (U_Grower_row.mono (by decide))
theorem walk {l : PySem.W.OpenLaw} {q : Program} {loose : List Str} {XP : (Str -> Option Value) -> Heap -> Prop} {YP : World -> Heap -> Prop} {d : DefRec} {K : Params -> PySem.W.Frag} (hn : l.most = some 63) (hdf : d.params.defaults = [])
  (hY : ∀ (w : World) (h : Heap), YP w h -> (K w.params).In h)
  (F : ∀ (w : World) (mg : Str -> Option Value) (fa : Addr) (h : Heap), (K w.params).In h -> h.Ns mainGlobals mg -> mg d.name = some (.ref fa) ->
   ∃ fd : FuncData, (∀ (s : Shared) (u : Value), BindsTo s fd ⟨[u], []⟩ [("script", u)]) /\ ∀ base : Heap, (K w.params).In base -> base.Ns mainGlobals mg -> FnOk l.prog w (K w.params) mg base CX0 9 fa fd ["script"] (spLaw (K w.params))) :
  PySem.W.WalkO q loose XP YP l.row.toRowW d [] (fun f vs => PySem.call f vs) :=
 L2.walk_of (n := 63) (k := 9) (x := "script") (CX := fun _ => CX0) (sp := fun w => spLaw (K w.params)) hn (by decide) hdf ⟨rfl, by decide, by decide, rfl⟩ hY F (fun _ _ a ns hl _ hS => ⟨a, ns, rfl, hS, hl, fun _ => rfl⟩) fun _ _ _ _ _ z => z
end Bk
theorem PySem.W.Fast.tw15582397448816404290:True:=trivial
theorem PySem.W.Fast.tw12112045138784360557:True:=trivial
theorem PySem.W.Fast.tw12699984521073274348:True:=trivial
theorem PySem.W.Fast.tw13947603546490479407:True:=trivial
theorem PySem.W.Fast.tw13745704442408698045:True:=trivial
theorem PySem.W.Fast.tw4213559595936190702:True:=trivial
theorem PySem.W.Fast.tw16959249910973958886:True:=trivial
theorem PySem.W.Fast.tw15073107945730293601:True:=trivial
theorem PySem.W.Fast.tw14414129496902173740:True:=trivial
theorem PySem.W.Fast.tw2792177591187242612:True:=trivial
theorem PySem.W.Fast.tw257529213232941125:True:=trivial
theorem PySem.W.Fast.tw7562444327546233670:True:=trivial
theorem PySem.W.Fast.tw8513822489036831287:True:=trivial
theorem PySem.W.Fast.tw1120073614575525765:True:=trivial
theorem PySem.W.Fast.tw3741858335402650733:True:=trivial
theorem PySem.W.Fast.tw1241557923796348347:True:=trivial
theorem PySem.W.Fast.tw5879998292668991395:True:=trivial
theorem PySem.W.Fast.tw2153579474370921448:True:=trivial
theorem PySem.W.Fast.tw13575050494973066144:True:=trivial
theorem PySem.W.Fast.tw9359536623441665288:True:=trivial
theorem PySem.W.Fast.tw4862983556846237429:True:=trivial
theorem PySem.W.Fast.tw7615833094787700084:True:=trivial
theorem PySem.W.Fast.tw17239620858516016420:True:=trivial
theorem PySem.W.Fast.tw7445495136424709088:True:=trivial
theorem PySem.W.Fast.tw2763635480709380917:True:=trivial
open PySem PySem.W PyProof.Rows
set_option maxRecDepth 100000 in
set_option maxHeartbeats 0 in
theorem PySem.Challenge.cw_bracketrows_k42_growers_by_drawn_deeds_holds : PySem.Challenge.rw_bracketrows_k42_growers_by_drawn_deeds.Holds := by
 w_on; o_law; k_head; (case hw => w_witness2)
 k_fill
 refine Bk.walk (l := PySem.Challenge.rw_bracketrows_k42_growers_by_drawn_deeds) rfl rfl (fun w h Y => PySem.W.kIn_of Y) ?F
 case F =>
  intro w mg fa h KX G hmg
  refine' Bk.all_mk KX G hmg ?a0 ?l0 ?c0 ?k0 ?a1 ?l1 ?c1 ?k1 ?a2 ?l2 ?c2 ?k2 ?a3 ?l3 ?c3 ?k3 ?a4 ?l4 ?c4 ?k4 ?a5 ?l5 ?c5 ?k5 ?a6 ?l6 ?c6 ?k6 ?a7 ?l7 ?c7 ?k7 ?a8 ?l8 ?c8 ?k8 ?a9 ?l9 ?c9 ?k9 ?a10 ?l10 ?c10 ?k10 ?a11 ?l11 ?c11 ?k11 ?a12 ?l12 ?c12 ?k12 ?a13 ?l13 ?c13 ?k13 ?a14 ?l14 ?c14 ?k14 ?a15 ?l15 ?c15 ?k15 ?a16 ?l16 ?c16 ?k16 ?a17 ?n17 ?l17 ?c17 ?k17 ?a18 ?n18 ?l18 ?c18 ?k18 ?a19 ?n19 ?l19 ?c19 ?k19 ?a20 ?n20 ?l20 ?c20 ?k20 ?a21 ?n21 ?l21 ?c21 ?k21 ?a22 ?n22 ?l22 ?c22 ?k22 ?a23 ?n23 ?l23 ?c23 ?k23 ?a24 ?n24 ?l24 ?c24 ?k24 ?a25 ?l25 ?c25 ?k25 ?a26 ?l26 ?c26 ?k26 ?a27 ?l27 ?c27 ?k27 ?a28 ?l28 ?c28 ?k28 ?a29 ?l29 ?c29 ?k29 ?a30 ?l30 ?c30 ?k30 ?a31 ?l31 ?c31 ?k31 ?a32 ?l32 ?c32 ?k32 ?a33 ?l33 ?c33 ?k33 ?a34 ?l34 ?c34 ?k34 ?a35 ?l35 ?c35 ?k35 ?yc ?pg ?hdi ?po ?sat ?mks ?kpc ?nf_k ?nf_signs ?al_depths_begun ?al_fewest_more_begun ?al_how_many_fillings ?al_may_go_on_begun ?y_RowError ?w_RowError ?y_NoKinds ?w_NoKinds ?y_NoLine ?w_NoLine ?y_NoNumber ?w_NoNumber ?y_TooMany ?w_TooMany ?m_NoKinds ?v_NoKinds ?q_NoKinds_RowError ?q_NoKinds_NoKinds ?q_NoKinds_NoLine ?q_NoKinds_NoNumber ?q_NoKinds_TooMany ?m_NoLine ?v_NoLine ?q_NoLine_RowError ?q_NoLine_NoKinds ?q_NoLine_NoLine ?q_NoLine_NoNumber ?q_NoLine_TooMany ?m_NoNumber ?v_NoNumber ?q_NoNumber_RowError ?q_NoNumber_NoKinds ?q_NoNumber_NoLine ?q_NoNumber_NoNumber ?q_NoNumber_TooMany ?m_TooMany ?v_TooMany ?q_TooMany_RowError ?q_TooMany_NoKinds ?q_TooMany_NoLine ?q_TooMany_NoNumber ?q_TooMany_TooMany ?mm_NoLine ?mm_NoNumber ?mm_TooMany ?mo_NoKinds_NoLine ?mo_NoKinds_NoNumber ?mo_NoKinds_TooMany ?mo_NoLine_NoNumber ?mo_NoLine_TooMany ?mo_NoNumber_NoLine ?mo_NoNumber_TooMany ?mo_TooMany_NoLine ?mo_TooMany_NoNumber ?z_all ?z_any ?z_bool ?z_int ?z_isinstance ?z_len ?z_list ?z_max ?z_min ?z_range ?z_set ?z_sorted ?z_str ?z_sum ?g_OPENING ?h_OPENING ?g_CLOSING ?h_CLOSING ?g_K ?l_K ?c_K ?s_K ?r_K ?g_BRACKETS ?h_BRACKETS ?g_UNKNOWN ?h_UNKNOWN ?g_MOST_SIGNS ?h_MOST_SIGNS
  (case yc => k_is)
  (case a0 => k_is)
  (case l0 => k_is)
  (case c0 => k_is)
  (case k0 => k_is)
  (case a1 => k_is)
  (case l1 => k_is)
  (case c1 => k_is)
  (case k1 => k_is)
  (case a2 => k_is)
  (case l2 => k_is)
  (case c2 => k_is)
  (case k2 => k_is)
  (case a3 => k_is)
  (case l3 => k_is)
  (case c3 => k_is)
  (case k3 => k_is)
  (case a4 => k_is)
  (case l4 => k_is)
  (case c4 => k_is)
  (case k4 => k_is)
  (case a5 => k_is)
  (case l5 => k_is)
  (case c5 => k_is)
  (case k5 => k_is)
  (case a6 => k_is)
  (case l6 => k_is)
  (case c6 => k_is)
  (case k6 => k_is)
  (case a7 => k_is)
  (case l7 => k_is)
  (case c7 => k_is)
  (case k7 => k_is)
  (case a8 => k_is)
  (case l8 => k_is)
  (case c8 => k_is)
  (case k8 => k_is)
  (case a9 => k_is)
  (case l9 => k_is)
  (case c9 => k_is)
  (case k9 => k_is)
  (case a10 => k_is)
  (case l10 => k_is)
  (case c10 => k_is)
  (case k10 => k_is)
  (case a11 => k_is)
  (case l11 => k_is)
  (case c11 => k_is)
  (case k11 => k_is)
  (case a12 => k_is)
  (case l12 => k_is)
  (case c12 => k_is)
  (case k12 => k_is)
  (case a13 => k_is)
  (case l13 => k_is)
  (case c13 => k_is)
  (case k13 => k_is)
  (case a14 => k_is)
  (case l14 => k_is)
  (case c14 => k_is)
  (case k14 => k_is)
  (case a15 => k_is)
  (case l15 => k_is)
  (case c15 => k_is)
  (case k15 => k_is)
  (case a16 => k_is)
  (case l16 => k_is)
  (case c16 => k_is)
  (case k16 => k_is)
  (case a17 => k_is)
  (case n17 => k_is)
  (case l17 => k_is)
  (case c17 => k_is)
  (case k17 => k_is)
  (case a18 => k_is)
  (case n18 => k_is)
  (case l18 => k_is)
  (case c18 => k_is)
  (case k18 => k_is)
  (case a19 => k_is)
  (case n19 => k_is)
  (case l19 => k_is)
  (case c19 => k_is)
  (case k19 => k_is)
  (case a20 => k_is)
  (case n20 => k_is)
  (case l20 => k_is)
  (case c20 => k_is)
  (case k20 => k_is)
  (case a21 => k_is)
  (case n21 => k_is)
  (case l21 => k_is)
  (case c21 => k_is)
  (case k21 => k_is)
  (case a22 => k_is)
  (case n22 => k_is)
  (case l22 => k_is)
  (case c22 => k_is)
  (case k22 => k_is)
  (case a23 => k_is)
  (case n23 => k_is)
  (case l23 => k_is)
  (case c23 => k_is)
  (case k23 => k_is)
  (case a24 => k_is)
  (case n24 => k_is)
  (case l24 => k_is)
  (case c24 => k_is)
  (case k24 => k_is)
  (case a25 => k_is)
  (case l25 => k_is)
  (case c25 => k_is)
  (case k25 => k_is)
  (case a26 => k_is)
  (case l26 => k_is)
  (case c26 => k_is)
  (case k26 => k_is)
  (case a27 => k_is)
  (case l27 => k_is)
  (case c27 => k_is)
  (case k27 => k_is)
  (case a28 => k_is)
  (case l28 => k_is)
  (case c28 => k_is)
  (case k28 => k_is)
  (case a29 => k_is)
  (case l29 => k_is)
  (case c29 => k_is)
  (case k29 => k_is)
  (case a30 => k_is)
  (case l30 => k_is)
  (case c30 => k_is)
  (case k30 => k_is)
  (case a31 => k_is)
  (case l31 => k_is)
  (case c31 => k_is)
  (case k31 => k_is)
  (case a32 => k_is)
  (case l32 => k_is)
  (case c32 => k_is)
  (case k32 => k_is)
  (case a33 => k_is)
  (case l33 => k_is)
  (case c33 => k_is)
  (case k33 => k_is)
  (case a34 => k_is)
  (case l34 => k_is)
  (case c34 => k_is)
  (case k34 => k_is)
  (case a35 => k_is)
  (case l35 => k_is)
  (case c35 => k_is)
  (case k35 => k_is)
  (case pg => k_is)
  (case hdi => k_is)
  (case po => k_is)
  (case sat => k_is)
  (case mks => k_is)
  (case kpc => k_is)
  (case nf_k => k_is)
  (case nf_signs => k_is)
  (case al_depths_begun => k_is)
  (case al_fewest_more_begun => k_is)
  (case al_how_many_fillings => k_is)
  (case al_may_go_on_begun => k_is)
  (case y_RowError => k_is)
  (case w_RowError => kernel_rfl)
  (case y_NoKinds => k_is)
  (case w_NoKinds => kernel_rfl)
  (case y_NoLine => k_is)
  (case w_NoLine => kernel_rfl)
  (case y_NoNumber => k_is)
  (case w_NoNumber => kernel_rfl)
  (case y_TooMany => k_is)
  (case w_TooMany => kernel_rfl)
  (case m_NoKinds => kernel_rfl)
  (case v_NoKinds => kernel_rfl)
  (case q_NoKinds_RowError => kernel_rfl)
  (case q_NoKinds_NoKinds => kernel_rfl)
  (case q_NoKinds_NoLine => kernel_rfl)
  (case q_NoKinds_NoNumber => kernel_rfl)
  (case q_NoKinds_TooMany => kernel_rfl)
  (case m_NoLine => kernel_rfl)
  (case v_NoLine => kernel_rfl)
  (case q_NoLine_RowError => kernel_rfl)
  (case q_NoLine_NoKinds => kernel_rfl)
  (case q_NoLine_NoLine => kernel_rfl)
  (case q_NoLine_NoNumber => kernel_rfl)
  (case q_NoLine_TooMany => kernel_rfl)
  (case m_NoNumber => kernel_rfl)
  (case v_NoNumber => kernel_rfl)
  (case q_NoNumber_RowError => kernel_rfl)
  (case q_NoNumber_NoKinds => kernel_rfl)
  (case q_NoNumber_NoLine => kernel_rfl)
  (case q_NoNumber_NoNumber => kernel_rfl)
  (case q_NoNumber_TooMany => kernel_rfl)
  (case m_TooMany => kernel_rfl)
  (case v_TooMany => kernel_rfl)
  (case q_TooMany_RowError => kernel_rfl)
  (case q_TooMany_NoKinds => kernel_rfl)
  (case q_TooMany_NoLine => kernel_rfl)
  (case q_TooMany_NoNumber => kernel_rfl)
  (case q_TooMany_TooMany => kernel_rfl)
  (case mm_NoLine => kernel_rfl)
  (case mm_NoNumber => kernel_rfl)
  (case mm_TooMany => kernel_rfl)
  (case mo_NoKinds_NoLine => kernel_rfl)
  (case mo_NoKinds_NoNumber => kernel_rfl)
  (case mo_NoKinds_TooMany => kernel_rfl)
  (case mo_NoLine_NoNumber => kernel_rfl)
  (case mo_NoLine_TooMany => kernel_rfl)
  (case mo_NoNumber_NoLine => kernel_rfl)
  (case mo_NoNumber_TooMany => kernel_rfl)
  (case mo_TooMany_NoLine => kernel_rfl)
  (case mo_TooMany_NoNumber => kernel_rfl)
  (case z_all => k_is)
  (case z_any => k_is)
  (case z_bool => k_is)
  (case z_int => k_is)
  (case z_isinstance => k_is)
  (case z_len => k_is)
  (case z_list => k_is)
  (case z_max => k_is)
  (case z_min => k_is)
  (case z_range => k_is)
  (case z_set => k_is)
  (case z_sorted => k_is)
  (case z_str => k_is)
  (case z_sum => k_is)
  (case g_OPENING => k_is)
  (case h_OPENING => first | rfl | decide +kernel)
  (case g_CLOSING => k_is)
  (case h_CLOSING => first | rfl | decide +kernel)
  (case g_K => k_is)
  (case l_K => k_is)
  (case c_K => rfl)
  (case s_K => rfl)
  (case r_K => decide +kernel)
  (case g_BRACKETS => k_is)
  (case h_BRACKETS => first | rfl | decide +kernel)
  (case g_UNKNOWN => k_is)
  (case h_UNKNOWN => first | rfl | decide +kernel)
  (case g_MOST_SIGNS => k_is)
  (case h_MOST_SIGNS => rfl)

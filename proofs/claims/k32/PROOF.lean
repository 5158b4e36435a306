import PyProof.Rows.All
import Wide.All
import OpenK.AllK
import Wide.FinOn
import Lean
import PyProof.EqAt
import PyProof.EqKinds
import PyProof.TupleCall
import PyProof.ExcStrCall
import PyProof.ExcStrAll.ValueError
import PyProof.TupleOfStr
import PyProof.DictIter
import PyProof.DictWalks
import PyProof.Rows.SetFrom
import PyProof.CollectWalk
import PyProof.Rows.SortShell
import PyProof.Rows.SortWalk
import PyProof.ZipIter
import PyProof.Draws
import PyProof.EnumMake
import PyProof.Rows.StrFirst
import PySem.Challenge.RW_bracketrows_k32_whole_changes_in_long_ro
set_option Elab.async false
set_option linter.all false
set_option maxRecDepth 100000
namespace L2
open PySem PySem.Spec PyProof.Rows
abbrev Key:=Sum Int Str
def keyIs:Key->Value->Bool
 | .inl k,v=>Value.isInt k v
 | .inr x,v=>Value.isStrOf x v
def keyH (w:World):Key->Int
 | .inl k=>hashInt k
 | .inr x=>hashStr w x
theorem keyIs_shape : ∀ {k : Key} {v : Value}, keyIs k v = true -> (∃ i t, k = Sum.inl i /\ v = Value.int i t) \/ (∃ x t, k = Sum.inr x /\ v = Value.str x t)
  | .inl i, v, h => by
    obtain ⟨t, e⟩ := Value.isInt_shape (k := i) (v := v) h
    exact .inl ⟨i, t, rfl, e⟩
  | .inr x, v, h => by
    obtain ⟨t, e⟩ := Value.isStrOf_shape (x := x) (v := v) h
    exact .inr ⟨x, t, rfl, e⟩
theorem keyIs_int (i:Int) (t:Tok):keyIs (.inl i) (.int i t) = true:=by simp [keyIs,Value.isInt]
theorem keyIs_str (x:Str) (t:Tok):keyIs (.inr x) (.str x t) = true:=by simp [keyIs,Value.isStrOf]
theorem key_ll (a b:Int):decide ((Sum.inl a:Key) = Sum.inl b) = (a == b):=by
 by_cases e:a = b
 ·subst e; simp
 ·have h:¬ (Sum.inl a:Key) = Sum.inl b:=fun q=>e (Sum.inl.inj q)
  rw [decide_eq_false h]
  exact (beq_eq_false_iff_ne.mpr e).symm
theorem key_rr (a b:Str):decide ((Sum.inr a:Key) = Sum.inr b) = decide (a = b):=by
 by_cases e:a = b
 ·subst e; simp
 ·have h:¬ (Sum.inr a:Key) = Sum.inr b:=fun q=>e (Sum.inr.inj q)
  rw [decide_eq_false h,decide_eq_false e]
theorem key_lr (a:Int) (b:Str):decide ((Sum.inl a:Key) = Sum.inr b) = false:=decide_eq_false (fun q=>nomatch q)
theorem key_rl (a:Str) (b:Int):decide ((Sum.inr a:Key) = Sum.inl b) = false:=decide_eq_false (fun q=>nomatch q)
def mixKind (prog:Program) (w:World):PySem.KeyKind prog w Key where
 is:=keyIs
 hash:=keyH w
 inj:=fun v a b ha hb=>by
  rcases keyIs_shape ha with ⟨i,t,rfl,rfl⟩ | ⟨x,t,rfl,rfl⟩
  ·rcases keyIs_shape hb with ⟨j,u,rfl,e⟩ | ⟨y,u,rfl,e⟩
   ·injection e with e1 _; rw [e1]
   ·exact nomatch e
  ·rcases keyIs_shape hb with ⟨j,u,rfl,e⟩ | ⟨y,u,rfl,e⟩
   ·exact nomatch e
   ·injection e with e1 _; rw [e1]
 byValue:=fun k v h=>by
  rcases keyIs_shape h with ⟨i,t,rfl,rfl⟩ | ⟨x,t,rfl,rfl⟩ <;> rfl
 pyHash:=fun hv h=>by
  rcases keyIs_shape hv with ⟨i,t,rfl,rfl⟩ | ⟨x,t,rfl,rfl⟩
  ·exact wpAny_pyHash_int h
  ·exact wpAny_pyHash_str h
 eqBool:=fun hu hv h=>by
  rcases keyIs_shape hu with ⟨i,t,rfl,rfl⟩ | ⟨x,t,rfl,rfl⟩
  ·rcases keyIs_shape hv with ⟨j,u,rfl,rfl⟩ | ⟨y,u,rfl,rfl⟩
   ·rw [key_ll] at h; exact wpAny_eqBool_int h
   ·rw [key_lr] at h; exact SeqAt.EqAt.int_str i t y u _ _ _ _ h
  ·rcases keyIs_shape hv with ⟨j,u,rfl,rfl⟩ | ⟨y,u,rfl,rfl⟩
   ·rw [key_rl] at h; exact SeqAt.EqAt.str_int x t j u _ _ _ _ h
   ·rw [key_rr] at h; exact wpAny_eqBool_str h
 «strs»:=fun k x t v h=>by
  rcases keyIs_shape h with ⟨i,u,rfl,e⟩ | ⟨y,u,rfl,e⟩
  ·exact nomatch e
  ·injection e with e1 _
   subst e1
   cases v <;> rfl
theorem mixKind_int (prog:Program) (w:World) (i:Int) (t:Tok):(mixKind prog w).is (.inl i) (.int i t) = true:=keyIs_int i t
theorem mixKind_str (prog:Program) (w:World) (x:Str) (t:Tok):(mixKind prog w).is (.inr x) (.str x t) = true:=keyIs_str x t
end L2
namespace L2
open PySem PySem.Spec PyProof.Rows
inductive V where
 | non | bl (b:Bool) | int (i:Int) | str (x:Str) | byt (b:Array UInt8) | flt (b:UInt64) | ref (a:Addr) | ty (n:String)
 deriving DecidableEq
def RelV:V->Value->Prop
 | .non,u=>u = Value.none
 | .bl b,u=>u = Value.bool b
 | .int i,u=>∃ t,u = Value.int i t
 | .str x,u=>∃ t,u = Value.str x t
 | .byt b,u=>∃ t,u = Value.bytes b t
 | .flt b,u=>∃ t,u = Value.float b t
 | .ref a,u=>u = Value.ref a
 | .ty n,u=>u = Value.type n
abbrev Vals:List V->List Value->Prop:=Paired RelV
theorem Vals.length {xs:List V} {us:List Value} (r:Vals xs us):xs.length = us.length:=Paired.length r
theorem Vals.get : ∀ {xs : List V} {us : List Value} {i : Nat} {x : V}, Vals xs us -> xs[i]? = some x -> ∃ u, us[i]? = some u /\ RelV x u
  | _, _, _, _, .nil, e => by simp at e
  | _, _, 0, _, .cons r _, e => by simp at e; subst e; exact ⟨_, rfl, r⟩
  | _, _, i + 1, x, .cons _ t, e => by
    obtain ⟨u, h1, h2⟩ := Vals.get (i := i) (x := x) t (by simpa using e)
    exact ⟨u, by simpa using h1, h2⟩
theorem Vals.set {x:V} {u:Value} (r:RelV x u):∀ {xs:List V} {us:List Value} (i:Nat),Vals xs us->Vals (xs.set i x) (us.set i u)
 | _,_,_,.nil=>.nil
 | _,_,0,.cons _ t=>.cons r t
 | _,_,i + 1,.cons q t=>.cons q (Vals.set r i t)
theorem Vals.append:∀ {xs ys:List V} {us ws:List Value},Vals xs us->Vals ys ws->Vals (xs ++ ys) (us ++ ws)
 | _,_,_,_,.nil,s=>s
 | _,_,_,_,.cons r t,s=>.cons r (Vals.append t s)
theorem Vals.take:∀ {xs:List V} {us:List Value} (n:Nat),Vals xs us->Vals (xs.take n) (us.take n)
 | _,_,0,_=>.nil
 | _,_,_ + 1,.nil=>.nil
 | _,_,n + 1,.cons r t=>.cons r (Vals.take n t)
theorem Vals.drop:∀ {xs:List V} {us:List Value} (n:Nat),Vals xs us->Vals (xs.drop n) (us.drop n)
 | _,_,0,r=>r
 | _,_,_ + 1,.nil=>.nil
 | _,_,n + 1,.cons _ t=>Vals.drop n t
def RelO:Option V->Option Value->Prop
 | some v,some u=>RelV v u
 | none,none=>True
 | _,_=>False
def KV {κ:Type}:List (κ × V)->List (κ × Value)->Prop:=Paired fun (p:κ × V) (q:κ × Value)=>p.1 = q.1/\RelV p.2 q.2
def kV:Key->V
 | .inl i=>.int i
 | .inr x=>.str x
inductive HO where
 | lst (xs:List V)
 | tup (xs:List V)
 | dK (kvs:List (Key × V)) | dT (kvs:List (List Key × V))
 | set (S:Int->Bool) (n:Nat)
 | ins (C dx:Addr) (fs:List (Str × V))
 | own (x:Addr)
 | xd (fs:List (Str × V))
 | met (f x:Addr)
 | rng (lo hi:Int)
 | frz (o:Obj) (u:HO)
 | tbl (ps:Array Value)
 | ext (φ:Heap->Prop)
abbrev Hp:=Addr->Option HO
def upd (H:Hp) (a:Addr) (o:HO):Hp:=fun b=>if b = a then some o else H b
theorem upd_same {H:Hp} {a:Addr} {o:HO}:upd H a o a = some o:=by unfold upd; rw [if_pos rfl]
theorem upd_ne {H:Hp} {a b:Addr} {o:HO} (h:b ≠ a):upd H a o b = H b:=by unfold upd; rw [if_neg h]
theorem ne_of {H:Hp} {a b:Addr} {o u:HO} (h:H a = some o) (h':H b = some u) (d:o ≠ u):a ≠ b:=by
 intro e; subst e; rw [h] at h'; exact d (Option.some.inj h')
theorem ne_of_none {H:Hp} {a b:Addr} {o:HO} (h:H a = some o) (h':H b = none):a ≠ b:=by
 intro e; subst e; rw [h] at h'; cases h'
section
variable (P:Program) (w:World)
def ObjOk (H : Hp) (h : Heap) (a : Addr) : HO -> Prop
 | .lst xs => xs.length <= sizeLine /\ ∃ (its : List Value) (n : Nat), Vals xs its /\ h.get? a = some { cls := .type "list", data := .seq its.toArray n }
 | .tup xs => xs.length <= sizeLine /\ ∃ its : List Value, Vals xs its /\ IsTup h a its.toArray
 | .dK kvs => kvs.length <= sizeLine /\ (a == sysModules) = false /\ ∃ vs, KV kvs vs /\ h.DictOf (mixKind P w) a vs
 | .dT kvs => kvs.length <= sizeLine /\ (a == sysModules) = false /\ ∃ xs : List (List Key × Addr × Value),
   Paired (fun (p : List Key × V) (q : List Key × Addr × Value) => p.1 = q.1 /\ H q.2.1 = some (.tup (p.1.map kV)) /\ RelV p.2 q.2.2) kvs xs /\
   ∃ o es ep, h.get? a = some o /\ o.ExactDict /\ o.data = .dict es ep /\ es.toList = xs.map (entryOfKey (tupleKind (mixKind P w))) /\ (xs.map (·.1)).Nodup
 | .set S n => h.SetOf (intKind P w) a S n
 | .ins C dx fs => H dx = some (.own a) /\ fs.length <= 1000 /\ dx ≠ a /\ h.get? a = some (PySem.W.instObj C dx) /\
   ∃ mA, h.Ns1 dx mA /\ (∀ f, RelO (fs.lookup f) (mA f)) /\ PySem.Within mA (fs.map (·.1))
 | .own _ => ∃ o, h.get? a = some o
 | .xd fs => ∃ mA, h.Ns1 a mA /\ ∀ f, RelO (fs.lookup f) (mA f)
 | .rng lo hi => ∃ t u v, h.get? a = some { cls := .type "range", data := .fields #[.int lo t, .int hi u, .int 1 v] }
 | .frz o u => h.get? a = some o /\ ObjOk H h a u
 | .tbl ps => h.get? a = some { cls := .none, data := .fields ps }
 | .met f x => h.get? a = some (PySem.W.methodObj (.ref f) (.ref x))
 | .ext φ => φ h /\ (∃ o, h.get? a = some o) /\ ∀ h1 h2 : Heap, φ h1 -> (∀ o, h1.get? a = some o -> h2.get? a = some o) -> φ h2
structure HOk (H:Hp) (h:Heap):Prop where
 all:∀ a o,H a = some o->ObjOk P w H h a o
 sm:∀ o,H sysModules = some o->∃ ob u,o = .frz ob u
 bg:∃ b o,1 < b/\h.get? b = some o
instance (H:Hp) (h:Heap):CoeFun (HOk P w H h) fun _=>∀ a o,H a = some o->ObjOk P w H h a o:=⟨HOk.all⟩
end
section
variable {P:Program} {w:World} {H H':Hp} {h h':Heap} {a:Addr} {o:HO}
theorem ObjOk.lt (x:ObjOk P w H h a o):a < h.objs.size:=by
 cases o with
 | lst xs=>obtain ⟨_,_,_,_,e⟩:=x; exact Heap.lt_size e
 | tup xs=>obtain ⟨_,_,_,p⟩:=x; exact p.lt
 | dK kvs=>obtain ⟨_,_,_,_,o,_,_,e,_⟩:=x; exact Heap.lt_size e
 | dT kvs=>obtain ⟨_,_,_,_,o,_,_,e,_⟩:=x; exact Heap.lt_size e
 | set S n=>obtain ⟨o,_,_,_,e,_⟩:=x; exact Heap.lt_size e
 | ins C dx fs=>obtain ⟨_,_,_,e,_⟩:=x; exact Heap.lt_size e
 | own y=>obtain ⟨_,e⟩:=x; exact Heap.lt_size e
 | xd fs=>obtain ⟨_,⟨_,_,_,e,_⟩,_⟩:=x; exact Heap.lt_size e
 | rng lo hi=>obtain ⟨_,_,_,e⟩:=x; exact Heap.lt_size e
 | frz ob u=>obtain ⟨e,_⟩:=x; exact Heap.lt_size e
 | tbl ps=>exact Heap.lt_size (show h.get? a = some _ from x)
 | met f y=>exact Heap.lt_size (show h.get? a = some _ from x)
 | ext φ=>obtain ⟨_,⟨_,e⟩,_⟩:=x; exact Heap.lt_size e
theorem Paired.mapP {α β:Type} {F G:α->β->Prop}:∀ {l₁:List α} {l₂:List β},Paired F l₁ l₂->(∀ a b,F a b->G a b)->Paired G l₁ l₂
 | _,_,.nil,_=>.nil
 | _,_,.cons r t,f=>.cons (f _ _ r) (Paired.mapP t f)
theorem ObjOk.stay (x : ObjOk P w H h a o) (k : ∀ b u, (b = a \/ H b = some (.own a)) -> h.get? b = some u -> h'.get? b = some u)
    (ho : ∀ b, H b = some (.own a) -> H' b = some (.own a)) (ht : ∀ b xs, H b = some (.tup xs) -> H' b = some (.tup xs)) : ObjOk P w H' h' a o := by
  induction o with
  | lst xs => obtain ⟨z, its, n, r, e⟩ := x; exact ⟨z, its, n, r, k _ _ (.inl rfl) e⟩
  | tup xs => obtain ⟨z, its, r, ob, e, c⟩ := x; exact ⟨z, its, r, ob, k _ _ (.inl rfl) e, c⟩
  | dK kvs => obtain ⟨z, y, vs, r, ob, es, ep, e, c⟩ := x; exact ⟨z, y, vs, r, ob, es, ep, k _ _ (.inl rfl) e, c⟩
  | dT kvs =>
    obtain ⟨z, y, xs, r, ob, es, ep, e, c⟩ := x
    exact ⟨z, y, xs, Paired.mapP r fun p q z => ⟨z.1, ht _ _ z.2.1, z.2.2⟩, ob, es, ep, k _ _ (.inl rfl) e, c⟩
  | set S n => obtain ⟨ob, es, ep, t, e, c⟩ := x; exact ⟨ob, es, ep, t, k _ _ (.inl rfl) e, c⟩
  | ins C dx fs =>
    obtain ⟨d, z, ne, e, mA, ⟨od, es, ep, e2, c⟩, r⟩ := x
    exact ⟨ho _ d, z, ne, k _ _ (.inl rfl) e, mA, ⟨od, es, ep, k _ _ (.inr d) e2, c⟩, r⟩
  | own y => obtain ⟨ob, e⟩ := x; exact ⟨ob, k _ _ (.inl rfl) e⟩
  | xd fs => obtain ⟨mA, ⟨od, es, ep, e, c⟩, r⟩ := x; exact ⟨mA, ⟨od, es, ep, k _ _ (.inl rfl) e, c⟩, r⟩
  | rng lo hi => obtain ⟨t, u, v, e⟩ := x; exact ⟨t, u, v, k _ _ (.inl rfl) e⟩
  | frz ob u ih => obtain ⟨e, q⟩ := x; exact ⟨k _ _ (.inl rfl) e, ih q⟩
  | tbl ps =>
    have e : h.get? a = some { cls := .none, data := .fields ps } := x
    show h'.get? a = some { cls := .none, data := .fields ps }
    exact k a _ (.inl rfl) e
  | met f y =>
    have e : h.get? a = some (PySem.W.methodObj (.ref f) (.ref y)) := x
    show h'.get? a = some (PySem.W.methodObj (.ref f) (.ref y))
    exact k a _ (.inl rfl) e
  | ext φ => obtain ⟨p, ⟨o, e⟩, st⟩ := x; exact ⟨st _ _ p fun o q => k _ _ (.inl rfl) q, ⟨o, k _ _ (.inl rfl) e⟩, st⟩
theorem HOk.lt (x:HOk P w H h) (e:H a = some o):a < h.objs.size:=(x a o e).lt
theorem HOk.fresh (x:HOk P w H h) (e:h.objs.size <= a):H a = none:=by
 cases q:H a with
 | none=>rfl
 | some u=>exact absurd (Nat.lt_of_lt_of_le (x.lt q) e) (Nat.lt_irrefl _)
theorem HOk.kept (x:HOk P w H h) (k:∀ b u,h.get? b = some u->h'.get? b = some u):HOk P w H h':=⟨fun a o e =>
 (x a o e).stay (fun b u _ q=>k b u q) (fun _ q=>q) fun _ _ q=>q,x.sm,let ⟨b,o,l,e⟩:=x.bg; ⟨b,o,l,k _ _ e⟩⟩
theorem HOk.laid (x:HOk P w H h) (k:∀ b u,h.get? b = some u->h'.get? b = some u) (hp:h.objs.size <= a) (new:ObjOk P w (upd H a o) h' a o):HOk P w (upd H a o) h':=by
 refine ⟨fun b u e=>?_,fun u e=>?_,let ⟨b,o,l,e⟩:=x.bg; ⟨b,o,l,k _ _ e⟩⟩
 rotate_left
 ·by_cases hb:sysModules = a
  ·obtain ⟨b,o,l,q⟩:=x.bg
   exact absurd (Nat.lt_trans l (show b < sysModules from by rw [hb]; exact Nat.lt_of_lt_of_le (Heap.lt_size q) hp)) (Nat.lt_irrefl 1)
  ·rw [upd_ne hb] at e; exact x.sm u e
 have hn:=x.fresh hp
 by_cases hb:b = a
 ·subst hb; rw [upd_same] at e; cases e; exact new
 ·rw [upd_ne hb] at e
  exact (x b u e).stay (fun c v _ q=>k c v q) (fun c q=>by rw [upd_ne (ne_of_none q hn)]; exact q) fun c xs q=>by rw [upd_ne (ne_of_none q hn)]; exact q
end
def Rd (H:Hp) (a:Addr) (u:HO):Prop:=H a = some u\/∃ o,H a = some (.frz o u)
theorem Rd.ok {P:Program} {w:World} {H:Hp} {h:Heap} {a:Addr} {u:HO} (r:Rd H a u) (x:HOk P w H h):ObjOk P w H h a u:=by
 rcases r with r | ⟨o,r⟩
 ·exact x a u r
 ·obtain ⟨_,q⟩:=x a _ r
  exact q
def Mut:Option HO->Prop
 | some (.lst _)=>True
 | some (.dK _)=>True
 | some (.dT _)=>True
 | some (.set _ _)=>True
 | some (.ins _ _ _)=>True
 | some (.ext _)=>True
 | _=>False
section
variable {P:Program} {w:World} {H:Hp} {h h':Heap} {x e:Addr} {o':HO}
theorem HOk.write (ok : HOk P w H h) (mu : Mut (H x)) (he : e = x \/ H e = some (.own x)) (k : ∀ b u, b ≠ e -> h.get? b = some u -> h'.get? b = some u) (heo : ∃ u, h'.get? e = some u)
    (new : ObjOk P w (upd H x o') h' x o') : HOk P w (upd H x o') h' := by
  refine ⟨fun b u q => ?_, fun u q => ?_, ?_⟩
  rotate_left
  · by_cases hb : sysModules = x
    · exfalso
      subst hb
      cases z : H sysModules with
      | none => rw [z] at mu; exact mu
      | some o =>
        obtain ⟨ob, v, rfl⟩ := ok.sm o z
        rw [z] at mu; exact mu
    · rw [upd_ne hb] at q; exact ok.sm u q
  · obtain ⟨b, o, l, z⟩ := ok.bg
    by_cases hb : b = e
    · obtain ⟨v, hv⟩ := heo
      exact ⟨e, v, hb ▸ l, hv⟩
    · exact ⟨b, o, l, k b o hb z⟩
  have nown : ∀ c y, H c = some (.own y) -> c ≠ x := fun c y r z => by subst z; rw [r] at mu; exact mu
  have ntup : ∀ c xs, H c = some (.tup xs) -> c ≠ x := fun c xs r z => by subst z; rw [r] at mu; exact mu
  by_cases hb : b = x
  · subst hb; rw [upd_same] at q; cases q; exact new
  · rw [upd_ne hb] at q
    by_cases hbe : b = e
    · have q' : H b = some (.own x) := by
        rcases he with z | z
        · exact absurd (hbe.trans z) hb
        · rw [hbe]; exact z
      rw [q] at q'; cases q'
      obtain ⟨v, hv⟩ := heo
      exact ⟨v, by rw [hbe]; exact hv⟩
    · refine (ok b u q).stay (fun c v hc r => k c v ?_ r) (fun c r => by rw [upd_ne (nown c b r)]; exact r) fun c xs r => by rw [upd_ne (ntup c xs r)]; exact r
      rcases hc with rfl | hc
      · exact hbe
      · rintro rfl
        rcases he with z | z
        · exact nown c b hc z
        · rw [hc] at z; cases z; exact hb rfl
end
structure Un (fs ex:List Addr) (H H':Hp) (h h':Heap):Prop where
 keep:∀ b o,h.get? b = some o->H b = none->b ∉ fs->b ∉ ex->h'.get? b = some o
 slot:∀ b o,h.get? b = some o->H b = none->b ∈ fs->b ∉ ex->∃ sl,h'.get? b = some { o with slots:=sl }
 free:∀ b o,h.get? b = some o->H b = none->b ∉ ex->H' b = none
 there:∀ b o,h.get? b = some o->b ∉ ex->∃ o',h'.get? b = some o'
 tups:∀ b xs,H b = some (.tup xs)->H' b = some (.tup xs)
 frzs:∀ b o u,H b = some (.frz o u)->H' b = some (.frz o u)
 tbls:∀ b ps,H b = some (.tbl ps)->∃ more,H' b = some (.tbl (ps ++ more))
section
variable {fs fs' ex ex':List Addr} {H H1 H2:Hp} {h h1 h2 h':Heap} {a x e:Addr} {o:HO}
theorem Un.any (u:Un fs ex H H1 h h1) {b:Addr} {ob:Obj} (q:h.get? b = some ob) (n:H b = none) (hx:b ∉ ex):∃ sl,h1.get? b = some { ob with slots:=sl }:=by
 by_cases hb:b ∈ fs
 ·exact u.slot b ob q n hb hx
 ·exact ⟨ob.slots,u.keep b ob q n hb hx⟩
theorem Un.kept (k:∀ b u,h.get? b = some u->h'.get? b = some u):Un fs ex H H h h' :=
 ⟨fun b ob q _ _ _=>k b ob q,fun b ob q _ _ _=>⟨ob.slots,k b ob q⟩,fun _ _ _ n _=>n,fun b ob q _=>⟨ob,k b ob q⟩,fun _ _ q=>q,fun _ _ _ q=>q,fun _ ps q=>⟨#[],by rw [q]; simp⟩⟩
theorem Un.refl:Un fs ex H H h h:=Un.kept fun _ _ q=>q
theorem Un.laid (k:∀ b u,h.get? b = some u->h'.get? b = some u) (hp:h.objs.size <= a) (hn:H a = none):Un fs ex H (upd H a o) h h' where
 keep:=fun b u q _ _ _=>k b u q
 slot:=fun b u q _ _ _=>⟨u.slots,k b u q⟩
 free:=fun b u q n _=>by rw [upd_ne (Nat.ne_of_lt (Nat.lt_of_lt_of_le (Heap.lt_size q) hp))]; exact n
 there:=fun b u q _=>⟨u,k b u q⟩
 tups:=fun b xs q=>by rw [upd_ne (ne_of_none q hn)]; exact q
 frzs:=fun b u xs q=>by rw [upd_ne (ne_of_none q hn)]; exact q
 tbls:=fun b ps q=>⟨#[],by rw [upd_ne (ne_of_none q hn),q]; simp⟩
theorem Un.write (mu:Mut (H x)) (he:e = x\/H e = some (.own x)) (k:∀ b u,b ≠ e->h.get? b = some u->h'.get? b = some u) (heo:∃ u,h'.get? e = some u):Un fs ex H (upd H x o) h h':=by
 have hx:∀ b,H b = none->b ≠ x:=fun b n z=>by subst z; rw [n] at mu; exact mu
 have hb:∀ b,H b = none->b ≠ e:=fun b n z=>by
  subst z
  rcases he with r | r
  ·exact hx b n r
  ·rw [n] at r; cases r
 have hm:∀ b u,H b = some u->¬ Mut (some u)->b ≠ x:=fun b u q nm z=>by subst z; rw [q] at mu; exact nm mu
 refine ⟨fun b u q n _ _=>k b u (hb b n) q,fun b u q n _ _=>⟨u.slots,k b u (hb b n) q⟩,fun b u q n _=>by rw [upd_ne (hx b n)]; exact n,fun b u q _=>?_,
  fun b xs q=>by rw [upd_ne (hm b _ q fun z=>z)]; exact q,fun b u xs q=>by rw [upd_ne (hm b _ q fun z=>z)]; exact q,fun b ps q=>⟨#[],by rw [upd_ne (hm b _ q fun z=>z),q]; simp⟩⟩
 by_cases hbe:b = e
 ·subst hbe; exact heo
 ·exact ⟨u,k b u hbe q⟩
end
def trk (h:Heap) (H:Hp):List Addr:=(List.range h.objs.size).filter fun a=>(H a).isSome
def hidT (h:Heap) (H:Hp):Heap:=PySem.W.hideAll h (trk h H)
theorem hidT_size (h:Heap) (H:Hp):(hidT h H).objs.size = h.objs.size:=PySem.W.hideAll_size _ _
theorem hidT_get {h:Heap} {H:Hp} {b:Addr} {o:Obj} (e:h.get? b = some o) (n:H b = none):(hidT h H).get? b = some o :=
 PySem.W.hideAll_get _ e fun hm=>by
  have q:(H b).isSome = true:=(List.mem_filter.mp hm).2
  rw [n] at q; simp at q
theorem of_hidT {h : Heap} {H : Hp} {b : Addr} {o : Obj} (e : (hidT h H).get? b = some o) : h.get? b = some o /\ H b = none := by
  have e' : h.get? b = some o := PySem.W.of_hideAll (trk h H) e
  refine ⟨e', ?_⟩
  cases q : H b with
  | none => rfl
  | some x =>
    have hm : b ∈ trk h H := List.mem_filter.mpr ⟨List.mem_range.mpr (Heap.lt_size e'), by simp [q]⟩
    have z : (hidT h H).get? b = none := PySem.W.hideAll_none (trk h H) hm
    rw [z] at e; cases e
end L2
namespace L2
open PySem PySem.Spec PyProof.Rows
structure Mod (K:PySem.W.Frag) (mg:Str->Option Value) (base:Heap):Prop where
 kin:K.In base
 glob:base.Ns mainGlobals mg
 blt:∃ mb,base.Ns builtinsNs mb/\∀ x:Str,x ≠ "__name__"->mb x = bootBuiltins x
 nolimit:base.NoLimit
structure Cx where
 prog:Program
 w:World
 K:PySem.W.Frag
 mg:Str->Option Value
 base:Heap
 A:Around
 N:List Str
 s₀:Shared
 H₀:Hp
 env:Env
 outer:List Env
 stack:List Env
 ex:List Addr
 fn:Str->Bool
 calm:Bool
 pn:List (Addr × Obj)
 xe:Value->Shared->Prop
def frs (l:List Env):List Addr:=l.filterMap (·.frame)
abbrev Cx.fs (X:Cx):List Addr:=frs X.outer
def Vis (sc:Scope) (x:Str):Prop:=sc.names.lookup x = some .local\/sc.names.lookup x = some .cell\/sc.names.lookup x = some .free
def Loc (sc:Scope) (x:Str):Prop:=sc.names.lookup x = some .local\/sc.names.lookup x = some .cell
def Look (env:Env) (h:Heap) (m:Str->Option Value) (x:Str) (u:Value):Prop :=
 (env.kindOf x = some .local/\m x = some u)\/((env.kindOf x = some .cell\/env.kindOf x = some .free)/\∃ c,env.cells.lookup x = some c/\h.IsCell c (some u))
structure Cx.Ok (X:Cx):Prop where
 mod:Mod X.K X.mg X.base
 kind:X.env.scope.kind = .function
 glob:X.env.globals = mainGlobals
 blt:X.env.builtins = builtinsNs
 above:X.s₀.heap.objs.size <= X.env.locals
 inj:∀ x y c,X.env.cells.lookup x = some c->X.env.cells.lookup y = some c->x = y
 has:∀ x,(X.env.kindOf x = some .cell\/X.env.kindOf x = some .free)->∃ c,X.env.cells.lookup x = some c
 cab:∀ x c,X.fn x = true->X.env.cells.lookup x = some c->X.s₀.heap.objs.size <= c
 hd:X.calm = true->X.A.handled = none
 frames:X.A.frames = some X.stack
 stk:X.stack = X.outer\/(X.stack = X.env :: X.outer/\X.env.frame = some X.env.locals)
 exf:∀ b ∈ X.ex,b ≠ X.env.locals/\∀ x c,X.env.cells.lookup x = some c->c ≠ b
 bs:∀ b o,X.base.get? b = some o->X.s₀.heap.get? b = some o/\X.H₀ b = none
 bsz:X.base.objs.size <= X.s₀.heap.objs.size
 noex:∀ b o,X.base.get? b = some o->b ∉ X.ex
 exfs:∀ b ∈ X.ex,b ∉ X.fs
 funs:X.s₀.heap.FunFrames X.base X.outer
 frf:∀ b ∈ X.fs,X.H₀ b = none
structure Inv (X:Cx) (pins:List (Addr × Obj)) (σ:List (Option V)) (H:Hp) (s:Shared):Prop where
 ok:X.Ok
 os:s.os = X.s₀.os
 bare:AllBare s.gens
 base:Un X.fs X.ex X.H₀ H X.s₀.heap s.heap
 loc:∃ m,s.heap.Ns X.env.locals m/\∀ (i:Nat) (x:Str) (v:V),X.N[i]? = some x->σ[i]? = some (some v)->Vis X.env.scope x->∃ u,RelV v u/\Look X.env s.heap m x u
 cell:∀ x c,X.env.cells.lookup x = some c->∃ v,s.heap.IsCell c v
 free:H X.env.locals = none
 freeC:∀ x c,X.env.cells.lookup x = some c->H c = none
 pin:∀ p ∈ X.pn ++ pins,s.heap.get? p.1 = some p.2/\H p.1 = none/\p.1 ≠ X.env.locals/\p.1 ∉ X.fs/\∀ v,p.2.data ≠ .cell v
 hok:HOk X.prog X.w H s.heap
 len:σ.length = X.N.length
section
variable {X:Cx} {pins:List (Addr × Obj)} {σ:List (Option V)} {H H':Hp} {s:Shared} {h':Heap}
theorem Cx.Ok.nofr (ok:X.Ok) {b:Addr} {o:Obj} (e:X.base.get? b = some o):b ∉ X.fs:=fun hb=>by
 have:=(ok.funs.mem hb).1
 rw [e] at this; cases this
theorem Inv.bs (I:Inv X pins σ H s):∀ b o,X.base.get? b = some o->s.heap.get? b = some o/\H b = none:=fun b o e =>
 ⟨I.base.keep b o (I.ok.bs b o e).1 (I.ok.bs b o e).2 (I.ok.nofr e) (I.ok.noex b o e),I.base.free b o (I.ok.bs b o e).1 (I.ok.bs b o e).2 (I.ok.noex b o e)⟩
theorem Inv.bk (I:Inv X pins σ H s):∀ b o,X.base.get? b = some o->s.heap.get? b = some o:=fun b o e=>(I.bs b o e).1
theorem Inv.mod (I:Inv X pins σ H s):Mod X.K X.mg X.base:=I.ok.mod
theorem Inv.kIn (I:Inv X pins σ H s):X.K.In s.heap:=I.ok.mod.kin.keeps I.bk
theorem Inv.lt (I:Inv X pins σ H s):X.env.locals < s.heap.objs.size:=let ⟨_,hn,_⟩:=I.loc; hn.lt
theorem Inv.sz (I:Inv X pins σ H s):X.s₀.heap.objs.size <= s.heap.objs.size:=Nat.le_trans I.ok.above (Nat.le_of_lt I.lt)
theorem Inv.nofs (I:Inv X pins σ H s) {a:Addr} (h:s.heap.objs.size <= a):a ∉ X.fs:=fun hb=>by
 obtain ⟨_,o,ho,_⟩:=I.ok.funs.mem hb
 exact absurd (Nat.lt_of_lt_of_le (Heap.lt_size ho) (Nat.le_trans I.sz h)) (Nat.lt_irrefl _)
theorem Inv.cne (I:Inv X pins σ H s):∀ x c,X.env.cells.lookup x = some c->c ≠ X.env.locals:=fun x c e z=>by
 obtain ⟨v,o,ho,hd⟩:=I.cell x c e
 obtain ⟨m,⟨o',es,ep,ho',hd',_⟩,_⟩:=I.loc
 rw [z,ho'] at ho; cases ho; rw [hd'] at hd; cases hd
theorem Inv.funs (I : Inv X pins σ H s) : s.heap.FunFrames X.base X.outer := by
  have all : ∀ (l : List Env), (∀ b ∈ frs l, b ∈ X.fs) -> X.s₀.heap.FunFrames X.base l -> s.heap.FunFrames X.base l := by
    intro l
    induction l with
    | nil => intro _ _; trivial
    | cons env r ih =>
      intro hs hl
      obtain ⟨hk, ⟨L, o, hf, hn, ho, hd⟩, hr⟩ := hl
      have hL : L ∈ X.fs := hs L (by unfold frs; rw [List.filterMap_cons, hf]; exact List.mem_cons_self)
      obtain ⟨sl, e⟩ := I.base.slot L o ho (I.ok.frf L hL) hL fun z => I.ok.exfs L z hL
      exact ⟨hk, ⟨L, _, hf, hn, e, hd⟩, ih (fun b hb => hs b (by unfold frs; rw [List.filterMap_cons, hf]; exact List.mem_cons_of_mem _ hb)) hr⟩
  exact all X.outer (fun _ hb => hb) I.ok.funs
theorem Inv.stack (I:Inv X pins σ H s):s.heap.FunFrames X.base X.stack:=by
 rcases I.ok.stk with e | ⟨e,hf⟩
 ·rw [e]; exact I.funs
 ·rw [e]
  obtain ⟨m,hn,_⟩:=I.loc
  refine .cons (by rw [I.ok.kind]; decide) hf hn ?_ I.funs
  exact Heap.get?_none_of_le (Nat.le_trans I.ok.bsz I.ok.above)
theorem Inv.stkSub (I:Inv X pins σ H s):∀ b ∈ frs X.stack,b ∈ X.env.locals :: X.fs:=fun b hb=>by
 rcases I.ok.stk with e | ⟨e,hf⟩
 ·rw [e] at hb; exact List.mem_cons_of_mem _ hb
 ·rw [e] at hb
  unfold frs at hb
  rw [List.filterMap_cons,hf] at hb
  exact hb
theorem Inv.stkFree (I:Inv X pins σ H s):∀ b ∈ frs X.stack,H b = none:=fun b hb=>by
 rcases List.mem_cons.mp (I.stkSub b hb) with e | hb
 ·rw [e]; exact I.free
 ·obtain ⟨_,o,ho,_⟩:=I.ok.funs.mem hb
  exact I.base.free b o ho (I.ok.frf b hb) fun z=>I.ok.exfs b z hb
theorem Inv.step {g':Array GenState} {t':Nat} {d':Drawn} {ch:List Addr} (I:Inv X pins σ H s)
  (hch:∀ b ∈ ch,(b ∈ X.ex\/X.s₀.heap.objs.size <= b)/\b ≠ X.env.locals/\(∀ x c,X.env.cells.lookup x = some c->c ≠ b)/\∀ p ∈ X.pn ++ pins,p.1 ≠ b)
  (keep:∀ b o,b ≠ X.env.locals->b ∉ X.fs->b ∉ ch->s.heap.get? b = some o->H b = none->h'.get? b = some o)
  (slot:∀ b o,b ≠ X.env.locals->b ∈ X.fs->b ∉ ch->s.heap.get? b = some o->H b = none->∃ sl,h'.get? b = some { o with slots:=sl }) (free:∀ b o,b ∉ ch->s.heap.get? b = some o->H b = none->H' b = none)
  (there:∀ b o,b ∉ ch->s.heap.get? b = some o->∃ o',h'.get? b = some o')
  (tups:∀ b xs,H b = some (.tup xs)->H' b = some (.tup xs)) (frzs:∀ b o u,H b = some (.frz o u)->H' b = some (.frz o u)) (tbls:∀ b ps,H b = some (.tbl ps)->∃ more,H' b = some (.tbl (ps ++ more)))
  (ns:∀ m,s.heap.Ns X.env.locals m->h'.Ns X.env.locals m) (hok:HOk X.prog X.w H' h') (hg:AllBare g') :
  Inv X pins σ H' { s with heap:=h',gens:=g',drawn:=d',toks:=t' }:=by
 have neL:∀ b o,X.s₀.heap.get? b = some o->b ≠ X.env.locals:=fun b o e=>Nat.ne_of_lt (Nat.lt_of_lt_of_le (Heap.lt_size e) I.ok.above)
 have neC:∀ b o,X.s₀.heap.get? b = some o->b ∉ X.ex->b ∉ ch:=fun b o e hx hb=>by
  rcases (hch b hb).1 with z | z
  ·exact hx z
  ·exact absurd (Nat.lt_of_lt_of_le (Heap.lt_size e) z) (Nat.lt_irrefl _)
 have cellK:∀ x c,X.env.cells.lookup x = some c->∀ v,s.heap.IsCell c v->h'.IsCell c v:=fun x c e v ⟨o,ho,hd⟩=>by
  have nch:c ∉ ch:=fun z=>(hch c z).2.2.1 x c e rfl
  by_cases hc:c ∈ X.fs
  ·obtain ⟨sl,q⟩:=slot c o (I.cne x c e) hc nch ho (I.freeC x c e)
   exact ⟨_,q,hd⟩
  ·exact ⟨o,keep c o (I.cne x c e) hc nch ho (I.freeC x c e),hd⟩
 refine ⟨I.ok,I.os,hg,⟨fun b o e n hb hx=>?_,fun b o e n hb hx=>?_,fun b o e n hx=>?_,fun b o e hx=>?_,fun b xs e=>tups b xs (I.base.tups b xs e),fun b o xs e=>frzs b o xs (I.base.frzs b o xs e),fun b ps e=>?_⟩,?_,fun x c e=>?_,?_,fun x c e=>?_,fun p hp=>?_,hok,I.len⟩
 ·exact keep b o (neL b o e) hb (neC b o e hx) (I.base.keep b o e n hb hx) (I.base.free b o e n hx)
 ·obtain ⟨sl,e1⟩:=I.base.slot b o e n hb hx
  obtain ⟨sl',e2⟩:=slot b _ (neL b o e) hb (neC b o e hx) e1 (I.base.free b o e n hx)
  exact ⟨sl',e2⟩
 ·obtain ⟨o',e1⟩:=I.base.there b o e hx
  exact free b o' (neC b o e hx) e1 (I.base.free b o e n hx)
 ·obtain ⟨o',e1⟩:=I.base.there b o e hx
  exact there b o' (neC b o e hx) e1
 ·obtain ⟨m1,e1⟩:=I.base.tbls b ps e
  obtain ⟨m2,e2⟩:=tbls b _ e1
  exact ⟨m1 ++ m2,by rw [e2,Array.append_assoc]⟩
 ·obtain ⟨m,hn,hl⟩:=I.loc
  refine ⟨m,ns m hn,fun i x v e1 e2 e3=>?_⟩
  obtain ⟨u,r,l⟩:=hl i x v e1 e2 e3
  refine ⟨u,r,?_⟩
  rcases l with l | ⟨k,c,e,z⟩
  ·exact .inl l
  ·exact .inr ⟨k,c,e,cellK x c e _ z⟩
 ·obtain ⟨v,z⟩:=I.cell x c e
  exact ⟨v,cellK x c e v z⟩
 ·obtain ⟨m,⟨o,_,_,ho,_⟩,_⟩:=I.loc
  exact free _ o (fun z=>(hch _ z).2.1 rfl) ho I.free
 ·obtain ⟨v,o,ho,hd⟩:=I.cell x c e
  exact free c o (fun z=>(hch c z).2.2.1 x c e rfl) ho (I.freeC x c e)
 ·obtain ⟨e,n,ne,nf,d⟩:=I.pin p hp
  have nch:p.1 ∉ ch:=fun z=>(hch p.1 z).2.2.2 p hp rfl
  exact ⟨keep p.1 p.2 ne nf nch e n,free p.1 p.2 nch e n,ne,nf,d⟩
theorem Inv.un {t':Nat} (I:Inv X pins σ H s) (u:Un X.fs [] H H' s.heap h') (hok:HOk X.prog X.w H' h'):Inv X pins σ H' { s with heap:=h',toks:=t' }:=by
 obtain ⟨m,⟨o,es,ep,ho,r⟩,_⟩:=id I.loc
 obtain ⟨sl,hL⟩:=u.any ho I.free (by simp)
 exact I.step (g':=s.gens) (d':=s.drawn) (ch:=[]) (fun _ z=>nomatch z) (fun b o _ hb _ e n=>u.keep b o e n hb (by simp)) (fun b o _ hb _ e n=>u.slot b o e n hb (by simp)) (fun b o _ e n=>u.free b o e n (by simp)) (fun b o _ e=>u.there b o e (by simp)) u.tups u.frzs u.tbls (fun m' hm=>by
  obtain ⟨o',es',ep',ho',r'⟩:=hm
  rw [ho] at ho'; cases ho'
  exact ⟨_,es',ep',hL,r'⟩) hok I.bare
theorem Inv.call {g':Array GenState} {t':Nat} {d':Drawn} {ch:List Addr} (I:Inv X pins σ H s) (u:Un (frs X.stack) ch H H' s.heap h') (hok:HOk X.prog X.w H' h') (hg:AllBare g')
  (hch:∀ b ∈ ch,(b ∈ X.ex\/X.s₀.heap.objs.size <= b)/\b ≠ X.env.locals/\(∀ x c,X.env.cells.lookup x = some c->c ≠ b)/\∀ p ∈ X.pn ++ pins,p.1 ≠ b) :
  Inv X pins σ H' { s with heap:=h',gens:=g',drawn:=d',toks:=t' }:=by
 obtain ⟨m,⟨o,es,ep,ho,r⟩,_⟩:=id I.loc
 obtain ⟨sl,hL⟩:=u.any ho I.free fun z=>(hch _ z).2.1 rfl
 exact I.step (ch:=ch) hch (fun b o hL hb hc e n=>u.keep b o e n (fun z=>(List.mem_cons.mp (I.stkSub b z)).elim hL hb) hc) (fun b o _ _ hc e n=>u.any e n hc) (fun b o hc e n=>u.free b o e n hc) (fun b o hc e=>u.there b o e hc) u.tups u.frzs u.tbls (fun m' hm=>by
  obtain ⟨o',es',ep',ho',r'⟩:=hm
  rw [ho] at ho'; cases ho'
  exact ⟨_,es',ep',hL,r'⟩) hok hg
theorem Inv.turned {t' : Nat} {it : Addr} (I : Inv X pins σ H s) (k : ∀ b o, b ≠ it -> s.heap.get? b = some o -> h'.get? b = some o) (hn : H it = none) (hL : it ≠ X.env.locals)
  (h1 : it ∈ X.ex \/ X.s₀.heap.objs.size <= it) (h2 : ∀ x c, X.env.cells.lookup x = some c -> c ≠ it) (h3 : ∀ p ∈ X.pn ++ pins, p.1 ≠ it) : Inv X pins σ H { s with heap := h', toks := t' } := by
 have nit : ∀ b u, H b = some u -> b ≠ it := fun b u e z => by rw [z, hn] at e; cases e
 refine I.step (g' := s.gens) (d' := s.drawn) (ch := [it]) (fun b hb => ?_) (fun b o _ _ hc e _ => k b o (fun z => hc (by simp [z])) e) (fun b o _ _ hc e _ => ⟨o.slots, k b o (fun z => hc (by simp [z])) e⟩) (fun _ _ _ _ n => n)
  (fun b o hc e => ⟨o, k b o (fun z => hc (by simp [z])) e⟩) (fun _ _ e => e) (fun _ _ _ e => e) (fun b ps e => ⟨#[], by rw [e]; simp⟩) (fun m hm => ?_) ⟨fun b u e => ?_, I.hok.sm, let ⟨o, _, _, e, _⟩ := I.ok.mod.glob; ⟨mainGlobals, o, by decide, k _ _ (fun z => by
   rcases h1 with q | q
   ·exact I.ok.noex _ _ e (z ▸ q)
   ·exact absurd (Nat.lt_of_lt_of_le (Heap.lt_size e) (Nat.le_trans I.ok.bsz q)) (by rw [z]; exact Nat.lt_irrefl _)) (I.bk _ _ e)⟩⟩ I.bare
 ·have e : b = it := by simpa using hb
  subst e
  exact ⟨h1, hL, h2, h3⟩
 ·obtain ⟨o, es, ep, ho, r⟩ := hm
  exact ⟨o, es, ep, k _ o (Ne.symm hL) ho, r⟩
 ·refine (I.hok b u e).stay (fun c v hc q => k c v ?_ q) (fun _ q => q) fun _ _ q => q
  rcases hc with z | z
  ·rw [z]; exact nit b u e
  ·exact nit c _ z
theorem Inv.tok (I:Inv X pins σ H s) (t:Nat):Inv X pins σ H { s with toks:=t }:=I.un (h':=s.heap) (t':=t) Un.refl I.hok
theorem Inv.kept {t':Nat} (I:Inv X pins σ H s) (k:∀ b u,s.heap.get? b = some u->h'.get? b = some u):Inv X pins σ H { s with heap:=h',toks:=t' }:=I.un (Un.kept k) (I.hok.kept k)
theorem Inv.laid {a:Addr} {o:HO} {t':Nat} (I:Inv X pins σ H s) (k:∀ b u,s.heap.get? b = some u->h'.get? b = some u) (hp:s.heap.objs.size <= a) (new:ObjOk X.prog X.w (upd H a o) h' a o) :
  Inv X pins σ (upd H a o) { s with heap:=h',toks:=t' }:=I.un (Un.laid k hp (I.hok.fresh hp)) (I.hok.laid k hp new)
theorem Inv.write {x e:Addr} {o:HO} {t':Nat} (I:Inv X pins σ H s) (mu:Mut (H x)) (he:e = x\/H e = some (.own x)) (k:∀ b u,b ≠ e->s.heap.get? b = some u->h'.get? b = some u) (heo:∃ u,h'.get? e = some u)
  (new:ObjOk X.prog X.w (upd H x o) h' x o):Inv X pins σ (upd H x o) { s with heap:=h',toks:=t' }:=I.un (Un.write mu he k heo) (I.hok.write mu he k heo new)
theorem Inv.weak {σ':List (Option V)} (I:Inv X pins σ H s) (hl:σ'.length = σ.length) (w:∀ (i:Nat) v,σ'[i]? = some (some v)->σ[i]? = some (some v)):Inv X pins σ' H s :=
 ⟨I.ok,I.os,I.bare,I.base,let ⟨m,hn,hl'⟩:=I.loc; ⟨m,hn,fun i x v e1 e2 e3=>hl' i x v e1 (w i v e2) e3⟩,I.cell,I.free,I.freeC,I.pin,I.hok,hl.trans I.len⟩
theorem Inv.pins_of {pins':List (Addr × Obj)} (I:Inv X pins σ H s) (h:∀ p ∈ pins',s.heap.get? p.1 = some p.2/\H p.1 = none/\p.1 ≠ X.env.locals/\p.1 ∉ X.fs/\∀ v,p.2.data ≠ .cell v):Inv X pins' σ H s :=
 ⟨I.ok,I.os,I.bare,I.base,I.loc,I.cell,I.free,I.freeC,fun p hp=>(List.mem_append.mp hp).elim (fun z=>I.pin p (List.mem_append_left _ z)) (h p),I.hok,I.len⟩
theorem nodup_ix {N:List Str} (hN:N.Nodup) {i j:Nat} {x:Str} (a:N[i]? = some x) (b:N[j]? = some x):i = j:=by
 obtain ⟨h1,e1⟩:=List.getElem?_eq_some_iff.mp a
 obtain ⟨h2,e2⟩:=List.getElem?_eq_some_iff.mp b
 exact (List.getElem_inj hN).mp (e1.trans e2.symm)
theorem store_ok2 {M:Model} {A:Around} {E:Value->Shared->Prop} {i:Nat} {x:Str} {v:V} {u:Value} {Q:Unit->Shared->Prop} (I:Inv X pins σ H s) (hN:X.N.Nodup) (hi:X.N[i]? = some x) (hx:Loc X.env.scope x) (r:RelV v u)
  (h:∀ s',Inv X pins (σ.set i (some v)) H s'->(∃ a,Heap.SameBut a s.heap s'.heap/\(a = X.env.locals\/X.env.cells.lookup x = some a))->Q () s') (hf:X.fn x = true\/X.env.scope.names.lookup x = some .local:=by first | exact .inl rfl | exact .inr rfl | assumption):wpAny M A (storeName X.env x u) Q E s:=by
 obtain ⟨m,hn,hl⟩:=id I.loc
 have hcls:(X.env.scope.kind == .class || (X.env.scope.kind == .module && X.env.locals != X.env.globals)) = false:=by rw [I.ok.kind]; rfl
 have hiσ:i < σ.length:=by rw [I.len]; exact (List.getElem?_eq_some_iff.mp hi).1
 have cne:=I.cne
 have tracked:∀ {a:Addr} {h':Heap},(∃ o,s.heap.get? a = some o/\H a = none)->Heap.SameBut a s.heap h'->(∃ o',h'.get? a = some o')->HOk X.prog X.w H h':=fun {a h'} ha hs hz=>by
  refine ⟨fun b ob e=>?_,I.hok.sm,?_⟩
  rotate_left
  ·obtain ⟨b,o,l,e⟩:=I.hok.bg
   by_cases hb:b = a
   ·obtain ⟨v,hv⟩:=hz
    exact ⟨a,v,hb ▸ l,hv⟩
   ·exact ⟨b,o,l,(hs.2 b hb).trans e⟩
  obtain ⟨_,_,hfree⟩:=ha
  refine (I.hok b ob e).stay (fun c w' hc q=>(hs.2 c ?_).trans q) (fun _ q=>q) fun _ _ q=>q
  rintro rfl
  rcases hc with rfl | hc
  ·rw [hfree] at e; cases e
  ·rw [hfree] at hc; cases hc
 rcases hx with hk | hk
 ·refine wpAny_storeName_local hk hn (fun h' hn' hs=>?_) hcls
  obtain ⟨oL,_,_,hoL,_⟩:=id hn
  refine h _ ⟨I.ok,I.os,I.bare,⟨fun b o e n hb hx=>?_,fun b o e n hb hx=>?_,I.base.free,fun b o e hx=>?_,I.base.tups,I.base.frzs,I.base.tbls⟩,⟨_,hn',fun j y v' e1 e2 e3=>?_⟩,fun y c e=>?_,I.free,I.freeC,fun p hp=>?_,tracked ⟨oL,hoL,I.free⟩ hs (let ⟨o,_,_,e,_⟩:=hn'; ⟨o,e⟩),by simpa using I.len⟩ ⟨_,hs,.inl rfl⟩
  ·exact (hs.2 b (Nat.ne_of_lt (Nat.lt_of_lt_of_le (Heap.lt_size e) I.ok.above))).trans (I.base.keep b o e n hb hx)
  ·obtain ⟨sl,e1⟩:=I.base.slot b o e n hb hx
   exact ⟨sl,(hs.2 b (Nat.ne_of_lt (Nat.lt_of_lt_of_le (Heap.lt_size e) I.ok.above))).trans e1⟩
  ·obtain ⟨o',e1⟩:=I.base.there b o e hx
   exact ⟨o',(hs.2 b (Nat.ne_of_lt (Nat.lt_of_lt_of_le (Heap.lt_size e) I.ok.above))).trans e1⟩
  ·by_cases hj:j = i
   ·subst hj
    rw [hi] at e1; cases e1
    rw [List.getElem?_set_self hiσ] at e2
    cases e2
    exact ⟨u,r,.inl ⟨hk,by simp⟩⟩
   ·rw [List.getElem?_set_ne (Ne.symm hj)] at e2
    obtain ⟨u',r',q⟩:=hl j y v' e1 e2 e3
    refine ⟨u',r',?_⟩
    rcases q with ⟨k,e⟩ | ⟨k,c,e,z⟩
    ·refine .inl ⟨k,?_⟩
     have:y ≠ x:=fun e=>hj (nodup_ix hN e1 (e ▸ hi))
     simp [this,e]
    ·exact .inr ⟨k,c,e,z.sameBut hs (cne y c e)⟩
  ·obtain ⟨w',z⟩:=I.cell y c e
   exact ⟨w',z.sameBut hs (cne y c e)⟩
  ·obtain ⟨e,n,ne,nf,d⟩:=I.pin p hp
   exact ⟨(hs.2 p.1 ne).trans e,n,ne,nf,d⟩
 ·have hfn:X.fn x = true:=by
   rcases hf with z | z
   ·exact z
   ·rw [z] at hk; cases hk
  obtain ⟨c,hc⟩:=I.ok.has x (.inl hk)
  obtain ⟨w',z⟩:=I.cell x c hc
  refine wpAny_storeName_cell I.ok.kind hk hc z (fun h' hc' hs=>?_)
  obtain ⟨oc,hoc,hocd⟩:=id z
  refine h { s with heap:=h' } ⟨I.ok,I.os,I.bare,⟨fun b o e n hb hx=>?_,fun b o e n hb hx=>?_,I.base.free,fun b o e hx=>?_,I.base.tups,I.base.frzs,I.base.tbls⟩,⟨m,hn.sameBut hs (Ne.symm (cne x c hc)),fun j y v' e1 e2 e3=>?_⟩,fun y c' e=>?_,I.free,I.freeC,fun p hp=>?_,tracked ⟨oc,hoc,I.freeC x c hc⟩ hs (let ⟨o,e,_⟩:=hc'; ⟨o,e⟩),by simpa using I.len⟩ ⟨c,hs,.inr hc⟩
  ·exact (hs.2 b (Nat.ne_of_lt (Nat.lt_of_lt_of_le (Heap.lt_size e) (I.ok.cab x c hfn hc)))).trans (I.base.keep b o e n hb hx)
  ·obtain ⟨sl,e1⟩:=I.base.slot b o e n hb hx
   exact ⟨sl,(hs.2 b (Nat.ne_of_lt (Nat.lt_of_lt_of_le (Heap.lt_size e) (I.ok.cab x c hfn hc)))).trans e1⟩
  ·obtain ⟨o',e1⟩:=I.base.there b o e hx
   exact ⟨o',(hs.2 b (Nat.ne_of_lt (Nat.lt_of_lt_of_le (Heap.lt_size e) (I.ok.cab x c hfn hc)))).trans e1⟩
  ·by_cases hj:j = i
   ·subst hj
    rw [hi] at e1; cases e1
    rw [List.getElem?_set_self hiσ] at e2
    cases e2
    exact ⟨u,r,.inr ⟨.inl hk,c,hc,hc'⟩⟩
   ·rw [List.getElem?_set_ne (Ne.symm hj)] at e2
    obtain ⟨u',r',q⟩:=hl j y v' e1 e2 e3
    refine ⟨u',r',?_⟩
    rcases q with q | ⟨k,c',e,z'⟩
    ·exact .inl q
    ·refine .inr ⟨k,c',e,z'.sameBut hs ?_⟩
     rintro rfl
     exact hj (nodup_ix hN e1 (I.ok.inj _ _ _ e hc ▸ hi))
  ·by_cases hcc:c' = c
   ·subst hcc; exact ⟨_,hc'⟩
   ·obtain ⟨w2,z2⟩:=I.cell y c' e
    exact ⟨w2,z2.sameBut hs hcc⟩
  ·obtain ⟨e,n,ne,nf,d⟩:=I.pin p hp
   refine ⟨(hs.2 p.1 ?_).trans e,n,ne,nf,d⟩
   intro q
   rw [q,hoc] at e
   have q':oc = p.2:=Option.some.inj e
   exact d w' (by rw [<- q']; exact hocd)
theorem store_ok {M:Model} {A:Around} {E:Value->Shared->Prop} {i:Nat} {x:Str} {v:V} {u:Value} {Q:Unit->Shared->Prop} (I:Inv X pins σ H s) (hN:X.N.Nodup) (hi:X.N[i]? = some x) (hx:Loc X.env.scope x) (r:RelV v u)
  (h:∀ s',Inv X pins (σ.set i (some v)) H s'->Q () s') (hf:X.fn x = true\/X.env.scope.names.lookup x = some .local:=by first | exact .inl rfl | exact .inr rfl | assumption):wpAny M A (storeName X.env x u) Q E s :=
 store_ok2 I hN hi hx r (fun s' I' _=>h s' I') hf
theorem Inv.call' {s':Shared} {ch:List Addr} (I:Inv X pins σ H s) (ho:s'.os = s.os) (u:Un (frs X.stack) ch H H' s.heap s'.heap) (hok:HOk X.prog X.w H' s'.heap) (hg:AllBare s'.gens)
  (hch:∀ b ∈ ch,(b ∈ X.ex\/X.s₀.heap.objs.size <= b)/\b ≠ X.env.locals/\(∀ x c,X.env.cells.lookup x = some c->c ≠ b)/\∀ p ∈ X.pn ++ pins,p.1 ≠ b):Inv X pins σ H' s':=by
 obtain ⟨h',g',d',t',o'⟩:=s'
 have e:o' = s.os:=ho
 subst e
 exact I.call (g':=g') (t':=t') (d':=d') u hok hg hch
end
abbrev XK:=Value->Option Addr->Hp->Prop
abbrev St:=List (Option V)
abbrev VK:=V->Hp->Prop
abbrev TE:=St->Hp->VK->Prop
abbrev TT:=St->Hp->(Bool->Hp->Prop)->Prop
abbrev TA:=St->Hp->(List V->Hp->Prop)->Prop
structure Ends where
 nx:St->Hp->Prop
 rt:VK
 bk:St->Hp->Prop:=fun _ _=>False
 ct:St->Hp->Prop:=fun _ _=>False
abbrev TS:=Ends->St->Hp->Prop
def EP (X:Cx) (pins:List (Addr × Obj)) (σ:St) (Q:VK) (u:Value) (s':Shared):Prop:=∃ v H',Inv X pins σ H' s'/\RelV v u/\Q v H'
def TP (X:Cx) (pins:List (Addr × Obj)) (σ:St) (Q:Bool->Hp->Prop) (b:Bool) (s':Shared):Prop:=∃ H',Inv X pins σ H' s'/\Q b H'
def AP (X:Cx) (pins:List (Addr × Obj)) (σ:St) (Q:List V->Hp->Prop) (us:List Value) (s':Shared):Prop:=∃ vs H',Inv X pins σ H' s'/\Vals vs us/\Q vs H'
def SP (X:Cx) (pins:List (Addr × Obj)) (D:Ends) (f:Flow) (s':Shared):Prop :=
 match f with
 | .next=>∃ σ' H',Inv X pins σ' H' s'/\D.nx σ' H'
 | .brk=>∃ σ' H',Inv X pins σ' H' s'/\D.bk σ' H'
 | .cont=>∃ σ' H',Inv X pins σ' H' s'/\D.ct σ' H'
 | .ret u=>∃ v σ' H',Inv X pins σ' H' s'/\RelV v u/\D.rt v H'
def PE (X:Cx) (e:Expr) (t:TE):Prop :=
 ∀ (pins:List (Addr × Obj)) (s:Shared) (σ:St) (H:Hp) (Q:VK),Inv X pins σ H s->t σ H Q->wpAny (model X.prog X.w) X.A (eval e X.env) (EP X pins σ Q) X.xe s
def PT (X:Cx) (e:Expr) (t:TT):Prop :=
 ∀ (pins:List (Addr × Obj)) (s:Shared) (σ:St) (H:Hp) (Q:Bool->Hp->Prop),Inv X pins σ H s->t σ H Q->wpAny (model X.prog X.w) X.A (isTrue e X.env (eval e X.env)) (TP X pins σ Q) X.xe s
def PW (X:Cx) (e:Expr) (t:TT):Prop :=
 ∀ (whole:Sem Value) (pins:List (Addr × Obj)) (s:Shared) (σ:St) (H:Hp) (Q:Bool->Hp->Prop),Inv X pins σ H s->t σ H Q->wpAny (model X.prog X.w) X.A (isTrue e X.env whole) (TP X pins σ Q) X.xe s
theorem PW.pt {X:Cx} {e:Expr} {t:TT} (h:PW X e t):PT X e t:=h _
def PA (X:Cx) (es:List Expr) (t:TA):Prop :=
 ∀ (pos:Pos) (pins:List (Addr × Obj)) (s:Shared) (σ:St) (H:Hp) (Q:List V->Hp->Prop),Inv X pins σ H s->t σ H Q->wpAny (model X.prog X.w) X.A (spliced (backTo pos (starEach es X.env))) (AP X pins σ Q) X.xe s
def PS (X:Cx) (st:Stmt) (t:TS):Prop :=
 ∀ (pins:List (Addr × Obj)) (s:Shared) (σ:St) (H:Hp) (D:Ends),Inv X pins σ H s->t D σ H->wpAny (model X.prog X.w) X.A (exec st X.env) (SP X pins D) X.xe s
def PSs (X:Cx) (st:List Stmt) (t:TS):Prop :=
 ∀ (pins:List (Addr × Obj)) (s:Shared) (σ:St) (H:Hp) (D:Ends),Inv X pins σ H s->t D σ H->wpAny (model X.prog X.w) X.A (execs st X.env) (SP X pins D) X.xe s
theorem thn {α:Type} {t:Sem α} {Q Q':α->Shared->Prop} {M:Model} {A:Around} {E:Value->Shared->Prop} {s:Shared} (h:wpAny M A t Q E s) (hQ:∀ a s,Q a s->Q' a s):wpAny M A t Q' E s:=wpAny_mono h hQ fun _ _ x=>x
end L2
namespace L2
open PySem PySem.Spec PyProof.Rows
section
variable {X:Cx}
def tVar (i:Nat):TE:=fun σ H Q=>∃ v,σ[i]? = some (some v)/\Q v H
def tC (v:V):TE:=fun _ H Q=>Q v H
theorem pe_var {i:Nat} {x:Str} {pos:Pos} (hN:X.N[i]? = some x) (hv:Vis X.env.scope x) (hd:(x == ("__debug__" : Str)) = false:=by decide) (hcd:(x == ("__classdict__" : Str)) = false:=by decide):PE X (.Name x pos) (tVar i):=by
 intro pins s σ H Q I h
 obtain ⟨v,e,h⟩:=h
 obtain ⟨m,hn,hl⟩:=I.loc
 obtain ⟨u,r,l⟩:=hl i x v hN e hv
 have fin:EP X pins σ Q u s:=⟨v,H,I,r,h⟩
 rcases l with ⟨hk,hm⟩ | ⟨hk,c,hc,hcell⟩
 ·exact wpAny_Name (wpAny_loadName_local I.ok.kind hk hn hm fin) hd
 ·rcases hk with hk | hk
  ·exact wpAny_Name (wpAny_loadName_cell I.ok.kind hk hc hcell fin) hd
  ·exact wpAny_Name (wpAny_loadName_free I.ok.kind hk hc hcell fin hcd) hd
theorem pe_int {i j pos}:PE X (.Constant (.int i) j pos) (tC (.int i)):=fun _ _ _ H _ I h=>wpAny_Constant_int ⟨.int i,H,I.tok _,⟨_,rfl⟩,h⟩
theorem pe_bl {b j pos}:PE X (.Constant (.bool b) j pos) (tC (.bl b)):=fun _ _ _ H _ I h=>Constant_bool ⟨.bl b,H,I,rfl,h⟩
theorem pe_non {j pos}:PE X (.Constant .none j pos) (tC .non):=fun _ _ _ H _ I h=>Constant_none ⟨.non,H,I,rfl,h⟩
theorem pe_str {x j pos}:PE X (.Constant (.str x) j pos) (tC (.str x)):=fun _ _ _ H _ I h=>Calls.Constant_str ⟨.str x,H,I.tok _,⟨_,rfl⟩,h⟩
def Gl (X:Cx) (x:Str):Prop:=X.env.kindOf x = some .globalImplicit
theorem ld_glob {E:Value->Shared->Prop} {pins:List (Addr × Obj)} {s:Shared} {σ:St} {H:Hp} {x:Str} {u:Value} {pos:Pos} {Q:Value->Shared->Prop} (I:Inv X pins σ H s) (hg:Gl X x) (hm:X.mg x = some u) (h:Q u s)
  (hd:(x == ("__debug__" : Str)) = false:=by decide):wpAny (model X.prog X.w) X.A (eval (.Name x pos) X.env) Q E s :=
 Calls.Name_function_global I.ok.kind hg (Calls.loadGlobal_global (by rw [I.ok.glob]; exact I.mod.glob.keeps I.bk) hm h) hd
theorem ld_blt {E:Value->Shared->Prop} {pins:List (Addr × Obj)} {s:Shared} {σ:St} {H:Hp} {x:Str} {u:Value} {pos:Pos} {Q:Value->Shared->Prop} (I:Inv X pins σ H s) (hg:Gl X x) (hm:X.mg x = none) (hv:bootBuiltins x = some u) (h:Q u s)
  (hn:x ≠ "__name__":=by decide) (hd:(x == ("__debug__" : Str)) = false:=by decide):wpAny (model X.prog X.w) X.A (eval (.Name x pos) X.env) Q E s:=by
 obtain ⟨mb,h1,h2⟩:=I.mod.blt
 exact Calls.Name_function_global I.ok.kind hg (Calls.loadGlobal_builtin (by rw [I.ok.glob]; exact I.mod.glob.keeps I.bk) hm (by rw [I.ok.blt]; exact h1.keeps I.bk) ((h2 x hn).trans hv) h) hd
theorem pe_glob {x:Str} {v:V} {u:Value} {pos:Pos} (hg:Gl X x) (hm:X.mg x = some u) (r:RelV v u) (hd:(x == ("__debug__" : Str)) = false:=by decide):PE X (.Name x pos) (tC v) :=
 fun _ _ _ H _ I h=>ld_glob I hg hm ⟨v,H,I,r,h⟩ hd
theorem pe_bltn {x:Str} {v:V} {u:Value} {pos:Pos} (hg:Gl X x) (hm:X.mg x = none) (hv:bootBuiltins x = some u) (r:RelV v u) (hn:x ≠ "__name__":=by decide) (hd:(x == ("__debug__" : Str)) = false:=by decide):PE X (.Name x pos) (tC v) :=
 fun _ _ _ H _ I h=>ld_blt I hg hm hv ⟨v,H,I,r,h⟩ hn hd
variable {a b:Expr} {ta tb:TE} {pos:Pos}
variable {tA tB':TT} {rest:List Expr}
def tAnd (t u:TT):TT:=fun σ H Q=>t σ H fun c H1=>if c = true then u σ H1 Q else Q false H1
def tOr (t u:TT):TT:=fun σ H Q=>t σ H fun c H1=>if c = true then Q true H1 else u σ H1 Q
def tNot (t:TT):TT:=fun σ H Q=>t σ H fun c H1=>Q (!c) H1
theorem pw_and1 (ha:PT X a tA):PW X (.BoolOp .And [a] pos) tA:=by
 intro wh pins s σ H Q I h
 refine isTrue_and (thn (ha pins s σ H Q I h) fun c s1 e=>?_)
 cases c with
 | true=>exact isTrue_and_nil e
 | false=>exact e
theorem pw_or1 (ha:PT X a tA):PW X (.BoolOp .Or [a] pos) tA:=by
 intro wh pins s σ H Q I h
 refine isTrue_or (thn (ha pins s σ H Q I h) fun c s1 e=>?_)
 cases c with
 | false=>exact isTrue_or_nil e
 | true=>exact e
theorem pw_and (ha:PT X a tA) (hb:PW X (.BoolOp .And (b :: rest) pos) tB'):PW X (.BoolOp .And (a :: b :: rest) pos) (tAnd tA tB'):=by
 intro wh pins s σ H Q I h
 refine isTrue_and (thn (ha pins s σ H _ I h) fun c s1 ⟨H1,I1,q1⟩=>?_)
 cases c with
 | true=>exact hb wh pins s1 σ H1 Q I1 q1
 | false=>exact ⟨H1,I1,q1⟩
theorem pw_or (ha:PT X a tA) (hb:PW X (.BoolOp .Or (b :: rest) pos) tB'):PW X (.BoolOp .Or (a :: b :: rest) pos) (tOr tA tB'):=by
 intro wh pins s σ H Q I h
 refine isTrue_or (thn (ha pins s σ H _ I h) fun c s1 ⟨H1,I1,q1⟩=>?_)
 cases c with
 | true=>exact ⟨H1,I1,q1⟩
 | false=>exact hb wh pins s1 σ H1 Q I1 q1
theorem pt_not (ha:PT X a tA):PT X (.UnaryOp .Not a pos) (tNot tA):=by
 intro pins s σ H Q I h
 exact isTrue_not (ha pins s σ H (fun c H1=>Q (!c) H1) I h)
def tAndV (ta tb:TE):TE:=fun σ H Q=>ta σ H fun x H1=>∃ c,x = .bl c/\if c = true then tb σ H1 Q else Q (.bl false) H1
def tNotV (ta:TE):TE:=fun σ H Q=>ta σ H fun x H1=>∃ c,x = .bl c/\Q (.bl (!c)) H1
theorem pe_one {op} {t:TE} (h:PE X a t):PE X (.BoolOp op [a] pos) t:=fun pins s σ H Q I hw=>BoolOp_one (h pins s σ H Q I hw)
theorem pe_and (ha:PE X a ta) (hb:PE X (.BoolOp .And (b :: rest) pos) tb):PE X (.BoolOp .And (a :: b :: rest) pos) (tAndV ta tb):=by
 intro pins s σ H Q I h
 refine BoolOp_and (thn (ha pins s σ H _ I h) fun v s1 ⟨x,H1,I1,r1,q1⟩=>?_)
 obtain ⟨c,rfl,q1⟩:=q1
 cases r1
 refine wpAny_truthy_bool ?_
 cases c with
 | true=>exact hb pins s1 σ H1 Q I1 q1
 | false=>exact ⟨.bl false,H1,I1,rfl,q1⟩
theorem pe_not (ha:PE X a ta):PE X (.UnaryOp .Not a pos) (tNotV ta):=by
 intro pins s σ H Q I h
 refine UnaryOp_ (thn (ha pins s σ H _ I h) fun v s1 ⟨x,H1,I1,r1,q1⟩=>?_)
 obtain ⟨c,rfl,q1⟩:=q1
 cases r1
 exact not_of (wpAny_truthy_bool ⟨.bl (!c),H1,I1,rfl,q1⟩)
def tIf (t:TT) (ta tb:TE):TE:=fun σ H Q=>t σ H fun c H1=>if c = true then ta σ H1 Q else tb σ H1 Q
theorem pe_ifExp {c:Expr} (hc:PT X c tA) (ha:PE X a ta) (hb:PE X b tb):PE X (.IfExp c a b pos) (tIf tA ta tb):=by
 intro pins s σ H Q I h
 refine wpAny_IfExp (thn (hc pins s σ H _ I h) fun d s1 ⟨H1,I1,q1⟩=>?_)
 cases d with
 | true=>exact ha pins s1 σ H1 Q I1 q1
 | false=>exact hb pins s1 σ H1 Q I1 q1
end
end L2
namespace L2
open PySem PySem.Spec PyProof.Rows
def SqL (K:PySem.W.Frag) (H:Hp) (a:Addr) (xs:List V):Prop :=
 Rd H a (.lst xs) \/
  ∃ (o:Obj) (its:Array Value) (n:Nat),K.lookup a = some o/\o.cls = .type "list"/\o.dict = none/\o.data = .seq its n/\its.size <= sizeLine/\Vals xs its.toList
def SqT (K:PySem.W.Frag) (H:Hp) (a:Addr) (xs:List V):Prop :=
 Rd H a (.tup xs) \/
  ∃ (o:Obj) (its:Array Value) (n:Nat),K.lookup a = some o/\o.cls = .type "tuple"/\o.data = .seq its n/\its.size <= sizeLine/\Vals xs its.toList
def absV:Value->Option V
 | .none=>some .non
 | .bool b=>some (.bl b)
 | .int i _=>some (.int i)
 | .str x _=>some (.str x)
 | .bytes b _=>some (.byt b)
 | .float b _=>some (.flt b)
 | .ref a=>some (.ref a)
 | .type n=>some (.ty n)
 | _=>none
theorem RelV.abs {x:V} {u:Value} (r:RelV x u):absV u = some x:=by
 cases x with
 | non=>cases r; rfl
 | bl _=>cases r; rfl
 | int _=>obtain ⟨t,rfl⟩:=r; rfl
 | str _=>obtain ⟨t,rfl⟩:=r; rfl
 | byt _=>obtain ⟨t,rfl⟩:=r; rfl
 | flt _=>obtain ⟨t,rfl⟩:=r; rfl
 | ref _=>cases r; rfl
 | ty _=>cases r; rfl
theorem RelV.inj {x y:V} {u:Value} (r:RelV x u) (q:RelV y u):x = y:=Option.some.inj (r.abs.symm.trans q.abs)
theorem Vals.inj:∀ {xs ys:List V} {us:List Value},Vals xs us->Vals ys us->xs = ys
 | _,_,_,.nil,.nil=>rfl
 | _,_,_,.cons r t,.cons r' t'=>by rw [r.inj r',Vals.inj t t']
section
variable {X:Cx} {pins:List (Addr × Obj)} {σ:St} {H:Hp} {s:Shared} {a:Addr} {xs ys:List V}
theorem SqL.of {K:PySem.W.Frag} (h:H a = some (.lst xs)):SqL K H a xs:=.inl (.inl h)
theorem SqT.of {K:PySem.W.Frag} (h:H a = some (.tup xs)):SqT K H a xs:=.inl (.inl h)
theorem Inv.list (I:Inv X pins σ H s) (h:SqL X.K H a xs):∃ its:List Value,Vals xs its/\PlainL s.heap a its.toArray/\xs.length <= sizeLine:=by
 rcases h with h | ⟨o,its,n,hk,hc,hd,hs,hz,r⟩
 ·obtain ⟨z,its,n,r,e⟩:=h.ok I.hok
  exact ⟨its,r,⟨_,n,e,rfl,rfl,rfl⟩,z⟩
 ·refine ⟨its.toList,r,⟨o,n,I.kIn a o hk,hc,hd,by simpa using hs⟩,?_⟩
  have e:=r.length
  simp only [Array.length_toList] at e
  omega
theorem Inv.tuple (I:Inv X pins σ H s) (h:SqT X.K H a xs):∃ its:List Value,Vals xs its/\IsTup s.heap a its.toArray/\xs.length <= sizeLine:=by
 rcases h with h | ⟨o,its,n,hk,hc,hs,hz,r⟩
 ·obtain ⟨z,its,r,p⟩:=h.ok I.hok
  exact ⟨its,r,p,z⟩
 ·refine ⟨its.toList,r,⟨o,I.kIn a o hk,hc,n,by simpa using hs⟩,?_⟩
  have e:=r.length
  simp only [Array.length_toList] at e
  omega
theorem Inv.list_inj (I:Inv X pins σ H s) (h:SqL X.K H a xs) (h':SqL X.K H a ys):xs = ys:=by
 obtain ⟨its,r,⟨o,n,e,_,_,d⟩,_⟩:=I.list h
 obtain ⟨its',r',⟨o',n',e',_,_,d'⟩,_⟩:=I.list h'
 rw [e] at e'; cases e'
 rw [d] at d'
 injection d' with d1 _
 have:its = its':=by simpa using congrArg Array.toList d1
 subst this
 exact r.inj r'
end
abbrev Cx.wish (X:Cx) (E:Value->Shared->Prop):Cx:={ X with xe:=E }
abbrev Cx.nox (X:Cx):Cx:=X.wish fun _ _=>False
theorem Cx.Ok.wish {X:Cx} (ok:X.Ok) (E:Value->Shared->Prop):(X.wish E).Ok :=
 ⟨ok.mod,ok.kind,ok.glob,ok.blt,ok.above,ok.inj,ok.has,ok.cab,ok.hd,ok.frames,ok.stk,ok.exf,ok.bs,ok.bsz,ok.noex,ok.exfs,ok.funs,ok.frf⟩
theorem Cx.Ok.unwish {X:Cx} {E:Value->Shared->Prop} (ok:(X.wish E).Ok):X.Ok :=
 ⟨ok.mod,ok.kind,ok.glob,ok.blt,ok.above,ok.inj,ok.has,ok.cab,ok.hd,ok.frames,ok.stk,ok.exf,ok.bs,ok.bsz,ok.noex,ok.exfs,ok.funs,ok.frf⟩
section
variable {X:Cx} {pins:List (Addr × Obj)} {σ:St} {H:Hp} {s:Shared} {E:Value->Shared->Prop}
theorem Inv.wish (I:Inv X pins σ H s) (E:Value->Shared->Prop):Inv (X.wish E) pins σ H s:=⟨I.ok.wish E,I.os,I.bare,I.base,I.loc,I.cell,I.free,I.freeC,I.pin,I.hok,I.len⟩
theorem Inv.unwish (I:Inv (X.wish E) pins σ H s):Inv X pins σ H s:=⟨I.ok.unwish,I.os,I.bare,I.base,I.loc,I.cell,I.free,I.freeC,I.pin,I.hok,I.len⟩
theorem SP.unwish {D:Ends} {f:Flow} {s':Shared} (h:SP (X.wish E) pins D f s'):SP X pins D f s':=by
 cases f with
 | next=>obtain ⟨σ',H',I,q⟩:=h; exact ⟨σ',H',I.unwish,q⟩
 | brk=>obtain ⟨σ',H',I,q⟩:=h; exact ⟨σ',H',I.unwish,q⟩
 | cont=>obtain ⟨σ',H',I,q⟩:=h; exact ⟨σ',H',I.unwish,q⟩
 | ret u=>obtain ⟨v,σ',H',I,r,q⟩:=h; exact ⟨v,σ',H',I.unwish,r,q⟩
theorem PSs.nox {st:List Stmt} {t:TS} (h:PSs X.nox st t):PSs X st t:=fun pins s σ H D I hw =>
 wpAny_mono (h pins s σ H D (I.wish _) hw) (fun _ _ q=>q.unwish) fun _ _ z=>False.elim z
end
section
variable {X:Cx} {st:Stmt} {rest:List Stmt} {t u:TS} {e:Expr} {te:TE} {pos:Pos}
def tNext:TS:=fun D σ H=>D.nx σ H
def tSeq (t u:TS):TS:=fun D σ H=>t { D with nx:=u D } σ H
theorem pss_nil:PSs X [] tNext:=fun _ _ σ H _ I h=>wpAny_execs_nil ⟨σ,H,I,h⟩
theorem pss_cons (h1 : PS X st t) (h2 : PSs X rest u) : PSs X (st :: rest) (tSeq t u) := by
  intro pins s σ H D I h
  refine wpAny_execs_cons (thn (h1 pins s σ H { D with nx := u D } I h) fun f s1 q => ?_)
  cases f with
  | next =>
    obtain ⟨σ', H', I', q⟩ := q
    exact h2 pins s1 σ' H' D I' q
  | ret v => exact q
  | brk => exact q
  | cont => exact q
theorem pss_one (h1:PS X st t):PSs X [st] t:=by
 intro pins s σ H D I h
 refine wpAny_execs_cons (thn (h1 pins s σ H D I h) fun f s1 q=>?_)
 cases f with
 | next=>exact wpAny_execs_nil q
 | ret v=>exact q
 | brk=>exact q
 | cont=>exact q
def tCont:TS:=fun D σ H=>D.ct σ H
theorem ps_continue:PS X (.Continue pos) tCont:=fun _ _ σ H _ I h=>wpAny_Continue ⟨σ,H,I,h⟩
theorem Inv.quiet {pins:List (Addr × Obj)} {σ:St} {H:Hp} {s:Shared} (I:Inv X pins σ H s):interactive X.env = false:=by simp [interactive,I.ok.kind]
def tDrop (te:TE):TS:=fun D σ H=>te σ H fun _ H1=>D.nx σ H1
theorem ps_expr (he:PE X e te) (hs:swapsWith e none pos.line X.env = pure false:=by rfl):PS X (.Expr e pos) (tDrop te):=by
 intro pins s σ H D I h
 exact wpAny_Expr_any (thn (he pins s σ H _ I h) fun v s1 ⟨x,H1,I1,r1,q1⟩=>⟨σ,H1,I1,q1⟩) I.quiet hs
def tRet (te:TE):TS:=fun D σ H=>te σ H D.rt
theorem ps_ret (he:PE X e te):PS X (.Return (some e) pos) (tRet te):=by
 intro pins s σ H D I h
 exact wpAny_Return_some (thn (he pins s σ H _ I h) fun v s1 ⟨x,H1,I1,r1,q1⟩=>⟨x,σ,H1,I1,r1,q1⟩)
def tIfS (c:TT) (t u:TS):TS:=fun D σ H=>c σ H fun b H1=>if b = true then t D σ H1 else u D σ H1
theorem ps_if {c:Expr} {a b:List Stmt} {tc:TT} (hc:PT X c tc) (ha:PSs X a t) (hb:PSs X b u):PS X (.If c a b pos) (tIfS tc t u):=by
 intro pins s σ H D I h
 refine wpAny_If (thn (hc pins s σ H _ I h) fun d s1 ⟨H1,I1,q1⟩=>?_)
 cases d with
 | true=>exact ha pins s1 σ H1 D I1 q1
 | false=>exact hb pins s1 σ H1 D I1 q1
def tNever:TS:=fun _ _ _=>False
theorem ps_never:PS X st tNever:=fun _ _ _ _ _ _ h=>h.elim
end
abbrev TG:=V->St->Hp->(St->Hp->Prop)->Prop
abbrev TGs:=List V->St->Hp->(St->Hp->Prop)->Prop
def PG (X:Cx) (target:Expr) (t:TG):Prop :=
 ∀ (pins:List (Addr × Obj)) (s:Shared) (σ:St) (H:Hp) (v:V) (u:Value) (Q:St->Hp->Prop),Inv X pins σ H s->RelV v u->t v σ H Q ->
  wpAny (model X.prog X.w) X.A (assign target X.env u) (fun _ s'=>∃ σ' H',Inv X pins σ' H' s'/\Q σ' H') X.xe s
def PGs (X:Cx) (ts:List Expr) (t:TGs):Prop :=
 ∀ (pins:List (Addr × Obj)) (s:Shared) (σ:St) (H:Hp) (vs:List V) (us:List Value) (Q:St->Hp->Prop),Inv X pins σ H s->Vals vs us->t vs σ H Q ->
  wpAny (model X.prog X.w) X.A (assignInOrder ((assignEach ts X.env).map (·.2)) us) (fun _ s'=>∃ σ' H',Inv X pins σ' H' s'/\Q σ' H') X.xe s
abbrev TSet:=V->V->V->Hp->(Hp->Prop)->Prop
def PSet (X:Cx) (t:TSet):Prop :=
 ∀ (pins:List (Addr × Obj)) (s:Shared) (σ:St) (H:Hp) (o i v:V) (ov iv u:Value) (Q:Hp->Prop),Inv X pins σ H s->RelV o ov->RelV i iv->RelV v u->t o i v H Q ->
  wpAny (model X.prog X.w) X.A (setItem ov iv u) (fun _ s'=>∃ H',Inv X pins σ H' s'/\Q H') X.xe s
abbrev TIp:=V->V->Hp->VK->Prop
def PIp (X:Cx) (op:Operator) (t:TIp):Prop :=
 ∀ (pins:List (Addr × Obj)) (s:Shared) (σ:St) (H:Hp) (x y:V) (v u:Value) (Q:VK),Inv X pins σ H s->RelV x v->RelV y u->t x y H Q ->
  wpAny (model X.prog X.w) X.A (inplaceOp op v u) (EP X pins σ Q) X.xe s
section
variable {X:Cx} {pos:Pos}
def gName (i:Nat):TG:=fun v σ H Q=>Q (σ.set i (some v)) H
theorem pg_name {i:Nat} {x:Str} (hN:X.N.Nodup) (hi:X.N[i]? = some x) (hx:Loc X.env.scope x) (hf:X.fn x = true\/X.env.scope.names.lookup x = some .local:=by first | exact .inl rfl | exact .inr rfl | assumption):PG X (.Name x pos) (gName i):=by
 intro pins s σ H v u Q I r h
 exact wpAny_assign_Name (store_ok I hN hi hx r (fun s' I'=>⟨_,H,I',h⟩) hf)
def gNil:TGs:=fun vs σ H Q=>vs = []/\Q σ H
def gCons (t:TG) (u:TGs):TGs:=fun vs σ H Q=>∃ v r,vs = v :: r/\t v σ H fun σ' H'=>u r σ' H' Q
theorem pgs_nil:PGs X [] gNil:=by
 intro pins s σ H vs us Q I r h
 obtain ⟨e,h⟩:=h
 subst e
 cases r
 exact assignInOrder_nil ⟨σ,H,I,h⟩
theorem pgs_cons {e : Expr} {es : List Expr} {t : TG} {u : TGs} (h1 : PG X e t) (h2 : PGs X es u)
    (hs : (assignEach (e :: es) X.env).map (·.2) = assign e X.env :: (assignEach es X.env).map (·.2) := by rfl) : PGs X (e :: es) (gCons t u) := by
  intro pins s σ H vs us Q I r h
  obtain ⟨v, vr, e1, h⟩ := h
  subst e1
  cases r with
  | cons r rr =>
    rw [hs]
    refine assignInOrder_cons (thn (h1 pins s σ H _ _ _ I r h) fun _ s1 ⟨σ1, H1, I1, q1⟩ => ?_)
    exact h2 pins s1 σ1 H1 _ _ Q I1 rr q1
def gTup (K:PySem.W.Frag) (n:Nat) (t:TGs):TG:=fun v σ H Q=>∃ a xs,v = .ref a/\SqT K H a xs/\xs.length = n/\t xs σ H Q
theorem pg_tup {es:List Expr} {k:Nat} {t:TGs} {n:Nat} (hc:X.calm = true) (h:PGs X es t)
  (hn:(assignEach es X.env).length = n:=by rfl) (hst:(assignEach es X.env).findIdx? (·.1) = none:=by rfl):PG X (.Tuple es k pos) (gTup X.K n t):=by
 intro pins s σ H v u Q I r hw
 obtain ⟨a,xs,e1,hq,hl,hw⟩:=hw
 subst e1
 cases r
 obtain ⟨its,rv,ht,hz⟩:=I.tuple hq
 refine assign_Tuple_tuple (I.ok.hd hc) ht (by simp [hn,<- hl,rv.length]) hst fun h' hx=>?_
 have I1:Inv X pins σ H { s with heap:=h' }:=I.kept (t':=s.toks) fun b o e=>hx b o (Nat.ne_of_lt (Heap.lt_size e)) e
 exact h pins _ σ H xs _ Q I1 (by simpa using rv) hw
def gSub (to ti:TE) (t:TSet):TG:=fun v σ H Q=>to σ H fun o H1=>ti σ H1 fun i H2=>t o i v H2 fun H3=>Q σ H3
theorem pg_sub {o i : Expr} {to ti : TE} {t : TSet} (ho : PE X o to) (hi : PE X i ti) (hs : PSet X t)
  (ha : ∀ v, assign (.Subscript o i pos) X.env v = (do
   let ov <- holding [v] (eval o X.env)
   let iv <- holding [v, ov] (eval i X.env)
   standAt pos
   holding [v, ov, iv] (setItem ov iv v)
   release [v, ov, iv] []) := by intro _; rfl) : PG X (.Subscript o i pos) (gSub to ti t) := by
 intro pins s σ H v u Q I r h
 rw [ha]
 refine wpAny_bind (wpAny_holding (thn (ho pins s σ H _ I h) fun ov s1 ⟨x, H1, I1, r1, q1⟩ => ?_))
 refine wpAny_bind (wpAny_holding (thn (hi pins s1 σ H1 _ I1 q1) fun iv s2 ⟨y, H2, I2, r2, q2⟩ => ?_))
 refine wpAny_bind (wpAny_standAt (wpAny_bind (wpAny_holding (thn (hs pins s2 σ H2 x y v ov iv u _ I2 r1 r2 r q2) fun _ s3 ⟨H3, I3, q3⟩ => ?_))))
 exact wpAny_release ⟨σ, H3, I3, q3⟩
def tAsg (te:TE) (g:TG):TS:=fun D σ H=>te σ H fun x H1=>g x σ H1 D.nx
theorem ps_asg {tg e:Expr} {te:TE} {g:TG} (he:PE X e te) (hg:PG X tg g) (hs:swapsWithSole [tg] e pos.line X.env = pure false:=by rfl) (hw:swappedStores [tg] e X.env = pure none:=by rfl)
  (h1:(assignEach [tg] X.env).map (·.2) = [assign tg X.env]:=by rfl):PS X (.Assign [tg] e pos) (tAsg te g):=by
 intro pins s σ H D I h
 refine wpAny_Assign_stores (thn (he pins s σ H _ I h) fun v s1 ⟨x,H1,I1,r1,q1⟩=>?_) hs hw
 rw [h1]
 exact thn (hg pins s1 σ H1 x v _ I1 r1 q1) fun _ s2 q=>q
theorem ps_set {i:Nat} {x:Str} {e:Expr} {te:TE} {pos':Pos} (hN:X.N.Nodup) (hi:X.N[i]? = some x) (hx:Loc X.env.scope x) (he:PE X e te) (hs:swapsWith e (some (.Name x pos')) pos.line X.env = pure false:=by rfl) (hf:X.fn x = true\/X.env.scope.names.lookup x = some .local:=by first | exact .inl rfl | exact .inr rfl | assumption) :
  PS X (.Assign [.Name x pos'] e pos) (tAsg te (gName i)):=by
 intro pins s σ H D I h
 refine wpAny_Assign_Name (thn (he pins s σ H _ I h) fun v s1 ⟨y,H1,I1,r1,q1⟩=>?_) hs
 exact store_ok I1 hN hi hx r1 (fun s2 I2=>⟨_,H1,I2,q1⟩) hf
def tAug (i:Nat) (te:TE) (ti:TIp):TS:=fun D σ H=>∃ x,σ[i]? = some (some x)/\te σ H fun y H1=>ti x y H1 fun z H2=>D.nx (σ.set i (some z)) H2
theorem ps_aug {i:Nat} {x:Str} {e:Expr} {te:TE} {op:Operator} {ti:TIp} {pos':Pos} (hN:X.N.Nodup) (hi:X.N[i]? = some x) (hx:Loc X.env.scope x) (he:PE X e te) (ho:PIp X op ti) (hf:X.fn x = true\/X.env.scope.names.lookup x = some .local:=by first | exact .inl rfl | exact .inr rfl | assumption) :
  PS X (.AugAssign (.Name x pos') op e pos) (tAug i te ti):=by
 intro pins s σ H D I h
 obtain ⟨v,e1,h⟩:=h
 obtain ⟨m,hn,hl⟩:=I.loc
 have vis:Vis X.env.scope x:=by rcases hx with k | k; exact .inl k; exact .inr (.inl k)
 obtain ⟨u,r,l⟩:=hl i x v hi e1 vis
 refine wpAny_AugAssign_Name ?_
 have go:wpAny (model X.prog X.w) X.A (eval e X.env) (fun w s₂=>wpAny (model X.prog X.w) X.A (inplaceOp op u w) (fun r s₃=>wpAny (model X.prog X.w) X.A (storeName X.env x r) (fun _=>SP X pins D .next) X.xe s₃) X.xe s₂) X.xe s:=by
  refine thn (he pins s σ H _ I h) fun w s1 ⟨y,H1,I1,r1,q1⟩=>?_
  refine thn (ho pins s1 σ H1 v y u w _ I1 r r1 q1) fun z s2 ⟨zv,H2,I2,r2,q2⟩=>?_
  exact store_ok I2 hN hi hx r2 (fun s3 I3=>⟨_,H2,I3,q2⟩) hf
 rcases l with ⟨hk,hm⟩ | ⟨hk,c,hc,hcell⟩
 ·exact wpAny_loadName_local I.ok.kind hk hn hm go
 ·rcases hk with hk | hk
  ·exact wpAny_loadName_cell I.ok.kind hk hc hcell go
  ·rcases hx with k | k
   ·have:X.env.scope.names.lookup x = some .free:=hk
    rw [k] at this; cases this
   ·have:X.env.scope.names.lookup x = some .free:=hk
    rw [k] at this; cases this
def tAugS (to ti te:TE) (tget:V->V->Hp->VK->Prop) (tip:TIp) (tset:TSet):TS:=fun D σ H=>to σ H fun o H1=>ti σ H1 fun i H2=>tget o i H2 fun x H3=>te σ H3 fun y H4=>tip x y H4 fun z H5=>tset o i z H5 fun H6=>D.nx σ H6
def PGet (X:Cx) (t:V->V->Hp->VK->Prop):Prop :=
 ∀ (pins:List (Addr × Obj)) (s:Shared) (σ:St) (H:Hp) (o i:V) (ov iv:Value) (Q:VK),Inv X pins σ H s->RelV o ov->RelV i iv->t o i H Q ->
  wpAny (model X.prog X.w) X.A (getItem ov iv) (EP X pins σ Q) X.xe s
theorem ps_augS {o i e:Expr} {to ti te:TE} {tget:V->V->Hp->VK->Prop} {tip:TIp} {tset:TSet} {op:Operator} {tpos:Pos} (ho:PE X o to) (hi:PE X i ti) (hg:PGet X tget) (he:PE X e te) (hp:PIp X op tip) (hs:PSet X tset)
  (ha:∀ ov iv new,augStore i ov iv new = (do holding [new,ov,iv] (setItem ov iv new); release [new,ov,iv] []; pure .next):=by intros; rfl):PS X (.AugAssign (.Subscript o i tpos) op e pos) (tAugS to ti te tget tip tset):=by
 intro pins s σ H D I h
 refine wpAny_AugAssign_SubscriptAny (thn (ho pins s σ H _ I h) fun ov s1 ⟨x1,H1,I1,r1,q1⟩=>?_) ha
 refine thn (hi pins s1 σ H1 _ I1 q1) fun iv s2 ⟨x2,H2,I2,r2,q2⟩=>?_
 refine thn (hg pins s2 σ H2 x1 x2 ov iv _ I2 r1 r2 q2) fun old s3 ⟨x3,H3,I3,r3,q3⟩=>?_
 refine thn (he pins s3 σ H3 _ I3 q3) fun v s4 ⟨x4,H4,I4,r4,q4⟩=>?_
 refine thn (hp pins s4 σ H4 x3 x4 old v _ I4 r3 r4 q4) fun new s5 ⟨x5,H5,I5,r5,q5⟩=>?_
 exact thn (hs pins s5 σ H5 x1 x2 x5 ov iv new _ I5 r1 r2 r5 q5) fun _ s6 ⟨H6,I6,q6⟩=>⟨σ,H6,I6,q6⟩
def ipI (f:Int->Int->Int):TIp:=fun x y H Q=>∃ i j,x = .int i/\y = .int j/\Q (.int (f i j)) H
theorem ip_add:PIp X .Add (ipI fun i j=>i + j):=by
 intro pins s σ H x y v u Q I r1 r2 h
 obtain ⟨i,j,e1,e2,q⟩:=h
 subst e1; subst e2
 obtain ⟨t,rfl⟩:=r1
 obtain ⟨t',rfl⟩:=r2
 exact iadd_int ⟨.int _,H,I.tok _,⟨_,rfl⟩,q⟩
theorem ip_sub:PIp X .Sub (ipI fun i j=>i - j):=by
 intro pins s σ H x y v u Q I r1 r2 h
 obtain ⟨i,j,e1,e2,q⟩:=h
 subst e1; subst e2
 obtain ⟨t,rfl⟩:=r1
 obtain ⟨t',rfl⟩:=r2
 exact isub_int ⟨.int _,H,I.tok _,⟨_,rfl⟩,q⟩
end
section
variable {X:Cx} {pos:Pos}
def tWhile (c:TT) (tb:TS):TS:=fun D σ H=>∃ W:Nat->St->Hp->Prop,(∃ m,W m σ H)/\∀ m σ H,W m σ H ->
 c σ H fun b H1=>if b = true then ∃ N:St->Hp->Prop,(∀ σ' H',N σ' H'->∃ m',m' < m/\W m' σ' H')/\tb { D with nx:=N,ct:=N,bk:=D.nx } σ H1 else D.nx σ H1
theorem ps_while {c : Expr} {body : List Stmt} {tc : TT} {tb : TS} (hp : PassesOwn (model X.prog X.w) X.A X.env X.xe) (hc : PT X c tc) (hb : PSs X body tb) : PS X (.While c body [] pos) (tWhile tc tb) := by
  intro pins s σ H D I h
  obtain ⟨W, ⟨m0, w0⟩, turn⟩ := h
  refine wpAny_While (codeAny_whileLoop (fun n s' => ∃ σ' H', Inv X pins σ' H' s' /\ W n σ' H') ?_ m0 ⟨σ, H, I, w0⟩)
  rintro n s1 ⟨σ1, H1, I1, w1⟩
  refine wpAny_passesOwn hp (thn (hc pins s1 σ1 H1 _ I1 (turn n σ1 H1 w1)) fun b s2 ⟨H2, I2, q2⟩ => ?_)
  cases b with
  | true =>
    obtain ⟨N, hN, q2⟩ := q2
    rw [if_pos rfl]
    refine wpAny_passesOwn hp (thn (hb pins s2 σ1 H2 _ I2 q2) fun f s3 q3 => ?_)
    cases f with
    | next =>
      obtain ⟨σ3, H3, I3, n3⟩ := q3
      obtain ⟨m', hm, w3⟩ := hN σ3 H3 n3
      exact ⟨m', hm, σ3, H3, I3, w3⟩
    | cont =>
      obtain ⟨σ3, H3, I3, n3⟩ := q3
      obtain ⟨m', hm, w3⟩ := hN σ3 H3 n3
      exact ⟨m', hm, σ3, H3, I3, w3⟩
    | brk => exact q3
    | ret v => exact q3
  | false =>
    rw [if_neg Bool.false_ne_true]
    exact wpAny_execs_nil ⟨σ1, H2, I2, q2⟩
end
structure It where
 go:Nat->Hp->Prop
 yld:Nat->Hp->V->Hp->Prop
 stop:Nat->Hp->Prop
def FpOk (X:Cx) (pins:List (Addr × Obj)) (H:Hp) (b:Addr):Prop :=
 H b = none/\b ≠ X.env.locals/\b ∉ X.fs/\(b ∈ X.ex\/X.s₀.heap.objs.size <= b)/\(∀ x c,X.env.cells.lookup x = some c->c ≠ b)/\∀ p ∈ X.pn ++ pins,p.1 ≠ b
theorem Inv.fpOk {X:Cx} {pins:List (Addr × Obj)} {σ:St} {H H':Hp} {s:Shared} {b:Addr} (I:Inv X pins σ H s) (hb:s.heap.objs.size <= b) (hn:H' b = none):FpOk X pins H' b:=by
 refine ⟨hn,Nat.ne_of_gt (Nat.lt_of_lt_of_le I.lt hb),I.nofs hb,.inr (Nat.le_trans I.sz hb),fun x c e z=>?_,fun p hp z=>?_⟩
 ·obtain ⟨v,q⟩:=I.cell x c e
  exact absurd (Nat.lt_of_lt_of_le q.lt (by rw [z]; exact hb)) (Nat.lt_irrefl _)
 ·exact absurd (Nat.lt_of_lt_of_le (Heap.lt_size (I.pin p hp).1) (by rw [z]; exact hb)) (Nat.lt_irrefl _)
structure Turn (P:Program) (w:World) (K:PySem.W.Frag) (tg:Expr) (J:It) (fp:List Addr) (it:Addr) (tn:Nat->Heap->Prop):Prop where
 mem:it ∈ fp
 obj:∀ i h,tn i h->∀ b ∈ fp,∃ o,h.get? b = some o/\∀ v,o.data ≠ .cell v
 keep:∀ i h h',tn i h->(∀ b ∈ fp,∀ o,h.get? b = some o->h'.get? b = some o)->tn i h'
 item:∀ (X:Cx),X.prog = P->X.w = w->X.K = K->X.calm = true->∀ (i:Nat) (pins:List (Addr × Obj)) (s:Shared) (σ:St) (H:Hp) (E:Value->Shared->Prop),Inv X pins σ H s->(∀ b ∈ fp,FpOk X pins H b)->tn i s.heap->J.go i H ->
  wpAny (model P w) X.A (pyNext (.ref it)) (fun r s1=>∃ u,r = some u /\
   wpAny (model P w) X.A (letOwnedTupleGo tg (.ref it) u) (fun _ s2=>∃ x H',Inv X pins σ H' s2/\RelV x u/\J.yld i H x H'/\tn (i + 1) s2.heap/\∀ b ∈ fp,H' b = none) E s1) E s
 done:∀ (X:Cx),X.prog = P->X.w = w->X.K = K->X.calm = true->∀ (i:Nat) (pins:List (Addr × Obj)) (s:Shared) (σ:St) (H:Hp) (E:Value->Shared->Prop),Inv X pins σ H s->(∀ b ∈ fp,FpOk X pins H b)->tn i s.heap->J.stop i H ->
  wpAny (model P w) X.A (pyNext (.ref it)) (fun r s1=>r = none/\Inv X pins σ H s1) E s
 self:∀ (A:Around) (i:Nat) (s:Shared) (Q:Value->Shared->Prop) (E:Value->Shared->Prop),tn i s.heap->Q (.ref it) s->wpAny (model P w) A (pyIter (.ref it)) Q E s
abbrev TI:=St->Hp->(It->Hp->Prop)->Prop
def PIE (X:Cx) (pins:List (Addr × Obj)) (σ:St) (tg:Expr) (R:It->Hp->Prop) (itv:Value) (s2:Shared):Prop :=
 ∃ (it:Addr) (fp:List Addr) (tn:Nat->Heap->Prop) (J:It) (H':Hp),itv = .ref it/\Inv X pins σ H' s2/\Turn X.prog X.w X.K tg J fp it tn/\tn 0 s2.heap/\(∀ b ∈ fp,FpOk X pins H' b)/\R J H'
def PI (X:Cx) (tg iter:Expr) (wi:TI):Prop :=
 ∀ (pins:List (Addr × Obj)) (s:Shared) (σ:St) (H:Hp) (R:It->Hp->Prop),Inv X pins σ H s->wi σ H R ->
  wpAny (model X.prog X.w) X.A (eval iter X.env) (fun v s1=>wpAny (model X.prog X.w) X.A (pyIter v) (PIE X pins σ tg R) X.xe s1) X.xe s
theorem go_of {M : Model} {A : Around} {E : Value -> Shared -> Prop} {s : Shared} {tg : Expr} {it : Addr} {u : Value} {o : Obj} {n : String} {vs : Array Value} {Q : Unit -> Shared -> Prop} (ho : s.heap.get? it = some o) (hc : o.cls = .type n) (hd : o.data = .fields vs)
    (hn : ["enumerate", "zip", "dict_itemiterator", "dict_reverseitemiterator", "odict_iterator", "itertools.zip_longest", "itertools.pairwise"].contains n = false) (hQ : Q () s) : wpAny M A (letOwnedTupleGo tg (.ref it) u) Q E s := by
  unfold letOwnedTupleGo
  cases tg <;> first
    | exact wpAny_pure hQ
    | (cases u <;> first
        | exact wpAny_pure hQ
        | (refine wpAny_bind (wpAny_load ho ?_)
           rw [hc, hd]
           show wpAny M A (if (["enumerate", "zip", "dict_itemiterator", "dict_reverseitemiterator", "odict_iterator", "itertools.zip_longest", "itertools.pairwise"].contains n && vs[0]? == some (rawInt _)) = true then _ else _) Q E s
           rw [if_neg (by intro h; rw [hn, Bool.false_and] at h; cases h)]
           exact wpAny_pure hQ))
def Itl (K:PySem.W.Frag) (a:Addr):It :=
 ⟨fun i H=>∃ xs x,SqL K H a xs/\xs[i]? = some x,fun i H x H'=>H' = H/\∀ xs,SqL K H a xs->xs[i]? = some x,fun i H=>∃ xs,SqL K H a xs/\xs.length <= i⟩
def Itr (lo:Int) (n:Nat):It:=⟨fun i _=>i < n,fun i H x H'=>H' = H/\x = .int (lo + i),fun i _=>n <= i⟩
theorem turn_list {P:Program} {w:World} {K:PySem.W.Frag} {tg:Expr} (a it:Addr):Turn P w K tg (Itl K a) [it] it (fun i h=>h.IsListIter it a i) where
 mem:=by simp
 obj:=fun i h st b hb=>by
  have e:b = it:=by simpa using hb
  subst e
  obtain ⟨o,e,c,d⟩:=st
  exact ⟨o,e,fun v z=>by rw [d] at z; cases z⟩
 keep:=fun i h h' st k=>st.at fun o e=>k it (by simp) o e
 item:=by
  intro X hP hw hK hc i pins s σ H E I hf st hg
  subst hP hw hK
  obtain ⟨xs,x,hq,hx⟩:=hg
  obtain ⟨its,rv,p,hz⟩:=I.list hq
  obtain ⟨u,hu,ru⟩:=rv.get hx
  obtain ⟨f0,f1,f2,f3,f4,f5⟩:=hf it (by simp)
  refine wpAny_pyNext_list_item st p.isList (x:=u) (by simpa using hu) fun h' st' sb=>?_
  have I1:Inv X pins σ H { s with heap:=h' }:=I.turned (t':=s.toks) (fun b o hb e=>(sb.2 b hb).trans e) f0 f1 f3 f4 f5
  obtain ⟨o,e,c,d⟩:=id st'
  exact ⟨u,rfl,go_of (s:={ s with heap:=h' }) e c d (by decide) ⟨x,H,I1,ru,⟨rfl,fun ys hy=>by rw [I.list_inj hy hq]; exact hx⟩,st',fun b hb=>(hf b hb).1⟩⟩
 done:=by
  intro X hP hw hK hc i pins s σ H E I hf st hg
  subst hP hw hK
  obtain ⟨xs,hq,hx⟩:=hg
  obtain ⟨its,rv,p,hz⟩:=I.list hq
  obtain ⟨f0,f1,f2,f3,f4,f5⟩:=hf it (by simp)
  have hl:=rv.length
  exact wpAny_pyNext_list_end (I.ok.hd hc) st p.isList (by simp; omega) fun h' eb=>⟨rfl,I.turned (t':=s.toks) (fun b o hb e=>eb b o hb e) f0 f1 f3 f4 f5⟩
 self:=fun _ _ _ _ _ st h=>wpAny_pyIter_listiter st h
theorem turn_range {P:Program} {w:World} {K:PySem.W.Frag} {tg:Expr} (it:Addr) (lo:Int) (n:Nat):Turn P w K tg (Itr lo n) [it] it (fun i h=>IsRangeIter h it (lo + (i:Nat) * 1) ((n:Int) - (i:Nat)) 1) where
 mem:=by simp
 obj:=fun i h st b hb=>by
  have e:b = it:=by simpa using hb
  subst e
  exact ⟨_,st,fun v z=>by
   have z':Data.fields _ = Data.cell v:=z
   cases z'⟩
 keep:=fun i h h' st k=>k it (by simp) _ st
 item:=by
  intro X hP hw hK hc i pins s σ H E I hf st hg
  subst hP hw hK
  obtain ⟨f0,f1,f2,f3,f4,f5⟩:=hf it (by simp)
  have W:=Walks.range (prog:=X.prog) (w:=X.w) (I.ok.hd hc) it lo 1 n
  refine W.item i s _ _ hg st fun v h' tk hv st' kk=>?_
  obtain ⟨t,rfl⟩:=hv
  have I1:Inv X pins σ H { s with heap:=h',toks:=tk }:=I.turned (fun b o hb e=>kk b o (by simpa using hb) e) f0 f1 f3 f4 f5
  refine ⟨_,rfl,go_of (s:={ s with heap:=h',toks:=tk }) (n:="range_iterator") st' rfl rfl (by decide) ⟨.int (lo + i),H,I1,⟨t,?_⟩,⟨rfl,rfl⟩,st',fun b hb=>(hf b hb).1⟩⟩
  rw [Int.mul_one]
 done:=by
  intro X hP hw hK hc i pins s σ H E I hf st hg
  subst hP hw hK
  obtain ⟨f0,f1,f2,f3,f4,f5⟩:=hf it (by simp)
  exact wpAny_pyNext_range_end (I.ok.hd hc) st (by have:n <= i:=hg; omega) fun h' eb=>⟨rfl,I.turned (t':=s.toks) (fun b o hb e=>eb b o hb e) f0 f1 f3 f4 f5⟩
 self:=fun _ _ _ _ _ st h=>wpAny_pyIter_rangeiter st h
end L2
namespace L2
open PySem PySem.Spec PyProof.Rows
section
variable {X:Cx} {tg:Expr}
def iList (K:PySem.W.Frag) (tl:TE):TI:=fun σ H R=>tl σ H fun x H1=>∃ a,x = .ref a/\(∃ xs,SqL K H1 a xs)/\R (Itl K a) H1
theorem pi_list {l:Expr} {tl:TE} (hl:PE X l tl):PI X tg l (iList X.K tl):=by
 intro pins s σ H R I h
 refine thn (hl pins s σ H _ I h) fun v s1 ⟨x,H1,I1,r1,q1⟩=>?_
 obtain ⟨a,e,⟨xs,hq⟩,q⟩:=q1
 subst e
 cases r1
 obtain ⟨its,rv,p,hz⟩:=I1.list hq
 refine wpAny_pyIter_list p.isList ?_
 refine ⟨s1.heap.objs.size,[s1.heap.objs.size],_,_,H1,rfl,I1.kept (t':=s1.toks) fun b o e=>Heap.get?_push_of_some _ e,turn_list a _,⟨_,Heap.get?_push_size _ rfl,rfl,rfl⟩,fun b hb=>?_,q⟩
 have e:b = s1.heap.objs.size:=by simpa using hb
 subst e
 exact I1.fpOk (Nat.le_refl _) (I1.hok.fresh (Nat.le_refl _))
theorem range_it {pins:List (Addr × Obj)} {σ:St} {H:Hp} {s:Shared} {R:It->Hp->Prop} {E:Value->Shared->Prop} {lo hi:Int} {t u v:Tok} {tk:Nat} (I:Inv X pins σ H s) (h1:-(2 ^ 62) <= lo) (h2:lo < 2 ^ 62) (h3:-(2 ^ 62) <= hi) (h4:hi < 2 ^ 62)
  (q:R (Itr lo (hi - lo).toNat) H):wpAny (model X.prog X.w) X.A (pyIter (.ref s.heap.objs.size)) (PIE X pins σ tg R) E { s with heap:=s.heap.push { cls:=.type "range",data:=.fields #[.int lo t,.int hi u,.int 1 v] },toks:=tk }:=by
 refine wpAny_pyIter_range (IsRange.new ..) (small_one h1 h2 h3 h4) ?_
 have I1:Inv X pins σ H { s with heap:=s.heap.push { cls:=.type "range",data:=.fields #[.int lo t,.int hi u,.int 1 v] },toks:=tk }:=I.kept fun b o e=>Heap.get?_push_of_some _ e
 refine ⟨(s.heap.push { cls:=.type "range",data:=.fields #[.int lo t,.int hi u,.int 1 v] }).objs.size,[(s.heap.push { cls:=.type "range",data:=.fields #[.int lo t,.int hi u,.int 1 v] }).objs.size],_,_,H,rfl,
  I1.kept (t':=tk) fun b o e=>Heap.get?_push_of_some _ e,turn_range _ lo (hi - lo).toNat,?_,fun b hb=>?_,q⟩
 ·have e1:lo + ((0:Nat):Int) * 1 = lo:=by simp
  have e2:(((hi - lo).toNat:Nat):Int) - ((0:Nat):Int) = Builtin.Range.rangeSize lo hi 1:=by rw [rangeSize_one]; split <;> omega
  show IsRangeIter _ _ (lo + ((0:Nat):Int) * 1) ((((hi - lo).toNat:Nat):Int) - ((0:Nat):Int)) 1
  rw [e1,e2]
  exact Heap.get?_push_size _ rfl
 ·have e:b = (s.heap.push { cls:=.type "range",data:=.fields #[.int lo t,.int hi u,.int 1 v] }).objs.size:=by simpa using hb
  subst e
  exact I1.fpOk (Nat.le_refl _) (I1.hok.fresh (Nat.le_refl _))
def iRng1 (ta:TA):TI:=fun σ H R=>ta σ H fun vs H1=>∃ j:Int,vs = [.int j]/\-(2 ^ 62) <= j/\j < 2 ^ 62/\R (Itr 0 j.toNat) H1
theorem pi_range1 {a : Expr} {ta : TA} {p pos : Pos} (hg : Gl X "range") (hm : X.mg "range" = none) (ha : PA X [a] ta) (hs : starEach [a] X.env = [(false, eval a X.env)] := by rfl) : PI X tg (.Call (.Name "range" p) [a] [] pos) (iRng1 ta) := by
  intro pins s σ H R I h
  refine Call_ (ld_blt I hg hm boot_range (PyProof.Rows.callWith_type1 (thn (ha pos pins s σ H _ I h) fun us s1 ⟨vs, H1, I1, r1, q1⟩ => ?_) hs rfl))
  obtain ⟨j, e, q1, q2, q⟩ := q1
  subst e
  cases r1 with
  | cons r rr =>
    cases rr
    obtain ⟨t, rfl⟩ := r
    exact call_range_1 (range_it I1 (by omega) (by omega) q1 q2 (by simpa using q))
def tFor (wi:TI) (g:TG) (tb:TS):TS:=fun D σ H=>wi σ H fun J H1=>∃ W:Nat->Nat->St->Hp->Prop,(∃ m,W 0 m σ H1)/\∀ i m σ H,W i m σ H ->
 (J.stop i H/\D.nx σ H)\/(J.go i H/\∃ N:St->Hp->Prop,(∀ σ' H',N σ' H'->∃ m',m' < m/\W (i + 1) m' σ' H')/\∀ x H',J.yld i H x H'->g x σ H' fun σ2 H2=>tb { D with nx:=N,ct:=N,bk:=D.nx } σ2 H2)
def pinsAt (fp:List Addr) (h:Heap):List (Addr × Obj):=fp.filterMap fun b=>(h.get? b).map fun o=>(b,o)
theorem mem_pinsAt {fp:List Addr} {h:Heap} {b:Addr} {o:Obj} (hb:b ∈ fp) (e:h.get? b = some o):(b,o) ∈ pinsAt fp h:=List.mem_filterMap.mpr ⟨b,hb,by rw [e]; rfl⟩
theorem of_pinsAt {fp : List Addr} {h : Heap} {p : Addr × Obj} (hp : p ∈ pinsAt fp h) : p.1 ∈ fp /\ h.get? p.1 = some p.2 := by
  obtain ⟨b, hb, e⟩ := List.mem_filterMap.mp hp
  cases q : h.get? b with
  | none => rw [q] at e; cases e
  | some o =>
    rw [q] at e
    have e' : (b, o) = p := Option.some.inj e
    subst e'
    exact ⟨hb, q⟩
theorem Inv.pinned {pins:List (Addr × Obj)} {σ:St} {H:Hp} {s:Shared} {fp:List Addr} (I:Inv X pins σ H s) (hf:∀ b ∈ fp,FpOk X pins H b) (ho:∀ b ∈ fp,∃ o,s.heap.get? b = some o/\∀ v,o.data ≠ .cell v):Inv X (pins ++ pinsAt fp s.heap) σ H s :=
 I.pins_of fun p hp=>(List.mem_append.mp hp).elim (fun z=>I.pin p (List.mem_append_right _ z)) fun z=>by
  obtain ⟨hb,e⟩:=of_pinsAt z
  obtain ⟨f0,f1,f2,_⟩:=hf p.1 hb
  obtain ⟨o,e',d⟩:=ho p.1 hb
  rw [e] at e'; cases e'
  exact ⟨e,f0,f1,f2,d⟩
theorem Inv.unpinned {pins pl:List (Addr × Obj)} {σ:St} {H:Hp} {s:Shared} (I:Inv X (pins ++ pl) σ H s):Inv X pins σ H s:=I.pins_of fun p hp=>I.pin p (List.mem_append_right _ (List.mem_append_left _ hp))
theorem ps_for {iter:Expr} {body:List Stmt} {wi:TI} {g:TG} {tb:TS} {pos:Pos} (hp:PassesOwn (model X.prog X.w) X.A X.env X.xe) (hc:X.calm = true) (hi:PI X tg iter wi) (hg:PG X tg g) (hb:PSs X body tb)
  (hs:∀ x,foldedSetIterable iter X.env x = pure x:=by intro _; rfl):PS X (.For tg iter body [] pos) (tFor wi g tb):=by
 intro pins s σ H D I h
 refine wpAny_For (thn (hi pins s σ H _ I h) fun v s1 h1=>thn h1 fun itv s2 h2=>?_) hs
 obtain ⟨it,fp,tn,J,H2,e,I2,T,st2,f2,W,⟨m0,w0⟩,turn⟩:=h2
 subst e
 have stat:∀ {H':Hp},(∀ b ∈ fp,H' b = none)->∀ b ∈ fp,FpOk X pins H' b:=fun hn b hb=>⟨hn b hb,(f2 b hb).2⟩
 refine codeAny_forLoop_any (fun n s'=>∃ i σ' H',Inv X pins σ' H' s'/\tn i s'.heap/\(∀ b ∈ fp,H' b = none)/\W i n σ' H') ?_ m0 ⟨0,σ,H2,I2,st2,fun b hb=>(f2 b hb).1,w0⟩
 rintro n s3 ⟨i,σ3,H3,I3,st3,fr3,w3⟩
 rcases turn i n σ3 H3 w3 with ⟨stop,qn⟩ | ⟨go,N,hN,step⟩
 ·refine wpAny_passesOwn hp (thn (T.done X rfl rfl rfl hc i pins s3 σ3 H3 X.xe I3 (stat fr3) st3 stop) fun r s4 ⟨hr,I4⟩=>?_)
  subst hr
  exact wpAny_execs_nil ⟨σ3,H3,I4,qn⟩
 ·refine wpAny_passesOwn hp (thn (T.item X rfl rfl rfl hc i pins s3 σ3 H3 X.xe I3 (stat fr3) st3 go) fun r s4 ⟨u,hr,h4⟩=>?_)
  subst hr
  refine wpAny_passesOwn hp (thn h4 fun _ s5 ⟨x,H5,I5,r5,y5,st5,fr5⟩=>?_)
  have I5':=I5.pinned (stat fr5) (T.obj _ _ st5)
  refine wpAny_passesOwn hp (thn (hg _ s5 σ3 H5 x u _ I5' r5 (step x H5 y5)) fun _ s6 ⟨σ6,H6,I6,q6⟩=>?_)
  refine wpAny_passesOwn hp (thn (hb _ s6 σ6 H6 _ I6 q6) fun f s7 q7=>?_)
  have again:∀ {σ7:St} {H7:Hp},Inv X (pins ++ pinsAt fp s5.heap) σ7 H7 s7->N σ7 H7->∃ m,m < n/\∃ i σ' H',Inv X pins σ' H' s7/\tn i s7.heap/\(∀ b ∈ fp,H' b = none)/\W i m σ' H':=fun {σ7 H7} I7 n7=>by
   obtain ⟨m',hm,w7⟩:=hN σ7 H7 n7
   refine ⟨m',hm,i + 1,σ7,H7,I7.unpinned,T.keep _ _ _ st5 fun b hb o e=>(I7.pin (b,o) (List.mem_append_right _ (List.mem_append_right _ (mem_pinsAt hb e)))).1,fun b hb=>?_,w7⟩
   obtain ⟨o,e,d⟩:=T.obj _ _ st5 b hb
   exact (I7.pin (b,o) (List.mem_append_right _ (List.mem_append_right _ (mem_pinsAt hb e)))).2.1
  cases f with
  | next=>obtain ⟨σ7,H7,I7,n7⟩:=q7; exact again I7 n7
  | cont=>obtain ⟨σ7,H7,I7,n7⟩:=q7; exact again I7 n7
  | brk=>obtain ⟨σ7,H7,I7,q7⟩:=q7; exact ⟨σ7,H7,I7.unpinned,q7⟩
  | ret v=>obtain ⟨x7,σ7,H7,I7,r7,q7⟩:=q7; exact ⟨x7,σ7,H7,I7.unpinned,r7,q7⟩
end
theorem for_range {lo:Int} {n:Nat} {g:TG} {tb:TS} {D:Ends} {σ:St} {H:Hp} (Pv:Nat->St->Hp->Prop) (h0:Pv 0 σ H)
  (hs:∀ i σ H,i < n->Pv i σ H->g (.int (lo + i)) σ H fun σ2 H2=>tb { D with nx:=Pv (i + 1),ct:=Pv (i + 1),bk:=D.nx } σ2 H2) (hd:∀ σ H,Pv n σ H->D.nx σ H) :
  ∃ W:Nat->Nat->St->Hp->Prop,(∃ m,W 0 m σ H)/\∀ i m σ H,W i m σ H ->
   ((Itr lo n).stop i H/\D.nx σ H)\/((Itr lo n).go i H/\∃ N:St->Hp->Prop,(∀ σ' H',N σ' H'->∃ m',m' < m/\W (i + 1) m' σ' H')/\∀ x H',(Itr lo n).yld i H x H'->g x σ H' fun σ2 H2=>tb { D with nx:=N,ct:=N,bk:=D.nx } σ2 H2):=by
 refine ⟨fun i m σ H=>m = n - i/\i <= n/\Pv i σ H,⟨n,by simp,Nat.zero_le _,h0⟩,?_⟩
 rintro i m σ H ⟨rfl,hi,p⟩
 by_cases hlt:i < n
 ·refine .inr ⟨hlt,Pv (i + 1),fun σ' H' p'=>⟨n - (i + 1),by omega,rfl,hlt,p'⟩,fun x H' y=>?_⟩
  obtain ⟨e,y⟩:=y
  subst e y
  exact hs i σ _ hlt p
 ·have e:i = n:=by omega
  subst e
  exact .inl ⟨Nat.le_refl _,hd σ H p⟩
end L2
namespace L2
open PySem PySem.Spec PyProof.Rows
abbrev R2:=V->V->Hp->VK->Prop
def OpR (X:Cx) (f:Value->Value->Sem Value) (r:R2):Prop :=
 ∀ (pins:List (Addr × Obj)) (s:Shared) (σ:St) (H:Hp) (x y:V) (v u:Value) (Q:VK),Inv X pins σ H s->RelV x v->RelV y u->r x y H Q ->
  wpAny (model X.prog X.w) X.A (f v u) (EP X pins σ Q) X.xe s
def UnR (X:Cx) (f:Value->Sem Value) (r:V->Hp->VK->Prop):Prop :=
 ∀ (pins:List (Addr × Obj)) (s:Shared) (σ:St) (H:Hp) (x:V) (v:Value) (Q:VK),Inv X pins σ H s->RelV x v->r x H Q ->
  wpAny (model X.prog X.w) X.A (f v) (EP X pins σ Q) X.xe s
def CallR (X:Cx) (f:Value) (r:List V->Hp->VK->Prop):Prop :=
 ∀ (pins:List (Addr × Obj)) (s:Shared) (σ:St) (H:Hp) (xs:List V) (us:List Value) (Q:VK),Inv X pins σ H s->Vals xs us->r xs H Q ->
  wpAny (model X.prog X.w) X.A (call f us) (EP X pins σ Q) X.xe s
def TruR (X:Cx) (r:V->Hp->(Bool->Hp->Prop)->Prop):Prop :=
 ∀ (pins:List (Addr × Obj)) (s:Shared) (σ:St) (H:Hp) (x:V) (v:Value) (Q:Bool->Hp->Prop),Inv X pins σ H s->RelV x v->r x H Q ->
  wpAny (model X.prog X.w) X.A (truthy v) (TP X pins σ Q) X.xe s
def tOp (r:R2) (ta tb:TE):TE:=fun σ H Q=>ta σ H fun x H1=>tb σ H1 fun y H2=>r x y H2 Q
def tUn (r:V->Hp->VK->Prop) (ta:TE):TE:=fun σ H Q=>ta σ H fun x H1=>r x H1 Q
def rI (C:Int->Int->Prop) (g:Int->Int->V):R2:=fun x y H Q=>∃ i j,x = .int i/\y = .int j/\C i j/\Q (g i j) H
def rI0 (g:Int->Int->V):R2:=fun x y H Q=>∃ i j,x = .int i/\y = .int j/\Q (g i j) H
def rU (g:Int->V):V->Hp->VK->Prop:=fun x H Q=>∃ i,x = .int i/\Q (g i) H
section
variable {X:Cx} {a b c:Expr} {ta tb tc:TE} {pos:Pos}
theorem binT (ha:PE X a ta) (hb:PE X b tb) {pins:List (Addr × Obj)} {s:Shared} {σ:St} {H:Hp} {R:V->V->Hp->Prop} (I:Inv X pins σ H s)
  (h:ta σ H fun x H1=>tb σ H1 fun y H2=>R x y H2) {Q:Value->Shared->Prop} {f:Value->Value->Sem Value}
  (hf:∀ v u s2 x y H2,Inv X pins σ H2 s2->RelV x v->RelV y u->R x y H2->wpAny (model X.prog X.w) X.A (f v u) Q X.xe s2) :
  wpAny (model X.prog X.w) X.A (eval a X.env) (fun v s₁=>wpAny (model X.prog X.w) X.A (eval b X.env) (fun u s₂=>wpAny (model X.prog X.w) X.A (f v u) Q X.xe s₂) X.xe s₁) X.xe s:=by
 refine thn (ha pins s σ H _ I h) fun v s1 ⟨x,H1,I1,r1,q1⟩=>?_
 refine thn (hb pins s1 σ H1 _ I1 q1) fun u s2 ⟨y,H2,I2,r2,q2⟩=>?_
 exact hf v u s2 x y H2 I2 r1 r2 q2
theorem pe_op {op:Operator} {r:R2} (ho:OpR X (binaryOp op) r) (ha:PE X a ta) (hb:PE X b tb):PE X (.BinOp a op b pos) (tOp r ta tb):=by
 intro pins s σ H Q I h
 exact wpAny_BinOp (binT ha hb I h fun v u s2 x y H2 I2 rx ry q=>ho pins s2 σ H2 x y v u Q I2 rx ry q)
theorem pe_un {op:UnaryOp} {r:V->Hp->VK->Prop} (ho:UnR X (unaryOp op) r) (ha:PE X a ta):PE X (.UnaryOp op a pos) (tUn r ta):=by
 intro pins s σ H Q I h
 exact UnaryOp_ (thn (ha pins s σ H _ I h) fun v s1 ⟨x,H1,I1,r1,q1⟩=>ho pins s1 σ H1 x v Q I1 r1 q1)
theorem opI {f:Value->Value->Sem Value} {C:Int->Int->Prop} {g:Int->Int->Int}
  (rule:∀ (i j:Int) (t u:Tok) (s:Shared) (Q:Value->Shared->Prop) (E:Value->Shared->Prop),C i j->Q (.int (g i j) s.toks) { s with toks:=s.toks + 1 }->wpAny (model X.prog X.w) X.A (f (.int i t) (.int j u)) Q E s) :
  OpR X f (rI C fun i j=>.int (g i j)):=by
 intro pins s σ H x y v u Q I rx ry h
 obtain ⟨i,j,rfl,rfl,hc,q⟩:=h
 obtain ⟨t,rfl⟩:=rx
 obtain ⟨t',rfl⟩:=ry
 exact rule i j t t' s _ _ hc ⟨.int (g i j),H,I.tok _,⟨_,rfl⟩,q⟩
theorem opI0 {f:Value->Value->Sem Value} {g:Int->Int->Int}
  (rule:∀ (i j:Int) (t u:Tok) (s:Shared) (Q:Value->Shared->Prop) (E:Value->Shared->Prop),Q (.int (g i j) s.toks) { s with toks:=s.toks + 1 }->wpAny (model X.prog X.w) X.A (f (.int i t) (.int j u)) Q E s) :
  OpR X f (rI0 fun i j=>.int (g i j)):=by
 intro pins s σ H x y v u Q I rx ry h
 obtain ⟨i,j,rfl,rfl,q⟩:=h
 obtain ⟨t,rfl⟩:=rx
 obtain ⟨t',rfl⟩:=ry
 exact rule i j t t' s _ _ ⟨.int (g i j),H,I.tok _,⟨_,rfl⟩,q⟩
theorem opB0 {f:Value->Value->Sem Value} {g:Int->Int->Bool}
  (rule:∀ (i j:Int) (t u:Tok) (s:Shared) (Q:Value->Shared->Prop) (E:Value->Shared->Prop),Q (.bool (g i j)) s->wpAny (model X.prog X.w) X.A (f (.int i t) (.int j u)) Q E s) :
  OpR X f (rI0 fun i j=>.bl (g i j)):=by
 intro pins s σ H x y v u Q I rx ry h
 obtain ⟨i,j,rfl,rfl,q⟩:=h
 obtain ⟨t,rfl⟩:=rx
 obtain ⟨t',rfl⟩:=ry
 exact rule i j t t' s _ _ ⟨.bl (g i j),H,I,rfl,q⟩
def CDiv (i j:Int):Prop:=0 < j/\j < 1073741824
def CPow (i j:Int):Prop:=0 <= j/\j <= 1000000/\i.natAbs < 2 ^ 64
def CMul (i j:Int):Prop:=(-(2 ^ 64) < i/\i < 2 ^ 64)\/(-(2 ^ 64) < j/\j < 2 ^ 64)
theorem CMul.ok {i j:Int} (h:CMul i j):IntMulOk i j:=by
 rcases h with ⟨h1,h2⟩ | ⟨h1,h2⟩
 ·exact .of_left (intBits_le_64 h1 h2)
 ·exact .of_right (intBits_le_64 h1 h2)
theorem op_add:OpR X (binaryOp .Add) (rI0 fun i j=>.int (i + j)):=opI0 fun _ _ _ _ _ _ _ q=>add_int q
theorem op_sub:OpR X (binaryOp .Sub) (rI0 fun i j=>.int (i - j)):=opI0 fun _ _ _ _ _ _ _ q=>sub_int q
theorem op_mul:OpR X (binaryOp .Mult) (rI CMul fun i j=>.int (i * j)):=opI fun _ _ _ _ _ _ _ hc q=>mul_int q hc.ok
theorem op_fdiv:OpR X (binaryOp .FloorDiv) (rI CDiv fun i j=>.int (i / j)):=opI fun i j _ _ _ _ _ hc q=>by
 have h1:(0:Int) < j:=hc.1
 have h2:j < 1073741824:=hc.2
 exact floordiv_int (by omega) (by rw [Int.fdiv_eq_ediv_of_nonneg i (by omega)]; exact q) (.inl (PyProof.noPylong_small (by omega)))
theorem op_mod:OpR X (binaryOp .Mod) (rI (fun _ j=>0 < j) fun i j=>.int (i % j)):=opI fun i j _ _ _ _ _ hc q=>by
 have h1:(0:Int) < j:=hc
 exact mod_int' (by omega) (by rw [Int.fmod_eq_emod_of_nonneg i (by omega)]; exact q)
theorem op_pow:OpR X (binaryOp .Pow) (rI CPow fun i j=>.int (i ^ j.toNat)):=opI fun _ _ _ _ _ _ _ hc q=>pow_int_small hc.1 hc.2.1 hc.2.2 q
theorem unI {f:Value->Sem Value} {g:Int->Int}
  (rule:∀ (i:Int) (t:Tok) (s:Shared) (Q:Value->Shared->Prop) (E:Value->Shared->Prop),Q (.int (g i) s.toks) { s with toks:=s.toks + 1 }->wpAny (model X.prog X.w) X.A (f (.int i t)) Q E s) :
  UnR X f (rU fun i=>.int (g i)):=by
 intro pins s σ H x v Q I rx h
 obtain ⟨i,rfl,q⟩:=h
 obtain ⟨t,rfl⟩:=rx
 exact rule i t s _ _ ⟨.int (g i),H,I.tok _,⟨_,rfl⟩,q⟩
theorem un_neg:UnR X (unaryOp .USub) (rU fun i=>.int (-i)):=unI fun _ _ _ _ _ q=>neg_int q
end
def scal:V->V->Bool
 | .non,.non=>true | .non,.int _=>true | .int _,.non=>true | .non,.bl _=>true | .bl _,.non=>true | .non,.str _=>true | .str _,.non=>true
 | .int _,.int _=>true | .bl _,.bl _=>true | .str _,.str _=>true | .byt _,.byt _=>true
 | .int _,.str _=>true | .str _,.int _=>true | .bl _,.str _=>true | .str _,.bl _=>true
 | _,_=>false
def rEq:R2:=fun x y H Q=>scal x y = true/\Q (.bl (decide (x = y))) H
def rNe:R2:=fun x y H Q=>scal x y = true/\Q (.bl (!decide (x = y))) H
theorem dec_int {i j:Int}:decide (V.int i = V.int j) = (i == j):=by
 rw [Bool.eq_iff_iff]
 simp
theorem dec_bl {i j:Bool}:decide (V.bl i = V.bl j) = (i == j):=by
 rw [Bool.eq_iff_iff]
 simp
theorem dec_str {i j:Str}:decide (V.str i = V.str j) = (i == j):=by
 rw [Bool.eq_iff_iff]
 simp
theorem dec_byt {i j:Array UInt8}:decide (V.byt i = V.byt j) = (i.toList == j.toList):=by
 rw [Bool.eq_iff_iff]
 cases i
 cases j
 simp
section
variable {X:Cx} {a b c:Expr} {ta tb tc:TE} {pos:Pos}
theorem fin_bl {pins:List (Addr × Obj)} {σ:St} {H:Hp} {s:Shared} {Q:VK} {k k':Bool} (I:Inv X pins σ H s) (q:Q (.bl k) H) (e:k = k'):EP X pins σ Q (.bool k') s:=by
 subst e
 exact ⟨.bl k,H,I,rfl,q⟩
theorem op_eq : OpR X (compareOp .Eq) rEq := by
  intro pins s σ H x y v u Q I rx ry h
  obtain ⟨hs, q⟩ := h
  cases x with
  | non =>
    cases rx
    cases y with
    | non => cases ry; exact PySem.EqNone.eq_none_none (fin_bl I q (by simp))
    | bl j => cases ry; exact PySem.EqNone.eq_none_bool (fin_bl I q (by simp))
    | int j => obtain ⟨t', rfl⟩ := ry; exact PySem.EqNone.eq_none_int (fin_bl I q (by simp))
    | str j => obtain ⟨t', rfl⟩ := ry; exact PySem.EqNone.eq_none_str (fin_bl I q (by simp))
    | _ => exact absurd (show false = true from hs) Bool.false_ne_true
  | bl i =>
    cases rx
    cases y with
    | non => cases ry; exact PySem.EqNone.eq_bool_none (fin_bl I q (by simp))
    | bl j => cases ry; exact eq_bool (fin_bl I q dec_bl)
    | str j => obtain ⟨t', rfl⟩ := ry; exact PySem.EqMixed.eq_bool_str (fin_bl I q (by simp))
    | _ => exact absurd (show false = true from hs) Bool.false_ne_true
  | int i =>
    obtain ⟨t, rfl⟩ := rx
    cases y with
    | non => cases ry; exact PySem.EqNone.eq_int_none (fin_bl I q (by simp))
    | int j => obtain ⟨t', rfl⟩ := ry; exact eq_int (fin_bl I q dec_int)
    | str j => obtain ⟨t', rfl⟩ := ry; exact PySem.EqMixed.eq_int_str (fin_bl I q (by simp))
    | _ => exact absurd (show false = true from hs) Bool.false_ne_true
  | str i =>
    obtain ⟨t, rfl⟩ := rx
    cases y with
    | non => cases ry; exact PySem.EqNone.eq_str_none (fin_bl I q (by simp))
    | bl j => cases ry; exact PySem.EqMixed.eq_str_bool (fin_bl I q (by simp))
    | int j => obtain ⟨t', rfl⟩ := ry; exact PySem.EqMixed.eq_str_int (fin_bl I q (by simp))
    | str j => obtain ⟨t', rfl⟩ := ry; exact eq_str (fin_bl I q dec_str)
    | _ => exact absurd (show false = true from hs) Bool.false_ne_true
  | byt i =>
    obtain ⟨t, rfl⟩ := rx
    cases y with
    | byt j => obtain ⟨t', rfl⟩ := ry; exact PySem.W.eq_bytes (fin_bl I q dec_byt)
    | _ => exact absurd (show false = true from hs) Bool.false_ne_true
  | _ => cases y <;> exact absurd (show false = true from hs) Bool.false_ne_true
theorem op_ne : OpR X (compareOp .NotEq) rNe := by
  intro pins s σ H x y v u Q I rx ry h
  obtain ⟨hs, q⟩ := h
  cases x with
  | non =>
    cases rx
    cases y with
    | non => cases ry; exact PySem.EqNone.ne_none_none (fin_bl I q (by simp))
    | bl j => cases ry; exact PySem.EqNone.ne_none_bool (fin_bl I q (by simp))
    | int j => obtain ⟨t', rfl⟩ := ry; exact PySem.EqNone.ne_none_int (fin_bl I q (by simp))
    | str j => obtain ⟨t', rfl⟩ := ry; exact PySem.EqNone.ne_none_str (fin_bl I q (by simp))
    | _ => exact absurd (show false = true from hs) Bool.false_ne_true
  | bl i =>
    cases rx
    cases y with
    | non => cases ry; exact PySem.EqNone.ne_bool_none (fin_bl I q (by simp))
    | bl j => cases ry; exact ne_bool (fin_bl I q (congrArg not dec_bl))
    | str j => obtain ⟨t', rfl⟩ := ry; exact PySem.EqMixed.ne_bool_str (fin_bl I q (by simp))
    | _ => exact absurd (show false = true from hs) Bool.false_ne_true
  | int i =>
    obtain ⟨t, rfl⟩ := rx
    cases y with
    | non => cases ry; exact PySem.EqNone.ne_int_none (fin_bl I q (by simp))
    | int j => obtain ⟨t', rfl⟩ := ry; exact ne_int (fin_bl I q (congrArg not dec_int))
    | str j => obtain ⟨t', rfl⟩ := ry; exact PySem.EqMixed.ne_int_str (fin_bl I q (by simp))
    | _ => exact absurd (show false = true from hs) Bool.false_ne_true
  | str i =>
    obtain ⟨t, rfl⟩ := rx
    cases y with
    | non => cases ry; exact PySem.EqNone.ne_str_none (fin_bl I q (by simp))
    | bl j => cases ry; exact PySem.EqMixed.ne_str_bool (fin_bl I q (by simp))
    | int j => obtain ⟨t', rfl⟩ := ry; exact PySem.EqMixed.ne_str_int (fin_bl I q (by simp))
    | str j => obtain ⟨t', rfl⟩ := ry; exact ne_str (fin_bl I q (congrArg not dec_str))
    | _ => exact absurd (show false = true from hs) Bool.false_ne_true
  | byt i =>
    obtain ⟨t, rfl⟩ := rx
    cases y with
    | byt j => obtain ⟨t', rfl⟩ := ry; exact PySem.W.ne_bytes (fin_bl I q (congrArg not dec_byt))
    | _ => exact absurd (show false = true from hs) Bool.false_ne_true
  | _ => cases y <;> exact absurd (show false = true from hs) Bool.false_ne_true
theorem op_lt:OpR X (compareOp .Lt) (rI0 fun i j=>.bl (decide (i < j))):=opB0 fun _ _ _ _ _ _ _ q=>lt_int q
theorem op_le:OpR X (compareOp .LtE) (rI0 fun i j=>.bl (decide (i <= j))):=opB0 fun _ _ _ _ _ _ _ q=>le_int q
theorem op_gt:OpR X (compareOp .Gt) (rI0 fun i j=>.bl (decide (j < i))):=opB0 fun _ _ _ _ _ _ _ q=>gt_int q
theorem op_ge:OpR X (compareOp .GtE) (rI0 fun i j=>.bl (decide (j <= i))):=opB0 fun _ _ _ _ _ _ _ q=>ge_int q
theorem op_in_str:OpR X (compareOp .In) (fun x y H Q=>∃ i j,x = .str i/\y = .str j/\Q (.bl (!(Builtin.Str.occurrences j i 0 j.length 1).isEmpty)) H):=by
 intro pins s σ H x y v u Q I rx ry h
 obtain ⟨i,j,rfl,rfl,q⟩:=h
 obtain ⟨t,rfl⟩:=rx
 obtain ⟨t',rfl⟩:=ry
 exact in_str (fin_bl I q rfl)
theorem op_notin_str:OpR X (compareOp .NotIn) (fun x y H Q=>∃ i j,x = .str i/\y = .str j/\Q (.bl (!(!(Builtin.Str.occurrences j i 0 j.length 1).isEmpty))) H):=by
 intro pins s σ H x y v u Q I rx ry h
 obtain ⟨i,j,rfl,rfl,q⟩:=h
 obtain ⟨t,rfl⟩:=rx
 obtain ⟨t',rfl⟩:=ry
 exact notIn_str (fin_bl I q rfl)
theorem OpR.or {f:Value->Value->Sem Value} {r r':R2} (h:OpR X f r) (h':OpR X f r'):OpR X f (fun x y H Q=>r x y H Q\/r' x y H Q):=by
 intro pins s σ H x y v u Q I rx ry q
 rcases q with q | q
 ·exact h pins s σ H x y v u Q I rx ry q
 ·exact h' pins s σ H x y v u Q I rx ry q
theorem nomark (b:Expr) {op:CmpOp} (h:op ≠ .In:=by decide) (h2:op ≠ .NotIn:=by decide):behindInMarks op b = false:=by
 have e1:(op == CmpOp.In) = false:=by cases op <;> first | rfl | exact absurd rfl h
 have e2:(op == CmpOp.NotIn) = false:=by cases op <;> first | rfl | exact absurd rfl h2
 cases b <;> simp [behindInMarks,e1,e2]
theorem pe_cmpR {op:CmpOp} {r:R2} (ho:OpR X (compareOp op) r) (ha:PE X a ta) (hb:PE X b tb) (hm:behindInMarks op b = false):PE X (.Compare a [op] [b] pos) (tOp r ta tb):=by
 intro pins s σ H Q I h
 exact wpAny_Compare1 (binT ha hb I h fun v u s2 x y H2 I2 rx ry q=>ho pins s2 σ H2 x y v u Q I2 rx ry q) hm
def tTest (t:TE):TT:=fun σ H Q=>t σ H fun x H'=>∃ k,x = .bl k/\Q k H'
theorem pt_cmpR {op:CmpOp} {r:R2} (ho:OpR X (compareOp op) r) (ha:PE X a ta) (hb:PE X b tb) (hm:behindInMarks op b = false):PT X (.Compare a [op] [b] pos) (tTest (tOp r ta tb)):=by
 intro pins s σ H Q I h
 refine wpAny_isTrue_Compare1 (thn (ha pins s σ H _ I h) fun v s1 ⟨x,H1,I1,r1,q1⟩=>thn (hb pins s1 σ H1 _ I1 q1) fun u s2 ⟨y,H2,I2,r2,q2⟩ =>
  thn (ho pins s2 σ H2 x y v u _ I2 r1 r2 q2) fun c s3 ⟨z,H3,I3,r3,k,e,q3⟩=>?_) hm
 subst e
 cases r3
 exact wpAny_truthy_bool ⟨H3,I3,q3⟩
def tChain (r r':R2) (ta tb tc:TE):TE:=fun σ H Q=>ta σ H fun x H1=>tb σ H1 fun y H2=>r x y H2 fun z H3=>∃ k,z = .bl k /\
 (if k = true then tc σ H3 fun w' H4=>r' y w' H4 Q else Q (.bl false) H3)
theorem pt_chain {op op' : CmpOp} {r r' : R2} (ho : OpR X (compareOp op) r) (ho' : OpR X (compareOp op') r') (ha : PE X a ta) (hb : PE X b tb) (hc : PE X c tc)
    (hm : lastMarks [op, op'] [b, c] = false := by with_unfolding_all rfl) : PT X (.Compare a [op, op'] [b, c] pos) (tTest (tChain r r' ta tb tc)) := by
  intro pins s σ H Q I h
  refine isTrue_chain (thn (ha pins s σ H _ I h) fun v s1 ⟨x, H1, I1, r1, q1⟩ => test_link (thn (hb pins s1 σ H1 _ I1 q1) fun u s2 ⟨y, H2, I2, r2, q2⟩ =>
    thn (ho pins s2 σ H2 x y v u _ I2 r1 r2 q2) fun d s3 ⟨z, H3, I3, r3, k, e, q3⟩ => ?_)) hm
  subst e
  cases r3
  refine wpAny_truthy_bool ?_
  cases k with
  | false =>
    obtain ⟨k', e', q'⟩ := q3
    cases e'
    exact ite_ff ⟨H3, I3, q'⟩
  | true =>
    refine ite_tt (test_last (thn (hc pins s3 σ H3 _ I3 q3) fun w' s4 ⟨z', H4, I4, r4, q4⟩ => thn (ho' pins s4 σ H4 y z' u w' _ I4 r2 r4 q4) fun d' s5 ⟨z2, H5, I5, r5, k2, e2, q5⟩ => ?_))
    subst e2
    cases r5
    exact wpAny_truthy_bool ⟨H5, I5, q5⟩
def TruV (K:PySem.W.Frag) (x:V) (H:Hp) (k:Bool):Prop :=
 match x with
 | .non=>k = false
 | .bl b=>k = b
 | .int i=>k = (i != 0)
 | .str y=>y.length <= sizeLine/\k = ((y.length:Int) != 0)
 | .byt y=>y.size <= sizeLine/\k = ((y.size:Int) != 0)
 | .ref p=>(∃ xs,SqL K H p xs/\k = !xs.isEmpty)\/(∃ xs,SqT K H p xs/\k = !xs.isEmpty)\/∃ kvs,H p = some (.dK kvs)/\k = !kvs.isEmpty
 | _=>False
theorem isEmpty_kv {κ:Type} {kvs:List (κ × V)} {vs:List (κ × Value)} (r:KV kvs vs):(!vs.isEmpty) = !kvs.isEmpty:=by
 cases r <;> rfl
theorem isEmpty_of {xs:List V} {its:List Value} (r:Vals xs its):(!its.toArray.isEmpty) = !xs.isEmpty:=by
 cases r <;> simp
theorem line63:(sizeLine:Nat) < 2 ^ 63:=by rw [sizeLine_eq]; decide
theorem tru_ok : TruR X (fun x H Q => ∃ k, TruV X.K x H k /\ Q k H) := by
  intro pins s σ H x v Q I rx h
  obtain ⟨k, e, q⟩ := h
  have hl := line63
  have hs : sizeLine = 16777216 := sizeLine_eq
  cases x with
  | non =>
    cases rx
    have e' : k = false := e
    subst e'
    exact truthy_none ⟨H, I, q⟩
  | bl b =>
    cases rx
    have e' : k = b := e
    subst e'
    exact wpAny_truthy_bool ⟨H, I, q⟩
  | int i =>
    obtain ⟨t, rfl⟩ := rx
    have e' : k = (i != 0) := e
    subst e'
    exact PySem.P.truthy_int ⟨H, I, q⟩
  | str y =>
    obtain ⟨t, rfl⟩ := rx
    obtain ⟨hy, e'⟩ : y.length <= sizeLine /\ k = ((y.length : Int) != 0) := e
    subst e'
    exact PySem.P.truthy_str (by omega) ⟨H, I.tok _, q⟩
  | byt y =>
    obtain ⟨t, rfl⟩ := rx
    obtain ⟨hy, e'⟩ : y.size <= sizeLine /\ k = ((y.size : Int) != 0) := e
    subst e'
    exact PySem.W.truthy_bytes (by omega) ⟨H, I.tok _, q⟩
  | ref p =>
    cases rx
    have e' : (∃ xs, SqL X.K H p xs /\ k = !xs.isEmpty) \/ (∃ xs, SqT X.K H p xs /\ k = !xs.isEmpty) \/ ∃ kvs, H p = some (.dK kvs) /\ k = !kvs.isEmpty := e
    rcases e' with ⟨xs, hx, e'⟩ | ⟨xs, hx, e'⟩ | ⟨kvs, hx, e'⟩
    · subst e'
      obtain ⟨its, r, pl, hz⟩ := I.list hx
      have hlen := r.length
      exact wpAny_truthy_list pl.isList (by simp only [List.size_toArray]; omega) ⟨H, I.tok _, by rw [isEmpty_of r]; exact q⟩
    · subst e'
      obtain ⟨its, r, pl, hz⟩ := I.tuple hx
      have hlen := r.length
      exact truthy_tuple pl (by simp only [List.size_toArray]; omega) ⟨H, I.tok _, by rw [isEmpty_of r]; exact q⟩
    · subst e'
      obtain ⟨hz, hS, vs, r, m⟩ : kvs.length <= sizeLine /\ (p == sysModules) = false /\ ∃ vs, KV kvs vs /\ s.heap.DictOf (mixKind X.prog X.w) p vs := I.hok p _ hx
      have hlen : kvs.length = vs.length := Paired.length r
      exact wpAny_truthy_dict hS m (by omega) ⟨H, I.tok _, by rw [isEmpty_kv r]; exact q⟩
  | _ => exact (show False from e).elim
theorem pt_truth (ha:PE X a ta) (he:∀ whole,isTrue a X.env whole = (do let v <- whole; standAt a.pos; holding [v] (truthy v))) :
  PT X a (fun σ H Q=>ta σ H fun x H'=>∃ k,TruV X.K x H' k/\Q k H'):=by
 intro pins s σ H Q I h
 exact isTrue_plain (thn (ha pins s σ H _ I h) fun v s1 ⟨x,H1,I1,r1,q1⟩=>tru_ok pins s1 σ H1 x v Q I1 r1 q1) (he _)
theorem op_add_str:OpR X (binaryOp .Add) (fun x y H Q=>∃ i j,x = .str i/\y = .str j/\i.length + j.length <= sizeLine/\Q (.str (i ++ j)) H):=by
 intro pins s σ H x y v u Q I rx ry h
 obtain ⟨i,j,rfl,rfl,hz,q⟩:=h
 obtain ⟨t,rfl⟩:=rx
 obtain ⟨t',rfl⟩:=ry
 exact add_str (fun t' tk=>⟨.str (i ++ j),H,I.tok _,⟨_,rfl⟩,q⟩) hz
theorem vals1 {x:V} {us:List Value} (r:Vals [x] us):∃ u,us = [u]/\RelV x u:=by
 cases r with
 | cons r1 r2=>cases r2; exact ⟨_,rfl,r1⟩
theorem vals2 {x y : V} {us : List Value} (r : Vals [x, y] us) : ∃ u w', us = [u, w'] /\ RelV x u /\ RelV y w' := by
  cases r with
  | cons r1 r2 =>
    cases r2 with
    | cons r3 r4 => cases r4; exact ⟨_, _, rfl, r1, r3⟩
theorem call_int1:CallR X (.type "int") (fun xs H Q=>(∃ i,xs = [.int i]/\Q (.int i) H)\/∃ k,xs = [.bl k]/\Q (.int (if k then 1 else 0)) H):=by
 intro pins s σ H xs us Q I r h
 rcases h with ⟨i,rfl,q⟩ | ⟨k,rfl,q⟩
 ·obtain ⟨u,rfl,t,rfl⟩:=vals1 r
  exact call_int_int ⟨.int i,H,I,⟨_,rfl⟩,q⟩
 ·obtain ⟨u,rfl,r1⟩:=vals1 r
  cases r1
  exact call_int_bool ⟨.int (if k then 1 else 0),H,I.tok _,⟨_,rfl⟩,q⟩
end
end L2
namespace L2
open PySem PySem.Spec PyProof.Rows
structure ObjM (h:Heap) (x dx C:Addr) (mA:Str->Option Value):Prop where
 obj:h.get? x = some (PySem.W.instObj C dx)
 ns:h.Ns1 dx mA
 ne:dx ≠ x
theorem lookIn_ns {h:Heap} {dx:Addr} {mA:Str->Option Value} (n:h.Ns1 dx mA):∃ od,h.get? dx = some od/\∀ name,PySem.W.lookIn name od = some (mA name):=by
 obtain ⟨o,es,ep,ho,hd,hk,_,hm⟩:=n
 refine ⟨o,ho,fun name=>?_⟩
 have e:=hm name
 unfold nsFind findBy at e
 rw [<- Array.find?_toList] at e
 unfold PySem.W.lookIn
 rw [hd]
 dsimp only
 split
 ·rename_i y q
  rw [q] at e
  exact congrArg some e
 ·rename_i q
  rw [q] at e
  have a:es.toList.any (·.refKey) = false:=by
   rw [List.any_eq_false]
   intro y hy
   obtain ⟨z,t,hkey⟩:=hk y (Array.mem_toList_iff.mp hy)
   simp [DictEntry.refKey,hkey]
  have a':¬ es.toList.any (·.refKey) = true:=by rw [a]; exact Bool.false_ne_true
  rw [if_neg a']
  exact congrArg some e
theorem ObjM.look {h:Heap} {x dx C:Addr} {mA:Str->Option Value} (I:ObjM h x dx C mA):∃ od,PySem.W.InstAt h x (PySem.W.instObj C dx) C (some od)/\∀ name,PySem.W.lookIn name od = some (mA name) :=
 let ⟨od,ho,hl⟩:=lookIn_ns I.ns
 ⟨od,⟨I.obj,rfl,rfl,ho⟩,hl⟩
section
variable {prog:Program} {w:World} {A:Around} {E:Value->Shared->Prop} {s:Shared} {K:PySem.W.Frag} {x dx C f:Addr} {mA:Str->Option Value} {name:Str} {v:Value}
theorem get_map {expr:Bool} {Q:Value->Shared->Prop} (X:K.In s.heap) (I:ObjM s.heap x dx C mA) (hg:PySem.W.plainGet K C name = true) (hh:PySem.W.hasDictIn K C = true)
  (ha:PySem.W.findIn K (.ref C) name = some none) (hv:mA name = some v) (hv':PySem.W.handedIn v = true) (h:Q v { s with toks:=s.toks + 1 }) :
  wpAny (model prog w) A (getAttr (.ref x) name expr) Q E s:=by
 obtain ⟨od,J,hl⟩:=I.look
 exact PySem.W.get_value X J (PySem.W.plainGet_of hg).1 (PySem.W.findObj_own hh ha rfl (by rw [hl,hv])) hv' h
theorem get_meth {pl:Sem Bool} {Q:Value × List Value->Shared->Prop} (X:K.In s.heap) (I:ObjM s.heap x dx C mA) (hg:PySem.W.plainGet K C name = true)
  (hf:PySem.W.findIn K (.ref C) name = some (some (.ref f))) (ht:PySem.W.isFn K (.ref f) = true) (hv:mA name = none) (h:Q (.ref f,[.ref x]) s) :
  wpAny (model prog w) A (getMethod (.ref x) name pl) Q E s:=by
 obtain ⟨od,J,hl⟩:=I.look
 exact PySem.W.method_fn X J (PySem.W.plainGet_of hg).1 (PySem.W.plainGet_of hg).2 hf (beq_iff_eq.mp ht) (by show (PySem.W.lookIn name od).map (·.isSome) = some false; rw [hl,hv]; rfl) h
theorem set_map {ns:List Str} {Q:Unit->Shared->Prop} (X:K.In s.heap) (I:ObjM s.heap x dx C mA)
  (hs:PySem.W.findIn K (.ref C) "__setattr__" = some (some (.builtin "object.__setattr__"))) (hp:PySem.W.plainOver K C = true) (ht:PySem.W.takerIn K C name = some none) (hh:PySem.W.hasDictIn K C = true)
  (hw:PySem.Within mA ns) (hsz:ns.length <= sizeLine)
  (h:∀ h',ObjM h' x dx C (fun y=>if y = name then some v else mA y)->Heap.SameBut dx s.heap h'->Q () { s with heap:=h',toks:=s.toks + 2 }) :
  wpAny (model prog w) A (setAttr (.ref x) name v) Q E s:=by
 obtain ⟨od,J,hl⟩:=I.look
 refine PySem.W.set_plain X J hs (PySem.W.osa_open (s:={ s with toks:=s.toks + 1 }) (r:=none) X J hp ht fun b=>?_)
 obtain ⟨cd,hc,hd'⟩:=PySem.W.any_some hh
 have hx:s.heap.get? x = some ⟨.ref C,some dx,.plain,#[]⟩:=I.obj
 refine wpAny_bind (wpAny_pure (wpAny_bind (wpAny_bind (wpAny_loadPart hx (wpAny_bind (PySem.W.Looks.here (s:={ s with toks:=s.toks + 1 }) (PySem.W.looks_clsIn X hc) ?_))))))
 rw [hd']
 refine wpAny_pure (a:=some dx) (wpAny_bind (wpAny_pure (wpAny_bind ?_)))
 refine wpAny_nsSet1 (s:={ s with toks:=s.toks + 1 }) I.ns fun h' hn2 hs2=>?_
 obtain ⟨oD,esD,epD,hoD,hdD,hcD⟩:=hn2.count (PySem.Within.cons name v hw)
 refine wpAny_bind (wpAny_lookBehind hoD (by rw [hdD]; exact pastItsLine_dict (Nat.le_trans hcD (by rw [List.length_cons]; omega))) ?_)
 exact wpAny_pure (h _ ⟨(hs2.2 _ (Ne.symm I.ne)).trans I.obj,hn2,I.ne⟩ hs2)
theorem make_map {R : Result -> Shared -> Prop} {vs : List Value} {kw : List (Str × Value)} (X : K.In s.heap) (hm : PySem.W.makesIn K C = true)
  (hi : PySem.W.findIn K (.ref C) "__init__" = some (some (.ref f))) (hf : PySem.W.typeIn K (.ref f) = some (.type "function"))
  (h : codeAny (model prog w) (A.under (.builtin "type.__call__" ⟨.ref C :: vs, kw⟩)) (.call (.ref f) ⟨.ref (s.heap.objs.size + 1) :: vs, kw⟩) (PySem.W.InitBack (s.heap.objs.size + 1) R)
   { s with heap := (s.heap.push PySem.W.emptyDict).push (PySem.W.instObj C s.heap.objs.size) }) :
  codeAny (model prog w) A (.call (.ref C) ⟨vs, kw⟩) R s := by
 obtain ⟨hh, g, d, t, os⟩ := s
 exact PySem.W.make_core (PySem.W.makes_of X hm) (PySem.W.looks_findIn X hi) (fun self => PySem.W.bind_fn X self hf) (.inl rfl) h
end
def putF (f:Str) (v:V):List (Str × V)->List (Str × V)
 | []=>[(f,v)]
 | (g,x) :: r=>if g = f then (g,v) :: r else (g,x) :: putF f v r
theorem lookup_putF (f g : Str) (v : V) : ∀ fs : List (Str × V), (putF f v fs).lookup g = if g = f then some v else fs.lookup g
  | [] => by
    show List.lookup g [(f, v)] = _
    by_cases h : g = f
    · have hb : (g == f) = true := beq_iff_eq.mpr h
      simp only [List.lookup, hb, if_pos h]
    · have hb : (g == f) = false := beq_eq_false_iff_ne.mpr h
      simp only [List.lookup, hb, if_neg h]
  | (k, x) :: r => by
    have ih := lookup_putF f g v r
    rw [show putF f v ((k, x) :: r) = (if k = f then (k, v) :: r else (k, x) :: putF f v r) from rfl]
    by_cases hk : k = f
    · rw [if_pos hk]
      by_cases h : g = k
      · have hb : (g == k) = true := beq_iff_eq.mpr h
        simp only [List.lookup, hb, if_pos (h.trans hk)]
      · have hb : (g == k) = false := beq_eq_false_iff_ne.mpr h
        simp only [List.lookup, hb, if_neg (fun e : g = f => h (e.trans hk.symm))]
    · rw [if_neg hk]
      by_cases h : g = k
      · have hb : (g == k) = true := beq_iff_eq.mpr h
        simp only [List.lookup, hb, if_neg (fun e : g = f => hk (h.symm.trans e))]
      · have hb : (g == k) = false := beq_eq_false_iff_ne.mpr h
        simp only [List.lookup, hb]
        exact ih
theorem keys_putF (f : Str) (v : V) : ∀ fs : List (Str × V), f ∈ (putF f v fs).map (·.1) /\ ∀ g, g ∈ fs.map (·.1) -> g ∈ (putF f v fs).map (·.1)
  | [] => ⟨by simp [putF], fun g h => by simp at h⟩
  | (k, x) :: r => by
    obtain ⟨i1, i2⟩ := keys_putF f v r
    rw [show putF f v ((k, x) :: r) = (if k = f then (k, v) :: r else (k, x) :: putF f v r) from rfl]
    by_cases hk : k = f
    · rw [if_pos hk]
      subst hk
      exact ⟨by simp, fun g h => by simpa using h⟩
    · rw [if_neg hk]
      refine ⟨?_, fun g h => ?_⟩
      · rw [List.map_cons]
        exact List.mem_cons_of_mem _ i1
      · rw [List.map_cons] at h ⊢
        rcases List.mem_cons.mp h with e | e
        · exact List.mem_cons.mpr (.inl e)
        · exact List.mem_cons_of_mem _ (i2 g e)
theorem length_putF (f : Str) (v : V) : ∀ fs : List (Str × V), (putF f v fs).length <= fs.length + 1
  | [] => by simp [putF]
  | (k, x) :: r => by
    have ih := length_putF f v r
    rw [show putF f v ((k, x) :: r) = (if k = f then (k, v) :: r else (k, x) :: putF f v r) from rfl]
    by_cases hk : k = f
    · rw [if_pos hk, List.length_cons, List.length_cons]; omega
    · rw [if_neg hk, List.length_cons, List.length_cons]; omega
theorem RelO.some_of {v:V} {o:Option Value} (r:RelO (some v) o):∃ u,o = some u/\RelV v u:=by
 cases o with
 | none=>exact (show False from r).elim
 | some u=>exact ⟨u,rfl,r⟩
theorem RelO.none_of {o:Option Value} (r:RelO none o):o = none:=by
 cases o with
 | none=>rfl
 | some u=>exact (show False from r).elim
theorem handed_of {v:V} {u:Value} (r:RelV v u):PySem.W.handedIn u = true:=by
 cases v with
 | non=>cases (show u = Value.none from r); rfl
 | bl b=>cases (show u = Value.bool b from r); rfl
 | int i=>obtain ⟨t,e⟩:=(show ∃ t,u = Value.int i t from r); cases e; rfl
 | str x=>obtain ⟨t,e⟩:=(show ∃ t,u = Value.str x t from r); cases e; rfl
 | byt b=>obtain ⟨t,e⟩:=(show ∃ t,u = Value.bytes b t from r); cases e; rfl
 | flt b=>obtain ⟨t,e⟩:=(show ∃ t,u = Value.float b t from r); cases e; rfl
 | ref a=>cases (show u = Value.ref a from r); rfl
 | ty n=>cases (show u = Value.type n from r); rfl
section
variable {P:Program} {w:World} {H H':Hp} {h h':Heap} {a C dx:Addr} {fs fs':List (Str × V)}
theorem ins_get (hok:HOk P w H h) (e:H a = some (.ins C dx fs)):∃ mA,ObjM h a dx C mA/\(∀ f,RelO (fs.lookup f) (mA f))/\PySem.Within mA (fs.map (·.1))/\fs.length <= 1000/\H dx = some (.own a):=by
 obtain ⟨d,z,ne,ob,mA,n,r,q⟩:=(show ObjOk P w H h a (.ins C dx fs) from hok a _ e)
 exact ⟨mA,⟨ob,n,ne⟩,r,q,z,d⟩
end
structure Cls (K:PySem.W.Frag) (C:Addr):Prop where
 pg:PySem.W.plainGet K C Str.empty = true
 hd:PySem.W.hasDictIn K C = true
 po:PySem.W.plainOver K C = true
 sa:PySem.W.findIn K (.ref C) "__setattr__" = some (some (.builtin "object.__setattr__"))
theorem Cls.get {K:PySem.W.Frag} {C:Addr} (c:Cls K C) (f:Str):PySem.W.plainGet K C f = true:=c.pg
def NoAttr (K:PySem.W.Frag) (C:Addr) (f:Str):Prop:=PySem.W.findIn K (.ref C) f = some none
theorem NoAttr.taker {K:PySem.W.Frag} {C:Addr} {f:Str} (n:NoAttr K C f):PySem.W.takerIn K C f = some none:=by
 unfold PySem.W.takerIn
 rw [show PySem.W.findIn K (.ref C) f = some none from n]
 rfl
structure Meth (K:PySem.W.Frag) (C:Addr) (m:Str) (f:Addr):Prop where
 at_:PySem.W.findIn K (.ref C) m = some (some (.ref f))
 fn:PySem.W.isFn K (.ref f) = true
 kp:PySem.W.keepIn K (.ref f) = true
section
variable {X:Cx} {pins:List (Addr × Obj)} {σ:St} {H:Hp} {s:Shared} {a C dx:Addr} {fs:List (Str × V)} {f:Str} {v:V} {A:Around} {E:Value->Shared->Prop}
theorem getattr_ok {b:Bool} {Q:Value->Shared->Prop} (I:Inv X pins σ H s) (e:H a = some (.ins C dx fs)) (c:Cls X.K C) (n:NoAttr X.K C f) (l:fs.lookup f = some v)
  (h:∀ u s',Inv X pins σ H s'->RelV v u->Q u s'):wpAny (model X.prog X.w) A (getAttr (.ref a) f b) Q E s:=by
 obtain ⟨mA,O,r,_,_,_⟩:=ins_get I.hok e
 obtain ⟨u,hu,ru⟩:=RelO.some_of (v:=v) (o:=mA f) (by rw [<- l]; exact r f)
 exact get_map I.kIn O (c.get f) c.hd n hu (handed_of ru) (h u _ (I.tok _) ru)
theorem getmeth_ok {m:Str} {g:Addr} {pl:Sem Bool} {Q:Value × List Value->Shared->Prop} (I:Inv X pins σ H s) (e:H a = some (.ins C dx fs)) (c:Cls X.K C) (k:Meth X.K C m g) (l:fs.lookup m = none)
  (h:Q (.ref g,[.ref a]) s):wpAny (model X.prog X.w) A (getMethod (.ref a) m pl) Q E s:=by
 obtain ⟨mA,O,r,_,_,_⟩:=ins_get I.hok e
 have hn:mA m = none:=RelO.none_of (by rw [<- l]; exact r m)
 exact get_meth I.kIn O (c.get m) k.at_ k.fn hn h
theorem setattr_ok {y:V} {u:Value} {Q:Unit->Shared->Prop} (I:Inv X pins σ H s) (e:H a = some (.ins C dx fs)) (c:Cls X.K C) (n:NoAttr X.K C f) (hl:fs.length < 1000) (ry:RelV y u)
  (h:∀ s',Inv X pins σ (upd H a (.ins C dx (putF f y fs))) s'->Q () s'):wpAny (model X.prog X.w) A (setAttr (.ref a) f u) Q E s:=by
 obtain ⟨mA,O,r,wi,_,ho⟩:=ins_get I.hok e
 have hz:(fs.map (·.1)).length <= sizeLine:=by rw [List.length_map,sizeLine_eq]; omega
 refine set_map I.kIn O c.sa c.po n.taker c.hd wi hz fun h' O' sb=>h _ ?_
 have hd:∃ o,h'.get? dx = some o:=let ⟨o,_,_,e',_⟩:=O'.ns; ⟨o,e'⟩
 refine I.write (x:=a) (e:=dx) (by rw [e]; exact True.intro) (.inr ho) (fun b q hb z=>(sb.2 b hb).trans z) hd ?_
 refine ⟨by rw [upd_ne O.ne]; exact ho,?_,O.ne,O'.obj,_,O'.ns,fun g=>?_,fun g hg=>?_⟩
 ·have:=length_putF f y fs; omega
 ·show RelO ((putF f y fs).lookup g) (if g = f then some u else mA g)
  rw [lookup_putF]
  by_cases q:g = f
  ·rw [if_pos q,if_pos q]; exact ry
  ·rw [if_neg q,if_neg q]; exact r g
 ·by_cases q:g = f
  ·rw [q]; exact (keys_putF f y fs).1
  ·refine (keys_putF f y fs).2 g (wi g fun z=>hg ?_)
   show (if g = f then some u else mA g) = none
   rw [if_neg q]; exact z
theorem Inv.made (I:Inv X pins σ H s):Inv X pins σ (upd (upd H s.heap.objs.size (.own (s.heap.objs.size + 1))) (s.heap.objs.size + 1) (.ins C s.heap.objs.size []))
  { s with heap:=(s.heap.push PySem.W.emptyDict).push (PySem.W.instObj C s.heap.objs.size) }:=by
 have e1:(s.heap.push PySem.W.emptyDict).get? s.heap.objs.size = some PySem.W.emptyDict:=Heap.get?_push_size s.heap rfl
 have e2:((s.heap.push PySem.W.emptyDict).push (PySem.W.instObj C s.heap.objs.size)).get? (s.heap.objs.size + 1) = some (PySem.W.instObj C s.heap.objs.size):=by
  have:=Heap.get?_push_size (s.heap.push PySem.W.emptyDict) (o:=PySem.W.instObj C s.heap.objs.size) rfl
  rwa [Heap.size_push] at this
 have e3:(s.heap.push PySem.W.emptyDict).Ns s.heap.objs.size (fun _=>none):=⟨PySem.W.emptyDict,#[],_,e1,rfl,(fun e he=>absurd he (by simp)),fun _=>rfl⟩
 have I1:=I.laid (a:=s.heap.objs.size) (o:=.own (s.heap.objs.size + 1)) (h':=s.heap.push PySem.W.emptyDict) (t':=s.toks) (fun b u q=>Heap.get?_push_of_some _ q) (Nat.le_refl _) ⟨_,e1⟩
 refine I1.laid (a:=s.heap.objs.size + 1) (o:=.ins C s.heap.objs.size []) (t':=s.toks) (fun b u q=>Heap.get?_push_of_some _ q) (Nat.le_of_eq (Heap.size_push _ _)) ?_
 have ne:s.heap.objs.size ≠ s.heap.objs.size + 1:=Nat.ne_of_lt (Nat.lt_succ_self _)
 refine ⟨by rw [upd_ne ne,upd_same],Nat.zero_le _,ne,e2,fun _=>none,(Heap.Ns1.of_empty e3).at fun o q=>Heap.get?_push_of_some _ q,fun _=>True.intro,fun y hy=>absurd rfl hy⟩
theorem attr_of {prog:Program} {w:World} {env:Env} {e:Expr} {f:Str} {pos:Pos} {s:Shared} {Q:Value->Shared->Prop} (hb:attributeBase e f env (eval e env) = eval e env)
  (h:wpAny (model prog w) A (eval e env) (fun o s₁=>wpAny (model prog w) A (getAttr o f true) Q E s₁) E s):wpAny (model prog w) A (eval (.Attribute e f pos) env) Q E s :=
 Attribute_any_ h (by rw [arm_eval_Attribute,hb])
end
def tFld (K:PySem.W.Frag) (ta:TE) (f:Str):TE:=fun σ H Q=>ta σ H fun x H1=>∃ a C dx fs v,x = .ref a/\H1 a = some (.ins C dx fs)/\Cls K C/\NoAttr K C f/\fs.lookup f = some v/\Q v H1
def sFld (K:PySem.W.Frag) (ta tv:TE) (f:Str):TS:=fun D σ H=>tv σ H fun y H1=>ta σ H1 fun x H2=>∃ a C dx fs,x = .ref a/\H2 a = some (.ins C dx fs)/\Cls K C/\NoAttr K C f/\fs.length < 1000 /\
 D.nx σ (upd H2 a (.ins C dx (putF f y fs)))
def InOp (X:Cx) (op:Operator) (rd:V->V->Hp->VK->Prop):Prop :=
 ∀ (pins:List (Addr × Obj)) (s:Shared) (σ:St) (H:Hp) (x y:V) (u v:Value) (Q:VK),Inv X pins σ H s->RelV x u->RelV y v->rd x y H Q->wpAny (model X.prog X.w) X.A (inplaceOp op u v) (EP X pins σ Q) X.xe s
def sFldAug (K:PySem.W.Frag) (ta tv:TE) (rd:V->V->Hp->VK->Prop) (f:Str):TS:=fun D σ H=>ta σ H fun x H1=>∃ a C dx fs v,x = .ref a/\H1 a = some (.ins C dx fs)/\Cls K C/\NoAttr K C f/\fs.lookup f = some v /\
 tv σ H1 fun y H2=>rd v y H2 fun z H3=>∃ dx' fs',H3 a = some (.ins C dx' fs')/\fs'.length < 1000/\D.nx σ (upd H3 a (.ins C dx' (putF f z fs')))
section
variable {X:Cx} {o e value:Expr} {f:Str} {pos pos' tpos:Pos} {ta tv:TE}
theorem pe_fld (he:PE X e ta) (hb:attributeBase e f X.env (eval e X.env) = eval e X.env):PE X (.Attribute e f pos) (tFld X.K ta f):=by
 intro pins s σ H Q I h
 refine attr_of hb (thn (he pins s σ H _ I h) fun u s1 ⟨x,H1,I1,rx,a,C,dx,fs,v,ex,ea,c,n,l,q⟩=>?_)
 subst ex
 obtain rfl:u = Value.ref a:=rx
 exact getattr_ok I1 ea c n l fun u' s2 I2 ru=>⟨v,H1,I2,ru,q⟩
theorem ps_fld (ha:PE X o ta) (hv:PE X value tv) (hs:swapsWith value (some (.Attribute o f pos')) pos.line X.env = pure false):PS X (.Assign [.Attribute o f pos'] value pos) (sFld X.K ta tv f):=by
 intro pins s σ H D I h
 refine plainObj_wpAny_Assign_Attribute (thn (hv pins s σ H _ I h) fun u s1 ⟨y,H1,I1,ry,q⟩=>thn (ha pins s1 σ H1 _ I1 q) fun ov s2 ⟨x,H2,I2,rx,a,C,dx,fs,ex,ea,c,n,l,q2⟩=>?_) hs
 subst ex
 obtain rfl:ov = Value.ref a:=rx
 exact setattr_ok I2 ea c n l ry fun s3 I3=>⟨σ,_,I3,q2⟩
theorem ps_fldaug {op:Operator} {rd:V->V->Hp->VK->Prop} (ha:PE X o ta) (hv:PE X value tv) (hop:InOp X op rd):PS X (.AugAssign (.Attribute o f tpos) op value pos) (sFldAug X.K ta tv rd f):=by
 intro pins s σ H D I h
 refine wpAny_AugAssign_AttributeAny (thn (ha pins s σ H _ I h) fun ov s1 ⟨x,H1,I1,rx,a,C,dx,fs,v,ex,ea,c,n,l,q⟩=>?_)
 subst ex
 obtain rfl:ov = Value.ref a:=rx
 refine getattr_ok I1 ea c n l fun u s2 I2 ru=>thn (hv pins s2 σ H1 _ I2 q) fun w3 s3 ⟨y,H2,I3,ry,q3⟩=>thn (hop pins s3 σ H2 v y u w3 _ I3 ru ry q3) fun w4 s4 ⟨z,H3,I4,rz,dx',fs',ea',l',q4⟩=>?_
 exact setattr_ok I4 ea' c n l' rz fun s5 I5=>⟨σ,_,I5,q4⟩
def rAdd:V->V->Hp->VK->Prop:=fun x y H Q=>∃ i j,x = .int i/\y = .int j/\Q (.int (i + j)) H
theorem in_add:InOp X .Add rAdd:=by
 rintro pins s σ H x y u v Q I rx ry ⟨i,j,rfl,rfl,q⟩
 obtain ⟨t,rfl⟩:=(show ∃ t,u = Value.int i t from rx)
 obtain ⟨t',rfl⟩:=(show ∃ t',v = Value.int j t' from ry)
 exact PyProof.Rows.iadd_int ⟨.int (i + j),H,I.tok _,⟨_,rfl⟩,q⟩
end
section
variable {X:Cx} {pins:List (Addr × Obj)} {σ:St} {H:Hp} {s:Shared} {A:Around} {E:Value->Shared->Prop} {Q:Value->Shared->Prop} {c:Value} {b:Bool}
inductive TyOf (K : PySem.W.Frag) (H : Hp) : V -> Value -> Prop where
 | non : TyOf K H .non (.type "NoneType")
 | bl (x : Bool) : TyOf K H (.bl x) (.type "bool")
 | int (i : Int) : TyOf K H (.int i) (.type "int")
 | str (x : Str) : TyOf K H (.str x) (.type "str")
 | flt (x : UInt64) : TyOf K H (.flt x) (.type "float")
 | lst {a : Addr} {xs : List V} (e : H a = some (.lst xs)) : TyOf K H (.ref a) (.type "list")
 | frz {a : Addr} {o : Obj} {xs : List V} (e : H a = some (.frz o (.lst xs))) : TyOf K H (.ref a) (.type "list")
 | tup {a : Addr} {xs : List V} (e : H a = some (.tup xs)) : TyOf K H (.ref a) (.type "tuple")
 | dK {a : Addr} {kvs : List (Key × V)} (e : H a = some (.dK kvs)) : TyOf K H (.ref a) (.type "dict")
 | dT {a : Addr} {kvs : List (List Key × V)} (e : H a = some (.dT kvs)) : TyOf K H (.ref a) (.type "dict")
 | ins {a C dx : Addr} {fs : List (Str × V)} (e : H a = some (.ins C dx fs)) (cl : Cls K C) (ha : PySem.W.findIn K (.ref C) "__class__" = some (some (.builtin "object.__class__")))
   (hn : PySem.W.specialIn K (.builtin "object.__class__") "__get__" = some (some (.builtin "getset_descriptor.__get__"))) (htk : PySem.W.takesIn K (.builtin "object.__class__") = some true)
   (hm : PySem.W.mroIn K C (.type "object") = some true) : TyOf K H (.ref a) (.ref C)
theorem isinst_ok {x : V} {u t : Value} (I : Inv X pins σ H s) (rx : RelV x u) (ty : TyOf X.K H x t) (e : PySem.W.kitOne X.K t c = some b) (h : ∀ tk, Q (.bool b) { s with toks := tk }) :
    wpAny (model X.prog X.w) A (call (.builtin "isinstance") [u, c]) Q E s := by
  cases ty with
  | non => cases (show u = Value.none from rx); exact PySem.W.kia_one PySem.W.kitx_none I.kIn True.intro e (fun z => nomatch z) h
  | bl y => cases (show u = Value.bool y from rx); exact PySem.W.kia_one PySem.W.kitx_bool I.kIn True.intro e (fun z => nomatch z) h
  | int i => obtain ⟨t, q⟩ := (show ∃ t, u = Value.int i t from rx); cases q; exact PySem.W.kia_one PySem.W.kitx_int I.kIn True.intro e (fun z => nomatch z) h
  | str y => obtain ⟨t, q⟩ := (show ∃ t, u = Value.str y t from rx); cases q; exact PySem.W.kia_one PySem.W.kitx_str I.kIn True.intro e (fun z => nomatch z) h
  | flt y => obtain ⟨t, q⟩ := (show ∃ t, u = Value.float y t from rx); cases q; exact PySem.W.kia_one PySem.W.kitx_float I.kIn True.intro e (fun z => nomatch z) h
  | @lst a xs ea =>
    cases (show u = Value.ref a from rx)
    obtain ⟨_, _, n, _, h1⟩ := (show ObjOk X.prog X.w H s.heap a (.lst xs) from I.hok a _ ea)
    exact PySem.W.kia_one PySem.W.kitx_list I.kIn ⟨_, h1, rfl⟩ e (fun z => nomatch z) h
  | @frz a ob xs ea =>
    cases (show u = Value.ref a from rx)
    obtain ⟨_, _, _, n, _, h1⟩ := (show ObjOk X.prog X.w H s.heap a (.frz ob (.lst xs)) from I.hok a _ ea)
    exact PySem.W.kia_one PySem.W.kitx_list I.kIn ⟨_, h1, rfl⟩ e (fun z => nomatch z) h
  | @tup a xs ea =>
    cases (show u = Value.ref a from rx)
    obtain ⟨_, _, _, p⟩ := (show ObjOk X.prog X.w H s.heap a (.tup xs) from I.hok a _ ea)
    obtain ⟨o, h1, h2, _⟩ := p
    exact PySem.W.kia_one PySem.W.kitx_tuple I.kIn ⟨o, h1, h2⟩ e (fun z => nomatch z) h
  | @dK a kvs ea =>
    cases (show u = Value.ref a from rx)
    obtain ⟨_, _, vs, _, p⟩ := (show ObjOk X.prog X.w H s.heap a (.dK kvs) from I.hok a _ ea)
    obtain ⟨o, es, ep, h1, h2, _⟩ := p
    exact PySem.W.kia_one PySem.W.kitx_dict I.kIn ⟨o, h1, h2.1⟩ e (fun z => nomatch z) h
  | @dT a kvs ea =>
    cases (show u = Value.ref a from rx)
    obtain ⟨_, _, xs, _, o, es, ep, h1, h2, _⟩ := (show ObjOk X.prog X.w H s.heap a (.dT kvs) from I.hok a _ ea)
    exact PySem.W.kia_one PySem.W.kitx_dict I.kIn ⟨o, h1, h2.1⟩ e (fun z => nomatch z) h
  | @ins a C dx fs ea cl ha hn htk hm =>
    cases (show u = Value.ref a from rx)
    obtain ⟨mA, O, _⟩ := ins_get I.hok ea
    obtain ⟨od, J, _⟩ := O.look
    exact PySem.W.kia_one (PySem.W.kitx_own (cl.get _) cl.hd ha hn htk hm) I.kIn J e (fun z => nomatch z) h
end
end L2
namespace L2
open PySem PySem.Spec PyProof.Rows
structure Room (k:Nat) (A:Around):Prop where
 hd:A.handled = none
 dp:A.depth + 3 * k + 5 < recursionLimit
 un:A.units + 16 * k + 200 < cLine
 gd:A.guards = some []
theorem Room.mono {j k:Nat} {A:Around} (r:Room k A) (h:j <= k):Room j A:=⟨r.hd,by have:=r.dp; omega,by have:=r.un; omega,by first | exact r.gd | simpa [Around.deeper,Around.under,Code.guards,Code.isGuard,guardIds,pushGuards] using r.gd⟩
theorem Room.deeper {k:Nat} {A:Around} (r:Room (k + 1) A) (env:Env):Room k (A.deeper env) :=
 ⟨r.hd,by have:=r.dp; show A.depth + 1 + 3 * k + 5 < _; omega,by have:=r.un; show A.units + 3 + 16 * k + 200 < _; omega,by first | exact r.gd | simpa [Around.deeper,Around.under,Code.guards,Code.isGuard,guardIds,pushGuards] using r.gd⟩
theorem make_depth {A:Around} {C:Addr} {us:List Value} {kw:List (Str × Value)}:(A.under (.builtin "type.__call__" ⟨.ref C :: us,kw⟩)).depth = A.depth + 1:=by
 first | rfl | simp [Around.under,Code.weight,Code.isCreation,Code.isGuard,Code.isCaller,Code.frames,Code.isFrame,guardIds]
theorem make_units {A:Around} {C:Addr} {us:List Value} {kw:List (Str × Value)}:(A.under (.builtin "type.__call__" ⟨.ref C :: us,kw⟩)).units = A.units + 1:=by
 first | rfl | simp [Around.under,Code.cUnits,Code.frames,Code.isFrame]
theorem Room.make {k:Nat} {A:Around} (r:Room (k + 1) A) (C:Addr) (us:List Value) (kw:List (Str × Value)):Room k (A.under (.builtin "type.__call__" ⟨.ref C :: us,kw⟩)) :=
 ⟨r.hd,by have:=r.dp; rw [make_depth]; omega,by have:=r.un; rw [make_units]; omega,by first | exact r.gd | simpa [Around.deeper,Around.under,Code.guards,Code.isGuard,guardIds,pushGuards] using r.gd⟩
theorem Room.depth {k:Nat} {A:Around} (r:Room k A):A.depth < recursionLimit:=by have:=r.dp; omega
theorem Room.units {k:Nat} {A:Around} (r:Room k A):A.units + 64 < cLine:=by have:=r.un; omega
theorem Room.units0 {k:Nat} {A:Around} (r:Room k A):A.units < cLine:=by have:=r.un; omega
def tNil:TA:=fun _ H Q=>Q [] H
def tCons (ta:TE) (tr:TA):TA:=fun σ H Q=>ta σ H fun x H1=>tr σ H1 fun xs H2=>Q (x :: xs) H2
section
variable {X:Cx} {e:Expr} {es:List Expr} {te:TE} {t:TA} {pos:Pos}
theorem pa_nil:PA X [] tNil:=fun _ _ _ _ H Q I h=>Calls.spliced_nil ⟨[],H,I,.nil,h⟩
theorem pa_cons (ha:PE X e te) (hr:PA X es t) (hs:starEach (e :: es) X.env = (false,eval e X.env) :: starEach es X.env:=by rfl):PA X (e :: es) (tCons te t):=by
 intro pos pins s σ H Q I h
 rw [hs]
 show wpAny _ _ (spliced ((false,eval e X.env) :: backTo pos (starEach es X.env))) _ _ s
 refine Calls.spliced_cons (thn (ha pins s σ H _ I h) fun u s1 ⟨x,H1,I1,r1,q1⟩=>?_)
 exact thn (hr pos pins s1 σ H1 _ I1 q1) fun us s2 ⟨xs,H2,I2,r2,q2⟩=>⟨x :: xs,H2,I2,.cons r1 r2,q2⟩
def tTup (t:TA):TE:=fun σ H Q=>t σ H fun xs H1=>xs.length <= sizeLine/\∀ p,H1 p = none->Q (.ref p) (upd H1 p (.tup xs))
def tLst (t:TA):TE:=fun σ H Q=>t σ H fun xs H1=>xs.length <= sizeLine/\∀ p,H1 p = none->Q (.ref p) (upd H1 p (.lst xs))
theorem pe_tup {x1} (h:PA X es t):PE X (.Tuple es x1 pos) (tTup t):=by
 intro pins s σ H Q I hq
 refine wpAny_Tuple_spliced (thn (h pos pins s σ H _ I hq) fun us s1 ⟨xs,H1,I1,r,z,q⟩=>⟨by rw [<- r.length]; exact z,?_⟩)
 have hf:H1 s1.heap.objs.size = none:=I1.hok.fresh (Nat.le_refl _)
 refine ⟨.ref s1.heap.objs.size,upd H1 s1.heap.objs.size (.tup xs),I1.laid (t':=s1.toks) (fun b u e=>Heap.get?_push_of_some _ e) (Nat.le_refl _) ?_,rfl,q _ hf⟩
 exact ⟨z,us,r,⟨_,Heap.get?_push_size _ rfl,rfl,_,rfl⟩⟩
theorem pe_lst (h:PA X es t):PE X (.List es pos) (tLst t):=by
 intro pins s σ H Q I hq
 refine wpAny_List_spliced (thn (h pos pins s σ H _ I hq) fun us s1 ⟨xs,H1,I1,r,z,q⟩=>⟨by rw [<- r.length]; exact z,?_⟩)
 have hf:H1 s1.heap.objs.size = none:=I1.hok.fresh (Nat.le_refl _)
 refine ⟨.ref s1.heap.objs.size,upd H1 s1.heap.objs.size (.lst xs),I1.laid (t':=s1.toks) (fun b u e=>Heap.get?_push_of_some _ e) (Nat.le_refl _) ?_,rfl,q _ hf⟩
 exact ⟨z,us,0,r,Heap.get?_push_size _ rfl⟩
end
abbrev Sp:=List V->Hp->VK->XK->Prop
abbrev CXT:=List Env->Hp->Shared->XK->Value->Shared->Prop
structure Env0 (P:Program) (w:World) (K:PySem.W.Frag) (mg:Str->Option Value) (base:Heap) (A:Around) (outer:List Env) (s:Shared) (H:Hp):Prop where
 frames:A.frames = some outer
 mod:Mod K mg base
 bs:∀ b o,base.get? b = some o->s.heap.get? b = some o/\H b = none
 bsz:base.objs.size <= s.heap.objs.size
 funs:s.heap.FunFrames base outer
 frf:∀ b ∈ frs outer,H b = none
 hok:HOk P w H s.heap
 bare:AllBare s.gens
def CE (outer:List Env) (P:Program) (w:World) (H:Hp) (s:Shared) (Q:VK) (u:Value) (s':Shared):Prop :=
 ∃ v H',s'.os = s.os/\AllBare s'.gens/\Un (frs outer) [] H H' s.heap s'.heap/\HOk P w H' s'.heap/\RelV v u/\Q v H'
def CR (CX:CXT) (outer:List Env) (P:Program) (w:World) (H:Hp) (s:Shared) (Q:VK) (E:XK) (r:Result) (s':Shared):Prop :=
 match r with
 | .ok (.ret u)=>CE outer P w H s Q u s'
 | .ok _=>False
 | .error e=>CX outer H s E e s'
structure FnOk (P:Program) (w:World) (K:PySem.W.Frag) (mg:Str->Option Value) (base:Heap) (CX:CXT) (k:Nat) (f:Addr) (fd:FuncData) (ps:List Str) (sp:Sp):Prop where
 len:∀ vs H Q E,sp vs H Q E->vs.length = ps.length
 run:∀ (A:Around) (outer:List Env) (s:Shared) (H:Hp) (args:Args) (us:List Value) (vs:List V) (Q:VK) (E:XK),Room k A->Env0 P w K mg base A outer s H->BindsTo s fd args (ps.zip us)->Vals vs us->sp vs H Q E ->
  codeAny (model P w) A (.call (.ref f) args) (CR CX outer P w H s Q E) s
theorem FnOk.mono {P:Program} {w:World} {K:PySem.W.Frag} {mg:Str->Option Value} {base:Heap} {CX:CXT} {j k:Nat} {f:Addr} {fd:FuncData} {ps:List Str} {sp:Sp} (F:FnOk P w K mg base CX j f fd ps sp) (h:j <= k) :
  FnOk P w K mg base CX k f fd ps sp:=⟨F.len,fun A outer s H args us vs Q E hr=>F.run A outer s H args us vs Q E (hr.mono h)⟩
theorem Env0.make {P:Program} {w:World} {K:PySem.W.Frag} {mg:Str->Option Value} {base:Heap} {A:Around} {outer:List Env} {s:Shared} {H:Hp} (e:Env0 P w K mg base A outer s H) (C:Addr) (us:List Value) (kw:List (Str × Value)) :
  Env0 P w K mg base (A.under (.builtin "type.__call__" ⟨.ref C :: us,kw⟩)) outer s H:=⟨by first | exact e.frames | (simpa [Around.under,Code.envs,Code.isFrame,pushEnvs] using e.frames),e.mod,e.bs,e.bsz,e.funs,e.frf,e.hok,e.bare⟩
section
variable {X:Cx} {pins:List (Addr × Obj)} {σ:St} {H:Hp} {s s':Shared}
theorem Inv.env0 (I:Inv X pins σ H s):Env0 X.prog X.w X.K X.mg X.base X.A X.stack s H :=
 ⟨I.ok.frames,I.ok.mod,I.bs,Nat.le_trans I.ok.bsz I.sz,I.stack,I.stkFree,I.hok,I.bare⟩
theorem Inv.after {Q:VK} {u:Value} (I:Inv X pins σ H s) (h:CE X.stack X.prog X.w H s Q u s'):EP X pins σ Q u s':=by
 obtain ⟨v,H',os,bare,un,hok,r,q⟩:=h
 obtain ⟨hh,g,d,t,os'⟩:=s'
 obtain rfl:os' = s.os:=os
 exact ⟨v,H',I.call (h':=hh) (g':=g) (d':=d) (t':=t) (ch:=[]) un hok bare (fun b z=>absurd z (by simp)),r,q⟩
end
def tCall (sp:Sp) (dvs:List V) (E:XK) (t:TA):TE:=fun σ H Q=>t σ H fun vs H1=>sp (vs ++ dvs) H1 Q E
def tMeth (C:Addr) (m:Str) (sp:Sp) (dvs:List V) (E:XK) (ta:TE) (t:TA):TE:=fun σ H Q=>ta σ H fun x H1=>∃ a dx fs,x = .ref a/\H1 a = some (.ins C dx fs)/\fs.lookup m = none /\
 t σ H1 fun vs H2=>sp (x :: (vs ++ dvs)) H2 Q E
def tMake (C:Addr) (sp:Sp) (dvs:List V) (E:XK) (t:TA):TE:=fun σ H Q=>t σ H fun vs H1=>∀ x dx,H1 x = none->H1 dx = none->dx ≠ x ->
 sp (.ref x :: (vs ++ dvs)) (upd (upd H1 dx (.own x)) x (.ins C dx [])) (fun v H2=>v = .non/\Q (.ref x) H2) E
def Binds (K:PySem.W.Frag) (fd:FuncData) (ps:List Str) (ds:List Value):Prop :=
 ∀ (s:Shared) (us:List Value),K.In s.heap->(us ++ ds).length = ps.length->BindsTo s fd ⟨us,[]⟩ (ps.zip (us ++ ds))
theorem Binds.all {K:PySem.W.Frag} {fd:FuncData} {ps:List Str} (h:∀ us:List Value,us.length = ps.length->bindArgs fd ⟨us,[]⟩ = pure (ps.zip us)):Binds K fd ps []:=fun s us _ hl=>by
 rw [List.append_nil] at hl ⊢
 exact .of_eq (h us hl)
def Passes (CX:CXT) (X:Cx) (E:XK):Prop:=∀ (pins:List (Addr × Obj)) (σ:St) (H:Hp) (s:Shared) (e:Value) (s':Shared),Inv X pins σ H s->CX X.stack H s E e s'->X.xe e s'
section
variable {X:Cx} {CX:CXT} {k:Nat} {f C:Addr} {fd:FuncData} {ps:List Str} {sp:Sp} {dvs:List V} {ds:List Value} {E:XK} {x m:Str} {p pos apos:Pos} {e o:Expr} {es:List Expr} {ta:TE} {t:TA}
theorem run_fn {pins : List (Addr × Obj)} {σ : St} {H : Hp} {s : Shared} {Q : VK} {us : List Value} {vs : List V} (F : FnOk X.prog X.w X.K X.mg X.base CX k f fd ps sp) (hr : Room k X.A) (hb : Binds X.K fd ps ds) (hd : Vals dvs ds) (hx : Passes CX X E)
    (I : Inv X pins σ H s) (r : Vals vs us) (h : sp (vs ++ dvs) H Q E) : wpAny (model X.prog X.w) X.A (call (.ref f) us) (EP X pins σ Q) X.xe s := by
  have r2 : Vals (vs ++ dvs) (us ++ ds) := r.append hd
  have hl : (us ++ ds).length = ps.length := by rw [<- r2.length]; exact F.len _ _ _ _ h
  refine wpAny_call (codeAny_mono (F.run X.A X.stack s H ⟨us, []⟩ (us ++ ds) (vs ++ dvs) Q E hr I.env0 (hb s us I.kIn hl) r2 h) fun r s' hq => ?_)
  cases r with
  | error e => exact hx pins σ H s e s' I hq
  | ok fl =>
    cases fl with
    | ret u => exact I.after hq
    | next => exact False.elim hq
    | brk => exact False.elim hq
    | cont => exact False.elim hq
theorem pe_call (F:FnOk X.prog X.w X.K X.mg X.base CX k f fd ps sp) (hr:Room k X.A) (hg:Gl X x) (hm:X.mg x = some (.ref f)) (hk:PySem.W.keepIn X.K (.ref f) = true) (hb:Binds X.K fd ps ds) (hd:Vals dvs ds) (hx:Passes CX X E)
  (ha:PA X (e :: es) t) (hdb:(x == ("__debug__" : Str)) = false:=by decide) (he:starEach (e :: es) X.env = (false,eval e X.env) :: starEach es X.env:=by rfl) (hpl:(backTo pos (starEach es X.env)).any (·.1) = false:=by rfl) :
  PE X (.Call (.Name x p) (e :: es) [] pos) (tCall sp dvs E t):=by
 intro pins s σ H Q I h
 refine wpAny_Call_Name_kw (ld_glob I hg hm ?_ hdb)
 refine PySem.W.callWith_K (h₀:=X.base) I.ok.mod.kin hk (thn (ha pos pins s σ H _ I h) fun us s1 ⟨vs,H1,I1,r,q⟩=>⟨I1.kIn,?_⟩) he hpl
 exact run_fn F hr hb hd hx I1 r q
theorem pe_meth {pl : Sem Bool} (he : PE X o ta) (c : Cls X.K C) (hm : Meth X.K C m f) (F : FnOk X.prog X.w X.K X.mg X.base CX k f fd ps sp) (hr : Room k X.A) (hb : Binds X.K fd ps ds) (hd : Vals dvs ds) (hx : Passes CX X E) (ha : PA X (e :: es) t)
  (hst : starEach (e :: es) X.env = (false, eval e X.env) :: starEach es X.env := by rfl) (hpl : (backTo pos (starEach es X.env)).any (·.1) = false := by rfl)
  (ht : eval (.Call (.Attribute o m apos) (e :: es) [] pos) X.env = (do
   let ov <- eval o X.env
   standAt apos.atName
   let (f, first) <- holding [ov] (getMethod ov m pl)
   callWith pos f first (backTo pos (starEach (e :: es) X.env)) (backToKw pos (keywordEach [] X.env))) := by rfl) :
  PE X (.Call (.Attribute o m apos) (e :: es) [] pos) (tMeth C m sp dvs E ta t) := by
 intro pins s σ H Q I h
 refine PySem.W.methodCall_KW (pl := pl) (thn (he pins s σ H _ I h) fun u s1 ⟨x, H1, I1, rx, a, dx, fs, ex, ea, l, q⟩ => ?_) ht
 subst ex
 obtain rfl : u = Value.ref a := rx
 refine getmeth_ok I1 ea c hm l ?_
 refine PySem.W.callWith_K (first := [.ref a]) (h₀ := X.base) I.ok.mod.kin hm.kp (thn (ha pos pins s1 σ H1 _ I1 q) fun us s2 ⟨vs, H2, I2, r, q2⟩ => ⟨I2.kIn, ?_⟩) hst hpl
 exact run_fn (us := .ref a :: us) (vs := .ref a :: vs) F hr hb hd hx I2 (.cons rfl r) q2
theorem pe_meth0 {pl : Sem Bool} (he : PE X o ta) (c : Cls X.K C) (hm : Meth X.K C m f) (F : FnOk X.prog X.w X.K X.mg X.base CX k f fd ps sp) (hr : Room k X.A) (hb : Binds X.K fd ps ds) (hd : Vals dvs ds) (hx : Passes CX X E)
  (ht : eval (.Call (.Attribute o m apos) [] [] pos) X.env = (do
   let ov <- eval o X.env
   standAt apos.atName
   let (f, first) <- holding [ov] (getMethod ov m pl)
   callWith pos f first (backTo pos (starEach [] X.env)) (backToKw pos (keywordEach [] X.env))) := by rfl) :
  PE X (.Call (.Attribute o m apos) [] [] pos) (tMeth C m sp dvs E ta tNil) := by
 intro pins s σ H Q I h
 refine PySem.W.methodCall_KW (pl := pl) (thn (he pins s σ H _ I h) fun u s1 ⟨x, H1, I1, rx, a, dx, fs, ex, ea, l, q⟩ => ?_) ht
 subst ex
 obtain rfl : u = Value.ref a := rx
 refine getmeth_ok I1 ea c hm l ?_
 exact PySem.W.callWith_K0 (first := [.ref a]) I1.kIn hm.kp (run_fn (us := [.ref a]) (vs := [.ref a]) F hr hb hd hx I1 (.cons rfl .nil) q)
structure Mk (K:PySem.W.Frag) (C f:Addr):Prop where
 makes:PySem.W.makesIn K C = true
 init:PySem.W.findIn K (.ref C) "__init__" = some (some (.ref f))
 fn:PySem.W.isFn K (.ref f) = true
 kp:PySem.W.keepIn K (.ref C) = true
theorem run_make {pins : List (Addr × Obj)} {σ : St} {H : Hp} {s : Shared} {Q : VK} {us : List Value} {vs : List V} (M : Mk X.K C f) (F : FnOk X.prog X.w X.K X.mg X.base CX k f fd ps sp) (hr : Room (k + 1) X.A) (hb : Binds X.K fd ps ds) (hd : Vals dvs ds)
    (hx : Passes CX X E) (I : Inv X pins σ H s) (r : Vals vs us)
    (h : ∀ x dx, H x = none -> H dx = none -> dx ≠ x -> sp (.ref x :: (vs ++ dvs)) (upd (upd H dx (.own x)) x (.ins C dx [])) (fun v H2 => v = .non /\ Q (.ref x) H2) E) :
    wpAny (model X.prog X.w) X.A (call (.ref C) us) (EP X pins σ Q) X.xe s := by
  have hq := h (s.heap.objs.size + 1) s.heap.objs.size (I.hok.fresh (Nat.le_succ _)) (I.hok.fresh (Nat.le_refl _)) (Nat.ne_of_lt (Nat.lt_succ_self _))
  have I2 := Inv.made (C := C) I
  have r2 : Vals (V.ref (s.heap.objs.size + 1) :: (vs ++ dvs)) (Value.ref (s.heap.objs.size + 1) :: (us ++ ds)) := .cons rfl (r.append hd)
  have hl : (Value.ref (s.heap.objs.size + 1) :: us ++ ds).length = ps.length := by
    have e := r2.length
    rw [F.len _ _ _ _ hq] at e
    exact e.symm
  refine wpAny_call (make_map (f := f) I.kIn M.makes M.init (beq_iff_eq.mp M.fn) (codeAny_mono (F.run _ X.stack _ _ ⟨Value.ref (s.heap.objs.size + 1) :: us, []⟩ (Value.ref (s.heap.objs.size + 1) :: (us ++ ds)) _ _ E (hr.make C us [])
    (I2.env0.make C us []) (hb _ (Value.ref (s.heap.objs.size + 1) :: us) I2.kIn hl) r2 hq) fun r s' hq' => ?_))
  cases r with
  | error e => exact hx pins σ _ _ e s' I2 hq'
  | ok fl =>
    cases fl with
    | ret u =>
      obtain ⟨v, H', I3, rv, ev, q3⟩ := I2.after hq'
      subst ev
      exact ⟨rv, ⟨V.ref (s.heap.objs.size + 1), H', I3, rfl, q3⟩⟩
    | next => exact False.elim hq'
    | brk => exact False.elim hq'
    | cont => exact False.elim hq'
theorem pe_make (M:Mk X.K C f) (F:FnOk X.prog X.w X.K X.mg X.base CX k f fd ps sp) (hr:Room (k + 1) X.A) (hg:Gl X x) (hm:X.mg x = some (.ref C)) (hb:Binds X.K fd ps ds) (hd:Vals dvs ds) (hx:Passes CX X E)
  (ha:PA X (e :: es) t) (hdb:(x == ("__debug__" : Str)) = false:=by decide) (he:starEach (e :: es) X.env = (false,eval e X.env) :: starEach es X.env:=by rfl) (hpl:(backTo pos (starEach es X.env)).any (·.1) = false:=by rfl) :
  PE X (.Call (.Name x p) (e :: es) [] pos) (tMake C sp dvs E t):=by
 intro pins s σ H Q I h
 refine wpAny_Call_Name_kw (ld_glob I hg hm ?_ hdb)
 refine PySem.W.callWith_K (h₀:=X.base) I.ok.mod.kin M.kp (thn (ha pos pins s σ H _ I h) fun us s1 ⟨vs,H1,I1,r,q⟩=>⟨I1.kIn,?_⟩) he hpl
 exact run_make M F hr hb hd hx I1 r q
end
section
variable {X:Cx} {CX:CXT} {k:Nat} {f C:Addr} {fd:FuncData} {ps ks:List Str} {sp:Sp} {E:XK} {x m:Str} {p pos apos kpos:Pos} {e o:Expr} {es:List Expr} {kws:List Keyword} {te ta:TE} {t tk:TA} {nm:Option Str}
variable {g:List Value->List Value->List Value} {gV:List V->List V->List V}
end
structure FnScope (N P:List Str) (sc:Scope):Prop where
 kind:sc.kind = .function
 co:sc.isCoroutine = false
 gen:sc.isGenerator = false
 nd:N.Nodup
 pre:N.take P.length = P
 par:∀ x ∈ P,sc.names.lookup x = some .local\/sc.names.lookup x = some .cell
 nofree:∀ y ∈ sc.names,y.2 ≠ .free
theorem bindL_out {kindOf : Str -> Option NameKind} {x : Str} : ∀ {binds : List (Str × Value)} {m : Str -> Option Value}, (∀ v, (x, v) ∉ binds) -> bindL kindOf binds m x = m x
  | [], _, _ => rfl
  | (n, v) :: r, m, h => by
    unfold bindL
    rw [bindL_out fun w hw => h w (List.mem_cons_of_mem _ hw)]
    split
    · have : x ≠ n := by rintro rfl; exact h v List.mem_cons_self
      simp [this]
    · rfl
theorem bindC_out {kindOf : Str -> Option NameKind} {x : Str} : ∀ {binds : List (Str × Value)} {m : Str -> Option Value}, (∀ v, (x, v) ∉ binds) -> bindC kindOf binds m x = m x
  | [], _, _ => rfl
  | (n, v) :: r, m, h => by
    unfold bindC
    rw [bindC_out fun w hw => h w (List.mem_cons_of_mem _ hw)]
    split
    · rfl
    · have : x ≠ n := by rintro rfl; exact h v List.mem_cons_self
      simp [this]
theorem bindL_get {kindOf : Str -> Option NameKind} {x : Str} {v : Value} : ∀ {P : List Str} {vs : List Value} {i : Nat} {m : Str -> Option Value}, P.Nodup -> P[i]? = some x -> vs[i]? = some v -> kindOf x = some .local ->
    bindL kindOf (P.zip vs) m x = some v
  | [], _, _, _, _, h, _, _ => by simp at h
  | _ :: _, [], _, _, _, _, h, _ => by simp at h
  | p :: P, w :: vs, 0, m, nd, h1, h2, hk => by
    simp at h1 h2; subst h1; subst h2
    show bindL kindOf ((p, w) :: P.zip vs) m p = _
    unfold bindL
    rw [bindL_out fun v hv => (List.nodup_cons.mp nd).1 (List.of_mem_zip hv).1, if_pos hk]
    simp
  | p :: P, w :: vs, i + 1, m, nd, h1, h2, hk => by
    show bindL kindOf ((p, w) :: P.zip vs) m x = _
    unfold bindL
    exact bindL_get (i := i) (List.nodup_cons.mp nd).2 (by simpa using h1) (by simpa using h2) hk
theorem bindC_get {kindOf : Str -> Option NameKind} {x : Str} {v : Value} : ∀ {P : List Str} {vs : List Value} {i : Nat} {m : Str -> Option Value}, P.Nodup -> P[i]? = some x -> vs[i]? = some v -> kindOf x ≠ some .local ->
    bindC kindOf (P.zip vs) m x = some v
  | [], _, _, _, _, h, _, _ => by simp at h
  | _ :: _, [], _, _, _, _, h, _ => by simp at h
  | p :: P, w :: vs, 0, m, nd, h1, h2, hk => by
    simp at h1 h2; subst h1; subst h2
    show bindC kindOf ((p, w) :: P.zip vs) m p = _
    unfold bindC
    rw [bindC_out fun v hv => (List.nodup_cons.mp nd).1 (List.of_mem_zip hv).1, if_neg hk]
    simp
  | p :: P, w :: vs, i + 1, m, nd, h1, h2, hk => by
    show bindC kindOf ((p, w) :: P.zip vs) m x = _
    unfold bindC
    exact bindC_get (i := i) (List.nodup_cons.mp nd).2 (by simpa using h1) (by simpa using h2) hk
def start (N:List Str) (vs:List V):St:=vs.map some ++ List.replicate (N.length - vs.length) none
def cxOf (CX:CXT) (P:Program) (w:World) (K:PySem.W.Frag) (mg:Str->Option Value) (base:Heap) (N:List Str) (qual:Str) (scope:Scope) (f:Addr) (cd:Value) (A:Around) (outer:List Env) (s:Shared) (H:Hp) (E:XK):Cx where
 prog:=P
 w:=w
 K:=K
 mg:=mg
 base:=base
 A:=A.deeper (envOfC qual scope s.heap.objs.size f cd)
 N:=N
 s₀:=s
 H₀:=H
 env:=envOfC qual scope s.heap.objs.size f cd
 outer:=outer
 stack:=envOfC qual scope s.heap.objs.size f cd :: outer
 ex:=[]
 calm:=true
 fn:=fun _=>true
 pn:=[]
 xe:=fun e s'=>wpAny (model P w) (A.deeper (envOfC qual scope s.heap.objs.size f cd)) (leaving (envOfC qual scope s.heap.objs.size f cd) e) (fun _ s''=>CX outer H s E e s'') (fun e' s''=>CX outer H s E e' s'') s'
theorem cell_has {sc:Scope} {n:Nat} {x:Str} (h:sc.names.lookup x = some .cell):∃ c,(cellsFrom n sc.names []).lookup x = some c:=by
 have q:=PySem.W.cellsFrom_some sc.names n [] (.inl h)
 exact Option.isSome_iff_exists.mp q
theorem inv_start {CX:CXT} {P:Program} {w:World} {K:PySem.W.Frag} {mg:Str->Option Value} {base:Heap} {N ps:List Str} {qual:Str} {scope:Scope} {f:Addr} {cd:Value} {A:Around} {outer:List Env} {s s1:Shared} {H:Hp} {E:XK} {us:List Value} {vs:List V}
  (S:FnScope N ps scope) (hd:A.handled = none) (e0:Env0 P w K mg base A outer s H) (hl:vs.length = ps.length) (r:Vals vs us)
  (x:InCallC s s.heap.objs.size (bindL (envOfC qual scope s.heap.objs.size f cd).kindOf (ps.zip us) fun _=>none) (cellsFrom (s.heap.objs.size + 1) scope.names []) (bindC (envOfC qual scope s.heap.objs.size f cd).kindOf (ps.zip us) fun _=>none) s1) :
  Inv (cxOf CX P w K mg base N qual scope f cd A outer s H E) [] (start N vs) H s1:=by
 have hpl:ps.length <= N.length:=by have:=congrArg List.length S.pre; rw [List.length_take] at this; omega
 obtain ⟨h1,tk,rfl,hk⟩:=x.done
 have noA:∀ b:Addr,b ∉ (cxOf CX P w K mg base N qual scope f cd A outer s H E).ex:=fun b z=>absurd (show b ∈ ([]:List Addr) from z) (by simp)
 refine ⟨⟨e0.mod,S.kind,rfl,rfl,Nat.le_refl _,fun y z c h1 h2=>?_,fun y hy=>?_,fun y c _ h=>?_,fun _=>hd,Around.frames_deeper e0.frames,.inr ⟨rfl,rfl⟩,fun b z=>absurd z (noA b),e0.bs,e0.bsz,fun b _ _=>noA b,fun b z=>absurd z (noA b),e0.funs,e0.frf⟩,
  rfl,e0.bare,Un.kept hk,⟨_,x.toInCall.ns,fun i y v h1 h2 h3=>?_⟩,fun y c h=>⟨_,x.cell y c h⟩,e0.hok.fresh (Nat.le_refl _),fun y c h=>?_,fun p hp=>absurd (show p ∈ ([]:List (Addr × Obj)) from hp) (by simp),e0.hok.kept hk,?_⟩
 ·exact name_of_addr x.apart (PySem.mem_of_lookup h1) (PySem.mem_of_lookup h2)
 ·have hy:scope.names.lookup y = some .cell\/scope.names.lookup y = some .free:=hy
  rcases hy with hy | hy
  ·exact cell_has hy
  ·exact absurd rfl (S.nofree _ (PySem.mem_of_lookup hy))
 ·exact Nat.le_of_lt (x.above y c (PySem.mem_of_lookup h))
 ·have hi:i < vs.length:=by
   unfold start at h2
   by_cases hi:i < vs.length
   ·exact hi
   ·rw [List.getElem?_append_right (by simpa using hi)] at h2
    rw [List.getElem?_replicate] at h2
    split at h2 <;> cases h2
  have ha:vs[i]? = some v:=by
   unfold start at h2
   rw [List.getElem?_append_left (by simpa using hi),List.getElem?_map] at h2
   cases e:vs[i]? with
   | none=>rw [e] at h2; cases h2
   | some a=>rw [e] at h2; cases h2; rfl
  obtain ⟨u,hu,rv⟩:=r.get ha
  have hp:ps[i]? = some y:=by
   rw [<- S.pre,List.getElem?_take_of_lt (by omega)]; exact h1
  have ndP:ps.Nodup:=by rw [<- S.pre]; exact S.nd.sublist (List.take_sublist _ _)
  refine ⟨u,rv,?_⟩
  rcases S.par y (List.mem_of_getElem? hp) with k | k
  ·exact .inl ⟨k,bindL_get ndP hp hu k⟩
  ·obtain ⟨c,e⟩:=cell_has (n:=s.heap.objs.size + 1) k
   refine .inr ⟨.inl k,c,e,?_⟩
   have q:=x.cell y c e
   rw [bindC_get ndP hp hu (by show scope.names.lookup y ≠ _; rw [k]; decide)] at q
   exact q
 ·exact e0.hok.fresh (Nat.le_of_lt (x.above y c (PySem.mem_of_lookup h)))
 ·unfold start
  show _ = N.length
  rw [List.length_append,List.length_map,List.length_replicate]
  omega
theorem fn_of {CX : CXT} {P : Program} {w : World} {K : PySem.W.Frag} {mg : Str -> Option Value} {base : Heap} {k : Nat} {f : Addr} {name qual : Str} {params : Arguments} {body : List Stmt} {scope : Scope} {dV kV doc pm cdv ct oc : Value} {an od : Option Addr}
    {osl : Array (Option Value)} {N ps : List Str} {sp : Sp} (lk : K.lookup f = some ⟨oc, od, .func (PySem.W.fnOf name qual params body scope dV kV doc pm an cdv ct), osl⟩) (hcd : PySem.W.codeIn K cdv qual = true) (S : FnScope N ps scope)
    (len : ∀ vs H Q E, sp vs H Q E -> vs.length = ps.length)
    (hbody : ∀ (A : Around) (outer : List Env) (s : Shared) (H : Hp) (vs : List V) (Q : VK) (E : XK), Room k (A.deeper (envOfC qual scope s.heap.objs.size f cdv)) -> sp vs H Q E ->
      ∃ t, PSs (cxOf CX P w K mg base N qual scope f cdv A outer s H E) body t /\ t { nx := fun _ H' => Q .non H', rt := Q } (start N vs) H) :
    FnOk P w K mg base CX (k + 1) f (PySem.W.fnOf name qual params body scope dV kV doc pm an cdv ct) ps sp := by
  refine ⟨len, fun A outer s H args us vs Q E hr e0 hb r hsp => ?_⟩
  have hl := len _ _ _ _ hsp
  have KX : K.In s.heap := e0.mod.kin.keeps fun b o e => (e0.bs b o e).1
  have lim : s.heap.NoLimit := e0.mod.nolimit.keeps fun b o e => (e0.bs b o e).1
  have hkind : ∀ y ∈ ps.zip us, scope.names.lookup y.1 = some .local \/ (scope.names.lookup y.1 = some .cell /\ ((cellsFrom (s.heap.objs.size + 1) scope.names []).lookup y.1).isSome = true) := fun ⟨n, v⟩ hy => by
    rcases S.par n (List.of_mem_zip hy).1 with q | q
    · exact .inl q
    · exact .inr ⟨q, PySem.W.cellsFrom_some _ _ _ (.inl q)⟩
  refine codeAny_call_function hr.depth (KX _ _ lk) rfl S.co S.gen rfl (PySem.W.codeRec_of KX hcd) (hb _ _ _ _ ?_)
  refine wpAny_newFunctionEnv_cells S.kind hkind fun env he s1 x => ?_
  subst he
  refine ⟨lim.keeps x.toInCall.keep, codeAny_func ?_⟩
  obtain ⟨t, ht, hq⟩ := hbody A outer s H vs Q E (hr.deeper _) hsp
  have I : Inv (cxOf CX P w K mg base N qual scope f cdv A outer s H E) [] (start N vs) H s1 := inv_start S hr.hd e0 hl r x
  refine wpAny_mono (ht [] s1 (start N vs) H _ I hq) (fun fl s' hs => ?_) fun e s' hs => hs
  have fin : ∀ {σ' : St} {H' : Hp} {v : V} {u : Value}, Inv (cxOf CX P w K mg base N qual scope f cdv A outer s H E) [] σ' H' s' -> RelV v u -> Q v H' -> CE outer P w H s Q u s' :=
    fun {σ' H' v u} J rv q => ⟨v, H', J.os, J.bare, J.base, J.hok, rv, q⟩
  cases fl with
  | ret u =>
    obtain ⟨v, σ', H', J, rv, q⟩ := hs
    exact fin J rv q
  | next =>
    obtain ⟨σ', H', J, q⟩ := hs
    exact fin (v := V.non) (u := Value.none) J rfl q
  | brk =>
    obtain ⟨_, _, _, q⟩ := hs
    exact False.elim q
  | cont =>
    obtain ⟨_, _, _, q⟩ := hs
    exact False.elim q
end L2
namespace L2
open PySem PySem.Spec PyProof.Rows
section
variable {X:Cx} {x:Str} {p pos:Pos} {e:Expr} {es:List Expr} {t:TA} {id T:String} {r:List V->Hp->VK->Prop}
def tCB (r:List V->Hp->VK->Prop) (t:TA):TE:=fun σ H Q=>t σ H fun vs H1=>r vs H1 Q
theorem pe_callB (hc:CallR X (.builtin id) r) (hg:Gl X x) (hm:X.mg x = none) (hv:bootBuiltins x = some (.builtin id)) (ha:PA X (e :: es) t) (hn:x ≠ "__name__":=by decide) (hdb:(x == ("__debug__" : Str)) = false:=by decide)
  (he:starEach (e :: es) X.env = (false,eval e X.env) :: starEach es X.env:=by rfl) (hpl:(backTo pos (starEach es X.env)).any (·.1) = false:=by rfl):PE X (.Call (.Name x p) (e :: es) [] pos) (tCB r t):=by
 intro pins s σ H Q I h
 refine wpAny_Call_Name_kw (ld_blt I hg hm hv ?_ hn hdb)
 exact PyProof.Rows.callWith_builtin1 (thn (ha pos pins s σ H _ I h) fun us s1 ⟨vs,H1,I1,r1,q1⟩=>hc pins s1 σ H1 vs us Q I1 r1 q1) he hpl
theorem pe_callTy (hc:CallR X (.type T) r) (hg:Gl X x) (hm:X.mg x = none) (hv:bootBuiltins x = some (.type T)) (ha:PA X (e :: es) t) (hn:x ≠ "__name__":=by decide) (hdb:(x == ("__debug__" : Str)) = false:=by decide)
  (he:starEach (e :: es) X.env = (false,eval e X.env) :: starEach es X.env:=by rfl) (hpl:(backTo pos (starEach es X.env)).any (·.1) = false:=by rfl):PE X (.Call (.Name x p) (e :: es) [] pos) (tCB r t):=by
 intro pins s σ H Q I h
 refine wpAny_Call_Name_kw (ld_blt I hg hm hv ?_ hn hdb)
 exact PyProof.Rows.callWith_type1 (thn (ha pos pins s σ H _ I h) fun us s1 ⟨vs,H1,I1,r1,q1⟩=>hc pins s1 σ H1 vs us Q I1 r1 q1) he hpl
end
end L2
namespace HT
open PySem PyProof.Rows
section
open PySem.SeqAt
open PySem.AutoSeq1 (wpAny_loadPart')
open PySem.MeetsSeq PySem.MeetsSeq2 PySem.MeetsSeq3
end
section
variable {prog:Program} {w:World} {A:Around} {E:Value->Shared->Prop} {s:Shared}
def sIx (n d:Nat):Option Int->Nat
 | none=>d
 | some v=>if v < 0 then (v + (n:Int)).toNat else min v.toNat n
theorem sIx_none (n d:Nat):sIx n d none = d:=rfl
theorem sIx_nat (n d k:Nat):sIx n d (some (k:Int)) = min k n:=by
 show (if (k:Int) < 0 then ((k:Int) + (n:Int)).toNat else min (k:Int).toNat n) = min k n
 rw [if_neg (by omega),Int.toNat_natCast]
theorem sIx_le (n d : Nat) (hd : d <= n) (o : Option Int) : sIx n d o <= n := by
  cases o with
  | none => exact hd
  | some v =>
    show (if v < 0 then (v + (n : Int)).toNat else min v.toNat n) <= n
    by_cases hv : v < 0
    · rw [if_pos hv]; omega
    · rw [if_neg hv]; exact Nat.min_le_right _ _
end
end HT
namespace L2
open PySem PySem.Spec PyProof.Rows
abbrev TO:=St->Hp->(Option Int->Hp->Prop)->Prop
def PO (X:Cx) (e:Option Expr) (t:TO):Prop :=
 ∀ (pins:List (Addr × Obj)) (s:Shared) (σ:St) (H:Hp) (Q:Option Int->Hp->Prop),Inv X pins σ H s->t σ H Q ->
  wpAny (model X.prog X.w) X.A (evalPart e X.env) (fun u s'=>∃ o H',Inv X pins σ H' s'/\IsPart u o/\Q o H') X.xe s
def tNoPart:TO:=fun _ H Q=>Q none H
def tPart (t:TE):TO:=fun σ H Q=>t σ H fun x H1=>∃ i,x = .int i/\Q (some i) H1
theorem intsAre_of {ns : List Int} : ∀ {us : List Value}, Vals (ns.map V.int) us -> IntsAre us ns := by
  induction ns with
  | nil => intro us r; rw [List.map_nil] at r; cases r; exact .nil
  | cons n ns ih =>
    intro us r
    rw [List.map_cons] at r
    cases r with
    | cons r1 r2 =>
      obtain ⟨t, e⟩ := r1
      subst e
      exact .cons n t (ih r2)
section
variable {X:Cx} {e:Expr} {te:TE} {lo hi:Option Expr} {tl th:TO} {pos p2:Pos}
theorem po_none:PO X none tNoPart:=by
 intro pins s σ H Q I h
 rw [evalPart_none]
 exact wpAny_pure ⟨none,H,I,.none,h⟩
theorem po_some (h:PE X e te):PO X (some e) (tPart te):=by
 intro pins s σ H Q I hw
 rw [evalPart_some]
 refine thn (h pins s σ H _ I hw) fun u s1 ⟨x,H1,I1,r1,q1⟩=>?_
 obtain ⟨i,rfl,q⟩:=q1
 obtain ⟨t,rfl⟩:=r1
 exact ⟨some i,H1,I1,.int i t,q⟩
def SlR (X:Cx) (r:V->Option Int->Option Int->Hp->VK->Prop):Prop :=
 ∀ (pins:List (Addr × Obj)) (s:Shared) (σ:St) (H:Hp) (x:V) (v vl vu:Value) (lo hi:Option Int) (sl:Addr) (Q:VK),Inv X pins σ H s->RelV x v->s.heap.IsSliceOf sl vl vu .none->IsPart vl lo->IsPart vu hi->r x lo hi H Q ->
  ∃ T id,typeLookup (.type T) "__getitem__" = pure (some (.builtin id))/\s.TypeIs v T/\wpAny (model X.prog X.w) X.A (getItem v (.ref sl)) (EP X pins σ Q) X.xe s
theorem SlR.or {r r':V->Option Int->Option Int->Hp->VK->Prop} (h:SlR X r) (h':SlR X r'):SlR X (fun x lo hi H Q=>r x lo hi H Q\/r' x lo hi H Q):=by
 intro pins s σ H x v vl vu lo hi sl Q I rx hs pl pu q
 rcases q with q | q
 ·exact h pins s σ H x v vl vu lo hi sl Q I rx hs pl pu q
 ·exact h' pins s σ H x v vl vu lo hi sl Q I rx hs pl pu q
def tSl (r:V->Option Int->Option Int->Hp->VK->Prop) (te:TE) (tl th:TO):TE:=fun σ H Q=>te σ H fun x H1=>tl σ H1 fun l H2=>th σ H2 fun u H3=>r x l u H3 Q
theorem pe_slice {r:V->Option Int->Option Int->Hp->VK->Prop} (hr:SlR X r) (he:PE X e te) (hl:PO X lo tl) (hu:PO X hi th):PE X (.Subscript e (.Slice lo hi none p2) pos) (tSl r te tl th):=by
 intro pins s σ H Q I h
 refine Subscript_ (thn (he pins s σ H _ I h) fun v s1 ⟨x,H1,I1,r1,q1⟩=>?_)
 refine wpAny_Slice (thn (hl pins s1 σ H1 _ I1 q1) fun vl s2 ⟨l,H2,I2,pl,q2⟩=>thn (hu pins s2 σ H2 _ I2 q2) fun vu s3 ⟨u,H3,I3,pu,q3⟩=>?_)
 rw [evalPart_none]
 refine wpAny_pure ?_
 have I4:Inv X pins σ H3 { s3 with heap:=s3.heap.push { cls:=.type "slice",data:=.fields #[vl,vu,.none] } }:=I3.kept (t':=s3.toks) fun b ob q=>Heap.get?_push_of_some _ q
 obtain ⟨T,id,hT,ht,hg⟩:=hr pins { s3 with heap:=s3.heap.push { cls:=.type "slice",data:=.fields #[vl,vu,.none] } } σ H3 x v vl vu l u s3.heap.objs.size Q I4 r1 (Heap.IsSliceOf.new ..) pl pu q3
 show wpAny (model X.prog X.w) X.A (subscriptTail e (.Slice lo hi none p2) v (.ref s3.heap.objs.size)) (EP X pins σ Q) X.xe { s3 with heap:=s3.heap.push { cls:=.type "slice",data:=.fields #[vl,vu,.none] } }
 exact tail_any (ops:=[.ref s3.heap.objs.size,v]) ht hT hg (by with_unfolding_all rfl)
def cutV (xs:List V) (lo hi:Option Int):List V:=(xs.drop (HT.sIx xs.length 0 lo)).take (HT.sIx xs.length xs.length hi - HT.sIx xs.length 0 lo)
theorem cutV_length (xs:List V) (lo hi:Option Int):(cutV xs lo hi).length <= xs.length:=by
 unfold cutV
 rw [List.length_take,List.length_drop]
 omega
end
end L2
namespace L2
open PySem PySem.Spec PyProof.Rows
def ixN (n:Nat) (i:Int):Option Nat:=if 0 <= i then (if i < n then some i.toNat else none) else if -(n:Int) <= i then some (i + n).toNat else none
def atI {α:Type} (xs:List α) (i:Int):Option α:=(ixN xs.length i).bind fun j=>xs[j]?
theorem ixN_seq {n:Nat} {i:Int} {j:Nat} (h:ixN n i = some j):seqIndex? i n = some j/\j < n/\-(n:Int) <= i/\i < n:=by
 unfold ixN at h
 by_cases h0:0 <= i
 ·rw [if_pos h0] at h
  by_cases h1:i < n
  ·rw [if_pos h1] at h
   have e:i.toNat = j:=Option.some.inj h
   exact ⟨by rw [seqIndex_of h0 h1,e],by omega,by omega,h1⟩
  ·rw [if_neg h1] at h; cases h
 ·rw [if_neg h0] at h
  by_cases h1:-(n:Int) <= i
  ·rw [if_pos h1] at h
   have e:(i + n).toNat = j:=Option.some.inj h
   exact ⟨by rw [seqIndex_neg (by omega) h1,e],by omega,h1,by omega⟩
  ·rw [if_neg h1] at h; cases h
theorem atI_get {α : Type} {xs : List α} {i : Int} {v : α} (h : atI xs i = some v) : ∃ j, seqIndex? i xs.length = some j /\ xs[j]? = some v /\ j < xs.length /\ -(xs.length : Int) <= i /\ i < xs.length := by
  unfold atI at h
  cases e : ixN xs.length i with
  | none => rw [e] at h; cases h
  | some j =>
    rw [e] at h
    obtain ⟨h1, h2, h3, h4⟩ := ixN_seq e
    exact ⟨j, h1, h, h2, h3, h4⟩
theorem atI_nat {α:Type} {xs:List α} {j:Nat} {v:α} (h:xs[j]? = some v):atI xs (j:Int) = some v:=by
 have hj:j < xs.length:=(List.getElem?_eq_some_iff.mp h).1
 have e:ixN xs.length (j:Int) = some j:=by
  unfold ixN
  rw [if_pos (by omega),if_pos (by omega)]; simp
 unfold atI; rw [e]; exact h
theorem atI_last {α:Type} (xs:List α) (v:α):atI (xs ++ [v]) (-1) = some v:=by
 have hl:(xs ++ [v]).length = xs.length + 1:=by simp
 have e:ixN (xs ++ [v]).length (-1) = some xs.length:=by
  unfold ixN
  rw [hl,if_neg (by decide),if_pos (by omega)]
  congr 1
  omega
 unfold atI
 rw [e]
 show (xs ++ [v])[xs.length]? = some v
 simp
def PlainIx (b:Expr):Prop:=∀ o i,subscripted b false o i = operate [o,i] (getItem o i)
def IxR (X:Cx) (r:R2):Prop :=
 ∀ (value slice:Expr) (pins:List (Addr × Obj)) (s:Shared) (σ:St) (H:Hp) (x y:V) (v u:Value) (Q:VK),Inv X pins σ H s->RelV x v->RelV y u->r x y H Q ->
  subscripted slice false v u = operate [v,u] (getItem v u)->wpAny (model X.prog X.w) X.A (subscriptTail value slice v u) (EP X pins σ Q) X.xe s
def MtR (X:Cx) (id:String) (r:V->List V->Hp->VK->Prop):Prop :=
 ∀ (pins:List (Addr × Obj)) (s:Shared) (σ:St) (H:Hp) (x:V) (xs:List V) (v:Value) (us:List Value) (Q:VK),Inv X pins σ H s->RelV x v->Vals xs us->r x xs H Q ->
  wpAny (model X.prog X.w) X.A (call (.builtin id) (v :: us)) (EP X pins σ Q) X.xe s
section
variable {X:Cx} {a b:Expr} {ta tb:TE} {pos:Pos}
theorem IxR.or {r r':R2} (h:IxR X r) (h':IxR X r'):IxR X (fun x y H Q=>r x y H Q\/r' x y H Q):=by
 intro value slice pins s σ H x y v u Q I rx ry q hs
 rcases q with q | q
 ·exact h value slice pins s σ H x y v u Q I rx ry q hs
 ·exact h' value slice pins s σ H x y v u Q I rx ry q hs
theorem pe_ix {r:R2} (hr:IxR X r) (ha:PE X a ta) (hb:PE X b tb) (hs:PlainIx b):PE X (.Subscript a b pos) (tOp r ta tb):=by
 intro pins s σ H Q I h
 exact Subscript_ (binT ha hb I h fun v u s2 x y H2 I2 rx ry q=>hr a b pins s2 σ H2 x y v u Q I2 rx ry q (hs _ _))
def rIxL (K:PySem.W.Frag):R2:=fun x y H Q=>∃ p xs i v,x = .ref p/\y = .int i/\SqL K H p xs/\atI xs i = some v/\Q v H
def rIxT (K:PySem.W.Frag):R2:=fun x y H Q=>∃ p xs i v,x = .ref p/\y = .int i/\SqT K H p xs/\atI xs i = some v/\Q v H
def rIxS:R2:=fun x y H Q=>∃ z i c,x = .str z/\y = .int i/\z.length <= sizeLine/\atI z.cps.toList i = some c/\Q (.str ⟨#[c]⟩) H
theorem ix_list:IxR X (rIxL X.K):=by
 intro value slice pins s σ H x y v u Q I rx ry h hs
 obtain ⟨p,xs,i,z,rfl,rfl,hq,he,q⟩:=h
 cases rx
 obtain ⟨t,rfl⟩:=ry
 obtain ⟨its,r,pl,hz⟩:=I.list hq
 obtain ⟨j,h1,h2,h3,h4,h5⟩:=atI_get he
 obtain ⟨w,ew,rw'⟩:=r.get h2
 have hl:=r.length
 have hn:=line63
 have fin:EP X pins σ Q w s:=⟨z,H,I,rw',q⟩
 by_cases h0:0 <= i
 ·have hj:i.toNat = j:=by
   rw [seqIndex_of h0 h5] at h1
   exact Option.some.inj h1
  exact item_listR pl.isList h0 (by omega) (by rw [hj]; simpa using ew) fin hs
 ·have hj:(i + (its.toArray.size:Int)).toNat = j:=by
   rw [seqIndex_neg (by omega) h4] at h1
   rw [List.size_toArray,<- hl]
   exact Option.some.inj h1
  exact subscriptTail_builtinR (x:=w) pl.isList.typeIs slot_list_getitem.lookup
   (wpAny_getItem_list_neg (Q:=fun r s'=>r = w/\EP X pins σ Q r s') pl.isList (by omega) (by rw [List.size_toArray] <;> omega) (by omega) (by rw [hj]; simpa using ew) ⟨rfl,fin⟩) hs
theorem ix_tup:IxR X (rIxT X.K):=by
 intro value slice pins s σ H x y v u Q I rx ry h hs
 obtain ⟨p,xs,i,z,rfl,rfl,hq,he,q⟩:=h
 cases rx
 obtain ⟨t,rfl⟩:=ry
 obtain ⟨its,r,pl,hz⟩:=I.tuple hq
 obtain ⟨j,h1,h2,h3,h4,h5⟩:=atI_get he
 obtain ⟨w,ew,rw'⟩:=r.get h2
 have hl:=r.length
 have hn:=line63
 have fin:EP X pins σ Q w s:=⟨z,H,I,rw',q⟩
 exact subscriptTail_builtinR (x:=w) pl.typeIs slot_tuple_getitem.lookup
  (getItem_tuple (j:=j) (Q:=fun r s'=>r = w/\EP X pins σ Q r s') pl (by omega) (by omega) (by rw [List.size_toArray,<- hl]; exact h1) (by simpa using ew) ⟨rfl,fin⟩) hs
theorem ix_str:IxR X rIxS:=by
 intro value slice pins s σ H x y v u Q I rx ry h hs
 obtain ⟨z,i,c,rfl,rfl,hz,he,q⟩:=h
 obtain ⟨t,rfl⟩:=rx
 obtain ⟨t',rfl⟩:=ry
 obtain ⟨j,h1,h2,h3,h4,h5⟩:=atI_get he
 have hl:z.cps.toList.length = z.length:=by simp [Str.length]
 rw [hl] at h1 h4 h5
 have hn:=line63
 exact tail_any (typeIs_str s z t) slot_str_getitem.lookup (getItem_str (c:=c) (by
  have e1:decide (i < -(2 ^ 63:Int)) = false:=decide_eq_false (by omega)
  have e2:decide (i >= 2 ^ 63) = false:=decide_eq_false (by omega)
  rw [e1,e2,Bool.or_false]) (by rw [h1]; simpa using h2) ⟨.str ⟨#[c]⟩,H,I.tok _,⟨_,rfl⟩,q⟩) hs
theorem mapSeq_set (its:List Value) (n j:Nat) (u:Value):Obj.mapSeq (·.setIfInBounds j u) { cls:=.type "list",data:=.seq its.toArray n } = { cls:=.type "list",data:=.seq (its.set j u).toArray n }:=by
 simp [Obj.mapSeq]
theorem Inv.lst {pins:List (Addr × Obj)} {σ:St} {H:Hp} {s:Shared} {p:Addr} {xs:List V} (I:Inv X pins σ H s) (h:H p = some (.lst xs)) :
  ∃ (its:List Value) (n:Nat),Vals xs its/\s.heap.get? p = some { cls:=.type "list",data:=.seq its.toArray n }/\xs.length <= sizeLine:=by
 obtain ⟨z,its,n,r,e⟩:=I.hok p _ h
 exact ⟨its,n,r,e,z⟩
theorem Inv.lstUpd {pins:List (Addr × Obj)} {σ:St} {H:Hp} {s:Shared} {p:Addr} {xs ys:List V} {its its':List Value} {n n':Nat} {f:Obj->Obj} (I:Inv X pins σ H s) (h:H p = some (.lst xs))
  (ho:s.heap.get? p = some { cls:=.type "list",data:=.seq its.toArray n }) (hf:f { cls:=.type "list",data:=.seq its.toArray n } = { cls:=.type "list",data:=.seq its'.toArray n' }) (r:Vals ys its') (hz:ys.length <= sizeLine) (t:Nat) :
  Inv X pins σ (upd H p (.lst ys)) { s with heap:=s.heap.update p f,toks:=t }:=by
 have e:(s.heap.update p f).get? p = some { cls:=.type "list",data:=.seq its'.toArray n' }:=by
  rw [Heap.get?_update_self f ho (by rw [hf] <;> rfl),hf]
 refine I.write (x:=p) (e:=p) (by rw [h]; trivial) (.inl rfl) (fun b u hb q=>(Heap.get?_update_other _ _ (Ne.symm hb)).trans q) ⟨_,e⟩ ?_
 exact ⟨hz,its',n',r,e⟩
def rSetL:V->V->V->Hp->(Hp->Prop)->Prop:=fun o i v H Q=>∃ p xs k j,o = .ref p/\i = .int k/\H p = some (.lst xs)/\ixN xs.length k = some j/\Q (upd H p (.lst (xs.set j v)))
theorem set_list:PSet X rSetL:=by
 intro pins s σ H o i v ov iv u Q I ro ri rv h
 obtain ⟨p,xs,k,j,rfl,rfl,hp,hj,q⟩:=h
 cases ro
 obtain ⟨t,rfl⟩:=ri
 obtain ⟨its,n,r,ho,hz⟩:=I.lst hp
 obtain ⟨h1,h2,h3,h4⟩:=ixN_seq hj
 have hl:=r.length
 have hn:=line63
 have I':Inv X pins σ (upd H p (.lst (xs.set j v))) { s with heap:=s.heap.update p (Obj.mapSeq (·.setIfInBounds j u)) } :=
  I.lstUpd hp ho (mapSeq_set its n j u) (r.set rv j) (by rw [List.length_set]; exact hz) s.toks
 by_cases h0:0 <= k
 ·have hk:k.toNat = j:=by
   rw [seqIndex_of h0 h4] at h1
   exact Option.some.inj h1
  exact PySem.W.ki_setAt ho h0 (by omega) (by rw [List.size_toArray,<- hl]; exact h4) (by rw [hk]; exact ⟨_,I',q⟩)
 ·have hk:(k + (its.toArray.size:Int)).toNat = j:=by
   rw [seqIndex_neg (by omega) h3] at h1
   rw [List.size_toArray,<- hl]
   exact Option.some.inj h1
  exact PySem.W.ki_setBack ho (by omega) (by rw [List.size_toArray,<- hl]; exact h3) (by omega) (by rw [hk]; exact ⟨_,I',q⟩)
theorem slice_bounds (lo hi : Option Int) (n : Nat) : (sliceBounds lo hi none n).1 = ((HT.sIx n 0 lo : Nat) : Int) /\ (sliceBounds lo hi none n).2.1 = ((HT.sIx n n hi : Nat) : Int) /\ (sliceBounds lo hi none n).2.2 = 1 := by
  refine ⟨?_, ?_, rfl⟩
  · cases lo with
    | none => simp [sliceBounds, HT.sIx]
    | some i =>
      simp only [sliceBounds, HT.sIx, Option.getD_none, show (1 : Int) > 0 by decide, if_true]
      by_cases h : i < 0
      · simp only [h, if_true] <;> omega
      · simp only [h, if_false] <;> omega
  · cases hi with
    | none => simp [sliceBounds, HT.sIx]
    | some i =>
      simp only [sliceBounds, HT.sIx, Option.getD_none, show (1 : Int) > 0 by decide, if_true]
      by_cases h : i < 0
      · simp only [h, if_true] <;> omega
      · simp only [h, if_false] <;> omega
theorem slicePick_cut (its:List Value) (lo hi:Option Int):slicePick its.toArray lo hi none = ((its.drop (HT.sIx its.length 0 lo)).take (HT.sIx its.length its.length hi - HT.sIx its.length 0 lo)).toArray:=by
 obtain ⟨h1,h2,h3⟩:=slice_bounds lo hi its.toArray.size
 unfold slicePick
 rw [h1,h2,h3]
 simp only [sliceRange_one,pick_run,List.size_toArray] <;> rfl
def rSlL (K:PySem.W.Frag):V->Option Int->Option Int->Hp->VK->Prop:=fun x lo hi H Q=>∃ a xs,x = .ref a/\SqL K H a xs/\∀ p,H p = none->Q (.ref p) (upd H p (.lst (cutV xs lo hi)))
theorem sl_list:SlR X (rSlL X.K):=by
 intro pins s σ H x v vl vu lo hi sl Q I rx hs pl pu h
 obtain ⟨a,xs,rfl,hx,q⟩:=h
 cases rx
 obtain ⟨its,r,ht,hz⟩:=I.list hx
 have hlen:=r.length
 refine ⟨"list",_,slot_list_getitem.lookup,ht.isList.typeIs,?_⟩
 refine wpAny_getItem_list_slice ht.isList hs pl pu .none (by simp) ?_ (by rw [List.size_toArray] <;> omega)
 rw [slicePick_cut,<- hlen]
 refine ⟨.ref s.heap.objs.size,_,I.laid (t':=s.toks) (o:=.lst (cutV xs lo hi)) (fun b ob q=>Heap.get?_push_of_some _ q) (Nat.le_refl _) ?_,rfl,q _ (I.hok.fresh (Nat.le_refl _))⟩
 exact ⟨Nat.le_trans (cutV_length xs lo hi) hz,_,0,(r.drop (HT.sIx xs.length 0 lo)).take (HT.sIx xs.length xs.length hi - HT.sIx xs.length 0 lo),Heap.get?_push_size _ rfl⟩
def flatV:V->Bool
 | .non=>true
 | .bl _=>true
 | .int _=>true
 | .str _=>true
 | _=>false
def eqV:V->V->Bool
 | .non,.non=>true
 | .bl a,.bl b=>a == b
 | .bl a,.int b=>(if a then 1 else 0) == b
 | .int a,.bl b=>a == (if b then 1 else 0)
 | .int a,.int b=>a == b
 | .str a,.str b=>a == b
 | _,_=>false
theorem eqAt_V {A : Around} {s : Shared} {y x : V} {u v : Value} (ry : RelV y u) (rx : RelV x v) (fy : flatV y = true) (fx : flatV x = true) : SeqAt.EqAt A s u v (eqV y x) := by
  cases y with
  | non =>
    cases ry
    cases x with
    | non => cases rx; exact SeqAt.EqAt.same _
    | bl b => cases rx; exact SeqAt.EqAt.none_bool b
    | int b => obtain ⟨t, rfl⟩ := rx; exact SeqAt.EqAt.none_int b t
    | str b => obtain ⟨t, rfl⟩ := rx; exact SeqAt.EqAt.none_str b t
    | _ => exact absurd (show false = true from fx) Bool.false_ne_true
  | bl a =>
    cases ry
    cases x with
    | non => cases rx; exact SeqAt.EqAt.bool_none a
    | bl b => cases rx; exact SeqAt.EqAt.bool_bool a b
    | int b => obtain ⟨t, rfl⟩ := rx; exact SeqAt.EqAt.bool_int a b t
    | str b => obtain ⟨t, rfl⟩ := rx; exact SeqAt.EqAt.bool_str a b t
    | _ => exact absurd (show false = true from fx) Bool.false_ne_true
  | int a =>
    obtain ⟨t', rfl⟩ := ry
    cases x with
    | non => cases rx; exact SeqAt.EqAt.int_none a t'
    | bl b => cases rx; exact SeqAt.EqAt.int_bool a t' b
    | int b => obtain ⟨t, rfl⟩ := rx; exact SeqAt.EqAt.int_int a t' b t
    | str b => obtain ⟨t, rfl⟩ := rx; exact SeqAt.EqAt.int_str a t' b t
    | _ => exact absurd (show false = true from fx) Bool.false_ne_true
  | str a =>
    obtain ⟨t', rfl⟩ := ry
    cases x with
    | non => cases rx; exact SeqAt.EqAt.str_none a t'
    | bl b => cases rx; exact SeqAt.EqAt.str_bool a t' b
    | int b => obtain ⟨t, rfl⟩ := rx; exact SeqAt.EqAt.str_int a t' b t
    | str b => obtain ⟨t, rfl⟩ := rx; exact SeqAt.EqAt.str_str a t' b t
    | _ => exact absurd (show false = true from fx) Bool.false_ne_true
  | _ => exact absurd (show false = true from fy) Bool.false_ne_true
def eqU (x:V) (u:Value):Bool:=match u with
 | .none=>eqV .non x
 | .bool b=>eqV (.bl b) x
 | .int i _=>eqV (.int i) x
 | .str z _=>eqV (.str z) x
 | _=>false
theorem eqU_of {x y:V} {u:Value} (r:RelV y u) (f:flatV y = true):eqU x u = eqV y x:=by
 cases y with
 | non=>cases r; rfl
 | bl b=>cases r; rfl
 | int i=>obtain ⟨t,rfl⟩:=r; rfl
 | str z=>obtain ⟨t,rfl⟩:=r; rfl
 | _=>exact absurd (show false = true from f) Bool.false_ne_true
theorem any_eqU {x : V} : ∀ {xs : List V} {us : List Value}, Vals xs us -> xs.all flatV = true -> us.any (eqU x) = xs.any fun y => eqV y x
  | _, _, .nil, _ => rfl
  | y :: xs, u :: us, .cons r t, f => by
    rw [List.all_cons, Bool.and_eq_true] at f
    rw [List.any_cons, List.any_cons, eqU_of r f.1, any_eqU t f.2]
theorem mem_eqAt {A : Around} {s : Shared} {x : V} {v : Value} (rx : RelV x v) (fx : flatV x = true) : ∀ {xs : List V} {us : List Value}, Vals xs us -> xs.all flatV = true -> ∀ u ∈ us, SeqAt.EqAt A s u v (eqU x u)
  | _, _, .nil, _ => fun u hu => by cases hu
  | y :: xs, u :: us, .cons r t, f => fun u' hu => by
    rw [List.all_cons, Bool.and_eq_true] at f
    rcases List.mem_cons.mp hu with rfl | hu
    · rw [eqU_of r f.1]; exact eqAt_V r rx f.1 fx
    · exact mem_eqAt rx fx t f.2 u' hu
def inV (x:V) (xs:List V):Bool:=xs.any fun y=>eqV y x
def rIn (K:PySem.W.Frag) (neg:Bool):R2:=fun x y H Q=>∃ p xs,y = .ref p/\(SqL K H p xs\/SqT K H p xs)/\flatV x = true/\xs.all flatV = true/\Q (.bl (if neg then !inV x xs else inV x xs)) H
theorem op_in_seq:OpR X (compareOp .In) (rIn X.K false):=by
 intro pins s σ H x y v u Q I rx ry h
 obtain ⟨p,xs,rfl,hq,fx,fs,q⟩:=h
 cases ry
 rcases hq with hq | hq
 ·obtain ⟨its,r,pl,hz⟩:=I.list hq
  refine SeqAt.in_listAt (eqU x) pl.isList (fun w hw=>mem_eqAt rx fx r fs w (by simpa using hw)) ⟨.bl _,H,I,rfl,?_⟩
  rw [show its.toArray.any (eqU x) = its.any (eqU x) by simp,any_eqU r fs]
  exact q
 ·obtain ⟨its,r,pl,hz⟩:=I.tuple hq
  refine SeqAt.in_tupleAt (eqU x) pl (fun w hw=>mem_eqAt rx fx r fs w (by simpa using hw)) ⟨.bl _,H,I,rfl,?_⟩
  rw [show its.toArray.any (eqU x) = its.any (eqU x) by simp,any_eqU r fs]
  exact q
theorem op_notIn_seq:OpR X (compareOp .NotIn) (rIn X.K true):=by
 intro pins s σ H x y v u Q I rx ry h
 obtain ⟨p,xs,rfl,hq,fx,fs,q⟩:=h
 cases ry
 rcases hq with hq | hq
 ·obtain ⟨its,r,pl,hz⟩:=I.list hq
  refine SeqAt.notIn_listAt (eqU x) pl.isList (fun w hw=>mem_eqAt rx fx r fs w (by simpa using hw)) ⟨.bl _,H,I,rfl,?_⟩
  rw [show its.toArray.any (eqU x) = its.any (eqU x) by simp,any_eqU r fs]
  exact q
 ·obtain ⟨its,r,pl,hz⟩:=I.tuple hq
  refine SeqAt.notIn_tupleAt (eqU x) pl (fun w hw=>mem_eqAt rx fx r fs w (by simpa using hw)) ⟨.bl _,H,I,rfl,?_⟩
  rw [show its.toArray.any (eqU x) = its.any (eqU x) by simp,any_eqU r fs]
  exact q
theorem call_len_seq:CallR X (.builtin "len") (fun xs H Q=>∃ p ys,xs = [.ref p]/\(SqL X.K H p ys\/SqT X.K H p ys)/\Q (.int ys.length) H):=by
 intro pins s σ H xs us Q I r h
 obtain ⟨p,ys,rfl,hq,q⟩:=h
 obtain ⟨u,rfl,rx⟩:=vals1 r
 cases rx
 have hn:=line63
 rcases hq with hq | hq
 ·obtain ⟨its,r',pl,hz⟩:=I.list hq
  have hlen:=r'.length
  exact Calls.call_len_list pl.isList (by simp only [List.size_toArray] <;> omega) ⟨.int ys.length,H,I.tok _,⟨s.toks + 1,by rw [List.size_toArray,hlen]⟩,q⟩
 ·obtain ⟨its,r',pl,hz⟩:=I.tuple hq
  have hlen:=r'.length
  exact len_tuple pl (by simp only [List.size_toArray] <;> omega) ⟨.int ys.length,H,I.tok _,⟨s.toks + 1,by rw [List.size_toArray,hlen]⟩,q⟩
theorem call_len_str:CallR X (.builtin "len") (fun xs H Q=>∃ z,xs = [.str z]/\z.length <= sizeLine/\Q (.int z.length) H):=by
 intro pins s σ H xs us Q I r h
 obtain ⟨z,rfl,hz,q⟩:=h
 obtain ⟨u,rfl,t,rfl⟩:=vals1 r
 have hn:=line63
 exact len_str (by omega) ⟨.int z.length,H,I.tok _,⟨_,rfl⟩,q⟩
theorem CallR.or {f:Value} {r r':List V->Hp->VK->Prop} (h:CallR X f r) (h':CallR X f r'):CallR X f (fun xs H Q=>r xs H Q\/r' xs H Q):=by
 intro pins s σ H xs us Q I rs q
 rcases q with q | q
 ·exact h pins s σ H xs us Q I rs q
 ·exact h' pins s σ H xs us Q I rs q
theorem call_list_of:CallR X (.type "list") (fun xs H Q=>∃ p ys,xs = [.ref p]/\(SqL X.K H p ys\/SqT X.K H p ys)/\∀ l,H l = none->Q (.ref l) (upd H l (.lst ys))):=by
 intro pins s σ H xs us Q I r h
 obtain ⟨p,ys,rfl,hq,q⟩:=h
 obtain ⟨u,rfl,rx⟩:=vals1 r
 cases rx
 have fin:∀ (its:List Value),Vals ys its->ys.length <= sizeLine->∀ (h':Heap) (c':Nat),(∀ b o',s.heap.get? b = some o'->h'.get? b = some o') ->
   h'.get? s.heap.objs.size = some { cls:=.type "list",dict:=none,data:=.seq its.toArray c',slots:=#[] }->EP X pins σ Q (.ref s.heap.objs.size) { s with heap:=h' }:=fun its r' hz h' c' kp e =>
  ⟨.ref s.heap.objs.size,_,I.laid (t':=s.toks) kp (Nat.le_refl _) (show ObjOk X.prog X.w _ h' _ (.lst ys) from ⟨hz,its,c',r',e⟩),rfl,q _ (I.hok.fresh (Nat.le_refl _))⟩
 rcases hq with hq | hq
 ·obtain ⟨its,r',pl,hz⟩:=I.list hq
  have hlen:=r'.length
  obtain ⟨o,ho,hc,n,hd⟩:=pl.isList
  exact call_list_seq p (.inl rfl) ho hc hd (fun h' c' kp e=>fin its r' hz h' c' kp e) (by simp only [List.size_toArray] <;> omega)
 ·obtain ⟨its,r',pl,hz⟩:=I.tuple hq
  have hlen:=r'.length
  obtain ⟨o,ho,hc,n,hd⟩:=pl
  exact call_list_seq p (.inr rfl) ho hc hd (fun h' c' kp e=>fin its r' hz h' c' kp e) (by simp only [List.size_toArray] <;> omega)
def tyV (K : PySem.W.Frag) (T : String) (x : V) (H : Hp) : Prop := match x with
 | .str _ => T = "str"
 | .int _ => T = "int"
 | .ref p => (T = "list" /\ ∃ xs, SqL K H p xs) \/ (T = "tuple" /\ ∃ o, K.lookup p = some o /\ o.cls = .type "tuple" /\ o.dict = none) \/
   (T = "dict" /\ ((∃ kvs, H p = some (.dK kvs)) \/ ∃ kvs, H p = some (.dT kvs))) \/ (T = "set" /\ ∃ S n, H p = some (.set S n))
 | _ => False
theorem tyV_is {pins : List (Addr × Obj)} {σ : St} {H : Hp} {s : Shared} {T : String} {x : V} {v : Value} (I : Inv X pins σ H s) (r : RelV x v) (ty : tyV X.K T x H) :
    s.TypeIs v T /\ ∀ a, v = .ref a -> ∃ ob, s.heap.get? a = some ob /\ ob.dict = none := by
  cases x with
  | str z =>
    obtain ⟨t, rfl⟩ := r
    cases (show T = "str" from ty)
    exact ⟨typeIs_str s z t, fun _ e => nomatch e⟩
  | int i =>
    obtain ⟨t, rfl⟩ := r
    cases (show T = "int" from ty)
    exact ⟨typeIs_int s i t, fun _ e => nomatch e⟩
  | ref p =>
    cases r
    rcases ty with ⟨rfl, xs, hq⟩ | ⟨rfl, o, hk, hc, hd⟩ | ⟨rfl, hk⟩ | ⟨rfl, S, n, hk⟩
    · obtain ⟨its, _, pl, _⟩ := I.list hq
      refine ⟨pl.isList.typeIs, fun a e => ?_⟩
      cases e
      obtain ⟨o, n, e, c, hd, _⟩ := pl
      exact ⟨o, e, hd⟩
    · refine ⟨⟨o, I.kIn p o hk, hc⟩, fun a e => ?_⟩
      cases e
      exact ⟨o, I.kIn _ o hk, hd⟩
    · have z : ∃ o, s.heap.get? p = some o /\ o.ExactDict := by
        rcases hk with ⟨kvs, hk⟩ | ⟨kvs, hk⟩
        · obtain ⟨_, _, _, _, o, _, _, e, ex, _⟩ := I.hok p _ hk
          exact ⟨o, e, ex⟩
        · obtain ⟨_, _, _, _, o, _, _, e, ex, _⟩ := I.hok p _ hk
          exact ⟨o, e, ex⟩
      obtain ⟨o, e, ex⟩ := z
      refine ⟨⟨o, e, ex.1⟩, fun a e2 => ?_⟩
      cases e2
      exact ⟨o, e, ex.2.1⟩
    · obtain ⟨o, _, _, _, e, ex, _⟩ := I.hok p _ hk
      refine ⟨⟨o, e, ex.1⟩, fun a e2 => ?_⟩
      cases e2
      exact ⟨o, e, ex.2.1⟩
  | _ => exact False.elim ty
def tBM0 (K:PySem.W.Frag) (T:String) (r:V->List V->Hp->VK->Prop) (to:TE):TE:=fun σ H Q=>to σ H fun x H1=>tyV K T x H1/\r x [] H1 Q
def tBM (K:PySem.W.Frag) (T:String) (r:V->List V->Hp->VK->Prop) (to:TE) (t:TA):TE:=fun σ H Q=>to σ H fun x H1=>tyV K T x H1/\t σ H1 fun xs H2=>r x xs H2 Q
variable {o e:Expr} {es:List Expr} {to:TE} {t:TA} {name:Str} {apos cpos:Pos} {T id:String} {r:V->List V->Hp->VK->Prop}
theorem pe_bm0 (pa:PlainAttrs T) (slot:Slot T name id) (hty:typeOf (.builtin id) = pure (.type "method_descriptor")) (hm:MtR X id r) (ho:PE X o to)
  (hbase:attributeBase o name X.env (eval o X.env) = eval o X.env:=by rfl) (hline:(apos.endLine == cpos.line) = true:=by rfl):PE X (.Call (.Attribute o name apos) [] [] cpos) (tBM0 X.K T r to):=by
 intro pins s σ H Q I h
 refine wpAny_Call_method0_late hbase hline (thn (ho pins s σ H _ I h) fun v s1 ⟨x,H1,I1,r1,ty,q1⟩=>?_)
 obtain ⟨h1,h2⟩:=tyV_is I1 r1 ty
 exact ⟨T,id,pa,slot,hty,h1,h2,Calls.callWith_builtin rfl (PySem.evalArgs_none (hm pins s1 σ H1 x [] v [] Q I1 r1 .nil q1))⟩
theorem pe_bm (pa : PlainAttrs T) (slot : Slot T name id) (hty : typeOf (.builtin id) = pure (.type "method_descriptor")) (hm : MtR X id r) (ho : PE X o to) (ha : PA X (e :: es) t)
  (hbase : attributeBase o name X.env (eval o X.env) = eval o X.env := by rfl)
  (hfew : ((backTo cpos (starEach (e :: es) X.env)).all (fun x => !x.1) && (backToKw cpos (keywordEach [] X.env)).all (fun x => x.1.isSome)
   && decide ((e :: es).length + ([] : List Keyword).length + (if ([] : List Keyword).isEmpty then 0 else 1) < 30)) = true := by rfl)
  (hline : (apos.endLine == cpos.line) = true := by rfl) (hs : starEach (e :: es) X.env = (false, eval e X.env) :: starEach es X.env := by rfl) (hplain : (backTo cpos (starEach es X.env)).any (·.1) = false := by rfl) :
  PE X (.Call (.Attribute o name apos) (e :: es) [] cpos) (tBM X.K T r to t) := by
 intro pins s σ H Q I h
 refine wpAny_Call_method_late hbase hfew hline rfl (thn (ho pins s σ H _ I h) fun v s1 ⟨x, H1, I1, r1, ty, q1⟩ => ?_)
 obtain ⟨h1, h2⟩ := tyV_is I1 r1 ty
 refine ⟨T, id, pa, slot, hty, h1, h2, ?_⟩
 have hA := ha cpos pins s1 σ H1 _ I1 q1
 rw [hs] at hA ⊢
 refine Calls.callWith_builtin (by show (false || (backTo cpos (starEach es X.env)).any (·.1)) = false; rw [hplain] <;> rfl) (Calls.evalArgs_plain ?_)
 exact thn hA fun us s2 ⟨vs, H2, I2, r2, q2⟩ => hm pins s2 σ H2 x vs v us Q I2 r1 r2 q2
end
end L2
namespace L2
open PySem PySem.Spec PyProof.Rows
def MtM (X:Cx) (id:String) (r:V->List V->Hp->VK->Prop):Prop :=
 ∀ (pins:List (Addr × Obj)) (s:Shared) (σ:St) (H:Hp) (x:V) (xs:List V) (v:Value) (us:List Value) (Q:VK),Inv X pins σ H s->RelV x v->Vals xs us->r x xs H Q ->
  wpAny (model X.prog X.w) X.A (call (.builtin id) (v :: us)) (EP X pins σ Q) X.xe s
theorem Vals.one:∀ {x:V} {us:List Value},Vals [x] us->∃ u,us = [u]/\RelV x u
 | _,_,.cons r .nil=>⟨_,rfl,r⟩
theorem Vals.zero:∀ {us:List Value},Vals [] us->us = []
 | _,.nil=>rfl
theorem Vals.dropLast {xs : List V} {us : List Value} (h : Vals xs us) : Vals xs.dropLast us.dropLast := by
  induction h with
  | nil => exact .nil
  | cons r t ih =>
    cases t with
    | nil => exact .nil
    | cons q t' => exact .cons r ih
theorem Vals.reverse {xs:List V} {us:List Value} (h:Vals xs us):Vals xs.reverse us.reverse:=by
 induction h with
 | nil=>exact .nil
 | cons r t ih=>rw [List.reverse_cons,List.reverse_cons]; exact Vals.append ih (.cons r .nil)
theorem Vals.rep {xs : List V} {us : List Value} (h : Vals xs us) : ∀ k : Nat, Vals (List.replicate k xs).flatten (List.replicate k us).flatten
  | 0 => .nil
  | k + 1 => by
    rw [List.replicate_succ, List.replicate_succ, List.flatten_cons, List.flatten_cons]
    exact Vals.append h (Vals.rep h k)
theorem erase_last {α : Type} (l : List α) : l.eraseIdx (l.length - 1) = l.dropLast := by
  induction l with
  | nil => rfl
  | cons a r ih =>
    cases r with
    | nil => rfl
    | cons b r =>
      have e : (a :: b :: r).length - 1 = ((b :: r).length - 1) + 1 := by
        have h1 : (a :: b :: r).length = r.length + 2 := rfl
        have h2 : (b :: r).length = r.length + 1 := rfl
        omega
      rw [e, List.eraseIdx_cons_succ, ih]
      all_goals rfl
theorem foldl_rep (its : List Value) : ∀ (k : Nat) (acc : List Value),
    List.foldl (fun x1 x2 => x1 ++ x2) acc.toArray (List.replicate k its.toArray) = (acc ++ (List.replicate k its).flatten).toArray
  | 0, acc => by simp
  | k + 1, acc => by
    have e : acc.toArray ++ its.toArray = (acc ++ its).toArray := by simp
    have e2 : (acc ++ its) ++ (List.replicate k its).flatten = acc ++ (List.replicate (k + 1) its).flatten := by
      rw [List.replicate_succ, List.flatten_cons, List.append_assoc]
    rw [<- e2, <- foldl_rep its k (acc ++ its), <- e, List.replicate_succ, List.foldl_cons]
section
variable {X:Cx} {pins:List (Addr × Obj)} {σ:St} {H:Hp} {s:Shared} {l b:Addr} {xs ys zs:List V}
theorem Inv.lset {its its':List Value} {n:Nat} {f:Array Value->Array Value} {t':Nat} (I:Inv X pins σ H s) (hH:H l = some (.lst xs))
  (e:s.heap.get? l = some { cls:=.type "list",data:=.seq its.toArray n }) (hf:f its.toArray = its'.toArray) (hv:Vals ys its') (hz:ys.length <= sizeLine) :
  Inv X pins σ (upd H l (.lst ys)) { s with heap:=s.heap.update l (Obj.mapSeq f),toks:=t' }:=by
 have q:=PySem.IsL.update e f
 rw [hf] at q
 refine I.write (x:=l) (e:=l) (by rw [hH]; exact trivial) (.inl rfl) (fun b' u hb hu=>(Heap.get?_update_other s.heap (Obj.mapSeq f) (Ne.symm hb)).trans hu) ⟨_,q⟩ ?_
 exact ⟨hz,its',_,hv,q⟩
theorem Inv.lnew {its:List Value} {t':Nat} (I:Inv X pins σ H s) (hv:Vals ys its) (hz:ys.length <= sizeLine) :
  Inv X pins σ (upd H s.heap.objs.size (.lst ys)) { s with heap:=s.heap.push { cls:=.type "list",data:=.seq its.toArray },toks:=t' } :=
 I.laid (fun _ _ q=>Heap.get?_push_of_some _ q) (Nat.le_refl _) ⟨hz,its,0,hv,Heap.get?_push_size _ rfl⟩
theorem Inv.fresh (I:Inv X pins σ H s):H s.heap.objs.size = none:=I.hok.fresh (Nat.le_refl _)
theorem Inv.lstM (I:Inv X pins σ H s) (hH:H l = some (.lst xs)):xs.length <= sizeLine/\∃ (its:List Value) (n:Nat),Vals xs its/\xs.length = its.length/\s.heap.get? l = some { cls:=.type "list",data:=.seq its.toArray n }:=by
 obtain ⟨z,its,n,r,e⟩:=I.hok l _ hH
 exact ⟨z,its,n,r,r.length,e⟩
theorem notLongL {n:Nat} (h:n <= sizeLine):Builtin.List.listTooLong n = false:=by
 unfold Builtin.List.listTooLong
 exact decide_eq_false (by omega)
end
section
variable {X:Cx}
def rAppend:V->List V->Hp->VK->Prop:=fun x vs H Q=>∃ l xs y,x = .ref l/\vs = [y]/\H l = some (.lst xs)/\xs.length < sizeLine/\Q .non (upd H l (.lst (xs ++ [y])))
theorem mt_append:MtM X "list.append" rAppend:=by
 intro pins s σ H x vs v us Q I rx rv h
 obtain ⟨l,xs,y,rfl,rfl,hH,hz,q⟩:=h
 cases rx
 obtain ⟨u,rfl,ru⟩:=rv.one
 obtain ⟨z,its,n,r,hl,e⟩:=I.lstM hH
 refine call_meets F.slot_list_append ⟨_,e,rfl⟩ F.entry_list_append (F.args_list_append_2 _ _) (PySem.list_append l its.toArray n u (by rw [List.size_toArray]; omega)) ⟨e,?_⟩
 refine ⟨.non,_,I.lset (its':=its ++ [u]) hH e (by simp) (r.append (.cons ru .nil)) ?_,rfl,q⟩
 rw [List.length_append,List.length_singleton]
 omega
def rPop:V->List V->Hp->VK->Prop:=fun x vs H Q=>∃ l xs y,x = .ref l/\vs = []/\H l = some (.lst xs)/\xs[xs.length - 1]? = some y/\Q y (upd H l (.lst xs.dropLast))
theorem mt_pop:MtM X "list.pop" rPop:=by
 intro pins s σ H x vs v us Q I rx rv h
 obtain ⟨l,xs,y,rfl,rfl,hH,hy,q⟩:=h
 cases rx
 have hus:=rv.zero
 subst hus
 obtain ⟨z,its,n,r,hl,e⟩:=I.lstM hH
 obtain ⟨u,hu,ru⟩:=r.get hy
 have hy':its.toArray[its.toArray.size - 1]? = some u:=by
  show its.toArray[its.length - 1]? = some u
  rw [<- Array.getElem?_toList,<- hl]
  exact hu
 refine call_meets F.slot_list_pop ⟨_,e,rfl⟩ F.entry_list_pop (F.args_list_pop_1 _) (MeetsSeq.list_pop_last l its.toArray n u hy' (by rw [List.size_toArray]; omega)) ⟨e,?_⟩
 refine ⟨y,_,I.lset (its':=its.dropLast) hH e ?_ r.dropLast ?_,ru,q⟩
 ·show its.toArray.eraseIdxIfInBounds (its.toArray.size - 1) = its.dropLast.toArray
  rw [List.size_toArray,List.eraseIdxIfInBounds_toArray,erase_last]
 ·rw [List.length_dropLast]
  omega
def rCat:R2:=fun x y H Q=>∃ l b xs zs,x = .ref l/\y = .ref b/\H l = some (.lst xs)/\H b = some (.lst zs)/\xs.length + zs.length <= sizeLine/\∀ p,H p = none->Q (.ref p) (upd H p (.lst (xs ++ zs)))
theorem op_cat:OpR X (binaryOp .Add) rCat:=by
 intro pins s σ H x y v u Q I rx ry h
 obtain ⟨l,b,xs,zs,rfl,rfl,hH,hB,hz,q⟩:=h
 cases rx
 cases ry
 obtain ⟨z,its,n,r,hl,e⟩:=I.lstM hH
 obtain ⟨z2,its2,n2,r2,hl2,e2⟩:=I.lstM hB
 refine PySem.P.add_list e e2 ?_ (by rw [List.size_toArray,List.size_toArray]; omega)
 have ea:its.toArray ++ its2.toArray = (its ++ its2).toArray:=by simp
 rw [ea]
 exact ⟨.ref _,_,I.lnew (t':=s.toks) (r.append r2) (by rw [List.length_append]; omega),rfl,q _ I.fresh⟩
def rRep:R2:=fun x y H Q=>∃ l k xs,x = .ref l/\y = .int k/\H l = some (.lst xs)/\-(2 ^ 63) <= k/\k < 2 ^ 63/\xs.length * k.toNat <= sizeLine /\
 ∀ p,H p = none->Q (.ref p) (upd H p (.lst (List.replicate k.toNat xs).flatten))
theorem len_rep {α:Type} (xs:List α) (k:Nat):(List.replicate k xs).flatten.length = k * xs.length:=by
 induction k with
 | zero=>simp
 | succ k ih=>rw [List.replicate_succ,List.flatten_cons,List.length_append,ih,Nat.succ_mul,Nat.add_comm]
theorem op_rep : OpR X (binaryOp .Mult) rRep := by
 intro pins s σ H x y v u Q I rx ry h
 obtain ⟨l, k, xs, rfl, rfl, hH, h1, h2, hz, q⟩ := h
 cases rx
 obtain ⟨t, rfl⟩ := ry
 obtain ⟨z, its, n, r, hl, e⟩ := I.lstM hH
 have hlen : its.toArray.size * k.toNat <= sizeLine := by rw [List.size_toArray, <- hl]; exact hz
 have hcap : ¬ its.toArray.size * k.toNat > (2 ^ 63 - 1) / 8 := by
  have : (sizeLine : Nat) <= (2 ^ 63 - 1) / 8 := by decide
  omega
 have hfit : ¬ (!Builtin.List.listFitsIndex k) = true := by
  rw [fitsIndex_both h1 h2]
  exact Bool.false_ne_true
 have hlong : ¬ Builtin.List.listTooLong (its.toArray.size * k.toNat) = true := by
  rw [notLongL hlen]
  exact Bool.false_ne_true
 have hnew : List.foldl (fun x1 x2 => x1 ++ x2) #[] (List.replicate (if its.toArray.isEmpty = true then 0 else k.toNat) its.toArray) = (List.replicate k.toNat its).flatten.toArray := by
  have f0 : ∀ m : Nat, List.foldl (fun x1 x2 => x1 ++ x2) #[] (List.replicate m its.toArray) = (List.replicate m its).flatten.toArray := fun m => by
   have := foldl_rep its m []
   rw [List.nil_append] at this
   exact this
  rw [f0]
  cases its with
  | nil => simp
  | cons a r' => rw [if_neg (by simp)]
 refine wpAny_binaryOp_repeat_ref (T := "list") (U := "int") (by decide) ⟨_, e, rfl⟩ (fun s' => typeIs_int s' k t) noFill_list_mul F.fills_int_mul F.slot_int_rmul repeat_list F.slot_int_index.lookup
  (call_meets F.slot_int_rmul (typeIs_int s k t) F.entry_int_rmul (F.args_int_rmul_2 _ _) (int___rmul___int_list k t l its.toArray n)
   ⟨e, rfl, ⟨_, e, rfl⟩, call_meets F.slot_list_mul ⟨_, e, rfl⟩ F.entry_list_mul (F.args_list_mul_2 _ _) (AutoListH.list___mul___list_int_3 l its.toArray n k t hfit hcap hlong) ⟨e, ?_⟩⟩)
 rw [hnew]
 exact ⟨.ref _, _, I.lnew (t' := s.toks) (r.rep k.toNat) (by rw [len_rep, Nat.mul_comm]; exact hz), rfl, q _ I.fresh⟩
end
section
variable {prog:Program} {w:World} {A:Around} {E:Value->Shared->Prop} {s:Shared}
end
section
variable {X:Cx}
end
end L2
namespace Att
open PySem PySem.W PySem.Calls PyProof.Rows
theorem ints_of_wellAll {P : Params} {h : Heap} : ∀ (ns : List Int) (vs : List Value), WellAll P h vs (ns.map WData.int) -> IntsAre vs ns := by
  intro ns
  induction ns with
  | nil =>
    intro vs w
    rw [List.map_nil] at w
    cases w
    exact .nil
  | cons n ns ih =>
    intro vs w
    rw [List.map_cons] at w
    cases w with
    | cons a b =>
      cases a
      exact .cons _ _ (ih _ b)
theorem script_of {l : OpenLaw} {n : Nat} (hn : l.most = some n) {P : Params} {h : Heap} {args : List WData} {vals : List Value}
    (hpre : l.row.toRowW.claim.pre args = true) (hwl : WellAll P h vals args) :
    ∃ a vs ns, vals = [Value.ref a] /\ args = [WData.list (ns.map WData.int)] /\ h.get? a = some { cls := .type "list", data := .seq vs.toArray } /\ IntsAre vs ns /\ ns.length <= n := by
  have hsh : WShape.hasAll [] args [.list .int] = true := (pre_splitW hpre).1
  have hc : l.pre.holds [] { args := args } = true := (pre_splitW hpre).2
  obtain ⟨d, r, rfl, h1, h2⟩ := hasAllW_cons hsh
  obtain rfl := hasAllW_nil h2
  obtain ⟨xs, rfl, h3⟩ := hasW_list h1
  obtain ⟨ns, rfl⟩ := items_int h3
  have hlen : ns.length <= n := by
    unfold OpenLaw.pre at hc
    have h4 : (WTm.not (.lt (.lit (.int (n : Int))) (.len (.arg 0)))).holds [] { args := [.list (ns.map .int)] } = true := by
      have h4 := (holds_andW hc).1
      rw [hn] at h4
      exact h4
    have h5 := condW_of h4 (w_not (w_lt w_lit (w_len_list (w_arg rfl))))
    rw [List.length_map] at h5
    refine Nat.le_of_not_lt fun q => ?_
    have q' : (n : Int) < ((ns.length : Nat) : Int) := by omega
    first
      | (rw [decide_eq_true q'] at h5; exact absurd h5 (by decide))
      | (simp at h5; omega)
  cases hwl with
  | cons w1 w2 =>
    cases w2
    cases w1 with
    | list ho hall => exact ⟨_, _, ns, rfl, rfl, ho, ints_of_wellAll ns _ hall, hlen⟩
theorem post_true (l:OpenLaw) (args:List WData):l.row.toRowW.claim.post args (.bool true) args = true :=
 postW_of (r:=l.row.toRowW) (X:=(true == true))
  (show WShape.has [] (.bool true) .bool = true by first | rfl | decide | simp [WShape.has,WShape.arms,WShape.armsAll])
  (show (WTm.eq .res (.lit (.bool true))).value [] { args:=args,res:=some (.bool true),after:=args } = some (.bool (true == true)) from w_eq_bool (w_res rfl) w_lit) rfl
theorem attach_call {l : OpenLaw} {n : Nat} {q : Program} {loose : List Str} {XP : (Str -> Option Value) -> Heap -> Prop} {YP : World -> Heap -> Prop} {d : DefRec}
  (hn : l.most = some n) (hdf : d.params.defaults = [])
  (call : ∀ (w : World) (s₀ s₁ : Shared) (mg mb : Str -> Option Value) (fa : Addr) (o : Obj) (pm cd doc : Value) (a : Addr) (vs : List Value) (ns : List Int),
   Ground q loose [] XP w s₀ mg mb s₁.heap -> YP w s₁.heap ->
   s₁.heap.get? fa = some o -> o.data = .func (docDef d.name d.params d.body d.scope pm cd doc) -> s₁.heap.CodeRec cd d.name -> mg d.name = some (.ref fa) ->
   s₁.heap.get? a = some { cls := .type "list", data := .seq vs.toArray } -> IntsAre vs ns -> ns.length <= n -> s₁.gens = #[] ->
   codeAny (model l.prog w) callerA (.call (.ref fa) ⟨[.ref a], []⟩) (fun r s' => r = .ok (.ret (.bool true)) /\ OldK s₁.heap s'.heap /\ s'.os = s₁.os /\ AllBare s'.gens) s₁) :
  WalkO q loose XP YP l.row.toRowW d [] (fun f vs => PySem.call f vs) := by
 intro w s₀ s₁ mg mb G Y fa o pm cd doc dV kV ho hd hcd hD hmg hg args vals as hpre hlay hrd hwl hlo
 obtain rfl : dV = .none := Dflts.none hD hdf
 obtain rfl : kV = .none := Dflts.noKw hD
 obtain ⟨a, vs, ns, rfl, rfl, hobj, hints, hlen⟩ := script_of hn hpre hwl
 refine enter_call (codeAny_mono (call w s₀ s₁ mg mb fa o pm cd doc a vs ns G Y ho (fd_plain hd) hcd hmg hobj hints hlen hg) fun r s' hq => ?_)
 obtain ⟨rfl, h2, h3, h4⟩ := hq
 exact ⟨.inl ⟨.bool true, .bool true, [], rfl, fun _ => rfl, .bool true, post_true l _, fun _ => ⟨List.Pairwise.nil, fun _ hm => (nomatch hm)⟩⟩, h2, h3, h4⟩
section
variable {prog:Program} {w:World} {A:Around} {E:Value->Shared->Prop} {s:Shared} {K:Frag}
end
end Att
namespace L2
open PySem PySem.Spec PyProof.Rows
theorem vals_ints:∀ {vs:List Value} {ns:List Int},IntsAre vs ns->Vals (ns.map V.int) vs
 | _,_,.nil=>.nil
 | _,_,.cons n t h=>.cons ⟨t,rfl⟩ (vals_ints h)
def Only (H:Hp):Prop:=∀ b,H b = none\/∃ o xs,H b = some (.frz o (.lst xs))
theorem law_call {P : Program} {w : World} {K : PySem.W.Frag} {mg mb : Str -> Option Value} {CX : CXT} {k : Nat} {fa a : Addr} {fd : FuncData} {x : Str} {sp : Sp} {s₁ : Shared} {vs : List Value} {ns : List Int}
    (KX : K.In s₁.heap) (hns : s₁.heap.Ns mainGlobals mg) (hb : s₁.heap.Ns builtinsNs mb) (hbb : ∀ x : Str, x ≠ "__name__" -> mb x = bootBuiltins x) (hlim : s₁.heap.NoLimit) (hg : s₁.gens = #[])
    (ha : s₁.heap.get? a = some { cls := .type "list", data := .seq vs.toArray }) (hi : IntsAre vs ns) (hl : ns.length <= sizeLine) (hr : Room k callerA)
    (F : ∀ base : Heap, K.In base -> base.Ns mainGlobals mg -> FnOk P w K mg base CX k fa fd [x] sp) (hbind : ∀ (s : Shared) (u : Value), BindsTo s fd ⟨[u], []⟩ [(x, u)])
    (hsp : ∀ H : Hp, Only H -> SqL K H a (ns.map V.int) -> sp [.ref a] H (fun v _ => v = .bl true) fun _ _ _ => False)
    (hCX : ∀ H e s', CX [] H s₁ (fun _ _ _ => False) e s' -> False) :
    codeAny (model P w) callerA (.call (.ref fa) ⟨[.ref a], []⟩) (fun r s' => r = .ok (.ret (.bool true)) /\ OldK s₁.heap s'.heap /\ s'.os = s₁.os /\ AllBare s'.gens) s₁ := by
  have rv := vals_ints hi
  have lenV := hi.length
  have core : ∀ H : Hp, Only H -> SqL K H a (ns.map V.int) -> HOk P w H s₁.heap -> (∀ b, H b ≠ none -> b = a) -> (H a ≠ none -> K.lookup a = none) ->
      codeAny (model P w) callerA (.call (.ref fa) ⟨[.ref a], []⟩) (fun r s' => r = .ok (.ret (.bool true)) /\ OldK s₁.heap s'.heap /\ s'.os = s₁.os /\ AllBare s'.gens) s₁ := by
    intro H hO hS hok hA hK
    have base_of : ∀ {b : Addr} {o : Obj}, s₁.heap.get? b = some o -> H b = none -> (hidT s₁.heap H).get? b = some o := fun e n => hidT_get e n
    have noA : ∀ {b : Addr} {o : Obj} {es : Array DictEntry} {ep : Nat}, s₁.heap.get? b = some o -> o.data = .dict es ep -> H b = none := fun {b o es ep} e d => by
      cases q : H b with
      | none => rfl
      | some u =>
        have e' : b = a := hA b (by rw [q]; simp)
        subst e'
        rw [ha] at e; cases e
        have d' : Data.seq vs.toArray _ = Data.dict es ep := d
        cases d'
    have nsK : ∀ {b : Addr} {m : Str -> Option Value}, s₁.heap.Ns b m -> (hidT s₁.heap H).Ns b m := fun {b m} ⟨o, es, ep, e, d, r⟩ => ⟨o, es, ep, base_of e (noA e d), d, r⟩
    have hKb : K.In (hidT s₁.heap H) := fun b o e => base_of (KX b o e) (by
      cases q : H b with
      | none => rfl
      | some u =>
        have e' : b = a := hA b (by rw [q]; simp)
        subst e'
        rw [hK (by rw [q]; simp)] at e; cases e)
    have hM : Mod K mg (hidT s₁.heap H) := ⟨hKb, nsK hns, ⟨mb, nsK hb, hbb⟩, let ⟨mc, h1, h2⟩ := hlim; ⟨mc, nsK h1, h2⟩⟩
    have e0 : Env0 P w K mg (hidT s₁.heap H) callerA [] s₁ H := ⟨rfl, hM, fun b o e => of_hidT e, Nat.le_of_eq (hidT_size _ _), trivial, fun b hb => absurd (show b ∈ ([] : List Addr) from hb) (by simp), hok, .of_eq hg⟩
    refine codeAny_mono ((F _ hKb (nsK hns)).run callerA [] s₁ H ⟨[.ref a], []⟩ [.ref a] [.ref a] _ _ hr e0 (hbind s₁ (.ref a)) (.cons rfl .nil) (hsp H hO hS)) fun r s' h => ?_
    cases r with
    | error e => exact (hCX H e s' h).elim
    | ok fl =>
      cases fl with
      | next => exact False.elim h
      | brk => exact False.elim h
      | cont => exact False.elim h
      | ret u =>
        obtain ⟨v, H', os, bare, un, hok', r', q⟩ := h
        have q' : v = .bl true := q
        subst q'
        obtain rfl : u = Value.bool true := r'
        refine ⟨rfl, OldK.of_keep fun b o e => ?_, os, bare⟩
        cases q : H b with
        | none => exact un.keep b o e q (by intro z; exact absurd (show b ∈ ([] : List Addr) from z) (by simp)) (by simp)
        | some u =>
          rcases hO b with z | ⟨ob, xs, z⟩
          · rw [q] at z; cases z
          · have z2 := un.frzs b ob _ z
            obtain ⟨e1, _⟩ := hok b _ z
            obtain ⟨e2, _⟩ := hok' b _ z2
            rw [e] at e1; cases e1
            exact e2
  cases hk : K.lookup a with
  | some o =>
    have e := KX a o hk
    rw [ha] at e
    cases e
    refine core (fun _ => none) (fun _ => .inl rfl) (.inr ⟨_, vs.toArray, _, hk, rfl, rfl, rfl, by rw [List.size_toArray, lenV]; exact hl, by simpa using rv⟩) ⟨(fun b u z => by have z' : (none : Option HO) = some u := z; cases z'), (fun u z => nomatch (show (none : Option HO) = some u from z)), let ⟨o, _, _, e, _⟩ := hns; ⟨mainGlobals, o, by decide, e⟩⟩ (fun b z => absurd rfl z) fun z => absurd rfl z
  | none =>
    refine core (fun b => if b = a then some (.frz { cls := .type "list", data := .seq vs.toArray } (.lst (ns.map V.int))) else none) (fun b => ?_) (.inl (.inr ⟨{ cls := .type "list", data := .seq vs.toArray }, if_pos rfl⟩)) ⟨fun b u z => ?_, (fun u z => by
      by_cases hb : sysModules = a
      · have z' := (if_pos hb).symm.trans z
        cases z'; exact ⟨_, _, rfl⟩
      · have z' := (if_neg hb).symm.trans z
        cases z'), let ⟨o, _, _, e, _⟩ := hns; ⟨mainGlobals, o, by decide, e⟩⟩ (fun b z => ?_) fun _ => hk
    · by_cases hb : b = a
      · exact .inr ⟨_, _, if_pos hb⟩
      · exact .inl (if_neg hb)
    · by_cases hb : b = a
      · have z' := (if_pos hb).symm.trans z
        cases z'
        subst hb
        exact ⟨ha, by rw [List.length_map]; exact hl, vs, _, rv, ha⟩
      · have z' := (if_neg hb).symm.trans z
        cases z'
    · by_cases hb : b = a
      · exact hb
      · exact absurd (if_neg hb) z
end L2
namespace L2
open PySem PySem.Spec PyProof.Rows
theorem walk_of {l : PySem.W.OpenLaw} {n k : Nat} {q : Program} {loose : List Str} {XP : (Str -> Option Value) -> Heap -> Prop} {YP : World -> Heap -> Prop} {d : DefRec} {K : Params -> PySem.W.Frag} {CX : World -> CXT} {sp : World -> Sp} {x : Str}
  (hn : l.most = some n) (hn2 : n <= sizeLine) (hdf : d.params.defaults = []) (hr : Room k callerA)
  (hY : ∀ (w : World) (h : Heap), YP w h -> (K w.params).In h)
  (F : ∀ (w : World) (mg : Str -> Option Value) (fa : Addr) (h : Heap), (K w.params).In h -> h.Ns mainGlobals mg -> mg d.name = some (.ref fa) ->
   ∃ fd : FuncData, (∀ (s : Shared) (u : Value), BindsTo s fd ⟨[u], []⟩ [(x, u)]) /\
    ∀ base : Heap, (K w.params).In base -> base.Ns mainGlobals mg -> FnOk l.prog w (K w.params) mg base (CX w) k fa fd [x] (sp w))
  (hsp : ∀ (w : World) (H : Hp) (a : Addr) (ns : List Int), ns.length <= n -> Only H -> SqL (K w.params) H a (ns.map V.int) -> sp w [.ref a] H (fun v _ => v = .bl true) fun _ _ _ => False)
  (hCX : ∀ (w : World) (H : Hp) (s : Shared) (e : Value) (s' : Shared), CX w [] H s (fun _ _ _ => False) e s' -> False) :
  PySem.W.WalkO q loose XP YP l.row.toRowW d [] (fun f vs => PySem.call f vs) := by
 refine Att.attach_call hn hdf fun w s₀ s₁ mg mb fa o pm cd doc a vs ns G Y ho hd hcd hmg hobj hints hlen hg => ?_
 have KX := hY w _ Y
 obtain ⟨fd, hb, hF⟩ := F w mg fa _ KX G.T.g hmg
 exact law_call KX G.T.g G.T.b G.T.builtins G.T.nolimit hg hobj hints (Nat.le_trans hlen hn2) hr hF hb (fun H hO hS => hsp w H a ns hlen hO hS) fun H e s' => hCX w H s₁ e s'
end L2
namespace L2
open PySem PySem.Spec PyProof.Rows
def inClass (s:Stmt) (j:Nat):Stmt:=match s with
 | .ClassDef _ _ _ body _ _ _ _ _ _ _=>body.getD j (.Pass ⟨0,0,0,0⟩)
 | _=>.Pass ⟨0,0,0,0⟩
def defArgs (s:Stmt):Arguments:=match s with
 | .FunctionDef _ a _ _ _ _ _ _ _ _=>a
 | _=>{ posonlyargs:=[],args:=[],vararg:=none,kwonlyargs:=[],kw_defaults:=[],kwarg:=none,defaults:=[] }
def defBody (s:Stmt):List Stmt:=match s with
 | .FunctionDef _ _ b _ _ _ _ _ _ _=>b
 | _=>[]
def defScope (s:Stmt):Scope:=match s with
 | .FunctionDef _ _ _ _ _ _ sc _ _ _=>sc
 | _=>{ kind:=.function,names:=[],isGenerator:=false,isCoroutine:=false }
abbrev CX0:CXT:=fun _ _ _ _ _ _=>False
abbrev E0:XK:=fun _ _ _=>False
theorem pass0 {X:Cx}:Passes CX0 X E0:=fun _ _ _ _ _ _ _ h=>h.elim
structure Fun (K:PySem.W.Frag) (x qual:Str) (st:Stmt) (f:Addr) (fd:FuncData):Prop where
 ex:∃ (oc:Value) (od:Option Addr) (kV doc pm:Value) (an:Option Addr) (cdv ct:Value) (osl:Array (Option Value)),
  fd = PySem.W.fnOf x qual (defArgs st) (defBody st) (defScope st) .none kV doc pm an cdv ct/\K.lookup f = some ⟨oc,od,.func fd,osl⟩/\PySem.W.codeIn K cdv qual = true
 kp:PySem.W.keepIn K (.ref f) = true
section
variable {P:Program} {w:World} {K:PySem.W.Frag} {mg:Str->Option Value} {base:Heap}
theorem Fun.ok {x qual : Str} {st : Stmt} {f : Addr} {fd : FuncData} {N ps : List Str} {k : Nat} {sp : Sp} (F : Fun K x qual st f fd) (S : FnScope N ps (defScope st)) (len : ∀ vs H Q E, sp vs H Q E -> vs.length = ps.length)
  (hbody : ∀ (cdv : Value) (A : Around) (outer : List Env) (s : Shared) (H : Hp) (vs : List V) (Q : VK) (E : XK), Room k (A.deeper (envOfC qual (defScope st) s.heap.objs.size f cdv)) -> sp vs H Q E ->
   ∃ t, PSs (cxOf CX0 P w K mg base N qual (defScope st) f cdv A outer s H E).nox (defBody st) t /\ t { nx := fun _ H' => Q .non H', rt := Q } (start N vs) H) : FnOk P w K mg base CX0 (k + 1) f fd ps sp := by
 obtain ⟨oc, od, kV, doc, pm, an, cdv, ct, osl, rfl, lk, hcd⟩ := F.ex
 refine fn_of lk hcd S len fun A outer s H vs Q E hr hsp => ?_
 obtain ⟨t, h, q⟩ := hbody cdv A outer s H vs Q E hr hsp
 exact ⟨t, h.nox, q⟩
theorem Fun.binds {x qual:Str} {st:Stmt} {f:Addr} {fd:FuncData} {ps:List Str} (F:Fun K x qual st f fd)
  (h:∀ (kV doc pm:Value) (an:Option Addr) (cdv ct:Value) (us:List Value),us.length = ps.length->bindArgs (PySem.W.fnOf x qual (defArgs st) (defBody st) (defScope st) .none kV doc pm an cdv ct) ⟨us,[]⟩ = pure (ps.zip us)):Binds K fd ps []:=by
 obtain ⟨oc,od,kV,doc,pm,an,cdv,ct,osl,rfl,lk,hcd⟩:=F.ex
 exact .all (h kV doc pm an cdv ct)
theorem fun_mk {x qual:Str} {st:Stmt} {f:Addr} {oc:Value} {od an:Option Addr} {osl:Array (Option Value)} {kV doc pm cdv ct:Value} (l:K.lookup f = some ⟨oc,od,.func (PySem.W.fnOf x qual (defArgs st) (defBody st) (defScope st) .none kV doc pm an cdv ct),osl⟩)
  (c:PySem.W.codeIn K cdv qual = true) (k:PySem.W.keepIn K (.ref f) = true):Fun K x qual st f (PySem.W.fnOf x qual (defArgs st) (defBody st) (defScope st) .none kV doc pm an cdv ct):=⟨⟨oc,od,kV,doc,pm,an,cdv,ct,osl,rfl,l,c⟩,k⟩
end
theorem small1000 {n:Nat} (h:n <= 1000):n < sizeLine:=Nat.lt_of_le_of_lt h (by decide)
section
variable {X:Cx}
theorem pv (i:Nat) {x:Str} {pos:Pos} (hN:X.N[i]? = some x:=by rfl) (hv:Vis X.env.scope x:=by first | exact Or.inl rfl | exact Or.inr (Or.inl rfl) | exact Or.inr (Or.inr rfl)) (hd:(x == ("__debug__" : Str)) = false:=by decide)
  (hcd:(x == ("__classdict__" : Str)) = false:=by decide):PE X (.Name x pos) (tVar i):=pe_var hN hv hd hcd
end
theorem iteF {A B:Prop} (h:B):if false = true then A else B:=by
 rw [if_neg Bool.false_ne_true]
 exact h
theorem iteT {A B:Prop} (h:A):if true = true then A else B:=by
 rw [if_pos rfl]
 exact h
def Same (H H':Hp):Prop:=∀ b o,H b = some o->H' b = some o
theorem Same.refl (H:Hp):Same H H:=fun _ _ h=>h
theorem Same.trans {H H1 H2:Hp} (a:Same H H1) (b:Same H1 H2):Same H H2:=fun c o h=>b c o (a c o h)
theorem Same.free {H H' : Hp} (e : Same H H') {l : Addr} (h : H' l = Option.none) : H l = Option.none := by
  cases q : H l with
  | none => rfl
  | some o =>
    rw [e l o q] at h
    cases h
theorem Same.seq {K:PySem.W.Frag} {H H':Hp} {a:Addr} {xs:List V} (e:Same H H') (h:SqL K H a xs):SqL K H' a xs:=by
 rcases h with (h | ⟨o,h⟩) | h
 ·exact .inl (.inl (e _ _ h))
 ·exact .inl (.inr ⟨o,e _ _ h⟩)
 ·exact .inr h
end L2
set_option maxHeartbeats 8000000
namespace L2
open PySem PySem.Spec PyProof.Rows
theorem clos_go {env : Env} : ∀ (ns : List (Str × NameKind)) (acc : List (Str × Addr)), (∀ y ∈ ns, y.2 = .free -> ∃ c, env.cells.lookup y.1 = some c) -> (∀ x c, acc.lookup x = some c -> env.cells.lookup x = some c) ->
    ∃ cl, (forIn ns acc fun (y : Str × NameKind) cs => (if (y.2 == .free) = true then (do let c <- cellOf env y.1; pure (ForInStep.yield ((y.1, c) :: cs))) else pure (ForInStep.yield cs) : Sem (ForInStep (List (Str × Addr))))) = pure cl /\
      (∀ x c, cl.lookup x = some c -> env.cells.lookup x = some c) /\ (∀ y ∈ ns, y.2 = .free -> ∃ c, cl.lookup y.1 = some c) /\ ∀ x c, acc.lookup x = some c -> ∃ c', cl.lookup x = some c'
  | [], acc, _, ha => ⟨acc, rfl, ha, (fun _ h => nomatch h), fun x c e => ⟨c, e⟩⟩
  | (n, k) :: r, acc, hf, ha => by
    rw [List.forIn_cons]
    by_cases hk : k = .free
    · subst hk
      obtain ⟨c, hc⟩ := hf (n, .free) List.mem_cons_self rfl
      have hcell : cellOf env n = pure c := by unfold cellOf; rw [hc]
      have ha' : ∀ x c', List.lookup x ((n, c) :: acc) = some c' -> env.cells.lookup x = some c' := fun x c' e => by
        rw [List.lookup_cons] at e
        cases hx : x == n with
        | true => rw [hx] at e; simp at e; subst e; rw [eq_of_beq hx]; exact hc
        | false => rw [hx] at e; exact ha x c' e
      obtain ⟨cl, e1, e2, e3, e4⟩ := clos_go r ((n, c) :: acc) (fun y hy => hf y (List.mem_cons_of_mem _ hy)) ha'
      refine ⟨cl, ?_, e2, fun y hy hyf => ?_, fun x c' e => ?_⟩
      · simp only [beq_self_eq_true, if_true, hcell, pure_bind]
        exact e1
      · rcases List.mem_cons.mp hy with rfl | hy
        · exact e4 n c (by simp [List.lookup_cons])
        · exact e3 y hy hyf
      · cases hx : x == n with
        | true => rw [eq_of_beq hx]; exact e4 n c (by simp [List.lookup_cons])
        | false => exact e4 x c' (by rw [List.lookup_cons, hx]; exact e)
    · have hb : (k == NameKind.free) = false := by simpa using hk
      obtain ⟨cl, e1, e2, e3, e4⟩ := clos_go r acc (fun y hy => hf y (List.mem_cons_of_mem _ hy)) ha
      refine ⟨cl, ?_, e2, fun y hy hyf => ?_, e4⟩
      · simp only [hb, Bool.false_eq_true, if_false, pure_bind]
        exact e1
      · rcases List.mem_cons.mp hy with rfl | hy
        · exact absurd hyf hk
        · exact e3 y hy hyf
theorem clos_ex {scope:Scope} {env:Env} (h:∀ y ∈ scope.names,y.2 = .free->∃ c,env.cells.lookup y.1 = some c) :
  ∃ cl,closureFor scope env = pure cl/\(∀ x c,cl.lookup x = some c->env.cells.lookup x = some c)/\∀ y ∈ scope.names,y.2 = .free->∃ c,cl.lookup y.1 = some c:=by
 obtain ⟨cl,e1,e2,e3,_⟩:=clos_go (env:=env) scope.names [] h (fun x c e=>nomatch e)
 refine ⟨cl,?_,e2,e3⟩
 have e:closureFor scope env = (forIn scope.names ([]:List (Str × Addr)) fun (y:Str × NameKind) cs=>(if (y.2 == .free) = true then (do let c <- cellOf env y.1; pure (ForInStep.yield ((y.1,c) :: cs))) else pure (ForInStep.yield cs):Sem (ForInStep (List (Str × Addr))))) >>= pure:=by
  rfl
 rw [e,e1,pure_bind]
def cxIn (X:Cx) (own:List Str) (sel:List Nat) (scope:Scope) (cl:List (Str × Addr)) (C:Addr) (s2:Shared) (H2:Hp) (fp:List Addr):Cx where
 prog:=X.prog
 w:=X.w
 K:=X.K
 mg:=X.mg
 base:=X.base
 A:=X.A
 N:=own ++ sel.map fun j=>X.N.getD j Str.empty
 s₀:=s2
 H₀:=H2
 env:=compEnvC scope cl C X.env
 outer:=X.stack
 stack:=X.stack
 ex:=fp
 fn:=fun _=>false
 calm:=X.calm
 pn:=[]
 xe:=fun _ _=>False
def inSt (own:List Str) (sel:List Nat) (σ:St):St:=own.map (fun _=>none) ++ sel.map fun j=>σ.getD j none
structure CompOk (osc:Scope) (N:List Str) (own:List Str) (sel:List Nat) (scope:Scope):Prop where
 kind:scope.kind = .function
 cell:∀ y ∈ scope.names,y.2 ≠ .cell
 names:∀ y ∈ scope.names,y.2 = .local->scope.names.lookup y.1 = some .local
 free:∀ y ∈ scope.names,y.2 = .free->osc.names.lookup y.1 = some .cell\/osc.names.lookup y.1 = some .free
 seln:∀ j ∈ sel,j < N.length/\scope.names.lookup (N.getD j Str.empty) = some .free/\(osc.names.lookup (N.getD j Str.empty) = some .cell\/osc.names.lookup (N.getD j Str.empty) = some .free)
def PIf (Y:Cx) (ifs:List Expr) (t:TT):Prop :=
 ∀ (pins:List (Addr × Obj)) (s:Shared) (σ:St) (H:Hp) (Q:Bool->Hp->Prop),Inv Y pins σ H s->t σ H Q ->
  wpAny (model Y.prog Y.w) Y.A (forIn ifs true fun c r=>if r = true then do let ok <- isTrue c Y.env (eval c Y.env); pure (ForInStep.yield ok) else pure (ForInStep.yield r)) (TP Y pins σ Q) Y.xe s
def tYes:TT:=fun _ H Q=>Q true H
theorem pif_nil {Y:Cx}:PIf Y [] tYes:=fun pins s σ H Q I h=>wpAny_tests_nil ⟨H,I,h⟩
theorem pif_one {Y:Cx} {c:Expr} {t:TT} (h:PT Y c t):PIf Y [c] t:=fun pins s σ H Q I hw=>wpAny_tests_one (h pins s σ H Q I hw)
def GK (n:Nat) (g:TG):Prop:=∀ v σ H Q,g v σ H Q->g v σ H fun σ' H'=>Q σ' H'/\σ'.length = σ.length/\∀ i,n <= i->σ'[i]? = σ[i]?
def GKs (n:Nat) (g:TGs):Prop:=∀ vs σ H Q,g vs σ H Q->g vs σ H fun σ' H'=>Q σ' H'/\σ'.length = σ.length/\∀ i,n <= i->σ'[i]? = σ[i]?
theorem gk_name {n i:Nat} (h:i < n):GK n (gName i):=fun v σ H Q q=>⟨q,by simp,fun j hj=>by rw [List.getElem?_set_ne (by omega)]⟩
theorem gk_nil {n:Nat}:GKs n gNil:=fun vs σ H Q q=>⟨q.1,q.2,rfl,fun _ _=>rfl⟩
def GM (g:TG):Prop:=∀ v σ H Q Q',(∀ σ' H',Q σ' H'->Q' σ' H')->g v σ H Q->g v σ H Q'
def GMs (g:TGs):Prop:=∀ vs σ H Q Q',(∀ σ' H',Q σ' H'->Q' σ' H')->g vs σ H Q->g vs σ H Q'
theorem gm_name {i:Nat}:GM (gName i):=fun _ _ _ _ _ h q=>h _ _ q
theorem gm_nil:GMs gNil:=fun _ _ _ _ _ h q=>⟨q.1,h _ _ q.2⟩
theorem gm_cons {t:TG} {u:TGs} (h1:GM t) (h2:GMs u):GMs (gCons t u):=fun vs σ H Q Q' h ⟨v,r,e,q⟩=>⟨v,r,e,h1 _ _ _ _ _ (fun σ' H' z=>h2 _ _ _ _ _ h z) q⟩
theorem gk_cons {n:Nat} {t:TG} {u:TGs} (m1:GM t) (m2:GMs u) (h1:GK n t) (h2:GKs n u):GKs n (gCons t u):=fun vs σ H Q ⟨v,r,e,q⟩=>by
 refine ⟨v,r,e,m1 _ _ _ _ _ (fun σ' H' z=>?_) (h1 _ _ _ _ q)⟩
 obtain ⟨q',l,k⟩:=z
 exact m2 _ _ _ _ _ (fun σ2 H2 ⟨a,b,c⟩=>⟨a,b.trans l,fun i hi=>(c i hi).trans (k i hi)⟩) (h2 _ _ _ _ q')
theorem gk_tup {K:PySem.W.Frag} {n m:Nat} {t:TGs} (h:GKs n t):GK n (gTup K m t):=fun v σ H Q ⟨a,xs,e1,e2,e3,q⟩=>⟨a,xs,e1,e2,e3,h _ _ _ _ q⟩
def tComp (own : List Str) (sel : List Nat) (wi : TI) (g : TG) (tt : TT) (te : TE) : TE := fun σ H Q => wi σ H fun J H1 => ∀ D, H1 D = none ->
 ∃ W : Nat -> Nat -> Hp -> Prop, (∃ m, W 0 m (upd H1 D (.lst []))) /\ ∀ i m H2, W i m H2 ->
  (J.stop i H2 /\ Q (.ref D) H2) \/ (J.go i H2 /\ ∀ x H3, J.yld i H2 x H3 -> g x (inSt own sel σ) H3 fun σ4 H4 => tt σ4 H4 fun b H5 =>
   if b = true then te σ4 H5 fun v H6 => ∃ ys, H6 D = some (.lst ys) /\ ys.length < sizeLine /\ ∃ m', m' < m /\ W (i + 1) m' (upd H6 D (.lst (ys ++ [v])))
   else ∃ m', m' < m /\ W (i + 1) m' H5)
section
variable {prog:Program} {w:World} {A:Around} {R:Result->Shared->Prop} {s:Shared}
theorem comp_turns {elt target iter : Expr} {ifs : List Expr} {scope : Scope} {pos : Pos} {it acc : Value} {env : Env} (I : Nat -> Shared -> Prop)
    (turn : ∀ n s, I n s -> wpAny (model prog w) A (pyNext it) (fun r s1 => match r with
      | none => R (.ok .next) s1
      | some v => wpAny (model prog w) A (letOwnedTupleGo target it v) (fun _ s0 => wpAny (model prog w) A (assign target env v) (fun _ s2 =>
          wpAny (model prog w) A (forIn ifs true fun c r => if r = true then do let ok <- isTrue c env (eval c env); pure (ForInStep.yield ok) else pure (ForInStep.yield r)) (fun ok s3 =>
            if ok = true then wpAny (model prog w) A (eval elt env) (fun x s4 => wpAny (model prog w) A (call (.builtin "list.append") [acc, x]) (fun _ s5 => ∃ m, m < n /\ I m s5) (fun _ _ => False) s4) (fun _ _ => False) s3
            else ∃ m, m < n /\ I m s3) (fun _ _ => False) s2) (fun _ _ => False) s0) (fun _ _ => False) s1) (fun _ _ => False) s)
    (n : Nat) (h : I n s) :
    codeAny (model prog w) A (.compLoop (.ListComp elt [⟨target, iter, ifs, 0⟩] scope pos) 0 it acc env) R s := by
  refine codeAny_loop rfl I (fun n s hI => ?_) n h
  show wpAny _ A ((compTurn (.ListComp elt [⟨target, iter, ifs, 0⟩] scope pos) 0 it acc env).onRaise (fun x => do noteFrame x env; theTreesLotGoes x)) _ _ s
  refine wpAny_noted ?_
  rw [compTurn_list]
  refine wpAny_bind (wpAny_standAt (wpAny_bind (wpAny_mono (turn n s hI) (fun r s1 h1 => ?_) fun _ _ z => z.elim)))
  cases r with
  | none => exact wpAny_pure h1
  | some v =>
    refine wpAny_bind (wpAny_mono h1 (fun _ s0 h0 => wpAny_bind (wpAny_mono h0 (fun _ s2 h2 => wpAny_bind (wpAny_mono h2 (fun ok s3 h3 => ?_) fun _ _ z => z.elim)) fun _ _ z => z.elim)) fun _ _ z => z.elim)
    cases ok with
    | false => exact wpAny_pure ⟨rfl, h3⟩
    | true =>
      exact wpAny_bind (wpAny_bind (wpAny_mono h3 (fun x s4 h4 => wpAny_bind (wpAny_mono h4 (fun _ s5 h5 => wpAny_pure (wpAny_pure ⟨rfl, h5⟩)) fun _ _ z => z.elim)) fun _ _ z => z.elim))
end
section
variable {X:Cx}
theorem relabel_lookup {env : Env} : ∀ {names : List (Str × NameKind)} {x : Str} {k : NameKind},
    (names.map fun (n, k) => if (k == NameKind.free && env.scope.kind == .function && env.kindOf n == some .cell) then (n, NameKind.cell) else (n, k)).lookup x = some k ->
    names.lookup x = some k \/ names.lookup x = some .free
  | [], _, _, h => by simp at h
  | (n, k') :: r, x, k, h => by
    have ih := @relabel_lookup env r x k
    have h' : List.lookup x ((if (k' == NameKind.free && env.scope.kind == .function && env.kindOf n == some .cell) = true then (n, NameKind.cell) else (n, k')) :: r.map fun (n, k) => if (k == NameKind.free && env.scope.kind == .function && env.kindOf n == some .cell) then (n, NameKind.cell) else (n, k)) = some k := h
    cases hx : x == n with
    | true =>
      rw [List.lookup_cons, hx]
      by_cases hc : (k' == NameKind.free && env.scope.kind == .function && env.kindOf n == some .cell) = true
      · have : k' = .free := by simp only [Bool.and_eq_true, beq_iff_eq] at hc; exact hc.1.1
        subst this
        exact .inr rfl
      · rw [if_neg hc, List.lookup_cons, hx] at h'
        exact .inl h'
    | false =>
      rw [List.lookup_cons, hx]
      by_cases hc : (k' == NameKind.free && env.scope.kind == .function && env.kindOf n == some .cell) = true
      · rw [if_pos hc, List.lookup_cons, hx] at h'; exact ih h'
      · rw [if_neg hc, List.lookup_cons, hx] at h'; exact ih h'
theorem relabel_free {env : Env} (hk : env.scope.kind = .function) : ∀ {names : List (Str × NameKind)} {x : Str}, names.lookup x = some .free ->
    (names.map fun (n, k) => if (k == NameKind.free && env.scope.kind == .function && env.kindOf n == some .cell) then (n, NameKind.cell) else (n, k)).lookup x = some .cell \/
    (names.map fun (n, k) => if (k == NameKind.free && env.scope.kind == .function && env.kindOf n == some .cell) then (n, NameKind.cell) else (n, k)).lookup x = some .free
  | [], _, h => by simp at h
  | (n, k') :: r, x, h => by
    have ih := @relabel_free env hk r x
    show List.lookup x ((if (k' == NameKind.free && env.scope.kind == .function && env.kindOf n == some .cell) = true then (n, NameKind.cell) else (n, k')) :: _) = _ \/ List.lookup x ((if (k' == NameKind.free && env.scope.kind == .function && env.kindOf n == some .cell) = true then (n, NameKind.cell) else (n, k')) :: _) = _
    cases hx : x == n with
    | true =>
      rw [List.lookup_cons, hx] at h
      by_cases hc : (k' == NameKind.free && env.scope.kind == .function && env.kindOf n == some .cell) = true
      · rw [if_pos hc, List.lookup_cons, hx]; exact .inl rfl
      · rw [if_neg hc, List.lookup_cons, hx]; exact .inr h
    | false =>
      rw [List.lookup_cons, hx] at h
      by_cases hc : (k' == NameKind.free && env.scope.kind == .function && env.kindOf n == some .cell) = true
      · rw [if_pos hc, List.lookup_cons, hx]; exact ih h
      · rw [if_neg hc, List.lookup_cons, hx]; exact ih h
end
end L2
namespace L2
open PySem PySem.Spec PyProof.Rows
section
variable {X:Cx}
theorem inSt_own {own:List Str} {sel:List Nat} {σ:St} {i:Nat} (h:i < own.length):(inSt own sel σ)[i]? = some none:=by
 unfold inSt
 rw [List.getElem?_append_left (by simpa using h),List.getElem?_map,List.getElem?_eq_getElem h]
 rfl
theorem inSt_sel {own : List Str} {sel : List Nat} {σ : St} {i : Nat} {v : V} (h : (inSt own sel σ)[i]? = some (some v)) : ∃ k j, i = own.length + k /\ sel[k]? = some j /\ σ[j]? = some (some v) := by
  by_cases hi : i < own.length
  · rw [inSt_own hi] at h; cases h
  · unfold inSt at h
    rw [List.getElem?_append_right (by simpa using hi), List.getElem?_map] at h
    rw [List.length_map] at h
    cases e : sel[i - own.length]? with
    | none => rw [e] at h; cases h
    | some j =>
      rw [e] at h
      simp only [Option.map_some, Option.some.injEq] at h
      refine ⟨i - own.length, j, by omega, e, ?_⟩
      rw [List.getD_eq_getElem?_getD] at h
      cases q : σ[j]? with
      | none => rw [q] at h; cases h
      | some u => rw [q] at h; simp at h; rw [h]
theorem inSt_len {own:List Str} {sel:List Nat} {σ:St}:(inSt own sel σ).length = own.length + sel.length:=by
 unfold inSt; simp
structure Far (X:Cx) (pins:List (Addr × Obj)) (H:Hp) (C:Addr):Prop where
 nt:H C = none
 nl:C ≠ X.env.locals
 up:X.s₀.heap.objs.size <= C
 nc:∀ x c,X.env.cells.lookup x = some c->c ≠ C
 np:∀ p ∈ X.pn ++ pins,p.1 ≠ C
theorem Inv.far {pins:List (Addr × Obj)} {σ:St} {H:Hp} {s:Shared} {h':Heap} {C:Addr} (I:Inv X pins σ H s) (f:Far X pins H C) (k:Heap.SameBut C s.heap h'):Inv X pins σ H { s with heap:=h' } :=
 I.turned (t':=s.toks) (fun b o hb e=>(k.2 b hb).trans e) f.nt f.nl (.inr f.up) f.nc f.np
theorem comp_core {elt tg iter : Expr} {ifs : List Expr} {scope : Scope} {pos : Pos} {own : List Str} {sel : List Nat} {wi : TI} {g : TG} {tt : TT} {te : TE} {use : Option (Value -> Sem Unit)} {Qo : Value -> Shared -> Prop}
    (S : CompOk X.env.scope X.N own sel scope) (hc : X.calm = true) (hi : PI X tg iter wi)
    (hg : ∀ cl C s2 H2 fp, PG (cxIn X own sel scope cl C s2 H2 fp) tg g) (hk : GK own.length g)
    (ht : ∀ cl C s2 H2 fp, PIf (cxIn X own sel scope cl C s2 H2 fp) ifs tt) (he : ∀ cl C s2 H2 fp, PE (cxIn X own sel scope cl C s2 H2 fp) elt te)
    (hs : ∀ x, foldedSetIterable iter X.env x = pure x) {pins : List (Addr × Obj)} {s : Shared} {σ : St} {H : Hp} {Q : VK} {ps : Pos} (I0 : Inv X pins σ H s) (h : tComp own sel wi g tt te σ H Q)
    (fin : ∀ (D C : Addr) (H' : Hp) (s' : Shared) (m : Str -> Option Value), Inv X pins σ H' s' -> s'.heap.Ns C m -> Far X pins H' C -> Q (.ref D) H' -> compPost (model X.prog X.w) X.A X.xe use Qo (.ref D) C (.ok .next) s') :
    wpAny (model X.prog X.w) X.A (comprehension (.ListComp elt [⟨tg, iter, ifs, 0⟩] scope pos) scope X.env ps (newList []) false (eval iter X.env) use) Qo X.xe s := by
  obtain ⟨cl, hclos, hcl, hfree⟩ := clos_ex (scope := scope) (env := X.env) fun y hy e => I0.ok.has y.1 (S.free y hy e)
  refine wpAny_comprehension_free (use := use) rfl hs hclos S.kind S.names (thn (hi pins s σ H _ I0 h) fun v s1 h1 => thn h1 fun itv s2 h2 => ?_)
  obtain ⟨it, fp, tn, J, H2, e, I, T, st2, f2, h3⟩ := h2
  subst e
  clear h h1 I0
  refine wpAny_newObj_type (wpAny_newFunctionEnv S.cell (by intro y hy; simp at hy) (fun h1 hns1 hsb1 => ?_) S.kind)
  dsimp only at hns1 hsb1 ⊢
  generalize hP : s2.heap.push { cls := .type "list", dict := none, data := .seq ([] : List Value).toArray } = P1 at hns1 hsb1 ⊢
  generalize hD : s2.heap.objs.size = D at hns1 hsb1 ⊢
  generalize hC : P1.objs.size = C at hns1 hsb1 ⊢
  have hCD : C = D + 1 := by rw [<- hC, <- hP, Heap.size_push, hD]
  have hlt : D < C := by rw [hCD]; exact Nat.lt_succ_self D
  have hDC : D ≠ C := Nat.ne_of_lt hlt
  have neC : ∀ b : Addr, b < D -> b ≠ C := fun b hb => Nat.ne_of_lt (Nat.lt_trans hb hlt)
  have neD : ∀ b : Addr, b < D -> b ≠ D := fun b hb => Nat.ne_of_lt hb
  have hsD : s2.heap.objs.size <= D := Nat.le_of_eq hD
  have hsC : s2.heap.objs.size <= C := Nat.le_trans hsD (Nat.le_of_lt hlt)
  have fresh : ∀ a, D <= a -> H2 a = none := fun a ha => I.hok.fresh (by rw [hD]; exact ha)
  have hnD : H2 D = none := fresh D (Nat.le_refl _)
  have hnC : H2 C = none := fresh C (Nat.le_of_lt hlt)
  have below : ∀ b o, s2.heap.get? b = some o -> b < D := fun b o e => by rw [<- hD]; exact Heap.lt_size e
  have keep1 : ∀ b o, s2.heap.get? b = some o -> h1.get? b = some o := fun b o e =>
    hsb1.extBut b o (neC b (below b o e)) (Heap.get?_push_of_some _ (hP ▸ Heap.get?_push_of_some _ e))
  have gD : h1.get? D = some { cls := .type "list", dict := none, data := .seq ([] : List Value).toArray } := by
    refine hsb1.extBut _ _ hDC (Heap.get?_push_of_some _ ?_)
    rw [<- hP, <- hD]
    exact Heap.get?_push_size _ rfl
  obtain ⟨W, ⟨m0, w0⟩, turn⟩ := h3 D hnD
  have fpb : ∀ b ∈ fp, b < D := fun b hb => by obtain ⟨o, e, _⟩ := T.obj _ _ st2 b hb; exact below b o e
  generalize hY : cxIn X own sel scope cl C s2 H2 fp = Y
  have hg := hg cl C s2 H2 fp
  have ht := ht cl C s2 H2 fp
  have he := he cl C s2 H2 fp
  rw [hY] at hg ht he
  have okY : Y.Ok := by
    subst hY
    refine ⟨I.ok.mod, S.kind, I.ok.glob, I.ok.blt, ?_, fun x y c a b => I.ok.inj x y c (hcl _ _ a) (hcl _ _ b), fun x hx => ?_, (fun _ _ z => nomatch z), fun z => I.ok.hd z, I.ok.frames, .inl rfl, fun b hb => ⟨?_, fun x c e => (f2 b hb).2.2.2.2.1 x c (hcl _ _ e)⟩, I.bs,
      Nat.le_trans I.ok.bsz I.sz, fun b o e hb => ?_, fun b hb z => ?_, I.stack, I.stkFree⟩
    · exact hsC
    · have hx' : (relabel scope X.env).names.lookup x = some .cell \/ (relabel scope X.env).names.lookup x = some .free := hx
      have hf : scope.names.lookup x = some .free := by
        rcases hx' with z | z
        · rcases relabel_lookup z with q | q
          · exact absurd rfl (S.cell _ (PySem.mem_of_lookup q))
          · exact q
        · rcases relabel_lookup z with q | q <;> exact q
      exact hfree _ (PySem.mem_of_lookup hf) rfl
    · exact neC b (fpb b hb)
    · rcases (f2 b hb).2.2.2.1 with z | z
      · exact I.ok.noex b o e z
      · exact absurd (Nat.lt_of_lt_of_le (Heap.lt_size e) (Nat.le_trans I.ok.bsz z)) (Nat.lt_irrefl _)
    · rcases List.mem_cons.mp (I.stkSub b z) with q | q
      · exact (f2 b hb).2.1 q
      · exact (f2 b hb).2.2.1 q
  have eo : ObjOk X.prog X.w (upd H2 D (.lst [])) h1 D (.lst []) := ⟨by decide, [], _, .nil, gD⟩
  have I1 : Inv Y [] (inSt own sel σ) (upd H2 D (.lst [])) { s2 with heap := h1, toks := s2.toks + ([] : List (Str × Value)).length } := by
    subst hY
    refine ⟨okY, rfl, I.bare, Un.laid keep1 hsD hnD, ⟨_, hns1, fun i x v e1 e2 e3 => ?_⟩, fun x c e => ?_, ?_, fun x c e => ?_, fun p hp => absurd (show p ∈ ([] : List (Addr × Obj)) from hp) (by simp), I.hok.laid keep1 hsD eo, ?_⟩
    · obtain ⟨k, j, ei, ej, es⟩ := inSt_sel e2
      subst ei
      have e1' : (own ++ sel.map fun j => X.N.getD j Str.empty)[own.length + k]? = some x := e1
      rw [List.getElem?_append_right (by omega), List.getElem?_map, show own.length + k - own.length = k by omega, ej] at e1'
      simp only [Option.map_some, Option.some.injEq] at e1'
      obtain ⟨hj, hfx, hkd⟩ := S.seln j (List.mem_of_getElem? ej)
      have hN : X.N[j]? = some x := by rw [<- e1', List.getD_eq_getElem?_getD, List.getElem?_eq_getElem hj]; rfl
      rw [e1'] at hkd hfx
      obtain ⟨m, _, hl⟩ := I.loc
      obtain ⟨u, r, lk⟩ := hl j x v hN es (.inr hkd)
      refine ⟨u, r, .inr ⟨relabel_free I.ok.kind hfx, ?_⟩⟩
      rcases lk with ⟨z1, _⟩ | ⟨_, c, hc1, hc2⟩
      · have z1' : X.env.scope.names.lookup x = some .local := z1
        rcases hkd with q | q <;> (rw [z1'] at q; cases q)
      · obtain ⟨c', q⟩ := hfree _ (PySem.mem_of_lookup hfx) rfl
        have q2 := hcl _ _ q
        rw [hc1] at q2
        cases q2
        exact ⟨c, q, hc2.keeps keep1⟩
    · obtain ⟨u, z⟩ := I.cell x c (hcl _ _ e)
      exact ⟨u, z.keeps keep1⟩
    · show upd H2 D (.lst []) C = none
      rw [upd_ne (Ne.symm hDC)]; exact hnC
    · have q := I.freeC x c (hcl _ _ e)
      obtain ⟨u, o, z, _⟩ := I.cell x c (hcl _ _ e)
      rw [upd_ne (neD c (below c o z))]
      exact q
    · show (inSt own sel σ).length = (own ++ sel.map fun j => X.N.getD j Str.empty).length
      rw [inSt_len]; simp
  have fin : ∀ (σ' : St) (H' : Hp) (s' : Shared), Inv Y [] σ' H' s' -> Q (.ref D) H' -> compPost (model X.prog X.w) X.A X.xe use Qo (.ref D) C (.ok .next) s' := by
    intro σ' H' s' I' q
    subst hY
    obtain ⟨m, hn, _⟩ := I'.loc
    have J' : Inv X pins σ H' s' := I.call' I'.os I'.base I'.hok I'.bare fun b hb => ⟨(f2 b hb).2.2.2.1, (f2 b hb).2.1, (f2 b hb).2.2.2.2.1, (f2 b hb).2.2.2.2.2⟩
    refine fin D C H' s' m J' hn ⟨I'.free, Ne.symm (neC _ (by rw [<- hD]; exact I.lt)), Nat.le_trans I.sz hsC, fun x c e => ?_, fun p hp => ?_⟩ q
    · obtain ⟨u, o, z, _⟩ := I.cell x c e
      exact neC c (below c o z)
    · exact neC p.1 (below p.1 p.2 (I.pin p hp).1)
  have stat : ∀ {H' : Hp}, (∀ b ∈ fp, H' b = none) -> ∀ b ∈ fp, FpOk Y [] H' b := fun {H'} hn b hb => by
    subst hY
    refine ⟨hn b hb, neC b (fpb b hb), fun z => ?_, .inl hb, fun x c e => (f2 b hb).2.2.2.2.1 x c (hcl _ _ e), fun p hp => absurd (show p ∈ ([] : List (Addr × Obj)) from hp) (by simp)⟩
    rcases List.mem_cons.mp (I.stkSub b z) with q | q
    · exact (f2 b hb).2.1 q
    · exact (f2 b hb).2.2.1 q
  have loop : ∀ s3 : Shared, s3 = { s2 with heap := h1, toks := s2.toks + ([] : List (Str × Value)).length } ->
      codeAny (model X.prog X.w) X.A (.compLoop (.ListComp elt [⟨tg, iter, ifs, 0⟩] scope pos) 0 (.ref it) (.ref D) (compEnvC scope cl C X.env)) (compPost (model X.prog X.w) X.A X.xe use Qo (.ref D) C) s3 := by
    rintro s3 rfl
    have eP : Y.prog = X.prog := by subst hY; rfl
    have eW : Y.w = X.w := by subst hY; rfl
    have eA : Y.A = X.A := by subst hY; rfl
    have eK : Y.K = X.K := by subst hY; rfl
    have eE : Y.env = compEnvC scope cl C X.env := by subst hY; rfl
    have eX : Y.xe = fun _ _ => False := by subst hY; rfl
    have eC : Y.calm = true := by subst hY; exact hc
    refine comp_turns (fun n s' => ∃ i H', Inv Y [] (inSt own sel σ) H' s' /\ tn i s'.heap /\ (∀ b ∈ fp, H' b = none) /\ W i n H') ?_ m0
      ⟨0, _, I1, T.keep _ _ _ st2 fun b _ o e => keep1 b o e, fun b hb => by rw [upd_ne (neD b (fpb b hb))]; exact (f2 b hb).1, w0⟩
    rintro n s4 ⟨i, H4, I4, st4, fr4, w4⟩
    rcases turn i n H4 w4 with ⟨stop, q⟩ | ⟨go, step⟩
    · have dn := T.done Y eP eW eK eC i [] s4 _ H4 (fun _ _ => False) I4 (stat fr4) st4 stop
      rw [eA] at dn
      refine thn dn fun r s5 ⟨hr, I5⟩ => ?_
      subst hr
      exact fin _ _ _ I5 q
    · have im := T.item Y eP eW eK eC i [] s4 _ H4 (fun _ _ => False) I4 (stat fr4) st4 go
      rw [eA] at im
      refine thn im fun r s5 ⟨u, hr, h5⟩ => ?_
      subst hr
      refine thn h5 fun _ s6 ⟨x, H6, I6, r6, y6, st6, fr6⟩ => ?_
      have I6' := I6.pinned (stat fr6) (T.obj _ _ st6)
      have back : ∀ {σ7 : St} {H7 : Hp} {s7 : Shared} {k : Nat}, Inv Y ([] ++ pinsAt fp s6.heap) σ7 H7 s7 -> σ7.length = (inSt own sel σ).length -> (∀ j, own.length <= j -> σ7[j]? = (inSt own sel σ)[j]?) -> (∃ m', m' < n /\ W (i + 1) m' H7) ->
          ∃ m', m' < n /\ ∃ i H', Inv Y [] (inSt own sel σ) H' s7 /\ tn i s7.heap /\ (∀ b ∈ fp, H' b = none) /\ W i m' H' := fun {σ7 H7 s7 k} I7 l7 k7 w7 => by
        obtain ⟨m', hm, w7⟩ := w7
        refine ⟨m', hm, i + 1, H7, I7.unpinned.weak l7.symm fun j v e => ?_, T.keep _ _ _ st6 fun b hb o e => (I7.pin (b, o) (List.mem_append_right _ (List.mem_append_right _ (mem_pinsAt hb e)))).1, fun b hb => ?_, w7⟩
        · by_cases hj : j < own.length
          · rw [inSt_own hj] at e; cases e
          · rw [k7 j (Nat.le_of_not_lt hj)]; exact e
        · obtain ⟨o, e, d⟩ := T.obj _ _ st6 b hb
          exact (I7.pin (b, o) (List.mem_append_right _ (List.mem_append_right _ (mem_pinsAt hb e)))).2.1
      have ga := hg _ s6 _ H6 x u _ I6' r6 (hk _ _ _ _ (step x H6 y6))
      rw [eP, eW, eA, eE, eX] at ga
      refine thn ga fun _ s7 ⟨σ7, H7, I7, q7, l7, k7⟩ => ?_
      have ta := ht _ s7 σ7 H7 _ I7 q7
      rw [eP, eW, eA, eE, eX] at ta
      refine thn ta fun b s8 ⟨H8, I8, q8⟩ => ?_
      cases b with
      | false =>
        rw [if_neg Bool.false_ne_true] at q8 ⊢
        exact back (k := 0) I8 l7 k7 q8
      | true =>
        rw [if_pos rfl] at q8 ⊢
        have ea := he _ s8 σ7 H8 _ I8 q8
        rw [eP, eW, eA, eE, eX] at ea
        refine thn ea fun v s9 ⟨x9, H9, I9, r9, ys, hD9, hz9, q9⟩ => ?_
        have aa := mt_append (X := Y) _ s9 σ7 H9 (.ref D) [x9] (.ref D) [v] (fun _ H' => ∃ m', m' < n /\ W (i + 1) m' H') I9 rfl (.cons r9 .nil) ⟨D, ys, x9, rfl, rfl, hD9, hz9, q9⟩
        rw [eP, eW, eA, eX] at aa
        exact thn aa fun _ s10 ⟨_, H10, I10, _, q10⟩ => back (k := 0) I10 l7 k7 q10
  exact codeAny_compStart_list (loop _ rfl) (T.self X.A 0 _ _ _ (T.keep _ _ _ st2 fun b _ o e => keep1 b o e) (loop _ rfl))
theorem pe_comp {elt tg iter:Expr} {ifs:List Expr} {scope:Scope} {pos:Pos} {own:List Str} {sel:List Nat} {wi:TI} {g:TG} {tt:TT} {te:TE}
  (S:CompOk X.env.scope X.N own sel scope) (hc:X.calm = true) (hi:PI X tg iter wi)
  (hg:∀ cl C s2 H2 fp,PG (cxIn X own sel scope cl C s2 H2 fp) tg g) (hk:GK own.length g)
  (ht:∀ cl C s2 H2 fp,PIf (cxIn X own sel scope cl C s2 H2 fp) ifs tt) (he:∀ cl C s2 H2 fp,PE (cxIn X own sel scope cl C s2 H2 fp) elt te)
  (hs:∀ x,foldedSetIterable iter X.env x = pure x:=by intro _; rfl) :
  PE X (.ListComp elt [⟨tg,iter,ifs,0⟩] scope pos) (tComp own sel wi g tt te):=by
 intro pins s σ H Q I h
 rw [eval_ListComp]
 refine comp_core (use:=none) S hc hi hg hk ht he hs I h fun D C H' s' m I' hn f q=>?_
 exact ⟨m,hn,fun h' k=>⟨.ref D,H',I'.far f k,rfl,q⟩⟩
theorem ps_setComp {i:Nat} {x:Str} {pos' spos:Pos} {elt tg iter:Expr} {ifs:List Expr} {scope:Scope} {pos:Pos} {own:List Str} {sel:List Nat} {wi:TI} {g:TG} {tt:TT} {te:TE}
  (hN:X.N.Nodup) (hix:X.N[i]? = some x) (hx:Loc X.env.scope x)
  (S:CompOk X.env.scope X.N own sel scope) (hc:X.calm = true) (hi:PI X tg iter wi)
  (hg:∀ cl C s2 H2 fp,PG (cxIn X own sel scope cl C s2 H2 fp) tg g) (hk:GK own.length g)
  (ht:∀ cl C s2 H2 fp,PIf (cxIn X own sel scope cl C s2 H2 fp) ifs tt) (he:∀ cl C s2 H2 fp,PE (cxIn X own sel scope cl C s2 H2 fp) elt te)
  (hs:∀ x,foldedSetIterable iter X.env x = pure x:=by intro _; rfl)
  (hsw:swapsWith (.ListComp elt [⟨tg,iter,ifs,0⟩] scope pos) (some (.Name x pos')) spos.line X.env = pure true:=by rfl)
  (hf:X.fn x = true\/X.env.scope.names.lookup x = some .local:=by first | exact .inl rfl | exact .inr rfl | assumption) :
  PS X (.Assign [.Name x pos'] (.ListComp elt [⟨tg,iter,ifs,0⟩] scope pos) spos) (tAsg (tComp own sel wi g tt te) (gName i)):=by
 intro pins s σ H D0 I h
 rw [exec_Assign_Name_used _ _ _ _ hsw]
 refine wpAny_bind (wpAny_standAt (wpAny_bind ?_))
 show wpAny _ X.A (do let _ <- comprehension (.ListComp elt [⟨tg,iter,ifs,0⟩] scope pos) scope X.env _ (newList []) false (eval iter X.env) (some (assign (.Name x pos') X.env))) _ _ s
 refine wpAny_bind (wpAny_mono (comp_core (use:=some (assign (.Name x pos') X.env)) (Qo:=fun _ s'=>SP X pins D0 .next s') S hc hi hg hk ht he hs I h fun D C H' s' m I' hn f q=>?_) (fun _ s' hq=>wpAny_pure (wpAny_pure hq)) fun _ _ e=>e)
 show wpAny _ X.A (assign (.Name x pos') X.env (.ref D)) _ _ _
 refine wpAny_assign_Name (store_ok2 (v:=V.ref D) I' hN hix hx rfl (fun s2 I2 ⟨a,k,ha⟩=>?_) hf)
 have haC:C ≠ a:=by
  rcases ha with rfl | ha
  ·exact f.nl
  ·exact Ne.symm (f.nc x a ha)
 exact ⟨m,hn.sameBut k haC,fun h' k'=>⟨_,H',I2.far f k',q⟩⟩
end
end L2
namespace L2
open PySem PySem.Spec PyProof.Rows
section
variable {X:Cx} {pins:List (Addr × Obj)} {σ:St} {H:Hp} {s:Shared} {h':Heap}
theorem Inv.bigAfter {ch:List Addr} (I:Inv X pins σ H s) (hf:∀ b ∈ ch,FpOk X pins H b) (k:∀ b u,b ∉ ch->s.heap.get? b = some u->h'.get? b = some u):∃ b o,1 < b/\h'.get? b = some o:=by
 obtain ⟨o,_,_,e,_⟩:=I.ok.mod.glob
 refine ⟨mainGlobals,o,by decide,k _ _ (fun z=>?_) (I.bk _ _ e)⟩
 rcases (hf _ z).2.2.2.1 with q | q
 ·exact I.ok.noex _ _ e q
 ·exact absurd (Nat.lt_of_lt_of_le (Heap.lt_size e) (Nat.le_trans I.ok.bsz q)) (Nat.lt_irrefl _)
theorem Inv.turnedLaid {a : Addr} {o : HO} {t' : Nat} {ch : List Addr} (I : Inv X pins σ H s) (hf : ∀ b ∈ ch, FpOk X pins H b) (k : ∀ b u, b ∉ ch -> s.heap.get? b = some u -> h'.get? b = some u) (hp : s.heap.objs.size <= a)
  (new : ObjOk X.prog X.w (upd H a o) h' a o) : Inv X pins σ (upd H a o) { s with heap := h', toks := t' } := by
 have hn : H a = none := I.hok.fresh hp
 have ne : ∀ b u, s.heap.get? b = some u -> b ≠ a := fun b u e => Nat.ne_of_lt (Nat.lt_of_lt_of_le (Heap.lt_size e) hp)
 have nt : ∀ b u, H b = some u -> b ∉ ch := fun b u e z => by rw [(hf b z).1] at e; cases e
 refine I.step (g' := s.gens) (d' := s.drawn) (ch := ch) (fun b hb => ⟨(hf b hb).2.2.2.1, (hf b hb).2.1, (hf b hb).2.2.2.2.1, (hf b hb).2.2.2.2.2⟩) (fun b u _ _ hc e _ => k b u hc e) (fun b u _ _ hc e _ => ⟨u.slots, k b u hc e⟩)
  (fun b u _ e n => by rw [upd_ne (ne b u e)]; exact n) (fun b u hc e => ⟨u, k b u hc e⟩) (fun b xs e => by rw [upd_ne (ne_of_none e hn)]; exact e) (fun b u xs e => by rw [upd_ne (ne_of_none e hn)]; exact e)
  (fun b ps e => ⟨#[], by rw [upd_ne (ne_of_none e hn), e]; simp⟩) (fun m hm => ?_) ⟨fun b u e => ?_, fun u e => I.hok.sm u (by
   by_cases hb : sysModules = a
   ·obtain ⟨b, o', l, q⟩ := I.hok.bg
    exact absurd (Nat.lt_trans l (show b < sysModules from by rw [hb]; exact Nat.lt_of_lt_of_le (Heap.lt_size q) hp)) (Nat.lt_irrefl 1)
   ·rw [upd_ne hb] at e; exact e), I.bigAfter hf k⟩ I.bare
 ·obtain ⟨ob, es, ep, ho, r⟩ := hm
  exact ⟨ob, es, ep, k _ ob (fun z => (hf _ z).2.1 rfl) ho, r⟩
 ·by_cases hb : b = a
  ·subst hb; rw [upd_same] at e; cases e; exact new
  ·rw [upd_ne hb] at e
   refine (I.hok b u e).stay (fun c v hc q => k c v ?_ q) (fun c q => by rw [upd_ne (ne_of_none q hn)]; exact q) fun c xs q => by rw [upd_ne (ne_of_none q hn)]; exact q
   rcases hc with z | z
   ·rw [z]; exact nt b u e
   ·exact nt c _ z
theorem Inv.turnedAll {t':Nat} {ch:List Addr} (I:Inv X pins σ H s) (hf:∀ b ∈ ch,FpOk X pins H b) (k:∀ b u,b ∉ ch->s.heap.get? b = some u->h'.get? b = some u):Inv X pins σ H { s with heap:=h',toks:=t' }:=by
 have nt:∀ b u,H b = some u->b ∉ ch:=fun b u e z=>by rw [(hf b z).1] at e; cases e
 refine I.step (g':=s.gens) (d':=s.drawn) (ch:=ch) (fun b hb=>⟨(hf b hb).2.2.2.1,(hf b hb).2.1,(hf b hb).2.2.2.2.1,(hf b hb).2.2.2.2.2⟩) (fun b u _ _ hc e _=>k b u hc e) (fun b u _ _ hc e _=>⟨u.slots,k b u hc e⟩)
  (fun b u _ e n=>n) (fun b u hc e=>⟨u,k b u hc e⟩) (fun b xs e=>e) (fun b u xs e=>e) (fun b ps e=>⟨#[],by rw [e]; simp⟩) (fun m hm=>?_) ⟨fun b u e=>?_,I.hok.sm,I.bigAfter hf k⟩ I.bare
 ·obtain ⟨ob,es,ep,ho,r⟩:=hm
  exact ⟨ob,es,ep,k _ ob (fun z=>(hf _ z).2.1 rfl) ho,r⟩
 ·refine (I.hok b u e).stay (fun c v hc q=>k c v ?_ q) (fun c q=>q) fun c xs q=>q
  rcases hc with z | z
  ·rw [z]; exact nt b u e
  ·exact nt c _ z
end
def Its (x:Str):It:=⟨fun i _=>i < x.cps.size,fun i H v H'=>H' = H/\∃ c,x.cps[i]? = some c/\v = .str ⟨#[c]⟩,fun i _=>i = x.cps.size⟩
section
variable {P:Program} {w:World} {K:PySem.W.Frag} {tg:Expr}
theorem turn_str {x:Str} {t:Tok} {T:String} {it:Addr} (hT:T = "str_ascii_iterator"\/T = "str_iterator")
  (W:∀ A:Around,A.handled = none->Walks P w A it [it] [it] x.cps.size (SignAt x) (fun i h=>h.IsStrIter it T x t i))
  (sf:∀ (A:Around) (i:Nat) (s:Shared) (Q:Value->Shared->Prop) (E:Value->Shared->Prop),s.heap.IsStrIter it T x t i->Q (.ref it) s->wpAny (model P w) A (pyIter (.ref it)) Q E s) :
  Turn P w K tg (Its x) [it] it (fun i h=>h.IsStrIter it T x t i) where
 mem:=by simp
 obj:=fun i h st b hb=>by
  obtain ⟨o,ho,_,hd⟩:=st
  have e:b = it:=by simpa using hb
  subst e
  exact ⟨o,ho,fun v z=>by rw [hd] at z; cases z⟩
 keep:=fun i h h' st k=>by
  obtain ⟨o,ho,r⟩:=st
  exact ⟨o,k it (by simp) o ho,r⟩
 item:=by
  intro X hP hw hK hc i pins s σ H E I hf st hg
  subst hP hw hK
  refine (W X.A (I.ok.hd hc)).item i s _ _ hg st fun v h' tk hv st' kk=>?_
  obtain ⟨c,u,hx,rfl⟩:=hv
  obtain ⟨o,ho,hcl,hd⟩:=id st'
  have I1:Inv X pins σ H { s with heap:=h',toks:=tk }:=I.turnedAll hf kk
  refine ⟨_,rfl,go_of (s:={ s with heap:=h',toks:=tk }) (n:=T) ho hcl hd (by rcases hT with rfl | rfl <;> decide) ⟨.str ⟨#[c]⟩,H,I1,⟨u,rfl⟩,⟨rfl,c,hx,rfl⟩,st',fun b hb=>(hf b hb).1⟩⟩
 done:=by
  intro X hP hw hK hc i pins s σ H E I hf st hg
  subst hP hw hK
  have e:i = x.cps.size:=hg
  subst e
  exact (W X.A (I.ok.hd hc)).done s _ _ st fun h' tk kk=>⟨rfl,I.turnedAll hf kk⟩
 self:=fun A i s Q E st h=>sf A i s Q E st h
end
def iStr (tl:TE):TI:=fun σ H R=>tl σ H fun x H1=>∃ z,x = .str z/\R (Its z) H1
theorem pi_str {X:Cx} {tg l:Expr} {tl:TE} (hl:PE X l tl):PI X tg l (iStr tl):=by
 intro pins s σ H R I h
 refine thn (hl pins s σ H _ I h) fun v s1 ⟨x,H1,I1,r1,q1⟩=>?_
 obtain ⟨z,rfl,q⟩:=q1
 obtain ⟨t,rfl⟩:=r1
 have side:∀ b ∈ [s1.heap.objs.size],FpOk X pins H1 b:=fun b hb=>by
  have e:b = s1.heap.objs.size:=by simpa using hb
  subst e
  exact I1.fpOk (Nat.le_refl _) (I1.hok.fresh (Nat.le_refl _))
 cases ha:z.cps.all (· < 128)
 ·refine wpAny_pyIter_wide ha ⟨s1.heap.objs.size,[s1.heap.objs.size],_,_,H1,rfl,I1.kept (t':=s1.toks) fun b o e=>Heap.get?_push_of_some _ e,turn_str (t:=t) (T:="str_iterator") (.inr rfl) (fun A hh=>Walks.strWide hh _ z t) (fun A i s Q E st h=>wpAny_pyIter_striter_wide st h),⟨_,Heap.get?_push_size _ rfl,rfl,rfl⟩,side,q⟩
 ·refine wpAny_pyIter_ascii ha ⟨s1.heap.objs.size,[s1.heap.objs.size],_,_,H1,rfl,I1.kept (t':=s1.toks) fun b o e=>Heap.get?_push_of_some _ e,turn_str (t:=t) (T:="str_ascii_iterator") (.inl rfl) (fun A hh=>Walks.strAscii hh _ z t) (fun A i s Q E st h=>wpAny_pyIter_striter_ascii st h),⟨_,Heap.get?_push_size _ rfl,rfl,rfl⟩,side,q⟩
def IteS (x:Str):It:=⟨fun i _=>i < x.cps.size,fun i H v H'=>∃ T c,H T = none/\x.cps[i]? = some c/\v = .ref T/\H' = upd H T (.tup [.int i,.str ⟨#[c]⟩]),fun i _=>i = x.cps.size⟩
section
variable {P:Program} {w:World} {K:PySem.W.Frag} {elts:List Expr} {k:Nat} {tpos:Pos}
theorem enum_item {X:Cx} {pins:List (Addr × Obj)} {σ:St} {H:Hp} {s:Shared} {E:Value->Shared->Prop} {e it:Addr} {fp:List Addr} {n i:Nat} {Pr:Nat->Value->Prop} {St:Nat->Heap->Prop} {old:Value} {Qx:Value->Hp->V->Prop} {tn:Heap->Prop}
  (D:Draws X.prog X.w X.A.in1 it fp n Pr St) (I:Inv X pins σ H s) (hf:∀ b ∈ [e,it],FpOk X pins H b) (he:IsEnum s.heap e it i old) (hst:St i s.heap) (hlt:i < n) (hne:e ≠ it) (hef:e ∉ fp)
  (tnk:∀ h' o,IsEnum h' e it ((i:Int) + 1) o->St (i + 1) h'->tn h') (y:∀ v,Pr i v->∃ z,RelV z v/\Qx v H z) :
  wpAny (model X.prog X.w) X.A (pyNext (.ref e)) (fun r s1=>∃ u,r = some u/\wpAny (model X.prog X.w) X.A (letOwnedTupleGo (.Tuple elts k tpos) (.ref e) u) (fun _ s2=>∃ x H',Inv X pins σ H' s2/\RelV x u /\
   (∃ T z v,H T = none/\Pr i v/\RelV z v/\Qx v H z/\x = .ref T/\H' = upd H T (.tup [.int i,z]))/\tn s2.heap/\∀ b ∈ [e,it],H' b = none) E s1) E s:=by
 refine wpAny_pyNext_enum_itemD D he hst hlt hne hef fun v h1 tk hP ho hs' hT hsz hk=>⟨_,rfl,wpAny_letOwnedTupleGo_enum ho fun h2 he2 hs2=>?_⟩
 obtain ⟨z,rz,qz⟩:=y v hP
 have hel:e < s.heap.objs.size:=Heap.lt_size he
 have hil:it < s.heap.objs.size:=by obtain ⟨_,q⟩:=D.live _ _ hst; exact Heap.lt_size q
 have hT2:h2.get? s.heap.objs.size = some { cls:=.type "tuple",data:=.seq #[.int i tk,v] }:=(hs2.2 _ (Nat.ne_of_gt hel)).trans hT
 have ob:ObjOk X.prog X.w (upd H s.heap.objs.size (.tup [.int i,z])) h2 s.heap.objs.size (.tup [.int i,z]):=⟨(by show 2 <= sizeLine; decide),[.int i tk,v],.cons ⟨tk,rfl⟩ (.cons rz .nil),⟨_,hT2,rfl,_,rfl⟩⟩
 have I2:Inv X pins σ (upd H s.heap.objs.size (.tup [.int i,z])) { s with heap:=h2,toks:=tk + 1 }:=I.turnedLaid hf (fun b u hb q=>(hs2.2 b (fun z=>hb (by simp [z]))).trans (hk b u (fun z=>hb (by simp [z])) (fun z=>hb (by simp [z])) q)) (Nat.le_refl _) ob
 refine ⟨.ref s.heap.objs.size,_,I2,rfl,⟨s.heap.objs.size,z,v,I.hok.fresh (Nat.le_refl _),hP,rz,qz,rfl,rfl⟩,tnk h2 _ he2 (D.frame _ _ _ hs' fun b hb o q=>(hs2.2 b fun z=>hef (z ▸ hb)).trans q),fun b hb=>?_⟩
 have hb':b ≠ s.heap.objs.size:=by
  rcases List.mem_cons.mp hb with z | hb
  ·rw [z]; exact Nat.ne_of_lt hel
  ·rw [List.mem_singleton.mp hb]; exact Nat.ne_of_lt hil
 rw [upd_ne hb']
 exact (hf b hb).1
theorem turn_enumS {x:Str} {t:Tok} {T:String} {e it:Addr} (hne:e ≠ it)
  (W:∀ A:Around,A.handled = none->Draws P w A it [it] x.cps.size (fun i v=>∃ c u,x.cps[i]? = some c/\v = .str ⟨#[c]⟩ u) (fun i h=>h.IsStrIter it T x t i)) :
  Turn P w K (.Tuple elts k tpos) (IteS x) [e,it] e (fun i h=>(∃ old,IsEnum h e it i old)/\h.IsStrIter it T x t i) where
 mem:=by simp
 obj:=fun i h st b hb=>by
  obtain ⟨⟨old,he⟩,o,ho,_,hd⟩:=st
  rcases List.mem_cons.mp hb with z | hb
  ·subst z; exact ⟨_,he,fun v z=>by cases z⟩
  ·rw [List.mem_singleton.mp hb]; exact ⟨o,ho,fun v z=>by rw [hd] at z; cases z⟩
 keep:=fun i h h' st k=>by
  obtain ⟨⟨old,he⟩,o,ho,r⟩:=st
  exact ⟨⟨old,k e (by simp) _ he⟩,o,k it (by simp) o ho,r⟩
 item:=by
  intro X hP hw hK hc i pins s σ H E I hf st hg
  subst hP hw hK
  obtain ⟨⟨old,he⟩,st⟩:=st
  refine thn (enum_item (elts:=elts) (k:=k) (tpos:=tpos) (Qx:=fun v H z=>∃ c,x.cps[i]? = some c/\z = .str ⟨#[c]⟩) (tn:=fun h=>(∃ old,IsEnum h e it ((i + 1:Nat):Int) old)/\h.IsStrIter it T x t (i + 1)) (W X.A.in1 (I.ok.hd hc)) I hf he st hg hne (fun z=>hne (List.mem_singleton.mp z)) (fun h' o a b=>⟨⟨o,by simpa using a⟩,b⟩) ?_) ?_
  ·rintro v ⟨c,u,hx,rfl⟩
   exact ⟨.str ⟨#[c]⟩,⟨u,rfl⟩,c,hx,rfl⟩
  ·rintro r s1 ⟨u,hr,h1⟩
   refine ⟨u,hr,thn h1 ?_⟩
   rintro _ s2 ⟨xv,H',I2,rx,⟨Ta,z,v,hT,hv,rz,⟨c,hx,rfl⟩,ex,eH⟩,tn2,fr⟩
   exact ⟨xv,H',I2,rx,⟨Ta,c,hT,hx,ex,eH⟩,tn2,fr⟩
 done:=by
  intro X hP hw hK hc i pins s σ H E I hf st hg
  subst hP hw hK
  obtain ⟨⟨old,he⟩,st⟩:=st
  have ei:i = x.cps.size:=hg
  subst ei
  exact wpAny_pyNext_enum_endD (W X.A.in1 (I.ok.hd hc)) he st fun h' hx=>⟨rfl,I.turnedAll (t':=s.toks) hf fun b o hb q=>hx b o (fun z=>hb (by simp [z])) q⟩
 self:=fun A i s Q E st h=>by
  obtain ⟨⟨old,he⟩,_⟩:=st
  exact wpAny_pyIter_enum he h
end
def iEnS (ta:TA):TI:=fun σ H R=>ta σ H fun vs H1=>∃ z,vs = [.str z]/\R (IteS z) H1
section
variable {X:Cx} {a:Expr} {ta:TA} {p pos:Pos} {elts:List Expr} {k:Nat} {tpos:Pos}
theorem fresh2 {pins:List (Addr × Obj)} {σ:St} {H:Hp} {s:Shared} (I:Inv X pins σ H s):∀ b ∈ [s.heap.objs.size + 1,s.heap.objs.size],FpOk X pins H b:=fun b hb=>by
 rcases List.mem_cons.mp hb with z | hb
 ·subst z; exact I.fpOk (Nat.le_succ _) (I.hok.fresh (Nat.le_succ _))
 ·rw [List.mem_singleton.mp hb]; exact I.fpOk (Nat.le_refl _) (I.hok.fresh (Nat.le_refl _))
theorem pi_enumS (hg : Gl X "enumerate") (hm : X.mg "enumerate" = none) (ha : PA X [a] ta) (hs : starEach [a] X.env = [(false, eval a X.env)] := by rfl) : PI X (.Tuple elts k tpos) (.Call (.Name "enumerate" p) [a] [] pos) (iEnS ta) := by
  intro pins s σ H R I h
  refine Call_ (ld_blt I hg hm boot_enumerate (PyProof.Rows.callWith_type1 (thn (ha pos pins s σ H _ I h) fun us s1 ⟨vs, H1, I1, r1, q1⟩ => ?_) hs rfl))
  obtain ⟨z, e, q⟩ := q1
  subst e
  cases r1 with
  | cons r rr =>
    cases rr
    obtain ⟨t, rfl⟩ := r
    refine call_enumerate_str fun h' he hit hsz hk => wpAny_pyIter_enum he ?_
    cases hall : z.cps.all (· < 128)
    · have hit' : h'.IsStrIter s1.heap.objs.size "str_iterator" z t 0 := by simpa [strIterType, hall] using hit
      exact ⟨s1.heap.objs.size + 1, [s1.heap.objs.size + 1, s1.heap.objs.size], _, _, H1, rfl, I1.kept (t' := s1.toks) hk, turn_enumS (t := t) (T := "str_iterator") (Nat.succ_ne_self _) (fun A hh => Draws.strWide hh _ z t), ⟨⟨_, he⟩, hit'⟩, fresh2 I1, q⟩
    · have hit' : h'.IsStrIter s1.heap.objs.size "str_ascii_iterator" z t 0 := by simpa [strIterType, hall] using hit
      exact ⟨s1.heap.objs.size + 1, [s1.heap.objs.size + 1, s1.heap.objs.size], _, _, H1, rfl, I1.kept (t' := s1.toks) hk, turn_enumS (t := t) (T := "str_ascii_iterator") (Nat.succ_ne_self _) (fun A hh => Draws.strAscii hh _ z t), ⟨⟨_, he⟩, hit'⟩, fresh2 I1, q⟩
end
end L2
namespace L2
open PySem PySem.Spec PyProof.Rows
def tx (l:List Nat):V:=.str ⟨l.toArray⟩
theorem tx_inj {a b:List Nat}:tx a = tx b ↔ a = b:=by
 unfold tx
 constructor
 ·intro h
  injection h with h
  injection h with h
  simpa using congrArg Array.toList h
 ·rintro rfl; rfl
theorem tx_len (a:List Nat):(⟨a.toArray⟩:Str).length = a.length:=by simp [Str.length]
theorem eqV_tx (a b:List Nat):eqV (tx a) (tx b) = decide (a = b):=by
 have e:eqV (tx a) (tx b) = ((⟨a.toArray⟩:Str) == ⟨b.toArray⟩):=rfl
 rw [e]
 by_cases h:a = b
 ·subst h; simp
 ·rw [decide_eq_false h,beq_eq_false_iff_ne]
  intro q
  exact h (tx_inj.mp (congrArg V.str q))
theorem dec_tx (a b:List Nat):decide (tx a = tx b) = decide (a = b):=by
 by_cases h:a = b
 ·subst h; simp
 ·rw [decide_eq_false h,decide_eq_false (fun q=>h (tx_inj.mp q))]
section
variable {X:Cx}
theorem pe_tx {x:Str} {l:List Nat} {j pos} (h:x = ⟨l.toArray⟩):PE X (.Constant (.str x) j pos) (tC (tx l)):=by
 subst h
 exact pe_str
theorem op_addT:OpR X (binaryOp .Add) (fun x y H Q=>∃ a b,x = tx a/\y = tx b/\a.length + b.length <= sizeLine/\Q (tx (a ++ b)) H):=by
 intro pins s σ H x y v u Q I rx ry ⟨a,b,e1,e2,hz,q⟩
 subst e1 e2
 refine op_add_str pins s σ H _ _ v u Q I rx ry ⟨_,_,rfl,rfl,by rw [tx_len,tx_len]; exact hz,?_⟩
 have e:(V.str ((⟨a.toArray⟩:Str) ++ ⟨b.toArray⟩)) = tx (a ++ b):=by
  unfold tx
  congr 1
  show (⟨a.toArray ++ b.toArray⟩:Str) = _
  simp
 rw [e]; exact q
def rIxT':R2:=fun x y H Q=>∃ a i c,x = tx a/\y = .int i/\a.length <= sizeLine/\atI a i = some c/\Q (tx [c]) H
theorem ix_T:IxR X rIxT':=by
 intro value slice pins s σ H x y v u Q I rx ry ⟨a,i,c,e1,e2,hz,he,q⟩ hs
 subst e1 e2
 exact ix_str value slice pins s σ H _ _ v u Q I rx ry ⟨_,i,c,rfl,rfl,by rw [tx_len]; exact hz,by simpa using he,q⟩ hs
theorem call_lenT:CallR X (.builtin "len") (fun xs H Q=>∃ a,xs = [tx a]/\a.length <= sizeLine/\Q (.int a.length) H):=by
 intro pins s σ H xs us Q I r ⟨a,e,hz,q⟩
 subst e
 refine call_len_str pins s σ H _ us Q I r ⟨_,rfl,by rw [tx_len]; exact hz,?_⟩
 rw [tx_len]; exact q
theorem op_inT:OpR X (compareOp .In) (fun x y H Q=>∃ c l,x = tx [c]/\y = tx l/\Q (.bl (decide (c ∈ l))) H):=by
 intro pins s σ H x y v u Q I rx ry ⟨c,l,e1,e2,q⟩
 subst e1 e2
 refine op_in_str pins s σ H _ _ v u Q I rx ry ⟨_,_,rfl,rfl,?_⟩
 have e:=PySem.StrLaws.found_one (⟨l.toArray⟩:Str) c
 simp only at e
 rw [show (⟨[c].toArray⟩:Str) = ⟨#[c]⟩ from rfl,e]
 exact q
theorem op_notinT:OpR X (compareOp .NotIn) (fun x y H Q=>∃ c l,x = tx [c]/\y = tx l/\Q (.bl (!decide (c ∈ l))) H):=by
 intro pins s σ H x y v u Q I rx ry ⟨c,l,e1,e2,q⟩
 subst e1 e2
 refine op_notin_str pins s σ H _ _ v u Q I rx ry ⟨_,_,rfl,rfl,?_⟩
 have e:=PySem.StrLaws.found_one (⟨l.toArray⟩:Str) c
 simp only at e
 rw [show (⟨[c].toArray⟩:Str) = ⟨#[c]⟩ from rfl,e]
 exact q
theorem rep_fold (a : List Nat) : ∀ (n : Nat) (acc : Array Nat), ((List.replicate n a.toArray).foldl (· ++ ·) acc) = (acc.toList ++ (List.replicate n a).flatten).toArray
  | 0, acc => by simp
  | n + 1, acc => by
    rw [List.replicate_succ, List.foldl_cons, rep_fold a n, List.replicate_succ, List.flatten_cons]
    simp
theorem op_mulT:OpR X (binaryOp .Mult) (fun x y H Q=>∃ a k,x = tx a/\y = .int k/\0 <= k/\k <= 1000/\a.length <= 1000/\Q (tx (List.replicate k.toNat a).flatten) H):=by
 intro pins s σ H x y v u Q I rx ry ⟨a,k,e1,e2,h0,h1,hl,q⟩
 subst e1 e2
 obtain ⟨t,rfl⟩:=rx
 obtain ⟨t',rfl⟩:=ry
 have e:Txt.mul ⟨a.toArray⟩ k = ⟨((List.replicate k.toNat a).flatten).toArray⟩:=by
  unfold Txt.mul
  by_cases hk:k < 1
  ·have:k = 0:=by omega
   subst this
   rfl
  ·rw [if_neg hk]
   split
   ·rename_i hc
    rw [tx_len] at hc
    simp only [Bool.or_eq_true,beq_iff_eq] at hc
    rcases hc with hc | hc
    ·subst hc; simp
    ·have:a = []:=List.length_eq_zero_iff.mp hc
     subst this
     simp
   ·simp only
    rw [rep_fold]
    simp
 refine SB.mul ⟨by simp; omega,fun h2 _=>?_,fun h2 _=>?_⟩ fun t2 tk=>⟨tx (List.replicate k.toNat a).flatten,H,I.tok tk,⟨t2,by rw [e]⟩,q⟩
 ·rw [tx_len]
  have:(1000:Int) <= (2 ^ 63 - 1) / k:=by
   refine Int.le_ediv_of_mul_le (by omega) ?_
   omega
  omega
 ·rw [tx_len]
  unfold Builtin.Str.tooLong
  have hs:sizeLine = 16777216:=sizeLine_eq
  have:a.length * k.toNat <= 1000 * 1000:=Nat.mul_le_mul hl (by omega)
  simp; omega
def cutL {α:Type} (xs:List α) (lo hi:Option Int):List α:=(xs.drop (HT.sIx xs.length 0 lo)).take (HT.sIx xs.length xs.length hi - HT.sIx xs.length 0 lo)
theorem clipS (v : Option Int) (n d : Nat) (hd : d <= n) : (match v with | none => (d : Int) | some i => max 0 (min (if i < 0 then i + (n : Int) else i) (n : Int))) = ((HT.sIx n d v : Nat) : Int) := by
  cases v with
  | none => rfl
  | some i =>
    show max 0 (min (if i < 0 then i + (n : Int) else i) (n : Int)) = (((if i < 0 then (i + (n : Int)).toNat else min i.toNat n) : Nat) : Int)
    by_cases hv : i < 0
    · simp only [if_pos hv]; omega
    · simp only [if_neg hv]; omega
theorem idx_run (lo hi:Option Int) (n:Nat):Builtin.Str.strSliceIndices lo hi 1 n = (List.range (HT.sIx n n hi - HT.sIx n 0 lo)).map fun k=>HT.sIx n 0 lo + k:=by
 have h1:(1:Int) > 0:=by omega
 have key:Builtin.Str.strSliceIndices lo hi 1 n = sliceRange ((HT.sIx n 0 lo:Nat):Int) ((HT.sIx n n hi:Nat):Int) 1:=by
  unfold Builtin.Str.strSliceIndices
  simp only [h1,if_true]
  congr 1
  ·cases lo with
   | none=>rfl
   | some i=>exact clipS (some i) n 0 (Nat.zero_le _)
  ·cases hi with
   | none=>rfl
   | some i=>exact clipS (some i) n n (Nat.le_refl _)
 rw [key]
 unfold sliceRange
 simp only [h1,if_true]
 have e3:(if ((HT.sIx n 0 lo:Nat):Int) < ((HT.sIx n n hi:Nat):Int) then (((HT.sIx n n hi:Nat):Int) - ((HT.sIx n 0 lo:Nat):Int) + 1 - 1) / 1 else 0).toNat = HT.sIx n n hi - HT.sIx n 0 lo:=by
  split <;> omega
 rw [e3]
 refine List.map_congr_left fun k _=>?_
 omega
theorem pick_cut (a : List Nat) (i k : Nat) : ((List.range k).map fun m => i + m).filterMap (fun j => a.toArray[j]?) = (a.drop i).take k := by
  rw [List.filterMap_map]
  induction k generalizing i with
  | zero => simp
  | succ k ih =>
    rw [List.range_succ, List.filterMap_append, ih i, List.take_add_one]
    congr 1
    simp only [List.filterMap_cons, List.filterMap_nil, Function.comp]
    rw [List.getElem?_drop]
    simp only [List.getElem?_toArray]
    cases a[i + k]? <;> rfl
theorem cut_le {α:Type} (a:List α) (lo hi:Option Int):(cutL a lo hi).length <= a.length:=by
 unfold cutL; rw [List.length_take,List.length_drop]; omega
def rSlS:V->Option Int->Option Int->Hp->VK->Prop:=fun x lo hi H Q=>∃ a,x = tx a/\a.length <= sizeLine/\Q (tx (cutL a lo hi)) H
theorem sl_T:SlR X rSlS:=by
 intro pins s σ H x v vl vu lo hi sl Q I rx hs pl pu ⟨a,e,hz,q⟩
 subst e
 obtain ⟨t,rfl⟩:=rx
 refine ⟨"str",_,F.slot_str_getitem.lookup,typeIs_str _ _ _,?_⟩
 obtain ⟨l,el,ml⟩:∃ l:Option (Int × Tok),vl = partValue l/\l.map (·.1) = lo:=by
  cases pl with
  | none=>exact ⟨none,rfl,rfl⟩
  | int i t=>exact ⟨some (i,t),rfl,rfl⟩
 obtain ⟨u,eu,mu⟩:∃ u:Option (Int × Tok),vu = partValue u/\u.map (·.1) = hi:=by
  cases pu with
  | none=>exact ⟨none,rfl,rfl⟩
  | int i t=>exact ⟨some (i,t),rfl,rfl⟩
 subst el eu
 refine wpAny_getItem_str_slice (l:=l) (u:=u) (st:=none) hs rfl ?_
 have hle:=cut_le a lo hi
 have ep:slicePicked ⟨a.toArray⟩ l u none = (List.range (HT.sIx a.length a.length hi - HT.sIx a.length 0 lo)).map fun k=>HT.sIx a.length 0 lo + k:=by
  unfold slicePicked
  rw [ml,mu,tx_len]
  exact idx_run lo hi a.length
 have ec:((slicePicked ⟨a.toArray⟩ l u none).filterMap (a.toArray[·]?)) = cutL a lo hi:=by
  rw [ep]; exact pick_cut a _ _
 unfold sliceMade
 refine post_val_or_str ?_
 have fin:(if ((Option.map (fun x=>x.1) (none:Option (Int × Tok))).getD 1 == 1 && (slicePicked ⟨a.toArray⟩ l u none).length == (⟨a.toArray⟩:Str).length) = true then (⟨a.toArray⟩:Str) else ⟨((slicePicked ⟨a.toArray⟩ l u none).filterMap (a.toArray[·]?)).toArray⟩) = ⟨(cutL a lo hi).toArray⟩:=by
  rw [ec]
  split
  ·rename_i hc
   rw [ep,tx_len] at hc
   simp only [Option.map_none,Option.getD_none,beq_self_eq_true,Bool.true_and,List.length_map,List.length_range,beq_iff_eq] at hc
   have hl:HT.sIx a.length a.length hi <= a.length:=HT.sIx_le _ _ (Nat.le_refl _) _
   have h0:HT.sIx a.length 0 lo = 0\/a.length = 0:=by omega
   unfold cutL
   rw [hc]
   rcases h0 with h0 | h0
   ·rw [h0,List.drop_zero,List.take_length]
   ·have:a = []:=List.length_eq_zero_iff.mp h0
    subst this
    simp
  ·rfl
 have fin':=fin
 simp only at fin' ⊢
 rw [fin']
 refine ⟨by rw [tx_len]; omega,fun t' k=>⟨tx (cutL a lo hi),H,I.tok k,⟨t',rfl⟩,q⟩⟩
theorem call_isi:CallR X (.builtin "isinstance") (fun xs H Q=>∃ x T t b,xs = [x,.ty T]/\TyOf X.K H x t/\PySem.W.kitOne X.K t (.type T) = some b/\Q (.bl b) H):=by
 intro pins s σ H xs us Q I r ⟨x,T,t,b,e,ty,hk,q⟩
 subst e
 obtain ⟨u,w',rfl,ru,rw'⟩:=vals2 r
 cases rw'
 exact isinst_ok I ru ty hk fun tk=>⟨.bl b,H,I.tok tk,rfl,q⟩
theorem call_allL:CallR X (.builtin "all") (fun xs H Q=>X.calm = true/\∃ (a:Addr) (bs:List Bool),xs = [.ref a]/\SqL X.K H a (bs.map V.bl)/\Q (.bl (bs.all id)) H):=by
 intro pins s σ H xs us Q I r ⟨hc,a,bs,e,hq,q⟩
 subst e
 obtain ⟨u,rfl,ru⟩:=vals1 r
 cases ru
 obtain ⟨its,rv,pl,hz⟩:=I.list hq
 obtain ⟨ol,hol,_⟩:=id pl.isList
 have hl:a < s.heap.objs.size:=Heap.lt_size hol
 have hlen:=rv.length
 rw [List.length_map] at hlen
 refine call_all_walk (wpAny_pyIter_list pl.isList ⟨s.heap.objs.size,_,_,_,_,_,fun i=>bs.getD i false,rfl,Walks.list (A:=X.A.in1) (I.ok.hd hc) s.heap.objs.size a (Nat.ne_of_lt hl) its.toArray,⟨⟨_,Heap.get?_push_size _ rfl,rfl,rfl⟩,pl.isList.at fun o e=>Heap.get?_push_of_some _ e⟩,?_,fun h' tk kk=>?_⟩)
 ·intro i v s' Q' E' hv hQ'
  have hv':its[i]? = some v:=by simpa using hv
  have hi:i < bs.length:=by rw [hlen]; exact (List.getElem?_eq_some_iff.mp hv').1
  obtain ⟨w',e1,e2⟩:=rv.get (i:=i) (x:=V.bl bs[i]) (by simp [hi])
  rw [hv'] at e1
  cases e1
  cases e2
  have:bs.getD i false = bs[i]:=by simp [List.getD_eq_getElem?_getD,hi]
  simp only [this] at hQ'
  exact wpAny_truthy_bool hQ'
 ·have e:(List.range its.toArray.size).all (fun i=>bs.getD i false) = bs.all id:=by
   rw [List.size_toArray,<- hlen]
   rw [Bool.eq_iff_iff]
   simp only [List.all_eq_true,List.mem_range,id]
   constructor
   ·intro h b hb
    obtain ⟨i,hi,rfl⟩:=List.mem_iff_getElem.mp hb
    have:=h i hi
    simpa [List.getD_eq_getElem?_getD,hi] using this
   ·intro h i hi
    have:=h bs[i] (List.getElem_mem hi)
    simpa [List.getD_eq_getElem?_getD,hi] using this
  rw [e]
  have I1:Inv X pins σ H { s with heap:=s.heap.push { cls:=.type "list_iterator",data:=.fields #[.ref a,.int 0 0] } }:=I.kept (t':=s.toks) fun b o z=>Heap.get?_push_of_some _ z
  refine ⟨.bl (bs.all id),H,I.kept (t':=tk) fun b o z=>kk b o (fun y=>?_) (Heap.get?_push_of_some _ z),rfl,q⟩
  exact absurd (Heap.lt_size z) (by rw [List.mem_singleton.mp y]; exact Nat.lt_irrefl _)
def eqVs:List V->List V->Bool
 | [],[]=>true
 | x :: xs,y :: ys=>eqV x y && eqVs xs ys
 | _,_=>false
theorem eqVs_len : ∀ {xs ys : List V}, xs.length ≠ ys.length -> eqVs xs ys = false
  | [], [], h => absurd rfl h
  | [], _ :: _, _ => rfl
  | _ :: _, [], _ => rfl
  | x :: xs, y :: ys, h => by
    have : eqVs xs ys = false := eqVs_len (by simpa using h)
    show (eqV x y && eqVs xs ys) = false
    rw [this, Bool.and_false]
theorem eqVs_range : ∀ (xs ys : List V), xs.length = ys.length -> (List.range xs.length).all (fun i => eqV (xs.getD i .non) (ys.getD i .non)) = eqVs xs ys
  | [], [], _ => rfl
  | x :: xs, y :: ys, h => by
    have ih := eqVs_range xs ys (by simpa using h)
    rw [List.length_cons, List.range_succ_eq_map, List.all_cons, List.all_map]
    show (eqV x y && _) = (eqV x y && eqVs xs ys)
    rw [<- ih]
    rfl
  | [], _ :: _, h => by simp at h
  | _ :: _, [], h => by simp at h
theorem eqVs_at {A:Around} {s:Shared} {xs ys:List V} {us ws:List Value} (r1:Vals xs us) (r2:Vals ys ws) (f1:xs.all flatV = true) (f2:ys.all flatV = true) :
  ∀ j (h1:j < us.toArray.size) (h2:j < ws.toArray.size),SeqAt.EqAt A s us.toArray[j] ws.toArray[j] (eqV (xs.getD j .non) (ys.getD j .non)):=by
 intro j h1 h2
 have l1:=r1.length
 have l2:=r2.length
 rw [List.size_toArray] at h1 h2
 have k1:j < xs.length:=by omega
 have k2:j < ys.length:=by omega
 obtain ⟨u,e1,q1⟩:=r1.get (i:=j) (x:=xs[j]) (by simp [k1])
 obtain ⟨w',e2,q2⟩:=r2.get (i:=j) (x:=ys[j]) (by simp [k2])
 have eu:us.toArray[j] = u:=by
  have:=List.getElem?_eq_getElem (l:=us) (i:=j) h1
  rw [e1] at this
  simpa using (Option.some.inj this).symm
 have ew:ws.toArray[j] = w':=by
  have:=List.getElem?_eq_getElem (l:=ws) (i:=j) h2
  rw [e2] at this
  simpa using (Option.some.inj this).symm
 rw [eu,ew]
 have g1:xs.getD j .non = xs[j]:=by simp [List.getD_eq_getElem?_getD,k1]
 have g2:ys.getD j .non = ys[j]:=by simp [List.getD_eq_getElem?_getD,k2]
 rw [g1,g2]
 exact eqAt_V q1 q2 (List.all_eq_true.mp f1 _ (List.getElem_mem k1)) (List.all_eq_true.mp f2 _ (List.getElem_mem k2))
def rEqL (K:PySem.W.Frag) (neg:Bool):R2:=fun x y H Q=>∃ a b xs ys,x = .ref a/\y = .ref b/\SqL K H a xs/\SqL K H b ys/\xs.all flatV = true/\ys.all flatV = true/\Q (.bl (if neg then !eqVs xs ys else eqVs xs ys)) H
theorem op_eqL (hu:X.A.units < cLine):OpR X (compareOp .Eq) (rEqL X.K false):=by
 intro pins s σ H x y v u Q I rx ry ⟨a,b,xs,ys,e1,e2,q1,q2,f1,f2,q⟩
 subst e1 e2
 cases rx
 cases ry
 obtain ⟨us,r1,p1,z1⟩:=I.list q1
 obtain ⟨ws,r2,p2,z2⟩:=I.list q2
 have l1:=r1.length
 have l2:=r2.length
 by_cases hl:xs.length = ys.length
 ·refine SeqAt.eq_listAt p1.isList p2.isList (by simp; omega) hu (eqVs_at r1 r2 f1 f2) ⟨.bl _,H,I,rfl,?_⟩
  rw [List.size_toArray,<- l1,eqVs_range xs ys hl]
  exact q
 ·refine SeqAt.eq_list_lengthsAt p1.isList p2.isList (by simp; omega) hu ⟨.bl _,H,I,rfl,?_⟩
  rw [<- eqVs_len hl]
  exact q
theorem op_neL (hu:X.A.units < cLine):OpR X (compareOp .NotEq) (rEqL X.K true):=by
 intro pins s σ H x y v u Q I rx ry ⟨a,b,xs,ys,e1,e2,q1,q2,f1,f2,q⟩
 subst e1 e2
 cases rx
 cases ry
 obtain ⟨us,r1,p1,z1⟩:=I.list q1
 obtain ⟨ws,r2,p2,z2⟩:=I.list q2
 have l1:=r1.length
 have l2:=r2.length
 by_cases hl:xs.length = ys.length
 ·refine SeqAt.RcNeAt.lists p1.isList p2.isList (by simp; omega) hu (eqVs_at r1 r2 f1 f2) _ _ _ _ ⟨.bl _,H,I,rfl,?_⟩
  rw [List.size_toArray,<- l1,eqVs_range xs ys hl]
  exact q
 ·refine SeqAt.RcNeAt.lists_lengths p1.isList p2.isList (by simp; omega) hu _ _ _ _ ⟨.bl _,H,I,rfl,?_⟩
  have:eqVs xs ys = false:=eqVs_len hl
  rw [if_pos rfl,this] at q
  exact q
def litV:V->Bool
 | .non=>true
 | .bl _=>true
 | _=>false
theorem op_isB:OpR X (compareOp .Is) (fun x y H Q=>litV y = true/\Q (.bl (decide (x = y))) H):=by
 intro pins s σ H x y v u Q I rx ry ⟨hl,q⟩
 refine wpAny_is_plain ?_ ⟨.bl _,H,I,?_,q⟩
 ·cases y <;> first
   | (exact absurd hl Bool.false_ne_true)
   | (cases ry; cases x <;> first | (cases rx; rfl) | (obtain ⟨t,rfl⟩:=rx; rfl))
 ·cases y <;> first
   | (exact absurd hl Bool.false_ne_true)
   | (cases ry; cases x <;> first | (cases rx; rfl) | (obtain ⟨t,rfl⟩:=rx; rfl) | (cases rx; rename_i b1 _ b2; cases b1 <;> cases b2 <;> rfl) | (cases rx; rename_i b1 b2; cases b1 <;> cases b2 <;> rfl) | (cases rx; rename_i b1 _ b2 _; cases b1 <;> cases b2 <;> rfl))
theorem op_isNotB:OpR X (compareOp .IsNot) (fun x y H Q=>litV y = true/\Q (.bl (!decide (x = y))) H):=by
 intro pins s σ H x y v u Q I rx ry ⟨hl,q⟩
 refine wpAny_isNot_plain ?_ ⟨.bl _,H,I,?_,q⟩
 ·cases y <;> first
   | (exact absurd hl Bool.false_ne_true)
   | (cases ry; cases x <;> first | (cases rx; rfl) | (obtain ⟨t,rfl⟩:=rx; rfl))
 ·cases y <;> first
   | (exact absurd hl Bool.false_ne_true)
   | (cases ry; cases x <;> first | (cases rx; rfl) | (obtain ⟨t,rfl⟩:=rx; rfl) | (cases rx; rename_i b1 _ b2; cases b1 <;> cases b2 <;> rfl) | (cases rx; rename_i b1 b2; cases b1 <;> cases b2 <;> rfl) | (cases rx; rename_i b1 _ b2 _; cases b1 <;> cases b2 <;> rfl))
end
end L2
namespace L2
open PySem PySem.Spec PyProof.Rows
section
variable {X:Cx}
def rPlus:R2:=fun x y H Q=>(∃ i j,x = .int i/\y = .int j/\Q (.int (i + j)) H)\/(∃ a b,x = tx a/\y = tx b/\a.length + b.length <= sizeLine/\Q (tx (a ++ b)) H)\/rCat x y H Q
theorem op_plus:OpR X (binaryOp .Add) rPlus:=op_add.or (op_addT.or op_cat)
def rMulT:R2:=fun x y H Q=>∃ a k,x = tx a/\y = .int k/\0 <= k/\k <= 1000/\a.length <= 1000/\Q (tx (List.replicate k.toNat a).flatten) H
def rTimes:R2:=fun x y H Q=>(∃ i j,x = .int i/\y = .int j/\CMul i j/\Q (.int (i * j)) H)\/rRep x y H Q\/rMulT x y H Q
theorem op_times:OpR X (binaryOp .Mult) rTimes:=op_mul.or (op_rep.or op_mulT)
def rEqA (K:PySem.W.Frag):R2:=fun x y H Q=>rEq x y H Q\/rEqL K false x y H Q
theorem op_eqA (K:PySem.W.Frag) (hu:X.A.units < cLine) (hK:X.K = K:=by rfl):OpR X (compareOp .Eq) (rEqA K):=by subst hK; exact op_eq.or (op_eqL hu)
def rNeA (K:PySem.W.Frag):R2:=fun x y H Q=>rNe x y H Q\/rEqL K true x y H Q
theorem op_neA (K:PySem.W.Frag) (hu:X.A.units < cLine) (hK:X.K = K:=by rfl):OpR X (compareOp .NotEq) (rNeA K):=by subst hK; exact op_ne.or (op_neL hu)
def rInA (K:PySem.W.Frag):R2:=fun x y H Q=>(∃ c l,x = tx [c]/\y = tx l/\Q (.bl (decide (c ∈ l))) H)\/rIn K false x y H Q
theorem op_inA (K:PySem.W.Frag) (hK:X.K = K:=by rfl):OpR X (compareOp .In) (rInA K):=by subst hK; exact op_inT.or op_in_seq
def rNotInA (K:PySem.W.Frag):R2:=fun x y H Q=>(∃ c l,x = tx [c]/\y = tx l/\Q (.bl (!decide (c ∈ l))) H)\/rIn K true x y H Q
theorem op_notinA (K:PySem.W.Frag) (hK:X.K = K:=by rfl):OpR X (compareOp .NotIn) (rNotInA K):=by subst hK; exact op_notinT.or op_notIn_seq
def rIsA:R2:=fun x y H Q=>litV y = true/\Q (.bl (decide (x = y))) H
theorem op_isA:OpR X (compareOp .Is) rIsA:=op_isB
def rIsNotA:R2:=fun x y H Q=>litV y = true/\Q (.bl (!decide (x = y))) H
theorem op_isnotA:OpR X (compareOp .IsNot) rIsNotA:=op_isNotB
def rIxA (K:PySem.W.Frag):R2:=fun x y H Q=>rIxT' x y H Q\/rIxL K x y H Q\/rIxT K x y H Q
theorem ix_A (K:PySem.W.Frag) (hK:X.K = K:=by rfl):IxR X (rIxA K):=by subst hK; exact ix_T.or (ix_list.or ix_tup)
def rSlA (K:PySem.W.Frag):V->Option Int->Option Int->Hp->VK->Prop:=fun x lo hi H Q=>rSlS x lo hi H Q\/rSlL K x lo hi H Q
theorem sl_A (K:PySem.W.Frag) (hK:X.K = K:=by rfl):SlR X (rSlA K):=by subst hK; exact sl_T.or sl_list
def rLen (K:PySem.W.Frag):List V->Hp->VK->Prop:=fun xs H Q=>(∃ a,xs = [tx a]/\a.length <= sizeLine/\Q (.int a.length) H)\/∃ p ys,xs = [.ref p]/\(SqL K H p ys\/SqT K H p ys)/\Q (.int ys.length) H
theorem call_lenA (K:PySem.W.Frag) (hK:X.K = K:=by rfl):CallR X (.builtin "len") (rLen K):=by subst hK; exact call_lenT.or call_len_seq
def rAll (K:PySem.W.Frag):List V->Hp->VK->Prop:=fun xs H Q=>∃ (a:Addr) (bs:List Bool),xs = [.ref a]/\SqL K H a (bs.map V.bl)/\Q (.bl (bs.all id)) H
theorem call_allA (K:PySem.W.Frag) (hc:X.calm = true) (hK:X.K = K:=by rfl):CallR X (.builtin "all") (rAll K):=by subst hK; exact fun pins s σ H xs us Q I r h=>call_allL pins s σ H xs us Q I r ⟨hc,h⟩
def rIsi (K:PySem.W.Frag):List V->Hp->VK->Prop:=fun xs H Q=>∃ x T t b,xs = [x,.ty T]/\TyOf K H x t/\PySem.W.kitOne K t (.type T) = some b/\Q (.bl b) H
theorem call_isiA (K:PySem.W.Frag) (hK:X.K = K:=by rfl):CallR X (.builtin "isinstance") (rIsi K):=by subst hK; exact call_isi
def rInt:List V->Hp->VK->Prop:=fun xs H Q=>(∃ i,xs = [.int i]/\Q (.int i) H)\/∃ k,xs = [.bl k]/\Q (.int (if k then 1 else 0)) H
theorem call_intA:CallR X (.type "int") rInt:=call_int1
def tTru (K:PySem.W.Frag) (ta:TE):TT:=fun σ H Q=>ta σ H fun x H'=>∃ k,TruV K x H' k/\Q k H'
theorem pt_tru (K:PySem.W.Frag) {a:Expr} {ta:TE} (ha:PE X a ta) (he:∀ whole,isTrue a X.env whole = (do let v <- whole; standAt a.pos; holding [v] (truthy v)):=by intro _; rfl) (hK:X.K = K:=by rfl):PT X a (tTru K ta):=by subst hK; exact pt_truth ha he
theorem pi_listK (K:PySem.W.Frag) {tg l:Expr} {tl:TE} (hl:PE X l tl) (hK:X.K = K:=by rfl):PI X tg l (iList K tl):=by subst hK; exact pi_list hl
theorem pg_tupK (K:PySem.W.Frag) {es:List Expr} {k:Nat} {t:TGs} {n:Nat} {pos:Pos} (hc:X.calm = true) (h:PGs X es t)
  (hn:(assignEach es X.env).length = n:=by rfl) (hst:(assignEach es X.env).findIdx? (·.1) = none:=by rfl) (hK:X.K = K:=by rfl):PG X (.Tuple es k pos) (gTup K n t):=by subst hK; exact pg_tup hc h hn hst
theorem pe_bm0K (K:PySem.W.Frag) {o:Expr} {to:TE} {name:Str} {apos cpos:Pos} {T id:String} {r:V->List V->Hp->VK->Prop} (pa:PlainAttrs T) (slot:Slot T name id) (hty:typeOf (.builtin id) = pure (.type "method_descriptor")) (hm:MtR X id r) (ho:PE X o to)
  (hbase:attributeBase o name X.env (eval o X.env) = eval o X.env:=by rfl) (hline:(apos.endLine == cpos.line) = true:=by rfl) (hK:X.K = K:=by rfl):PE X (.Call (.Attribute o name apos) [] [] cpos) (tBM0 K T r to):=by subst hK; exact pe_bm0 pa slot hty hm ho hbase hline
theorem pe_bmK (K : PySem.W.Frag) {o e : Expr} {es : List Expr} {to : TE} {t : TA} {name : Str} {apos cpos : Pos} {T id : String} {r : V -> List V -> Hp -> VK -> Prop} (pa : PlainAttrs T) (slot : Slot T name id) (hty : typeOf (.builtin id) = pure (.type "method_descriptor")) (hm : MtR X id r) (ho : PE X o to) (ha : PA X (e :: es) t)
  (hbase : attributeBase o name X.env (eval o X.env) = eval o X.env := by rfl)
  (hfew : ((backTo cpos (starEach (e :: es) X.env)).all (fun x => !x.1) && (backToKw cpos (keywordEach [] X.env)).all (fun x => x.1.isSome)
   && decide ((e :: es).length + ([] : List Keyword).length + (if ([] : List Keyword).isEmpty then 0 else 1) < 30)) = true := by rfl)
  (hline : (apos.endLine == cpos.line) = true := by rfl) (hs : starEach (e :: es) X.env = (false, eval e X.env) :: starEach es X.env := by rfl) (hplain : (backTo cpos (starEach es X.env)).any (·.1) = false := by rfl) (hK : X.K = K := by rfl) :
  PE X (.Call (.Attribute o name apos) (e :: es) [] cpos) (tBM K T r to t) := by subst hK; exact pe_bm pa slot hty hm ho ha hbase hfew hline hs hplain
theorem pe_gl {x:Str} {v:V} {pos:Pos} (h:∃ u,X.mg x = some u/\RelV v u) (hg:Gl X x:=by rfl) (hd:(x == ("__debug__" : Str)) = false:=by decide):PE X (.Name x pos) (tC v):=by
 obtain ⟨u,hm,r⟩:=h
 exact pe_glob hg hm r hd
theorem pe_ty {x:Str} {T:String} {pos:Pos} (hm:X.mg x = none) (hv:bootBuiltins x = some (.type T)) (hg:Gl X x:=by rfl) (hn:x ≠ "__name__":=by decide) (hd:(x == ("__debug__" : Str)) = false:=by decide):PE X (.Name x pos) (tC (.ty T)) :=
 pe_bltn hg hm hv rfl hn hd
structure FnU (P:Program) (w:World) (K:PySem.W.Frag) (mg:Str->Option Value) (base:Heap) (k:Nat) (x:Str) (ps:List Str) (sp:Sp):Prop where
 ex:∃ f fd,FnOk P w K mg base CX0 k f fd ps sp/\mg x = some (.ref f)/\PySem.W.keepIn K (.ref f) = true/\Binds K fd ps []
theorem FnU.mono {P:Program} {w:World} {K:PySem.W.Frag} {mg:Str->Option Value} {base:Heap} {j k:Nat} {x:Str} {ps:List Str} {sp:Sp} (U:FnU P w K mg base j x ps sp) (h:j <= k):FnU P w K mg base k x ps sp:=by
 obtain ⟨f,fd,F,a,b,c⟩:=U.ex
 exact ⟨f,fd,F.mono h,a,b,c⟩
theorem pe_fn {k:Nat} {x:Str} {ps:List Str} {sp:Sp} {e:Expr} {es:List Expr} {t:TA} {p pos:Pos} (U:FnU X.prog X.w X.K X.mg X.base k x ps sp) (hr:Room k X.A) (ha:PA X (e :: es) t) (hg:Gl X x:=by rfl)
  (hdb:(x == ("__debug__" : Str)) = false:=by decide) (he:starEach (e :: es) X.env = (false,eval e X.env) :: starEach es X.env:=by rfl) (hpl:(backTo pos (starEach es X.env)).any (·.1) = false:=by rfl) :
  PE X (.Call (.Name x p) (e :: es) [] pos) (tCall sp [] E0 t):=by
 obtain ⟨f,fd,F,hm,hk,hb⟩:=U.ex
 exact pe_call F hr hg hm hk hb .nil pass0 ha hdb he hpl
end
section
variable {σ:St} {H:Hp} {Q:VK} {D:Ends} {K:PySem.W.Frag}
theorem s_seq {t u:TS} (h:t { D with nx:=u D } σ H):tSeq t u D σ H:=h
theorem s_if {c:TT} {t u:TS} (h:c σ H fun b H1=>if b = true then t D σ H1 else u D σ H1):tIfS c t u D σ H:=h
theorem s_asg {te:TE} {g:TG} (h:te σ H fun x H1=>g x σ H1 D.nx):tAsg te g D σ H:=h
theorem s_aug {i:Nat} {te:TE} {ti:TIp} {x:V} (e:σ[i]? = some (some x)) (h:te σ H fun y H1=>ti x y H1 fun z H2=>D.nx (σ.set i (some z)) H2):tAug i te ti D σ H:=⟨x,e,h⟩
theorem s_ipI {f:Int->Int->Int} {i j:Int} (h:Q (.int (f i j)) H):ipI f (.int i) (.int j) H Q:=⟨i,j,rfl,rfl,h⟩
theorem s_ret {te:TE} (h:te σ H D.rt):tRet te D σ H:=h
theorem s_drop {te:TE} (h:te σ H fun _ H1=>D.nx σ H1):tDrop te D σ H:=h
theorem s_next (h:D.nx σ H):tNext D σ H:=h
theorem s_cont (h:D.ct σ H):tCont D σ H:=h
theorem s_name {i:Nat} {v:V} {R:St->Hp->Prop} (h:R (σ.set i (some v)) H):gName i v σ H R:=h
theorem s_gnil {R:St->Hp->Prop} (h:R σ H):gNil [] σ H R:=⟨rfl,h⟩
theorem s_gcons {t:TG} {u:TGs} {v:V} {r:List V} {R:St->Hp->Prop} (h:t v σ H fun σ' H'=>u r σ' H' R):gCons t u (v :: r) σ H R:=⟨v,r,rfl,h⟩
theorem s_gtup {n:Nat} {t:TGs} {a:Addr} {xs:List V} {R:St->Hp->Prop} (hq:SqT K H a xs) (hl:xs.length = n) (h:t xs σ H R):gTup K n t (.ref a) σ H R:=⟨a,xs,rfl,hq,hl,h⟩
theorem s_gsub {to ti:TE} {t:TSet} {v:V} {R:St->Hp->Prop} (h:to σ H fun o H1=>ti σ H1 fun i H2=>t o i v H2 fun H3=>R σ H3):gSub to ti t v σ H R:=h
theorem s_var {i:Nat} {v:V} (e:σ[i]? = some (some v)) (q:Q v H):tVar i σ H Q:=⟨v,e,q⟩
theorem s_c {v:V} (q:Q v H):tC v σ H Q:=q
theorem s_op {r:R2} {ta tb:TE} (h:ta σ H fun x H1=>tb σ H1 fun y H2=>r x y H2 Q):tOp r ta tb σ H Q:=h
theorem s_un {r:V->Hp->VK->Prop} {ta:TE} (h:ta σ H fun x H1=>r x H1 Q):tUn r ta σ H Q:=h
theorem s_neg {i:Int} {g:Int->V} (h:Q (g i) H):rU g (.int i) H Q:=⟨i,rfl,h⟩
theorem s_call {sp:Sp} {dvs:List V} {E:XK} {t:TA} (h:t σ H fun vs H1=>sp (vs ++ dvs) H1 Q E):tCall sp dvs E t σ H Q:=h
theorem s_cons {ta:TE} {tr:TA} {R:List V->Hp->Prop} (h:ta σ H fun x H1=>tr σ H1 fun xs H2=>R (x :: xs) H2):tCons ta tr σ H R:=h
theorem s_nil {R:List V->Hp->Prop} (h:R [] H):tNil σ H R:=h
theorem s_cb {r:List V->Hp->VK->Prop} {t:TA} (h:t σ H fun vs H1=>r vs H1 Q):tCB r t σ H Q:=h
theorem s_lst {t:TA} (h:t σ H fun xs H1=>xs.length <= sizeLine/\∀ p,H1 p = none->Q (.ref p) (upd H1 p (.lst xs))):tLst t σ H Q:=h
theorem s_tup {t:TA} (h:t σ H fun xs H1=>xs.length <= sizeLine/\∀ p,H1 p = none->Q (.ref p) (upd H1 p (.tup xs))):tTup t σ H Q:=h
theorem s_ifE {t:TT} {ta tb:TE} (h:t σ H fun c H1=>if c = true then ta σ H1 Q else tb σ H1 Q):tIf t ta tb σ H Q:=h
theorem s_and {t u:TT} {R:Bool->Hp->Prop} (h:t σ H fun c H1=>if c = true then u σ H1 R else R false H1):tAnd t u σ H R:=h
theorem s_or {t u:TT} {R:Bool->Hp->Prop} (h:t σ H fun c H1=>if c = true then R true H1 else u σ H1 R):tOr t u σ H R:=h
theorem s_not {t:TT} {R:Bool->Hp->Prop} (h:t σ H fun c H1=>R (!c) H1):tNot t σ H R:=h
theorem s_andV {ta tb:TE} (h:ta σ H fun x H1=>∃ c,x = .bl c/\if c = true then tb σ H1 Q else Q (.bl false) H1):tAndV ta tb σ H Q:=h
theorem s_notV {ta:TE} (h:ta σ H fun x H1=>∃ c,x = .bl c/\Q (.bl (!c)) H1):tNotV ta σ H Q:=h
theorem s_test {t:TE} {R:Bool->Hp->Prop} (h:t σ H fun x H'=>∃ k,x = .bl k/\R k H'):tTest t σ H R:=h
theorem s_tru {ta:TE} {R:Bool->Hp->Prop} (h:ta σ H fun x H'=>∃ k,TruV K x H' k/\R k H'):tTru K ta σ H R:=h
theorem s_chain {r r':R2} {ta tb tc:TE} (h:ta σ H fun x H1=>tb σ H1 fun y H2=>r x y H2 fun z H3=>∃ k,z = .bl k/\(if k = true then tc σ H3 fun w' H4=>r' y w' H4 Q else Q (.bl false) H3)):tChain r r' ta tb tc σ H Q:=h
theorem s_bl {c:Bool} {R:Bool->Prop} (h:R c):∃ k,V.bl c = V.bl k/\R k:=⟨c,rfl,h⟩
theorem s_truB {c:Bool} {R:Bool->Prop} (h:R c):∃ k,TruV K (.bl c) H k/\R k:=⟨c,rfl,h⟩
theorem s_truL {a:Addr} {xs:List V} {R:Bool->Prop} (hq:SqL K H a xs) (h:R (!xs.isEmpty)):∃ k,TruV K (.ref a) H k/\R k:=⟨_,.inl ⟨xs,hq,rfl⟩,h⟩
theorem s_addI {i j:Int} (h:Q (.int (i + j)) H):rPlus (.int i) (.int j) H Q:=.inl ⟨i,j,rfl,rfl,h⟩
theorem s_addT {a b:List Nat} (hz:a.length + b.length <= sizeLine) (h:Q (tx (a ++ b)) H):rPlus (tx a) (tx b) H Q:=.inr (.inl ⟨a,b,rfl,rfl,hz,h⟩)
theorem s_addL {a b:Addr} {xs ys:List V} (h1:H a = some (.lst xs)) (h2:H b = some (.lst ys)) (hz:xs.length + ys.length <= sizeLine) (h:∀ p,H p = none->Q (.ref p) (upd H p (.lst (xs ++ ys)))):rPlus (.ref a) (.ref b) H Q:=.inr (.inr ⟨a,b,xs,ys,rfl,rfl,h1,h2,hz,h⟩)
theorem s_subI {g:Int->Int->V} {i j:Int} (h:Q (g i j) H):rI0 g (.int i) (.int j) H Q:=⟨i,j,rfl,rfl,h⟩
theorem s_rI {C:Int->Int->Prop} {g:Int->Int->V} {i j:Int} (hc:C i j) (h:Q (g i j) H):rI C g (.int i) (.int j) H Q:=⟨i,j,rfl,rfl,hc,h⟩
theorem s_mulI {i j:Int} (hc:CMul i j) (h:Q (.int (i * j)) H):rTimes (.int i) (.int j) H Q:=.inl ⟨i,j,rfl,rfl,hc,h⟩
theorem s_rep {a:Addr} {k:Int} {xs:List V} (h1:H a = some (.lst xs)) (h2:-(2 ^ 63) <= k) (h3:k < 2 ^ 63) (hz:xs.length * k.toNat <= sizeLine) (h:∀ p,H p = none->Q (.ref p) (upd H p (.lst (List.replicate k.toNat xs).flatten))):rTimes (.ref a) (.int k) H Q:=.inr (.inl ⟨a,k,xs,rfl,rfl,h1,h2,h3,hz,h⟩)
theorem s_eqI {i j:Int} (h:Q (.bl (decide (i = j))) H):rEqA K (.int i) (.int j) H Q:=.inl ⟨rfl,by rw [show decide (V.int i = V.int j) = decide (i = j) from by rw [dec_int]; exact (Bool.beq_eq_decide_eq i j)]; exact h⟩
theorem s_eqT {a b:List Nat} (h:Q (.bl (decide (a = b))) H):rEqA K (tx a) (tx b) H Q:=.inl ⟨rfl,by rw [dec_tx]; exact h⟩
theorem s_eqL {a b:Addr} {xs ys:List V} (h1:SqL K H a xs) (h2:SqL K H b ys) (f1:xs.all flatV = true) (f2:ys.all flatV = true) (h:Q (.bl (eqVs xs ys)) H):rEqA K (.ref a) (.ref b) H Q:=.inr ⟨a,b,xs,ys,rfl,rfl,h1,h2,f1,f2,h⟩
theorem s_neI {i j:Int} (h:Q (.bl (!decide (i = j))) H):rNeA K (.int i) (.int j) H Q:=.inl ⟨rfl,by rw [show decide (V.int i = V.int j) = decide (i = j) from by rw [dec_int]; exact (Bool.beq_eq_decide_eq i j)]; exact h⟩
theorem s_neB {i j:Bool} (h:Q (.bl (!decide (i = j))) H):rNeA K (.bl i) (.bl j) H Q:=.inl ⟨rfl,by rw [show decide (V.bl i = V.bl j) = decide (i = j) from by rw [dec_bl]; exact (Bool.beq_eq_decide_eq i j)]; exact h⟩
theorem s_neT {a b:List Nat} (h:Q (.bl (!decide (a = b))) H):rNeA K (tx a) (tx b) H Q:=.inl ⟨rfl,by rw [dec_tx]; exact h⟩
theorem s_neL {a b:Addr} {xs ys:List V} (h1:SqL K H a xs) (h2:SqL K H b ys) (f1:xs.all flatV = true) (f2:ys.all flatV = true) (h:Q (.bl (!eqVs xs ys)) H):rNeA K (.ref a) (.ref b) H Q:=.inr ⟨a,b,xs,ys,rfl,rfl,h1,h2,f1,f2,h⟩
theorem s_inT {c:Nat} {l:List Nat} (h:Q (.bl (decide (c ∈ l))) H):rInA K (tx [c]) (tx l) H Q:=.inl ⟨c,l,rfl,rfl,h⟩
theorem s_notinS {x:V} {a:Addr} {xs:List V} (h1:SqL K H a xs\/SqT K H a xs) (f1:flatV x = true) (f2:xs.all flatV = true) (h:Q (.bl (!inV x xs)) H):rNotInA K x (.ref a) H Q:=.inr ⟨a,xs,rfl,h1,f1,f2,h⟩
theorem s_is {x y:V} (hl:litV y = true) (h:Q (.bl (decide (x = y))) H):rIsA x y H Q:=⟨hl,h⟩
theorem s_ixT {a:List Nat} {i:Int} {c:Nat} (hz:a.length <= sizeLine) (he:atI a i = some c) (h:Q (tx [c]) H):rIxA K (tx a) (.int i) H Q:=.inl ⟨a,i,c,rfl,rfl,hz,he,h⟩
theorem s_ixL {p:Addr} {xs:List V} {i:Int} {v:V} (hq:SqL K H p xs) (he:atI xs i = some v) (h:Q v H):rIxA K (.ref p) (.int i) H Q:=.inr (.inl ⟨p,xs,i,v,rfl,rfl,hq,he,h⟩)
theorem s_ixU {p:Addr} {xs:List V} {i:Int} {v:V} (hq:SqT K H p xs) (he:atI xs i = some v) (h:Q v H):rIxA K (.ref p) (.int i) H Q:=.inr (.inr ⟨p,xs,i,v,rfl,rfl,hq,he,h⟩)
theorem s_sl {r:V->Option Int->Option Int->Hp->VK->Prop} {te:TE} {tl th:TO} (h:te σ H fun x H1=>tl σ H1 fun l H2=>th σ H2 fun u H3=>r x l u H3 Q):tSl r te tl th σ H Q:=h
theorem s_nopart {R:Option Int->Hp->Prop} (h:R none H):tNoPart σ H R:=h
theorem s_part {t:TE} {R:Option Int->Hp->Prop} (h:t σ H fun x H1=>∃ i,x = .int i/\R (some i) H1):tPart t σ H R:=h
theorem s_partI {i:Int} {R:Int->Prop} (h:R i):∃ j,V.int i = V.int j/\R j:=⟨i,rfl,h⟩
theorem s_slT {a:List Nat} {lo hi:Option Int} (hz:a.length <= sizeLine) (h:Q (tx (cutL a lo hi)) H):rSlA K (tx a) lo hi H Q:=.inl ⟨a,rfl,hz,h⟩
theorem s_lenT {a:List Nat} (hz:a.length <= sizeLine) (h:Q (.int a.length) H):rLen K [tx a] H Q:=.inl ⟨a,rfl,hz,h⟩
theorem s_lenL {p:Addr} {ys:List V} (hq:SqL K H p ys\/SqT K H p ys) (h:Q (.int ys.length) H):rLen K [.ref p] H Q:=.inr ⟨p,ys,rfl,hq,h⟩
theorem s_all {a:Addr} {bs:List Bool} (hq:SqL K H a (bs.map V.bl)) (h:Q (.bl (bs.all id)) H):rAll K [.ref a] H Q:=⟨a,bs,rfl,hq,h⟩
theorem s_isi {x:V} {T:String} {t:Value} {b:Bool} (ty:TyOf K H x t) (e:PySem.W.kitOne K t (.type T) = some b) (h:Q (.bl b) H):rIsi K [x,.ty T] H Q:=⟨x,T,t,b,rfl,ty,e,h⟩
theorem s_intB {k:Bool} (h:Q (.int (if k then 1 else 0)) H):rInt [.bl k] H Q:=.inr ⟨k,rfl,h⟩
theorem s_bm {T:String} {r:V->List V->Hp->VK->Prop} {to:TE} {t:TA} (h:to σ H fun x H1=>tyV K T x H1/\t σ H1 fun xs H2=>r x xs H2 Q):tBM K T r to t σ H Q:=h
theorem s_bm0 {T:String} {r:V->List V->Hp->VK->Prop} {to:TE} (h:to σ H fun x H1=>tyV K T x H1/\r x [] H1 Q):tBM0 K T r to σ H Q:=h
end
section
variable {g:TG} {tb:TS} {D:Ends} {σ:St} {H:Hp}
def ForW (J:It) (g:TG) (tb:TS) (D:Ends) (σ:St) (H:Hp):Prop:=∃ W:Nat->Nat->St->Hp->Prop,(∃ m,W 0 m σ H)/\∀ i m σ H,W i m σ H ->
 (J.stop i H/\D.nx σ H)\/(J.go i H/\∃ N:St->Hp->Prop,(∀ σ' H',N σ' H'->∃ m',m' < m/\W (i + 1) m' σ' H')/\∀ x H',J.yld i H x H'->g x σ H' fun σ2 H2=>tb { D with nx:=N,ct:=N,bk:=D.nx } σ2 H2)
theorem s_for {wi:TI} (h:wi σ H fun J H1=>ForW J g tb D σ H1):tFor wi g tb D σ H:=h
theorem s_irng1 {ta:TA} {R:It->Hp->Prop} (h:ta σ H fun vs H1=>∃ j:Int,vs = [.int j]/\-(2 ^ 62) <= j/\j < 2 ^ 62/\R (Itr 0 j.toNat) H1):iRng1 ta σ H R:=h
theorem s_ilist {K:PySem.W.Frag} {tl:TE} {R:It->Hp->Prop} (h:tl σ H fun x H1=>∃ a,x = .ref a/\(∃ xs,SqL K H1 a xs)/\R (Itl K a) H1):iList K tl σ H R:=h
theorem s_istr {tl:TE} {R:It->Hp->Prop} (h:tl σ H fun x H1=>∃ z,x = .str z/\R (Its z) H1):iStr tl σ H R:=h
theorem s_istrT {a:List Nat} {R:Str->Prop} (h:R ⟨a.toArray⟩):∃ z,tx a = .str z/\R z:=⟨_,rfl,h⟩
theorem s_ienS {ta:TA} {R:It->Hp->Prop} (h:ta σ H fun vs H1=>∃ z,vs = [.str z]/\R (IteS z) H1):iEnS ta σ H R:=h
theorem s_ienST {a:List Nat} {R:Str->Prop} (h:R ⟨a.toArray⟩):∃ z,[tx a] = [.str z]/\R z:=⟨_,rfl,h⟩
theorem for_rng {lo:Int} {n:Nat} (Pv:Nat->St->Hp->Prop) (h0:Pv 0 σ H)
  (hs:∀ i σ H,i < n->Pv i σ H->g (.int (lo + i)) σ H fun σ2 H2=>tb { D with nx:=Pv (i + 1),ct:=Pv (i + 1),bk:=D.nx } σ2 H2) (hd:∀ σ H,Pv n σ H->D.nx σ H):ForW (Itr lo n) g tb D σ H:=for_range Pv h0 hs hd
theorem for_of {J:It} {n:Nat} (Pv:Nat->St->Hp->Prop) (h0:Pv 0 σ H) (hgo:∀ i σ H,i < n->Pv i σ H->J.go i H) (hst:∀ σ H,Pv n σ H->J.stop n H)
  (hs:∀ i x σ H H',i < n->Pv i σ H->J.yld i H x H'->g x σ H' fun σ2 H2=>tb { D with nx:=Pv (i + 1),ct:=Pv (i + 1),bk:=D.nx } σ2 H2) (hd:∀ σ H,Pv n σ H->D.nx σ H):ForW J g tb D σ H:=by
 refine ⟨fun i m σ H=>m = n - i/\i <= n/\Pv i σ H,⟨n,by simp,Nat.zero_le _,h0⟩,?_⟩
 rintro i m σ H ⟨rfl,hi,p⟩
 by_cases hlt:i < n
 ·exact .inr ⟨hgo i σ H hlt p,Pv (i + 1),fun σ' H' p'=>⟨n - (i + 1),by omega,rfl,hlt,p'⟩,fun x H' y=>hs i x σ H H' hlt p y⟩
 ·have e:i = n:=by omega
  subst e
  exact .inl ⟨hst σ H p,hd σ H p⟩
theorem for_str {a:List Nat} (Pv:Nat->St->Hp->Prop) (h0:Pv 0 σ H)
  (hs:∀ i c σ H,a[i]? = some c->Pv i σ H->g (tx [c]) σ H fun σ2 H2=>tb { D with nx:=Pv (i + 1),ct:=Pv (i + 1),bk:=D.nx } σ2 H2) (hd:∀ σ H,Pv a.length σ H->D.nx σ H):ForW (Its ⟨a.toArray⟩) g tb D σ H:=by
 refine for_of (n:=a.length) Pv h0 (fun i σ H hi _=>by simpa [Its] using hi) (fun σ H _=>by simp [Its]) (fun i x σ H H' hi p y=>?_) hd
 obtain ⟨rfl,c,e,rfl⟩:=y
 exact hs i c σ H' (by simpa using e) p
theorem for_enS {a:List Nat} (Pv:Nat->St->Hp->Prop) (h0:Pv 0 σ H)
  (hs:∀ i c σ H T,a[i]? = some c->H T = none->Pv i σ H->g (.ref T) σ (upd H T (.tup [.int i,tx [c]])) fun σ2 H2=>tb { D with nx:=Pv (i + 1),ct:=Pv (i + 1),bk:=D.nx } σ2 H2) (hd:∀ σ H,Pv a.length σ H->D.nx σ H):ForW (IteS ⟨a.toArray⟩) g tb D σ H:=by
 refine for_of (n:=a.length) Pv h0 (fun i σ H hi _=>by simpa [IteS] using hi) (fun σ H _=>by simp [IteS]) (fun i x σ H H' hi p y=>?_) hd
 obtain ⟨T,c,hT,e,rfl,rfl⟩:=y
 exact hs i c σ H T (by simpa using e) hT p
def CW (D:Addr) (n:Nat) (Pv:Nat->List V->Hp->Prop) (i m:Nat) (H:Hp):Prop:=m = n - i/\i <= n/\∃ ys,H D = some (.lst ys)/\ys.length <= i/\Pv i ys H
def CompW (J : It) (own : List Str) (sel : List Nat) (σ : St) (g : TG) (tt : TT) (te : TE) (Q : VK) (H1 : Hp) : Prop := ∀ D, H1 D = none ->
 ∃ W : Nat -> Nat -> Hp -> Prop, (∃ m, W 0 m (upd H1 D (.lst []))) /\ ∀ i m H2, W i m H2 ->
  (J.stop i H2 /\ Q (.ref D) H2) \/ (J.go i H2 /\ ∀ x H3, J.yld i H2 x H3 -> g x (inSt own sel σ) H3 fun σ4 H4 => tt σ4 H4 fun b H5 =>
   if b = true then te σ4 H5 fun v H6 => ∃ ys, H6 D = some (.lst ys) /\ ys.length < sizeLine /\ ∃ m', m' < m /\ W (i + 1) m' (upd H6 D (.lst (ys ++ [v])))
   else ∃ m', m' < m /\ W (i + 1) m' H5)
theorem s_comp {own:List Str} {sel:List Nat} {wi:TI} {tt:TT} {te:TE} {Q:VK} (h:wi σ H fun J H1=>CompW J own sel σ g tt te Q H1):tComp own sel wi g tt te σ H Q:=h
theorem comp_of {J : It} {n : Nat} {own : List Str} {sel : List Nat} {tt : TT} {te : TE} {Q : VK} {H1 : Hp} (Pv : Addr -> Nat -> List V -> Hp -> Prop) (h0 : ∀ D, H1 D = none -> Pv D 0 [] (upd H1 D (.lst [])))
  (hgo : ∀ D i ys H, H1 D = none -> i < n -> H D = some (.lst ys) -> Pv D i ys H -> J.go i H) (hst : ∀ D ys H, H1 D = none -> H D = some (.lst ys) -> ys.length <= n -> Pv D n ys H -> J.stop n H /\ Q (.ref D) H)
  (hs : ∀ D i ys H x H3, H1 D = none -> i < n -> H D = some (.lst ys) -> ys.length <= i -> Pv D i ys H -> J.yld i H x H3 -> g x (inSt own sel σ) H3 fun σ4 H4 => tt σ4 H4 fun b H5 =>
   if b = true then te σ4 H5 fun v H6 => ∃ ys, H6 D = some (.lst ys) /\ ys.length < sizeLine /\ ∃ m', m' < n - i /\ CW D n (Pv D) (i + 1) m' (upd H6 D (.lst (ys ++ [v])))
   else ∃ m', m' < n - i /\ CW D n (Pv D) (i + 1) m' H5) : CompW J own sel σ g tt te Q H1 := by
 intro D hD
 refine ⟨CW D n (Pv D), ⟨n, by simp, Nat.zero_le _, [], upd_same, Nat.le_refl _, h0 D hD⟩, ?_⟩
 rintro i m H2 ⟨rfl, hi, ys, hy, hl, p⟩
 by_cases hlt : i < n
 ·exact .inr ⟨hgo D i ys H2 hD hlt hy p, fun x H3 y => hs D i ys H2 x H3 hD hlt hy hl p y⟩
 ·have e : i = n := by omega
  subst e
  exact .inl (hst D ys H2 hD hy hl p)
theorem comp_next {D:Addr} {n i:Nat} {Pv:Nat->List V->Hp->Prop} {ys:List V} {v:V} {H:Hp} (hi:i < n) (hn:n <= sizeLine) (hD:H D = some (.lst ys)) (hl:ys.length <= i) (p:Pv (i + 1) (ys ++ [v]) (upd H D (.lst (ys ++ [v])))) :
  ∃ ys,H D = some (.lst ys)/\ys.length < sizeLine/\∃ m',m' < n - i/\CW D n Pv (i + 1) m' (upd H D (.lst (ys ++ [v]))) :=
 ⟨ys,hD,by omega,n - (i + 1),by omega,rfl,hi,ys ++ [v],upd_same,by simp; omega,p⟩
theorem comp_skip {D:Addr} {n i:Nat} {Pv:Nat->List V->Hp->Prop} {ys:List V} {H:Hp} (hi:i < n) (hD:H D = some (.lst ys)) (hl:ys.length <= i) (p:Pv (i + 1) ys H) :
  ∃ m',m' < n - i/\CW D n Pv (i + 1) m' H:=⟨n - (i + 1),by omega,rfl,hi,ys,hD,by omega,p⟩
theorem s_yes {R:Bool->Hp->Prop} (h:R true H):tYes σ H R:=h
end
theorem small {n:Nat} (h:n <= 1000):n <= sizeLine:=Nat.le_of_lt (small1000 h)
theorem same_new {H:Hp} {p:Addr} (h:H p = none) (o:HO):Same H (upd H p o):=fun b u q=>by rw [upd_ne (ne_of_none q h)]; exact q
def SameBut1 (p:Addr) (H H':Hp):Prop:=∀ b o,H b = some o->b ≠ p->H' b = some o
theorem SameBut1.trans {p:Addr} {H H1 H2:Hp} (a:SameBut1 p H H1) (b:SameBut1 p H1 H2):SameBut1 p H H2:=fun c o h n=>b c o (a c o h n) n
theorem SameBut1.of {p:Addr} {H H':Hp} (a:Same H H'):SameBut1 p H H':=fun c o h _=>a c o h
theorem SameBut1.upd {p:Addr} {H:Hp} {o:HO}:SameBut1 p H (upd H p o):=fun c u h n=>by rw [upd_ne n]; exact h
end L2
namespace L2
open PySem PySem.Spec PyProof.Rows
def compOkB (osc:Scope) (N:List Str) (own:List Str) (sel:List Nat) (scope:Scope):Bool :=
 (scope.kind == .function) && scope.names.all (fun y=>y.2 != .cell) && scope.names.all (fun y=>y.2 != .local || scope.names.lookup y.1 == some .local) &&
 scope.names.all (fun y=>y.2 != .free || osc.names.lookup y.1 == some .cell || osc.names.lookup y.1 == some .free) &&
 sel.all (fun j=>decide (j < N.length) && scope.names.lookup (N.getD j Str.empty) == some .free && (osc.names.lookup (N.getD j Str.empty) == some .cell || osc.names.lookup (N.getD j Str.empty) == some .free))
theorem compOk_of {osc:Scope} {N:List Str} {own:List Str} {sel:List Nat} {scope:Scope} (h:compOkB osc N own sel scope = true):CompOk osc N own sel scope:=by
 unfold compOkB at h
 simp only [Bool.and_eq_true,List.all_eq_true] at h
 obtain ⟨⟨⟨⟨h1,h2⟩,h3⟩,h4⟩,h5⟩:=h
 refine ⟨by simpa using h1,fun y hy=>by simpa using h2 y hy,fun y hy e=>?_,fun y hy e=>?_,fun j hj=>?_⟩
 ·have:=h3 y hy
  simp only [Bool.or_eq_true,bne_iff_ne,beq_iff_eq] at this
  rcases this with q | q
  ·exact absurd e q
  ·exact q
 ·have:=h4 y hy
  simp only [Bool.or_eq_true,bne_iff_ne,beq_iff_eq] at this
  rcases this with (q | q) | q
  ·exact absurd e q
  ·exact .inl q
  ·exact .inr q
 ·have:=h5 j hj
  simp only [Bool.or_eq_true,beq_iff_eq,decide_eq_true_eq] at this
  exact ⟨this.1.1,this.1.2,this.2⟩
structure DefAt (K:PySem.W.Frag) (mg:Str->Option Value) (x:Str) (st:Stmt) (ps:List Str) (f:Addr) (fd:FuncData):Prop where
 F:Fun K x x st f fd
 m:mg x = some (.ref f)
 b:Binds K fd ps []
theorem DefAt.fnU {P:Program} {w:World} {K:PySem.W.Frag} {mg:Str->Option Value} {base:Heap} {x:Str} {st:Stmt} {ps:List Str} {f:Addr} {fd:FuncData} {k:Nat} {sp:Sp} (d:DefAt K mg x st ps f fd) (ok:FnOk P w K mg base CX0 k f fd ps sp):FnU P w K mg base k x ps sp :=
 ⟨f,fd,ok,d.m,d.F.kp,d.b⟩
theorem atI_0 {α:Type} (x:α) (r:List α):atI (x :: r) 0 = some x:=by simp [atI,ixN]
theorem s_setL {p:Addr} {xs:List V} {k:Int} {j:Nat} {v:V} {H:Hp} {R:Hp->Prop} (h:H p = some (.lst xs)) (e:ixN xs.length k = some j) (q:R (upd H p (.lst (xs.set j v)))):rSetL (.ref p) (.int k) v H R:=⟨p,xs,k,j,rfl,rfl,h,e,q⟩
def WN (Pv:St->Hp->Prop) (μ:St->Hp->Nat) (m:Nat):St->Hp->Prop:=fun σ' H'=>Pv σ' H'/\μ σ' H' < m
theorem while_of {c:TT} {tb:TS} {D:Ends} {σ:St} {H:Hp} (Pv:St->Hp->Prop) (μ:St->Hp->Nat) (h0:Pv σ H)
  (hs:∀ σ H,Pv σ H->c σ H fun b H1=>if b = true then ∃ N:St->Hp->Prop,(∀ σ' H',N σ' H'->∃ m',m' < μ σ H/\(m' = μ σ' H'/\Pv σ' H'))/\tb { D with nx:=N,ct:=N,bk:=D.nx } σ H1 else D.nx σ H1):tWhile c tb D σ H :=
 ⟨fun m σ H=>m = μ σ H/\Pv σ H,⟨_,rfl,h0⟩,fun m σ H ⟨e,p⟩=>by subst e; exact hs σ H p⟩
theorem wh_body {tb:TS} {D:Ends} {σ:St} {H1:Hp} {Pv:St->Hp->Prop} {μ:St->Hp->Nat} {m:Nat} (h:tb { D with nx:=WN Pv μ m,ct:=WN Pv μ m,bk:=D.nx } σ H1) :
  ∃ N:St->Hp->Prop,(∀ σ' H',N σ' H'->∃ m',m' < m/\(m' = μ σ' H'/\Pv σ' H'))/\tb { D with nx:=N,ct:=N,bk:=D.nx } σ H1 :=
 ⟨WN Pv μ m,fun σ' H' ⟨p,l⟩=>⟨_,l,rfl,p⟩,h⟩
theorem rel_of_abs {u:Value} {x:V} (h:absV u = some x):RelV x u:=by
 cases u <;> first
  | (cases h; rfl)
  | (cases h; exact ⟨_,rfl⟩)
  | (exact absurd h (by intro z; cases z))
def tupIs (its:Array Value) (xs:List V):Bool:=decide (its.toList.map absV = xs.map some)
theorem vals_of_abs : ∀ {xs : List V} {us : List Value}, us.map absV = xs.map some -> Vals xs us
  | [], [], _ => .nil
  | x :: xs, u :: us, h => by
    rw [List.map_cons, List.map_cons] at h
    injection h with h1 h2
    exact .cons (rel_of_abs h1) (vals_of_abs h2)
  | [], _ :: _, h => by cases h
  | _ :: _, [], h => by cases h
theorem tupIs_vals {its:Array Value} {xs:List V} (h:tupIs its xs = true):Vals xs its.toList:=vals_of_abs (of_decide_eq_true h)
theorem tupIs_size {its:Array Value} {xs:List V} (h:tupIs its xs = true) (hx:xs.length <= 1000):its.size <= sizeLine:=by
 have e:=(tupIs_vals h).length
 have e2:its.toList.length = its.size:=by simp
 exact Nat.le_of_lt (small1000 (by omega))
theorem s_isnot {x y:V} {H:Hp} {Q:VK} (hl:litV y = true) (h:Q (.bl (!decide (x = y))) H):rIsNotA x y H Q:=⟨hl,h⟩
theorem ifd {c A B:Prop} [Decidable c] (h1:c->A) (h2:¬ c->B):if decide c = true then A else B:=by
 by_cases h:c
 ·rw [if_pos (decide_eq_true h)]; exact h1 h
 ·rw [if_neg (by rw [decide_eq_false h]; exact Bool.false_ne_true)]; exact h2 h
theorem ifn {c A B:Prop} [Decidable c] (h1:¬ c->A) (h2:c->B):if (!decide c) = true then A else B:=by
 by_cases h:c
 ·rw [if_neg (by rw [decide_eq_true h]; exact Bool.false_ne_true)]; exact h2 h
 ·rw [if_pos (by rw [decide_eq_false h]; rfl)]; exact h1 h
theorem ifp {c:Bool} {A B:Prop} (hc:c = true) (h:A):if c = true then A else B:=by rw [if_pos hc]; exact h
theorem ifq {c:Bool} {A B:Prop} (hc:c = false) (h:B):if c = true then A else B:=by rw [if_neg (by rw [hc]; exact Bool.false_ne_true)]; exact h
theorem atI_ints {ns:List Int} {k:Int} (h0:0 <= k) (h:k < (ns.length:Int)):∃ v:Int,atI (ns.map V.int) k = some (.int v):=by
 have hk:k.toNat < ns.length:=by omega
 have ek:k = ((k.toNat:Nat):Int):=by omega
 have q:atI (ns.map V.int) ((k.toNat:Nat):Int) = some (.int ns[k.toNat]):=atI_nat (by rw [List.getElem?_map,List.getElem?_eq_getElem hk]; rfl)
 rw [<- ek] at q
 exact ⟨_,q⟩
end L2
namespace BrM
open L2
def opn:List Nat:=[40,91,123,60]
def cls:List Nat:=[41,93,125,62]
def clo (c:Nat):Nat:=if c = 40 then 41 else if c = 91 then 93 else if c = 123 then 125 else 62
def stp (st:List Nat) (c:Nat):Option (List Nat) :=
 if c ∈ opn then some (clo c :: st) else match st with
  | d :: r=>if c = d then some r else none
  | []=>none
def run:List Nat->List Nat->Option (List Nat)
 | st,[]=>some st
 | st,c :: r=>(stp st c).bind fun s=>run s r
theorem run_append (st a b : List Nat) : run st (a ++ b) = (run st a).bind fun s => run s b := by
  induction a generalizing st with
  | nil => rfl
  | cons c r ih =>
    show (stp st c).bind _ = ((stp st c).bind _).bind _
    cases stp st c with
    | none => rfl
    | some s => exact ih s
theorem run_snoc {st a s:List Nat} (h:run st a = some s) (c:Nat):run st (a ++ [c]) = stp s c:=by
 rw [run_append,h]
 show (stp s c).bind (fun s=>some s) = stp s c
 cases stp s c <;> rfl
theorem stp_open {c:Nat} (h:c ∈ opn) (st:List Nat):stp st c = some (clo c :: st):=by unfold stp; rw [if_pos h]
theorem stp_close {d:Nat} (h:d ∉ opn) (r:List Nat):stp (d :: r) d = some r:=by unfold stp; rw [if_neg h]; simp
def Rt (row:List Nat):Prop:=run [] row = some []
def kin (k:Int) (c:Nat):Prop:=c ∈ opn.take k.toNat\/c ∈ cls.take k.toNat
theorem opn_at {i:Int} {k:Int} (h0:0 <= i) (h1:i < k) (hk:k <= 4):∃ c,atI [40,91,123,60] i = some c/\c ∈ opn/\c ∈ opn.take k.toNat/\atI [41,93,125,62] i = some (clo c)/\clo c ∈ cls.take k.toNat/\clo c ∉ opn:=by
 have:i = 0\/i = 1\/i = 2\/i = 3:=by omega
 have hk':k = 1\/k = 2\/k = 3\/k = 4:=by omega
 rcases hk' with rfl | rfl | rfl | rfl <;> rcases this with rfl | rfl | rfl | rfl <;> first
  | omega
  | exact ⟨40,by decide⟩
  | exact ⟨91,by decide⟩
  | exact ⟨123,by decide⟩
  | exact ⟨60,by decide⟩
end BrM
namespace BrM
open L2
def sg (c:Nat):Int:=if c ∈ opn then 1 else -1
def hg:List Nat->Int
 | []=>0
 | c :: r=>sg c + hg r
theorem hg_append (a b:List Nat):hg (a ++ b) = hg a + hg b:=by
 induction a with
 | nil=>simp [hg]
 | cons c r ih=>rw [List.cons_append,hg,hg,ih]; omega
def ht (a:List Nat) (i:Nat):Int:=hg (a.take i)
theorem ht_succ {a:List Nat} {i c:Nat} (h:a[i]? = some c):ht a (i + 1) = ht a i + sg c:=by
 unfold ht
 rw [List.take_add_one,h,hg_append]
 show _ = hg _ + sg c
 simp [hg]
theorem stp_len {st s : List Nat} {c : Nat} (h : stp st c = some s) : (s.length : Int) = st.length + sg c := by
  unfold stp at h
  unfold sg
  by_cases hc : c ∈ opn
  · rw [if_pos hc] at h ⊢
    cases h
    simp
  · rw [if_neg hc] at h ⊢
    cases st with
    | nil => cases h
    | cons d r =>
      simp only at h
      split at h
      · cases h; simp; omega
      · cases h
theorem run_len {st a s : List Nat} (h : run st a = some s) : (s.length : Int) = st.length + hg a := by
  induction a generalizing st with
  | nil => cases h; simp [hg]
  | cons c r ih =>
    have h' : (stp st c).bind (fun s => run s r) = some s := h
    cases e : stp st c with
    | none => rw [e] at h'; cases h'
    | some s1 =>
      rw [e] at h'
      have := ih h'
      have := stp_len e
      rw [hg]; omega
theorem run_take {a s:List Nat} (h:run [] a = some s) (i:Nat):∃ st,run [] (a.take i) = some st:=by
 have e:a = a.take i ++ a.drop i:=(List.take_append_drop i a).symm
 rw [e,run_append] at h
 cases q:run [] (a.take i) with
 | none=>rw [q] at h; cases h
 | some st=>exact ⟨st,rfl⟩
theorem ht_of {a st:List Nat} {i:Nat} (h:run [] (a.take i) = some st):ht a i = st.length:=by
 have:=run_len h
 unfold ht; simp at this; omega
def Pr (a:List Nat) (x y:Nat):Prop:=x < y/\y < a.length/\ht a (y + 1) = ht a x/\∀ m,x < m->m <= y->ht a x < ht a m
def IsPart (a:List Nat) (xs:List V):Prop:=xs.length = a.length/\∀ k,k < a.length->∃ p:Nat,xs[k]? = some (.int p)/\(Pr a k p\/Pr a p k)
inductive WS (a:List Nat) (i:Nat):List Nat->List Nat->Prop where
 | nil:WS a i [] []
 | cons {w c:Nat} {ws st:List Nat}:w < i->a[w]? = some c->c ∈ opn->ht a w = ws.length->(∀ m,w < m->m <= i->ht a w < ht a m)->WS a i ws st->WS a i (w :: ws) (clo c :: st)
theorem WS.len {a ws st:List Nat} {i:Nat} (h:WS a i ws st):ws.length = st.length:=by
 induction h with
 | nil=>rfl
 | cons _ _ _ _ _ _ ih=>simp [ih]
theorem WS.ext {a ws st : List Nat} {i : Nat} (h : WS a i ws st) (hh : (ws.length : Int) <= ht a (i + 1)) : WS a (i + 1) ws st := by
  induction h with
  | nil => exact .nil
  | cons h1 h2 h3 h4 h5 _ ih =>
    simp only [List.length_cons] at hh
    refine .cons (by omega) h2 h3 h4 (fun m hm1 hm2 => ?_) (ih (by omega))
    by_cases e : m = i + 1
    · subst e; omega
    · exact h5 m hm1 (by omega)
structure MI (a:List Nat) (i:Nat) (st ws:List Nat) (xs:List V):Prop where
 rn:run [] (a.take i) = some st
 wk:WS a i ws st
 len:xs.length = a.length
 don:∀ k,k < i->k ∈ ws\/∃ p:Nat,xs[k]? = some (.int p)/\(Pr a k p\/Pr a p k)
theorem MI.start (a:List Nat) {xs:List V} (h:xs.length = a.length):MI a 0 [] [] xs:=⟨rfl,.nil,h,fun k z=>by omega⟩
theorem run_next {a st:List Nat} {i c:Nat} (h:run [] (a.take i) = some st) (hc:a[i]? = some c):run [] (a.take (i + 1)) = stp st c:=by
 rw [List.take_add_one,hc]
 exact run_snoc h c
theorem MI.opens {a st ws:List Nat} {xs:List V} {i c:Nat} (m:MI a i st ws xs) (hc:a[i]? = some c) (ho:c ∈ opn):MI a (i + 1) (clo c :: st) (i :: ws) xs:=by
 have e1:ht a (i + 1) = ht a i + 1:=by rw [ht_succ hc]; unfold sg; rw [if_pos ho]
 have e2:=ht_of m.rn
 have e3:=m.wk.len
 refine ⟨by rw [run_next m.rn hc,stp_open ho],.cons (by omega) hc ho (by omega) (fun k h1 h2=>?_) (m.wk.ext (by omega)),m.len,fun k hk=>?_⟩
 ·have:k = i + 1:=by omega
  subst this; omega
 ·by_cases e:k = i
  ·subst e; exact .inl List.mem_cons_self
  ·rcases m.don k (by omega) with z | z
   ·exact .inl (List.mem_cons_of_mem _ z)
   ·exact .inr z
theorem MI.top {a st:List Nat} {w:Nat} {ws:List Nat} {xs:List V} {i:Nat} (m:MI a i st (w :: ws) xs):∃ c r,a[w]? = some c/\c ∈ opn/\st = clo c :: r/\w < i:=by
 have h:=m.wk
 cases h with
 | cons h1 h2 h3 h4 h5 h6=>exact ⟨_,_,h2,h3,rfl,h1⟩
theorem MI.closes {a r : List Nat} {w : Nat} {ws : List Nat} {xs : List V} {i c : Nat} (m : MI a i (c :: r) (w :: ws) xs) (hc : a[i]? = some c) (ho : c ∉ opn) : MI a (i + 1) r ws ((xs.set w (.int i)).set i (.int w)) := by
  have e1 : ht a (i + 1) = ht a i - 1 := by rw [ht_succ hc]; unfold sg; rw [if_neg ho]; omega
  have e2 := ht_of m.rn
  have e3 := m.wk.len
  have hn : i < a.length := (List.getElem?_eq_some_iff.mp hc).1
  have h := m.wk
  cases h with
  | cons h1 h2 h3 h4 h5 h6 =>
    simp only [List.length_cons] at e2 e3
    have hp : Pr a w i := ⟨h1, hn, by omega, h5⟩
    have hlen := m.len
    refine ⟨?_, h6.ext (by omega), by simp [m.len], fun k hk => ?_⟩
    · rw [run_next m.rn hc]
      exact stp_close ho r
    · by_cases ek : k = i
      · subst ek
        exact .inr ⟨w, by simp [hlen, hn], .inr hp⟩
      · by_cases ew : k = w
        · subst ew
          refine .inr ⟨i, ?_, .inl hp⟩
          rw [List.getElem?_set_ne (by omega), List.getElem?_set_self (by omega)]
        · rcases m.don k (by omega) with z | ⟨p, z, q⟩
          · rcases List.mem_cons.mp z with z | z
            · exact absurd z ew
            · exact .inl z
          · exact .inr ⟨p, by rw [List.getElem?_set_ne (by omega), List.getElem?_set_ne (by omega)]; exact z, q⟩
theorem MI.fin {a:List Nat} {ws:List Nat} {xs:List V} (m:MI a a.length [] ws xs):IsPart a xs:=by
 have h:=m.wk
 cases h
 refine ⟨m.len,fun k hk=>?_⟩
 rcases m.don k hk with z | z
 ·cases z
 ·exact z
end BrM
namespace BrM
open L2 PySem
def plainTy:List String:=["NoneType","bool","int","str","list","tuple","dict"]
def spWhole (K:PySem.W.Frag):Sp:=fun vs H Q _=>∃ x T,vs = [x]/\TyOf K H x (.type T)/\T ∈ plainTy/\Q (.bl (decide (T = "int"))) H
theorem whole_int {K:PySem.W.Frag} {H:Hp} {i:Int} {Q:VK} {E:XK} (q:Q (.bl true) H):spWhole K ([.int i] ++ []) H Q E:=⟨.int i,"int",rfl,.int i,by decide,q⟩
def spKinds:Sp:=fun vs H Q _=>∃ k,vs = [.int k]/\1 <= k/\k <= 4/\Q .non H
theorem kinds_use {H:Hp} {k:Int} {Q:VK} {E:XK} (h1:1 <= k) (h2:k <= 4) (q:Q .non H):spKinds ([.int k] ++ []) H Q E:=⟨k,rfl,h1,h2,q⟩
def sgn (k:Int):List Nat:=opn.take k.toNat ++ cls.take k.toNat ++ [63]
def isRow (k:Int) (a:List Nat):Bool:=decide (a.length <= 40) && a.all fun c=>decide (c ∈ sgn k)
def spLine (K:PySem.W.Frag):Sp:=fun vs H Q _=>∃ k x,vs = [.int k,x]/\1 <= k/\k <= 4 /\
 ((∃ a,x = tx a/\a.length <= 1000/\∀ H',Same H H'->Q (.bl (isRow k a)) H')\/(∃ T,TyOf K H x (.type T)/\T ∈ plainTy/\T ≠ "str"/\Q (.bl false) H))
theorem line_use {K:PySem.W.Frag} {H:Hp} {k:Int} {a:List Nat} {Q:VK} {E:XK} (h1:1 <= k) (h2:k <= 4) (ha:a.length <= 1000) (q:∀ H',Same H H'->Q (.bl (isRow k a)) H'):spLine K ([.int k,tx a] ++ []) H Q E:=⟨k,_,rfl,h1,h2,.inl ⟨a,rfl,ha,q⟩⟩
def spCheckLine:Sp:=fun vs H Q _=>∃ k a,vs = [.int k,tx a]/\1 <= k/\k <= 4/\isRow k a = true/\∀ H',Same H H'->Q .non H'
theorem checkLine_use {H:Hp} {k:Int} {a:List Nat} {Q:VK} {E:XK} (h1:1 <= k) (h2:k <= 4) (ha:isRow k a = true) (q:∀ H',Same H H'->Q .non H'):spCheckLine ([.int k,tx a] ++ []) H Q E:=⟨k,a,rfl,h1,h2,ha,q⟩
instance (a:List Nat):Decidable (Rt a):=by unfold Rt; infer_instance
def spMatched:Sp:=fun vs H Q _=>∃ a,vs = [tx a]/\a.length <= 40/\(Rt a->∀ r xs H',H r = none->Same H H'->H' r = some (.lst xs)->IsPart a xs->Q (.ref r) H')/\(¬ Rt a->∀ H',Same H H'->Q .non H')
theorem matched_use {H:Hp} {a:List Nat} {Q:VK} {E:XK} (ha:a.length <= 40) (q:Rt a->∀ r xs H',H r = none->Same H H'->H' r = some (.lst xs)->IsPart a xs->Q (.ref r) H') (q':¬ Rt a->∀ H',Same H H'->Q .non H'):spMatched ([tx a] ++ []) H Q E:=⟨a,rfl,ha,q,q'⟩
def spPartners:Sp:=fun vs H Q _=>∃ k a,vs = [.int k,tx a]/\1 <= k/\k <= 4/\isRow k a = true/\Rt a/\∀ r xs H',H r = none->Same H H'->H' r = some (.lst xs)->IsPart a xs->Q (.ref r) H'
theorem partners_use {H:Hp} {k:Int} {a:List Nat} {Q:VK} {E:XK} (h1:1 <= k) (h2:k <= 4) (ha:isRow k a = true) (hr:Rt a) (q:∀ r xs H',H r = none->Same H H'->H' r = some (.lst xs)->IsPart a xs->Q (.ref r) H'):spPartners ([.int k,tx a] ++ []) H Q E:=⟨k,a,rfl,h1,h2,ha,hr,q⟩
def spRightP:Sp:=fun vs H Q _=>∃ k a,vs = [.int k,tx a]/\1 <= k/\k <= 4/\isRow k a = true/\∀ H',Same H H'->Q (.bl (decide (Rt a))) H'
theorem rightP_use {H:Hp} {k:Int} {a:List Nat} {Q:VK} {E:XK} (h1:1 <= k) (h2:k <= 4) (ha:isRow k a = true) (q:∀ H',Same H H'->Q (.bl (decide (Rt a))) H'):spRightP ([.int k,tx a] ++ []) H Q E:=⟨k,a,rfl,h1,h2,ha,q⟩
def spLaw (K:PySem.W.Frag):Sp:=fun vs H Q _=>∃ (a:Addr) (ns:List Int),vs = [.ref a]/\SqL K H a (ns.map V.int)/\ns.length <= 63/\∀ H',Q (.bl true) H'
theorem isRow_len {k:Int} {a:List Nat} (h:isRow k a = true):a.length <= 40:=by
 unfold isRow at h
 simp only [Bool.and_eq_true,decide_eq_true_eq] at h
 exact h.1
theorem cut_to {α:Type} (xs:List α) {k:Int} (h:0 <= k):cutL xs none (some k) = xs.take k.toNat:=by
 unfold cutL
 obtain ⟨n,rfl⟩:∃ n:Nat,k = n:=⟨k.toNat,by omega⟩
 rw [HT.sIx_nat,HT.sIx_none,List.drop_zero,Nat.sub_zero,Int.toNat_natCast]
 rcases Nat.le_total n xs.length with z | z
 ·rw [Nat.min_eq_left z]
 ·rw [Nat.min_eq_right z,List.take_length,List.take_of_length_le z]
theorem kinds_in {c d:Nat} (ho:c ∈ opn):inV (tx [c,d]) [tx [40,41],tx [91,93],tx [123,125],tx [60,62]] = decide (d = clo c):=by
 have e:inV (tx [c,d]) [tx [40,41],tx [91,93],tx [123,125],tx [60,62]] = (decide ([40,41] = [c,d]) || (decide ([91,93] = [c,d]) || (decide ([123,125] = [c,d]) || (decide ([60,62] = [c,d]) || false)))):=by
  unfold inV
  simp only [List.any_cons,List.any_nil,eqV_tx]
 rw [e]
 have ho':c = 40\/c = 91\/c = 123\/c = 60:=by simpa [opn] using ho
 rcases ho' with rfl | rfl | rfl | rfl <;> simp [clo,eq_comm]
theorem flat1 {α:Type} (x:α) (n:Nat):(List.replicate n [x]).flatten = List.replicate n x:=by
 induction n with
 | zero=>rfl
 | succ n ih=>rw [List.replicate_succ,List.flatten_cons,ih]; rfl
theorem Same.but {H H1 H2:Hp} {p:Addr} (a:Same H H1) (b:SameBut1 p H1 H2) (h:H p = none):Same H H2:=fun c o z=>b c o (a c o z) (ne_of_none z h)
theorem SameBut1.at {H H1:Hp} {p b:Addr} {o:HO} (s:SameBut1 p H H1) (h:H b = some o) (n:b ≠ p):H1 b = some o:=s b o h n
end BrM
namespace BrM
open L2 PySem
def mx (a:List Nat):Nat->Int
 | 0=>0
 | i + 1=>if ht a (i + 1) > mx a i then ht a (i + 1) else mx a i
def deep (a:List Nat):Int:=mx a a.length
def piece (a:List Nat) (b e:Nat):List Nat:=cutL a (some (b:Int)) (some (e:Int))
def ct (a:List Nat):Nat->List (List Nat) × Nat
 | 0=>([],0)
 | i + 1=>if ht a (i + 1) = 0 then ((ct a i).1 ++ [piece a (ct a i).2 (i + 1)],i + 1) else ct a i
def pts (a:List Nat):List (List Nat):=(ct a a.length).1
end BrM
namespace BrM
open L2 PySem
theorem isRow_mk {k:Int} {a:List Nat} (hl:a.length <= 40) (h:∀ c ∈ a,c ∈ sgn k):isRow k a = true:=by
 unfold isRow
 simp only [Bool.and_eq_true,List.all_eq_true,decide_eq_true_eq]
 exact ⟨hl,h⟩
theorem cut_nn {α:Type} (xs:List α) (i j:Nat):cutL xs (some (i:Int)) (some (j:Int)) = (xs.drop i).take (j - i):=by
 unfold cutL
 rw [HT.sIx_nat,HT.sIx_nat]
 rcases Nat.le_total i xs.length with h | h
 ·rw [Nat.min_eq_left h]
  rcases Nat.le_total j xs.length with g | g
  ·rw [Nat.min_eq_left g]
  ·rw [Nat.min_eq_right g,List.take_of_length_le (by rw [List.length_drop]; omega),List.take_of_length_le (by rw [List.length_drop]; omega)]
 ·rw [Nat.min_eq_right h,List.drop_of_length_le (Nat.le_refl _),List.drop_of_length_le h]; simp
theorem cut_from {α:Type} (xs:List α) (i:Nat):cutL xs (some (i:Int)) none = xs.drop i:=by
 unfold cutL
 rw [HT.sIx_nat,HT.sIx_none]
 rcases Nat.le_total i xs.length with h | h
 ·rw [Nat.min_eq_left h,List.take_of_length_le (by rw [List.length_drop]; omega)]
 ·rw [Nat.min_eq_right h,List.drop_of_length_le (Nat.le_refl _),List.drop_of_length_le h]; simp
end BrM
namespace BrR
open PySem PySem.Spec PyProof.Rows
open PySem.Builtin
end BrR
namespace BrR
open PySem PySem.Spec PyProof.Rows L2
open PySem.Builtin
section
variable {prog:Program} {w:World} {A:Around} {E:Value->Shared->Prop} {s:Shared}
end
end BrR
namespace L2
open PySem PySem.Spec PyProof.Rows BrR
section
variable {X:Cx}
theorem strs_of {xss : List (List Nat)} : ∀ {us : List Value}, Vals (xss.map tx) us -> StrsAre us (xss.map fun a => ⟨a.toArray⟩) := by
  induction xss with
  | nil => intro us r; cases r; exact .nil
  | cons a r ih =>
    intro us h
    cases h with
    | cons h1 h2 =>
      obtain ⟨t, rfl⟩ := h1
      exact .cons _ t (ih h2)
theorem join_flat : ∀ (xss : List (List Nat)), Str.join ⟨([] : List Nat).toArray⟩ (xss.map fun a => ⟨a.toArray⟩) = ⟨xss.flatten.toArray⟩
  | [] => rfl
  | [a] => by simp [Str.join]
  | a :: b :: r => by
    have ih := join_flat (b :: r)
    rw [List.map_cons, List.map_cons] at *
    show (⟨a.toArray⟩ : Str) ++ ⟨([] : List Nat).toArray⟩ ++ Str.join ⟨([] : List Nat).toArray⟩ (⟨b.toArray⟩ :: r.map fun a => ⟨a.toArray⟩) = _
    rw [ih]
    show (⟨a.toArray ++ ([] : List Nat).toArray ++ (b :: r).flatten.toArray⟩ : Str) = _
    simp
def rJoin (K:PySem.W.Frag):V->List V->Hp->VK->Prop:=fun x vs H Q=>∃ (p:Addr) (xss:List (List Nat)),x = tx []/\vs = [.ref p]/\SqL K H p (xss.map tx)/\xss.flatten.length + xss.length <= 1000000/\Q (tx xss.flatten) H
theorem mt_join (K:PySem.W.Frag) (hK:X.K = K:=by rfl):MtR X "str.join" (rJoin K):=by
 subst hK
 intro pins s σ H x vs v us Q I rx rv h
 obtain ⟨p,xss,rfl,rfl,hq,hw,q⟩:=h
 obtain ⟨t,rfl⟩:=rx
 obtain ⟨u,rfl,ru⟩:=rv.one
 cases ru
 obtain ⟨its,r,ht,hz⟩:=I.list hq
 have hs:((xss.map fun a=>(⟨a.toArray⟩:Str)).map (·.length)).sum = xss.flatten.length:=by
  rw [List.map_map,List.length_flatten]
  congr 1
 refine join_listW ht.isList (strs_of r) (by rw [tx_len]; decide) (by rw [hs,List.length_map]; omega) fun t' k=>?_
 have e:Txt.join ⟨([]:List Nat).toArray⟩ (xss.map fun a=>⟨a.toArray⟩) = ⟨xss.flatten.toArray⟩:=by
  show Builtin.Str.glued _ _ = _
  rw [StrLaws.glued_eq_join,join_flat]
 rw [e]
 exact ⟨tx xss.flatten,H,I.tok k,⟨t',rfl⟩,q⟩
end
section
variable {σ:St} {H:Hp} {Q:VK} {K:PySem.W.Frag}
theorem s_tyT {a:List Nat} {P:Prop} (h:P):tyV K "str" (tx a) H/\P:=⟨rfl,h⟩
theorem s_join {p:Addr} {xss:List (List Nat)} (hq:SqL K H p (xss.map tx)) (hw:xss.flatten.length + xss.length <= 1000000) (h:Q (tx xss.flatten) H):rJoin K (tx []) [.ref p] H Q:=⟨p,xss,rfl,rfl,hq,hw,h⟩
end
end L2
namespace BrM
open L2 PySem BrR
def oth (c:Nat):Nat:=if c = 40 then 41 else if c = 91 then 93 else if c = 123 then 125 else if c = 60 then 62 else if c = 41 then 40 else if c = 93 then 91 else if c = 125 then 123 else if c = 62 then 60 else c
def trn (a:List Nat):List Nat:=a.reverse.map oth
def sgs (k:Int):List Nat:=[40,41,91,93,123,125,60,62].take (2 * k).toNat ++ [63]
theorem sgs_sgn {k:Int} {c:Nat} (h1:1 <= k) (h4:k <= 4) (h:c ∈ sgs k):c ∈ sgn k:=by
 have hk:k = 1\/k = 2\/k = 3\/k = 4:=by omega
 rcases hk with rfl | rfl | rfl | rfl
 ·exact (show ∀ c ∈ sgs 1,c ∈ sgn 1 by decide) c h
 ·exact (show ∀ c ∈ sgs 2,c ∈ sgn 2 by decide) c h
 ·exact (show ∀ c ∈ sgs 3,c ∈ sgn 3 by decide) c h
 ·exact (show ∀ c ∈ sgs 4,c ∈ sgn 4 by decide) c h
theorem at_mem {l:List Nat} {i:Int} (h0:0 <= i) (h1:i < (l.length:Int)):∃ c,atI l i = some c/\c ∈ l:=by
 have hk:i.toNat < l.length:=by omega
 have ek:i = ((i.toNat:Nat):Int):=by omega
 have q:atI l ((i.toNat:Nat):Int) = some l[i.toNat]:=atI_nat (List.getElem?_eq_getElem hk)
 rw [<- ek] at q
 exact ⟨_,q,List.getElem_mem hk⟩
theorem kin_sgn {k:Int} {c:Nat} (h:kin k c):c ∈ sgn k:=by
 unfold sgn
 rcases h with z | z
 ·exact List.mem_append_left _ (List.mem_append_left _ z)
 ·exact List.mem_append_left _ (List.mem_append_right _ z)
end BrM
namespace L2
open PySem PySem.Spec PyProof.Rows BrR
section
variable {X:Cx}
end
section
variable {σ:St} {H:Hp} {Q:VK} {K:PySem.W.Frag}
end
end L2
namespace BrM
open L2 PySem
structure PtsOk (a:List Nat):Prop where
 flat:(pts a).flatten = a
 form:∀ p ∈ pts a,∃ o M,p = [o] ++ M ++ [clo o]/\o ∈ opn/\Rt M
 le:∀ p ∈ pts a,deep p <= deep a
 top:deep a = 0\/∃ p ∈ pts a,deep p = deep a
 back:pts (trn a) = ((pts a).map trn).reverse
theorem len_mem_flat {p : List Nat} : ∀ {l : List (List Nat)}, p ∈ l -> p.length <= l.flatten.length
  | q :: r, h => by
    rw [List.flatten_cons, List.length_append]
    rcases List.mem_cons.mp h with z | z
    · subst z; omega
    · have := len_mem_flat z; omega
theorem PtsOk.len {a:List Nat} (h:PtsOk a) {p:List Nat} (hp:p ∈ pts a):p.length <= a.length:=by
 have:=len_mem_flat hp
 rwa [h.flat] at this
end BrM
namespace L2
open PySem PySem.Spec PyProof.Rows BrR
section
variable {σ:St} {H:Hp} {Q:VK} {K:PySem.W.Frag}
theorem comp_map {a:Addr} {xs:List V} {own:List Str} {sel:List Nat} {g:TG} {te:TE} (f:V->V) (hn:xs.length <= sizeLine) (ha:H a = some (.lst xs))
  (hst:∀ D H',H D = none->Same H H'->H' D = some (.lst (xs.map f))->Q (.ref D) H')
  (hs:∀ (D:Addr) (i:Nat) (x:V) (H':Hp) (R:V->Hp->Prop),H D = none->xs[i]? = some x->Same H H'->(∀ H6,Same H' H6->R (f x) H6)->g x (inSt own sel σ) H' fun σ4 H4=>te σ4 H4 R):CompW (Itl K a) own sel σ g tYes te Q H:=by
 refine comp_of (n:=xs.length) (fun D i ys H'=>ys = (xs.take i).map f/\Same H H') (fun D hD=>⟨rfl,same_new hD _⟩) (fun D i ys H' hD hi hy ⟨_,sH⟩=>⟨xs,xs[i],SqL.of (sH _ _ ha),List.getElem?_eq_getElem hi⟩) (fun D ys H' hD hy hl ⟨e,sH⟩=>⟨⟨_,SqL.of (sH _ _ ha),Nat.le_refl _⟩,hst D H' hD sH (by rw [hy,e,List.take_length])⟩) ?_
 rintro D i ys H' x H3 hD hi hy hl ⟨e,sH⟩ ⟨rfl,hx⟩
 have hx':=hx _ (SqL.of (sH _ _ ha))
 have ef:(fun (σ4:St) (H4:Hp)=>tYes σ4 H4 fun b H5=>if b = true then te σ4 H5 fun v H6=>∃ ys,H6 D = some (.lst ys)/\ys.length < sizeLine/\∃ m',m' < xs.length - i/\CW D xs.length (fun i ys H'=>ys = (xs.take i).map f/\Same H H') (i + 1) m' (upd H6 D (.lst (ys ++ [v]))) else ∃ m',m' < xs.length - i/\CW D xs.length (fun i ys H'=>ys = (xs.take i).map f/\Same H H') (i + 1) m' H5)
   = fun σ4 H4=>te σ4 H4 fun v H6=>∃ ys,H6 D = some (.lst ys)/\ys.length < sizeLine/\∃ m',m' < xs.length - i/\CW D xs.length (fun i ys H'=>ys = (xs.take i).map f/\Same H H') (i + 1) m' (upd H6 D (.lst (ys ++ [v]))):=by
  funext σ4 H4
  simp only [tYes,if_true]
 rw [ef]
 refine hs D i x H3 _ hD hx' sH fun H6 s6=>?_
 refine comp_next hi hn (s6 _ _ hy) hl ⟨?_,fun b o z=>?_⟩
 ·rw [e,List.take_add_one,hx',List.map_append]; rfl
 ·rw [upd_ne (ne_of_none z hD)]
  exact s6 _ _ (sH _ _ z)
end
end L2
namespace BrM
open L2 PySem
end BrM
namespace L2
open PySem PySem.Spec PyProof.Rows
theorem cf_split : ∀ (names : List (Str × NameKind)) (h : Heap) (acc : List (Str × Addr)) (x : Str) (c : Addr), (cellsFrom h.objs.size names acc).lookup x = some c ->
    ((x, NameKind.cell) ∈ names /\ h.objs.size <= c /\ (pushCells h names).IsCell c none) \/ acc.lookup x = some c
  | [], _, _, _, _, e => .inr e
  | (nm, k) :: r, h, acc, x, c, e => by
    unfold cellsFrom at e
    unfold pushCells
    by_cases hk : (k == NameKind.cell) = true
    · rw [if_pos hk] at e ⊢
      rw [<- Heap.size_push h { cls := .type "cell", data := .cell none }] at e
      rcases cf_split r _ _ x c e with ⟨a, b, d⟩ | q
      · refine .inl ⟨List.mem_cons_of_mem _ a, ?_, d⟩
        rw [Heap.size_push] at b; omega
      · rw [List.lookup_cons] at q
        cases hx : x == nm with
        | true =>
          rw [hx] at q
          cases q
          have e1 := eq_of_beq hx
          have e2 : k = .cell := by simpa using hk
          subst e1; subst e2
          exact .inl ⟨List.mem_cons_self, Nat.le_refl _, ⟨_, pushCells_keeps _ _ _ _ (Heap.get?_push_size _ rfl), rfl⟩⟩
        | false => rw [hx] at q; exact .inr q
    · rw [if_neg hk] at e ⊢
      rcases cf_split r h acc x c e with ⟨a, b, d⟩ | q
      · exact .inl ⟨List.mem_cons_of_mem _ a, b, d⟩
      · exact .inr q
theorem cf_old : ∀ (names : List (Str × NameKind)) (n : Nat) (acc : List (Str × Addr)) (x : Str), (x, NameKind.cell) ∉ names -> (cellsFrom n names acc).lookup x = acc.lookup x
  | [], _, _, _, _ => rfl
  | (nm, k) :: r, n, acc, x, hx => by
    unfold cellsFrom
    have hr : (x, NameKind.cell) ∉ r := fun z => hx (List.mem_cons_of_mem _ z)
    by_cases hk : (k == NameKind.cell) = true
    · rw [if_pos hk, cf_old r _ _ x hr, List.lookup_cons]
      have : (x == nm) = false := by
        cases q : x == nm with
        | false => rfl
        | true =>
          have e1 := eq_of_beq q
          have e2 : k = .cell := by simpa using hk
          subst e1; subst e2
          exact absurd List.mem_cons_self hx
      rw [this]
    · rw [if_neg hk]; exact cf_old r n acc x hr
theorem cf_new : ∀ (names : List (Str × NameKind)) (n : Nat) (acc : List (Str × Addr)) (x : Str), ((x, NameKind.cell) ∈ names \/ ∃ c, acc.lookup x = some c /\ n <= c) -> ∃ c, (cellsFrom n names acc).lookup x = some c /\ n <= c
  | [], n, acc, x, h => by
    rcases h with z | z
    · cases z
    · exact z
  | (nm, k) :: r, n, acc, x, h => by
    unfold cellsFrom
    by_cases hk : (k == NameKind.cell) = true
    · rw [if_pos hk]
      by_cases hr : (x, NameKind.cell) ∈ r
      · obtain ⟨c, e, l⟩ := cf_new r (n + 1) ((nm, n) :: acc) x (.inl hr)
        exact ⟨c, e, by omega⟩
      · rw [cf_old r _ _ x hr, List.lookup_cons]
        cases hx : x == nm with
        | true => exact ⟨n, rfl, Nat.le_refl _⟩
        | false =>
          rcases h with z | z
          · rcases List.mem_cons.mp z with q | q
            · cases q; simp at hx
            · exact absurd q hr
          · exact z
    · rw [if_neg hk]
      refine cf_new r n acc x ?_
      rcases h with z | z
      · rcases List.mem_cons.mp z with q | q
        · cases q; exact absurd rfl hk
        · exact .inl q
      · exact .inr z
theorem cf_inj : ∀ (names : List (Str × NameKind)) (n : Nat) (acc : List (Str × Addr)), (∀ x y c, acc.lookup x = some c -> acc.lookup y = some c -> x = y) -> (∀ x c, acc.lookup x = some c -> c < n) ->
    ∀ x y c, (cellsFrom n names acc).lookup x = some c -> (cellsFrom n names acc).lookup y = some c -> x = y
  | [], _, _, h, _ => h
  | (nm, k) :: r, n, acc, h, hb => by
    unfold cellsFrom
    by_cases hk : (k == NameKind.cell) = true
    · rw [if_pos hk]
      refine cf_inj r (n + 1) ((nm, n) :: acc) (fun x y c a b => ?_) fun x c a => ?_
      · rw [List.lookup_cons] at a b
        cases hx : x == nm <;> cases hy : y == nm <;> rw [hx] at a <;> rw [hy] at b
        · exact h x y c a b
        · cases b; exact absurd (hb x _ a) (Nat.lt_irrefl _)
        · cases a; exact absurd (hb y _ b) (Nat.lt_irrefl _)
        · rw [eq_of_beq hx, eq_of_beq hy]
      · rw [List.lookup_cons] at a
        cases hx : x == nm <;> rw [hx] at a
        · exact Nat.lt_succ_of_lt (hb x c a)
        · cases a; exact Nat.lt_succ_self _
    · rw [if_neg hk]; exact cf_inj r n acc h hb
theorem wp_envC {M : Model} {A : Around} {E : Value -> Shared -> Prop} {s : Shared} {scope : Scope} {cl : List (Str × Addr)} {env : Env} {Q : Env -> Shared -> Prop}
  (h : Q { scope := scope, locals := s.heap.objs.size, globals := env.globals, cells := cellsFrom (s.heap.objs.size + 1) scope.names cl, qual := env.qual, func := none, code := env.code, frame := env.frame, builtins := env.builtins }
   { s with heap := pushCells (s.heap.push { cls := .type "dict", data := .dict #[] }) scope.names }) :
  wpAny M A (newFunctionEnv scope env.globals cl [] env.qual none .none (some env)) Q E s := by
 simp only [newFunctionEnv, Option.isSome_some, if_true]
 refine wpAny_bind (wpAny_alloc ?_)
 refine wpAny_bind (wpAny_layCells _ (fun name kind cells => by cases hkc : kind == NameKind.cell <;> simp [hkc]) _ _ _ _ ?_)
 rw [show ({ s with heap := s.heap.push { cls := .type "dict", data := .dict #[] } } : Shared).heap.objs.size = s.heap.objs.size + 1 from Heap.size_push ..]
 rw [List.forIn_nil]
 exact wpAny_bind (wpAny_pure (wpAny_pure h))
def cxInC (X:Cx) (own:List Str) (sel:List Nat) (scope:Scope) (cl:List (Str × Addr)) (C:Addr) (s2:Shared) (H2:Hp) (fp:List Addr):Cx where
 prog:=X.prog
 w:=X.w
 K:=X.K
 mg:=X.mg
 base:=X.base
 A:=X.A
 N:=own ++ sel.map fun j=>X.N.getD j Str.empty
 s₀:=s2
 H₀:=H2
 env:=compEnvC scope cl C X.env
 outer:=X.stack
 stack:=X.stack
 ex:=fp
 fn:=fun x=>scope.names.lookup x == some .cell
 calm:=X.calm
 pn:=[]
 xe:=fun _ _=>False
structure CompOkC (osc:Scope) (N:List Str) (own:List Str) (sel:List Nat) (scope:Scope):Prop where
 kind:scope.kind = .function
 cell:∀ y ∈ scope.names,y.2 = .cell->scope.names.lookup y.1 = some .cell
 names:∀ y ∈ scope.names,y.2 = .local->scope.names.lookup y.1 = some .local
 free:∀ y ∈ scope.names,y.2 = .free->osc.names.lookup y.1 = some .cell\/osc.names.lookup y.1 = some .free
 seln:∀ j ∈ sel,j < N.length/\scope.names.lookup (N.getD j Str.empty) = some .free/\(osc.names.lookup (N.getD j Str.empty) = some .cell\/osc.names.lookup (N.getD j Str.empty) = some .free)
section
variable {X:Cx}
theorem comp_coreC {elt tg iter : Expr} {ifs : List Expr} {scope : Scope} {pos : Pos} {own : List Str} {sel : List Nat} {wi : TI} {g : TG} {tt : TT} {te : TE} {use : Option (Value -> Sem Unit)} {Qo : Value -> Shared -> Prop}
    (S : CompOkC X.env.scope X.N own sel scope) (hc : X.calm = true) (hi : PI X tg iter wi)
    (hg : ∀ cl C s2 H2 fp, PG (cxInC X own sel scope cl C s2 H2 fp) tg g) (hk : GK own.length g)
    (ht : ∀ cl C s2 H2 fp, PIf (cxInC X own sel scope cl C s2 H2 fp) ifs tt) (he : ∀ cl C s2 H2 fp, PE (cxInC X own sel scope cl C s2 H2 fp) elt te)
    (hs : ∀ x, foldedSetIterable iter X.env x = pure x) {pins : List (Addr × Obj)} {s : Shared} {σ : St} {H : Hp} {Q : VK} {ps : Pos} (I0 : Inv X pins σ H s) (h : tComp own sel wi g tt te σ H Q)
    (fin : ∀ (D C : Addr) (H' : Hp) (s' : Shared) (m : Str -> Option Value), Inv X pins σ H' s' -> s'.heap.Ns C m -> Far X pins H' C -> Q (.ref D) H' -> compPost (model X.prog X.w) X.A X.xe use Qo (.ref D) C (.ok .next) s') :
    wpAny (model X.prog X.w) X.A (comprehension (.ListComp elt [⟨tg, iter, ifs, 0⟩] scope pos) scope X.env ps (newList []) false (eval iter X.env) use) Qo X.xe s := by
  obtain ⟨cl0, hclos, hcl0, hfree0⟩ := clos_ex (scope := scope) (env := X.env) fun y hy e => I0.ok.has y.1 (S.free y hy e)
  refine wpAny_comprehension_free (use := use) rfl hs hclos S.kind S.names (thn (hi pins s σ H _ I0 h) fun v s1 h1 => thn h1 fun itv s2 h2 => ?_)
  obtain ⟨it, fp, tn, J, H2, e, I, T, st2, f2, h3⟩ := h2
  subst e
  clear h h1 I0
  refine wpAny_newObj_type (wp_envC ?_)
  dsimp only
  generalize hP : s2.heap.push { cls := .type "list", dict := none, data := .seq ([] : List Value).toArray } = P1
  generalize hD : s2.heap.objs.size = D
  generalize hC : P1.objs.size = C
  have hCD : C = D + 1 := by rw [<- hC, <- hP, Heap.size_push, hD]
  have hlt : D < C := by rw [hCD]; exact Nat.lt_succ_self D
  have hDC : D ≠ C := Nat.ne_of_lt hlt
  have neC : ∀ b : Addr, b < D -> b ≠ C := fun b hb => Nat.ne_of_lt (Nat.lt_trans hb hlt)
  have neD : ∀ b : Addr, b < D -> b ≠ D := fun b hb => Nat.ne_of_lt hb
  have hsD : s2.heap.objs.size <= D := Nat.le_of_eq hD
  have hsC : s2.heap.objs.size <= C := Nat.le_trans hsD (Nat.le_of_lt hlt)
  have fresh : ∀ a, D <= a -> H2 a = none := fun a ha => I.hok.fresh (by rw [hD]; exact ha)
  have hnD : H2 D = none := fresh D (Nat.le_refl _)
  have hnC : H2 C = none := fresh C (Nat.le_of_lt hlt)
  have below : ∀ b o, s2.heap.get? b = some o -> b < D := fun b o e => by rw [<- hD]; exact Heap.lt_size e
  generalize hh1 : pushCells (P1.push { cls := .type "dict", data := .dict #[] }) scope.names = h1
  have keepP : ∀ b o, P1.get? b = some o -> h1.get? b = some o := fun b o e => by rw [<- hh1]; exact pushCells_keeps _ _ b o (Heap.get?_push_of_some _ e)
  have keep1 : ∀ b o, s2.heap.get? b = some o -> h1.get? b = some o := fun b o e => keepP b o (hP ▸ Heap.get?_push_of_some _ e)
  have hns1 : h1.Ns C (fun _ => none) := by rw [<- hh1, <- hC]; exact (Heap.Ns.new P1 (.type "dict")).keeps (pushCells_keeps _ _)
  have gD : h1.get? D = some { cls := .type "list", dict := none, data := .seq ([] : List Value).toArray } := by
    refine keepP _ _ ?_
    rw [<- hP, <- hD]
    exact Heap.get?_push_size _ rfl
  have szP : (P1.push { cls := .type "dict", data := .dict #[] }).objs.size = C + 1 := by rw [Heap.size_push, hC]
  have hcb : ∀ x c, cl0.lookup x = some c -> c < D := fun x c e => by
    obtain ⟨u, o, z, _⟩ := I.cell x c (hcl0 _ _ e)
    exact below c o z
  generalize hcs : cellsFrom (C + 1) scope.names cl0 = cl
  have hsplit : ∀ x c, cl.lookup x = some c -> ((x, NameKind.cell) ∈ scope.names /\ C + 1 <= c /\ h1.IsCell c none) \/ X.env.cells.lookup x = some c := fun x c e => by
    rw [<- hcs, <- szP] at e
    rcases cf_split _ _ _ x c e with ⟨a, b, d⟩ | q
    · rw [szP] at b; rw [hh1] at d; exact .inl ⟨a, b, d⟩
    · exact .inr (hcl0 _ _ q)
  have hinj : ∀ x y c, cl.lookup x = some c -> cl.lookup y = some c -> x = y := by
    rw [<- hcs]
    exact cf_inj _ _ _ (fun x y c a b => I.ok.inj x y c (hcl0 _ _ a) (hcl0 _ _ b)) fun x c e => Nat.lt_succ_of_lt (Nat.lt_trans (hcb x c e) hlt)
  have hcell : ∀ x, (x, NameKind.cell) ∈ scope.names -> ∃ c, cl.lookup x = some c /\ C + 1 <= c := fun x hx => by rw [<- hcs]; exact cf_new _ _ _ x (.inl hx)
  have hfree : ∀ y ∈ scope.names, y.2 = .free -> ∃ c, cl.lookup y.1 = some c := fun y hy e => by
    by_cases hm : (y.1, NameKind.cell) ∈ scope.names
    · obtain ⟨c, q, _⟩ := hcell _ hm; exact ⟨c, q⟩
    · rw [<- hcs, cf_old _ _ _ _ hm]; exact hfree0 y hy e
  have hold : ∀ x, scope.names.lookup x = some .free -> ∃ c, cl.lookup x = some c /\ X.env.cells.lookup x = some c := fun x hx => by
    have hm : (x, NameKind.cell) ∉ scope.names := fun z => by have := S.cell _ z rfl; rw [hx] at this; cases this
    obtain ⟨c, q⟩ := hfree0 _ (PySem.mem_of_lookup hx) rfl
    exact ⟨c, by rw [<- hcs, cf_old _ _ _ _ hm]; exact q, hcl0 _ _ q⟩
  obtain ⟨W, ⟨m0, w0⟩, turn⟩ := h3 D hnD
  have fpb : ∀ b ∈ fp, b < D := fun b hb => by obtain ⟨o, e, _⟩ := T.obj _ _ st2 b hb; exact below b o e
  generalize hY : cxInC X own sel scope cl C s2 H2 fp = Y
  have hg := hg cl C s2 H2 fp
  have ht := ht cl C s2 H2 fp
  have he := he cl C s2 H2 fp
  rw [hY] at hg ht he
  have okY : Y.Ok := by
    subst hY
    refine ⟨I.ok.mod, S.kind, I.ok.glob, I.ok.blt, ?_, hinj, fun x hx => ?_, fun x c hf e => ?_, fun z => I.ok.hd z, I.ok.frames, .inl rfl, fun b hb => ⟨?_, fun x c e => ?_⟩, I.bs,
      Nat.le_trans I.ok.bsz I.sz, fun b o e hb => ?_, fun b hb z => ?_, I.stack, I.stkFree⟩
    · exact hsC
    · have hx' : (relabel scope X.env).names.lookup x = some .cell \/ (relabel scope X.env).names.lookup x = some .free := hx
      have hf : scope.names.lookup x = some .cell \/ scope.names.lookup x = some .free := by
        rcases hx' with z | z
        · rcases relabel_lookup z with q | q
          · exact .inl q
          · exact .inr q
        · rcases relabel_lookup z with q | q <;> exact .inr q
      rcases hf with hf | hf
      · obtain ⟨c, q, _⟩ := hcell _ (PySem.mem_of_lookup hf); exact ⟨c, q⟩
      · exact hfree _ (PySem.mem_of_lookup hf) rfl
    · have hf' : scope.names.lookup x = some .cell := by
        have : (scope.names.lookup x == some NameKind.cell) = true := hf
        exact eq_of_beq this
      obtain ⟨c', q, l⟩ := hcell x (PySem.mem_of_lookup hf')
      have e' : cl.lookup x = some c := e
      rw [q] at e'
      cases e'
      exact Nat.le_trans hsC (by omega)
    · exact neC b (fpb b hb)
    · rcases hsplit x c e with ⟨_, l, _⟩ | q
      · have := fpb b hb; intro z; subst z; exact absurd (Nat.lt_of_lt_of_le this (Nat.le_of_lt hlt)) (by omega)
      · exact (f2 b hb).2.2.2.2.1 x c q
    · rcases (f2 b hb).2.2.2.1 with z | z
      · exact I.ok.noex b o e z
      · exact absurd (Nat.lt_of_lt_of_le (Heap.lt_size e) (Nat.le_trans I.ok.bsz z)) (Nat.lt_irrefl _)
    · rcases List.mem_cons.mp (I.stkSub b z) with q | q
      · exact (f2 b hb).2.1 q
      · exact (f2 b hb).2.2.1 q
  have eo : ObjOk X.prog X.w (upd H2 D (.lst [])) h1 D (.lst []) := ⟨by decide, [], _, .nil, gD⟩
  have I1 : Inv Y [] (inSt own sel σ) (upd H2 D (.lst [])) { s2 with heap := h1 } := by
    subst hY
    refine ⟨okY, rfl, I.bare, Un.laid keep1 hsD hnD, ⟨_, hns1, fun i x v e1 e2 e3 => ?_⟩, fun x c e => ?_, ?_, fun x c e => ?_, fun p hp => absurd (show p ∈ ([] : List (Addr × Obj)) from hp) (by simp), I.hok.laid keep1 hsD eo, ?_⟩
    · obtain ⟨k, j, ei, ej, es⟩ := inSt_sel e2
      subst ei
      have e1' : (own ++ sel.map fun j => X.N.getD j Str.empty)[own.length + k]? = some x := e1
      rw [List.getElem?_append_right (by omega), List.getElem?_map, show own.length + k - own.length = k by omega, ej] at e1'
      simp only [Option.map_some, Option.some.injEq] at e1'
      obtain ⟨hj, hfx, hkd⟩ := S.seln j (List.mem_of_getElem? ej)
      have hN : X.N[j]? = some x := by rw [<- e1', List.getD_eq_getElem?_getD, List.getElem?_eq_getElem hj]; rfl
      rw [e1'] at hkd hfx
      obtain ⟨m, _, hl⟩ := I.loc
      obtain ⟨u, r, lk⟩ := hl j x v hN es (.inr hkd)
      refine ⟨u, r, .inr ⟨relabel_free I.ok.kind hfx, ?_⟩⟩
      rcases lk with ⟨z1, _⟩ | ⟨_, c, hc1, hc2⟩
      · have z1' : X.env.scope.names.lookup x = some .local := z1
        rcases hkd with q | q <;> (rw [z1'] at q; cases q)
      · obtain ⟨c', q, q2⟩ := hold _ hfx
        rw [hc1] at q2
        cases q2
        exact ⟨c, q, hc2.keeps keep1⟩
    · rcases hsplit x c e with ⟨_, _, z⟩ | q
      · exact ⟨_, z⟩
      · obtain ⟨u, z⟩ := I.cell x c q
        exact ⟨u, z.keeps keep1⟩
    · show upd H2 D (.lst []) C = none
      rw [upd_ne (Ne.symm hDC)]; exact hnC
    · show upd H2 D (.lst []) c = none
      rcases hsplit x c e with ⟨_, l, _⟩ | q
      · have hcD : D < c := Nat.lt_of_lt_of_le hlt (by omega)
        rw [upd_ne (Ne.symm (Nat.ne_of_lt hcD))]
        exact fresh c (Nat.le_of_lt hcD)
      · obtain ⟨u, o, z, _⟩ := I.cell x c q
        rw [upd_ne (neD c (below c o z))]
        exact I.freeC x c q
    · show (inSt own sel σ).length = (own ++ sel.map fun j => X.N.getD j Str.empty).length
      rw [inSt_len]; simp
  have fin : ∀ (σ' : St) (H' : Hp) (s' : Shared), Inv Y [] σ' H' s' -> Q (.ref D) H' -> compPost (model X.prog X.w) X.A X.xe use Qo (.ref D) C (.ok .next) s' := by
    intro σ' H' s' I' q
    subst hY
    obtain ⟨m, hn, _⟩ := I'.loc
    have J' : Inv X pins σ H' s' := I.call' I'.os I'.base I'.hok I'.bare fun b hb => ⟨(f2 b hb).2.2.2.1, (f2 b hb).2.1, (f2 b hb).2.2.2.2.1, (f2 b hb).2.2.2.2.2⟩
    refine fin D C H' s' m J' hn ⟨I'.free, Ne.symm (neC _ (by rw [<- hD]; exact I.lt)), Nat.le_trans I.sz hsC, fun x c e => ?_, fun p hp => ?_⟩ q
    · obtain ⟨u, o, z, _⟩ := I.cell x c e
      exact neC c (below c o z)
    · exact neC p.1 (below p.1 p.2 (I.pin p hp).1)
  have stat : ∀ {H' : Hp}, (∀ b ∈ fp, H' b = none) -> ∀ b ∈ fp, FpOk Y [] H' b := fun {H'} hn b hb => by
    subst hY
    refine ⟨hn b hb, neC b (fpb b hb), fun z => ?_, .inl hb, fun x c e => ?_, fun p hp => absurd (show p ∈ ([] : List (Addr × Obj)) from hp) (by simp)⟩
    · rcases List.mem_cons.mp (I.stkSub b z) with q | q
      · exact (f2 b hb).2.1 q
      · exact (f2 b hb).2.2.1 q
    · rcases hsplit x c e with ⟨_, l, _⟩ | q
      · have := fpb b hb; intro z; subst z; exact absurd (Nat.lt_of_lt_of_le this (Nat.le_of_lt hlt)) (by omega)
      · exact (f2 b hb).2.2.2.2.1 x c q
  have loop : ∀ s3 : Shared, s3 = { s2 with heap := h1 } ->
      codeAny (model X.prog X.w) X.A (.compLoop (.ListComp elt [⟨tg, iter, ifs, 0⟩] scope pos) 0 (.ref it) (.ref D) (compEnvC scope cl C X.env)) (compPost (model X.prog X.w) X.A X.xe use Qo (.ref D) C) s3 := by
    rintro s3 rfl
    have eP : Y.prog = X.prog := by subst hY; rfl
    have eW : Y.w = X.w := by subst hY; rfl
    have eA : Y.A = X.A := by subst hY; rfl
    have eK : Y.K = X.K := by subst hY; rfl
    have eE : Y.env = compEnvC scope cl C X.env := by subst hY; rfl
    have eX : Y.xe = fun _ _ => False := by subst hY; rfl
    have eC : Y.calm = true := by subst hY; exact hc
    refine comp_turns (fun n s' => ∃ i H', Inv Y [] (inSt own sel σ) H' s' /\ tn i s'.heap /\ (∀ b ∈ fp, H' b = none) /\ W i n H') ?_ m0
      ⟨0, _, I1, T.keep _ _ _ st2 fun b _ o e => keep1 b o e, fun b hb => by rw [upd_ne (neD b (fpb b hb))]; exact (f2 b hb).1, w0⟩
    rintro n s4 ⟨i, H4, I4, st4, fr4, w4⟩
    rcases turn i n H4 w4 with ⟨stop, q⟩ | ⟨go, step⟩
    · have dn := T.done Y eP eW eK eC i [] s4 _ H4 (fun _ _ => False) I4 (stat fr4) st4 stop
      rw [eA] at dn
      refine thn dn fun r s5 ⟨hr, I5⟩ => ?_
      subst hr
      exact fin _ _ _ I5 q
    · have im := T.item Y eP eW eK eC i [] s4 _ H4 (fun _ _ => False) I4 (stat fr4) st4 go
      rw [eA] at im
      refine thn im fun r s5 ⟨u, hr, h5⟩ => ?_
      subst hr
      refine thn h5 fun _ s6 ⟨x, H6, I6, r6, y6, st6, fr6⟩ => ?_
      have I6' := I6.pinned (stat fr6) (T.obj _ _ st6)
      have back : ∀ {σ7 : St} {H7 : Hp} {s7 : Shared} {k : Nat}, Inv Y ([] ++ pinsAt fp s6.heap) σ7 H7 s7 -> σ7.length = (inSt own sel σ).length -> (∀ j, own.length <= j -> σ7[j]? = (inSt own sel σ)[j]?) -> (∃ m', m' < n /\ W (i + 1) m' H7) ->
          ∃ m', m' < n /\ ∃ i H', Inv Y [] (inSt own sel σ) H' s7 /\ tn i s7.heap /\ (∀ b ∈ fp, H' b = none) /\ W i m' H' := fun {σ7 H7 s7 k} I7 l7 k7 w7 => by
        obtain ⟨m', hm, w7⟩ := w7
        refine ⟨m', hm, i + 1, H7, I7.unpinned.weak l7.symm fun j v e => ?_, T.keep _ _ _ st6 fun b hb o e => (I7.pin (b, o) (List.mem_append_right _ (List.mem_append_right _ (mem_pinsAt hb e)))).1, fun b hb => ?_, w7⟩
        · by_cases hj : j < own.length
          · rw [inSt_own hj] at e; cases e
          · rw [k7 j (Nat.le_of_not_lt hj)]; exact e
        · obtain ⟨o, e, d⟩ := T.obj _ _ st6 b hb
          exact (I7.pin (b, o) (List.mem_append_right _ (List.mem_append_right _ (mem_pinsAt hb e)))).2.1
      have ga := hg _ s6 _ H6 x u _ I6' r6 (hk _ _ _ _ (step x H6 y6))
      rw [eP, eW, eA, eE, eX] at ga
      refine thn ga fun _ s7 ⟨σ7, H7, I7, q7, l7, k7⟩ => ?_
      have ta := ht _ s7 σ7 H7 _ I7 q7
      rw [eP, eW, eA, eE, eX] at ta
      refine thn ta fun b s8 ⟨H8, I8, q8⟩ => ?_
      cases b with
      | false =>
        rw [if_neg Bool.false_ne_true] at q8 ⊢
        exact back (k := 0) I8 l7 k7 q8
      | true =>
        rw [if_pos rfl] at q8 ⊢
        have ea := he _ s8 σ7 H8 _ I8 q8
        rw [eP, eW, eA, eE, eX] at ea
        refine thn ea fun v s9 ⟨x9, H9, I9, r9, ys, hD9, hz9, q9⟩ => ?_
        have aa := mt_append (X := Y) _ s9 σ7 H9 (.ref D) [x9] (.ref D) [v] (fun _ H' => ∃ m', m' < n /\ W (i + 1) m' H') I9 rfl (.cons r9 .nil) ⟨D, ys, x9, rfl, rfl, hD9, hz9, q9⟩
        rw [eP, eW, eA, eX] at aa
        exact thn aa fun _ s10 ⟨_, H10, I10, _, q10⟩ => back (k := 0) I10 l7 k7 q10
  exact codeAny_compStart_list (loop _ rfl) (T.self X.A 0 _ _ _ (T.keep _ _ _ st2 fun b _ o e => keep1 b o e) (loop _ rfl))
theorem pe_compC {elt tg iter:Expr} {ifs:List Expr} {scope:Scope} {pos:Pos} {own:List Str} {sel:List Nat} {wi:TI} {g:TG} {tt:TT} {te:TE}
  (S:CompOkC X.env.scope X.N own sel scope) (hc:X.calm = true) (hi:PI X tg iter wi)
  (hg:∀ cl C s2 H2 fp,PG (cxInC X own sel scope cl C s2 H2 fp) tg g) (hk:GK own.length g)
  (ht:∀ cl C s2 H2 fp,PIf (cxInC X own sel scope cl C s2 H2 fp) ifs tt) (he:∀ cl C s2 H2 fp,PE (cxInC X own sel scope cl C s2 H2 fp) elt te)
  (hs:∀ x,foldedSetIterable iter X.env x = pure x:=by intro _; rfl) :
  PE X (.ListComp elt [⟨tg,iter,ifs,0⟩] scope pos) (tComp own sel wi g tt te):=by
 intro pins s σ H Q I h
 rw [eval_ListComp]
 refine comp_coreC (use:=none) S hc hi hg hk ht he hs I h fun D C H' s' m I' hn f q=>?_
 exact ⟨m,hn,fun h' k=>⟨.ref D,H',I'.far f k,rfl,q⟩⟩
end
end L2
namespace L2
open PySem PySem.Spec PyProof.Rows
def Itr3 (lo c:Int) (n:Nat):It:=⟨fun i _=>i < n,fun i H x H'=>H' = H/\x = .int (lo + i * c),fun i _=>n <= i⟩
theorem turn_range3 {P:Program} {w:World} {K:PySem.W.Frag} {tg:Expr} (it:Addr) (lo c:Int) (n:Nat):Turn P w K tg (Itr3 lo c n) [it] it (fun i h=>IsRangeIter h it (lo + (i:Nat) * c) ((n:Int) - (i:Nat)) c) where
 mem:=by simp
 obj:=fun i h st b hb=>by
  obtain rfl:b = it:=by simpa using hb
  exact ⟨_,st,fun v z=>by
   have z':Data.fields _ = Data.cell v:=z
   cases z'⟩
 keep:=fun i h h' st k=>k it (by simp) _ st
 item:=by
  intro X hP hw hK hc i pins s σ H E I hf st hg
  subst hP hw hK
  obtain ⟨f0,f1,f2,f3,f4,f5⟩:=hf it (by simp)
  have W:=Walks.range (prog:=X.prog) (w:=X.w) (I.ok.hd hc) it lo c n
  refine W.item i s _ _ hg st fun v h' tk hv st' kk=>?_
  obtain ⟨t,rfl⟩:=hv
  have I1:Inv X pins σ H { s with heap:=h',toks:=tk }:=I.turned (fun b o hb e=>kk b o (by simpa using hb) e) f0 f1 f3 f4 f5
  exact ⟨_,rfl,go_of (s:={ s with heap:=h',toks:=tk }) (n:="range_iterator") st' rfl rfl (by decide) ⟨.int (lo + i * c),H,I1,⟨t,rfl⟩,⟨rfl,rfl⟩,st',fun b hb=>(hf b hb).1⟩⟩
 done:=by
  intro X hP hw hK hc i pins s σ H E I hf st hg
  subst hP hw hK
  obtain ⟨f0,f1,f2,f3,f4,f5⟩:=hf it (by simp)
  exact wpAny_pyNext_range_end (I.ok.hd hc) st (by have:n <= i:=hg; omega) fun h' eb=>⟨rfl,I.turned (t':=s.toks) (fun b o hb e=>eb b o hb e) f0 f1 f3 f4 f5⟩
 self:=fun _ _ _ _ _ st h=>wpAny_pyIter_rangeiter st h
section
variable {X:Cx} {tg:Expr}
def rN (a b c:Int):Nat:=(Builtin.Range.rangeSize a b c).toNat
theorem range_it3 {pins:List (Addr × Obj)} {σ:St} {H:Hp} {s:Shared} {R:It->Hp->Prop} {E:Value->Shared->Prop} {lo hi c:Int} {t u v:Tok} {tk:Nat} (I:Inv X pins σ H s) (hs:Builtin.Range.small lo hi c = true)
  (q:R (Itr3 lo c (rN lo hi c)) H):wpAny (model X.prog X.w) X.A (pyIter (.ref s.heap.objs.size)) (PIE X pins σ tg R) E { s with heap:=s.heap.push { cls:=.type "range",data:=.fields #[.int lo t,.int hi u,.int c v] },toks:=tk }:=by
 refine wpAny_pyIter_range (IsRange.new ..) hs ?_
 have I1:Inv X pins σ H { s with heap:=s.heap.push { cls:=.type "range",data:=.fields #[.int lo t,.int hi u,.int c v] },toks:=tk }:=I.kept fun b o e=>Heap.get?_push_of_some _ e
 refine ⟨(s.heap.push { cls:=.type "range",data:=.fields #[.int lo t,.int hi u,.int c v] }).objs.size,[(s.heap.push { cls:=.type "range",data:=.fields #[.int lo t,.int hi u,.int c v] }).objs.size],_,_,H,rfl,
  I1.kept (t':=tk) fun b o e=>Heap.get?_push_of_some _ e,turn_range3 _ lo c (rN lo hi c),?_,fun b hb=>?_,q⟩
 ·have e1:lo + ((0:Nat):Int) * c = lo:=by simp
  have e2:((rN lo hi c:Nat):Int) - ((0:Nat):Int) = Builtin.Range.rangeSize lo hi c:=by unfold rN; rw [<- rangeSize_toNat]; simp
  show IsRangeIter _ _ (lo + ((0:Nat):Int) * c) (((rN lo hi c:Nat):Int) - ((0:Nat):Int)) c
  rw [e1,e2]
  exact Heap.get?_push_size _ rfl
 ·obtain rfl:b = (s.heap.push { cls:=.type "range",data:=.fields #[.int lo t,.int hi u,.int c v] }).objs.size:=by simpa using hb
  exact I1.fpOk (Nat.le_refl _) (I1.hok.fresh (Nat.le_refl _))
def iRng3 (ta:TA):TI:=fun σ H R=>ta σ H fun vs H1=>∃ i j c:Int,vs = [.int i,.int j,.int c]/\(c ≠ 0/\c.natAbs < 1000/\Builtin.Range.small i j c = true)/\R (Itr3 i c (rN i j c)) H1
theorem pi_range3 {a b c : Expr} {ta : TA} {p pos : Pos} (hg : Gl X "range") (hm : X.mg "range" = none) (ha : PA X [a, b, c] ta) (hs : starEach [a, b, c] X.env = [(false, eval a X.env), (false, eval b X.env), (false, eval c X.env)] := by rfl) (hs2 : starEach [b, c] X.env = [(false, eval b X.env), (false, eval c X.env)] := by rfl) :
    PI X tg (.Call (.Name "range" p) [a, b, c] [] pos) (iRng3 ta) := by
  intro pins s σ H R I h
  refine Call_ (ld_blt I hg hm boot_range (PyProof.Rows.callWith_type1 (thn (ha pos pins s σ H _ I h) fun us s1 ⟨vs, H1, I1, r1, q1⟩ => ?_) (by rw [hs, hs2]) (by rw [hs2]; rfl)))
  obtain ⟨i, j, c, e, ⟨q1, q2, q3⟩, q⟩ := q1
  subst e
  cases r1 with
  | cons r rr =>
    cases rr with
    | cons r' rr =>
      cases rr with
      | cons r'' rr =>
        cases rr
        obtain ⟨t, rfl⟩ := r
        obtain ⟨t', rfl⟩ := r'
        obtain ⟨t'', rfl⟩ := r''
        exact call_range_3 q1 (range_it3 I1 q3 q) (Or.inl (PyProof.noPylong_small (by omega)))
end
theorem small_two {a b:Int} (ha:0 <= a) (ha':a <= 1000) (hb:-1000 <= b) (hb':b <= 1000):Builtin.Range.small a b 2 = true:=by
 unfold Builtin.Range.small Builtin.Range.rangeSize
 simp only [Builtin.Range.rangeFitsLong,Bool.and_eq_true,Bool.or_eq_true,decide_eq_true_eq,beq_iff_eq,show (2:Int) > 0 by decide,if_true]
 split <;> omega
theorem small_down {a b c:Int} (hc:c = -1\/c = -2) (ha:-1000 <= a) (ha':a <= 1000) (hb:-1000 <= b) (hb':b <= 1000):Builtin.Range.small a b c = true:=by
 unfold Builtin.Range.small Builtin.Range.rangeSize
 rcases hc with rfl | rfl
 ·simp only [Builtin.Range.rangeFitsLong,Bool.and_eq_true,Bool.or_eq_true,decide_eq_true_eq,beq_iff_eq,show ¬ ((-1:Int) > 0) by decide,if_false,Int.neg_neg]
  split <;> omega
 ·simp only [Builtin.Range.rangeFitsLong,Bool.and_eq_true,Bool.or_eq_true,decide_eq_true_eq,beq_iff_eq,show ¬ ((-2:Int) > 0) by decide,if_false,Int.neg_neg]
  split <;> omega
theorem rN_two (a b:Int):rN a b 2 = ((b - a + 1) / 2).toNat:=by
 unfold rN Builtin.Range.rangeSize
 simp only [show (2:Int) > 0 by decide,if_true]
 split <;> omega
theorem rN_down (a b:Int):rN a b (-1) = (a - b).toNat:=by
 unfold rN Builtin.Range.rangeSize
 simp only [show ¬ ((-1:Int) > 0) by decide,if_false,Int.neg_neg]
 split <;> omega
section
variable {X:Cx}
def rSum (K:PySem.W.Frag):List V->Hp->VK->Prop:=fun xs H Q=>∃ (p:Addr) (ns:List Int),xs = [.ref p]/\SqL K H p (ns.map V.int)/\Q (.int ns.sum) H
theorem call_sumA (K:PySem.W.Frag) (hc:X.calm = true) (hK:X.K = K:=by rfl):CallR X (.builtin "sum") (rSum K):=by
 subst hK
 intro pins s σ H xs us Q I r h
 obtain ⟨p,ns,rfl,hq,q⟩:=h
 obtain ⟨u,rfl,ru⟩:=vals1 r
 cases ru
 obtain ⟨its,rr,ht,hz⟩:=I.list hq
 have hi:=intsAre_of rr
 obtain ⟨xs,e⟩:=hi.allInts.items
 have hns:ns = xs.toList.map (·.1):=by rw [<- hi.numsOf,<- nums_intItems,<- e]
 have hl:=ht.isList
 rw [e] at hl
 refine sum_intListG (I.ok.hd hc) hl fun h' tk t' hk=>?_
 have e2:preSum (numAt xs) xs.size = ns.sum:=by
  rw [preSum_eq,List.take_of_length_le (by simp),hns]
 rw [e2]
 exact ⟨.int ns.sum,H,I.kept fun b o z=>hk b o z,⟨t',rfl⟩,q⟩
def rList (K:PySem.W.Frag):List V->Hp->VK->Prop:=fun xs H Q=>∃ p ys,xs = [.ref p]/\(SqL K H p ys\/SqT K H p ys)/\∀ l,H l = none->Q (.ref l) (upd H l (.lst ys))
theorem call_listA (K:PySem.W.Frag) (hK:X.K = K:=by rfl):CallR X (.type "list") (rList K):=by subst hK; exact call_list_of
def rGetL (K:PySem.W.Frag):V->V->Hp->VK->Prop:=fun x y H Q=>∃ p xs,∃ (j:Nat),∃ v,x = .ref p/\y = .int j/\SqL K H p xs/\xs[j]? = some v/\Q v H
theorem get_listA (K:PySem.W.Frag) (hK:X.K = K:=by rfl):PGet X (rGetL K):=by
 subst hK
 intro pins s σ H o i ov iv Q I r1 r2 h
 obtain ⟨p,xs,j,z,rfl,rfl,hq,he,q⟩:=h
 cases r1
 obtain ⟨t,rfl⟩:=r2
 obtain ⟨its,r,pl,hz⟩:=I.list hq
 obtain ⟨w,ew,rw'⟩:=r.get he
 have hl:=r.length
 have hn:=line63
 have hj:=(List.getElem?_eq_some_iff.mp he).1
 exact wpAny_getItem_list pl.isList (by omega) (by omega) (by simpa using ew) ⟨z,H,I,rw',q⟩
end
section
variable {σ:St} {H:Hp} {Q:VK} {D:Ends} {K:PySem.W.Frag}
theorem s_irng3 {ta:TA} {R:It->Hp->Prop} (h:ta σ H fun vs H1=>∃ i j c:Int,vs = [.int i,.int j,.int c]/\(c ≠ 0/\c.natAbs < 1000/\Builtin.Range.small i j c = true)/\R (Itr3 i c (rN i j c)) H1):iRng3 ta σ H R:=h
theorem s_sum {p:Addr} {ns:List Int} (hq:SqL K H p (ns.map V.int)) (h:Q (.int ns.sum) H):rSum K [.ref p] H Q:=⟨p,ns,rfl,hq,h⟩
theorem s_listL {p:Addr} {ys:List V} (hq:SqL K H p ys) (h:∀ l,H l = none->Q (.ref l) (upd H l (.lst ys))):rList K [.ref p] H Q:=⟨p,ys,rfl,.inl hq,h⟩
theorem s_augS {to ti te:TE} {tget:V->V->Hp->VK->Prop} {tip:TIp} {tset:TSet} (h:to σ H fun o H1=>ti σ H1 fun i H2=>tget o i H2 fun x H3=>te σ H3 fun y H4=>tip x y H4 fun z H5=>tset o i z H5 fun H6=>D.nx σ H6):tAugS to ti te tget tip tset D σ H:=h
theorem s_getL {p:Addr} {xs:List V} {j:Nat} {v:V} (hq:SqL K H p xs) (he:xs[j]? = some v) (h:Q v H):rGetL K (.ref p) (.int j) H Q:=⟨p,xs,j,v,rfl,rfl,hq,he,h⟩
theorem for_rng3 {g:TG} {tb:TS} {lo c:Int} {n:Nat} (Pv:Nat->St->Hp->Prop) (h0:Pv 0 σ H)
  (hs:∀ i σ H,i < n->Pv i σ H->g (.int (lo + i * c)) σ H fun σ2 H2=>tb { D with nx:=Pv (i + 1),ct:=Pv (i + 1),bk:=D.nx } σ2 H2) (hd:∀ σ H,Pv n σ H->D.nx σ H):ForW (Itr3 lo c n) g tb D σ H :=
 for_of (n:=n) Pv h0 (fun i σ H hi _=>hi) (fun σ H _=>Nat.le_refl _) (fun i x σ H H' hi p y=>by obtain ⟨rfl,rfl⟩:=y; exact hs i σ _ hi p) hd
end
end L2
namespace L2
open PySem PySem.Spec PyProof.Rows
def relabelS (scope osc:Scope):Scope:={ scope with names:=scope.names.map fun (n,k)=>if (k == .free && osc.kind == .function && osc.names.lookup n == some .cell) then (n,.cell) else (n,k) }
theorem compOkIn {X:Cx} {osc sc:Scope} {N:List Str} {own own':List Str} {sel sel':List Nat} {scope:Scope} {cl:List (Str × Addr)} {C:Addr} {s2:Shared} {H2:Hp} {fp:List Addr}
  (e:X.env.scope = osc) (eN:(cxInC X own' sel' sc cl C s2 H2 fp).N = N) (h:compOkB (relabelS sc osc) N own sel scope = true):CompOk (cxInC X own' sel' sc cl C s2 H2 fp).env.scope (cxInC X own' sel' sc cl C s2 H2 fp).N own sel scope:=by
 subst e; subst eN
 exact compOk_of h
def compOkCB (osc:Scope) (N:List Str) (own:List Str) (sel:List Nat) (scope:Scope):Bool :=
 (scope.kind == .function) && scope.names.all (fun y=>y.2 != .cell || scope.names.lookup y.1 == some .cell) && scope.names.all (fun y=>y.2 != .local || scope.names.lookup y.1 == some .local) &&
 scope.names.all (fun y=>y.2 != .free || osc.names.lookup y.1 == some .cell || osc.names.lookup y.1 == some .free) &&
 sel.all (fun j=>decide (j < N.length) && scope.names.lookup (N.getD j Str.empty) == some .free && (osc.names.lookup (N.getD j Str.empty) == some .cell || osc.names.lookup (N.getD j Str.empty) == some .free))
theorem compOkC_of {osc:Scope} {N:List Str} {own:List Str} {sel:List Nat} {scope:Scope} (h:compOkCB osc N own sel scope = true):CompOkC osc N own sel scope:=by
 unfold compOkCB at h
 simp only [Bool.and_eq_true,List.all_eq_true] at h
 obtain ⟨⟨⟨⟨h1,h2⟩,h3⟩,h4⟩,h5⟩:=h
 refine ⟨by simpa using h1,fun y hy e=>?_,fun y hy e=>?_,fun y hy e=>?_,fun j hj=>?_⟩
 ·have:=h2 y hy
  simp only [Bool.or_eq_true,bne_iff_ne,beq_iff_eq] at this
  rcases this with q | q
  ·exact absurd e q
  ·exact q
 ·have:=h3 y hy
  simp only [Bool.or_eq_true,bne_iff_ne,beq_iff_eq] at this
  rcases this with q | q
  ·exact absurd e q
  ·exact q
 ·have:=h4 y hy
  simp only [Bool.or_eq_true,bne_iff_ne,beq_iff_eq] at this
  rcases this with (q | q) | q
  ·exact absurd e q
  ·exact .inl q
  ·exact .inr q
 ·have:=h5 j hj
  simp only [Bool.or_eq_true,beq_iff_eq,decide_eq_true_eq] at this
  exact ⟨this.1.1,this.1.2,this.2⟩
def big:Nat:=2 ^ 10000
theorem big_bits {i:Int} (h:i.natAbs < big):Builtin.Int.intBits i <= 2 ^ 20:=by
 refine Nat.le_trans (?_:Builtin.Int.intBits i <= 10000) (by decide)
 exact PySem.intBits_le_iff.mpr h
section
variable {X:Cx}
def rTimesW:R2:=fun x y H Q=>(∃ i j,x = .int i/\y = .int j/\(i.natAbs < big/\j.natAbs < big)/\Q (.int (i * j)) H)\/rRep x y H Q\/rMulT x y H Q
theorem op_mulW:OpR X (binaryOp .Mult) (rI (fun i j=>i.natAbs < big/\j.natAbs < big) fun i j=>.int (i * j)):=opI fun _ _ _ _ _ _ _ hc q=>mul_int q (PySem.IntMulOk.of_bits (big_bits hc.1) (big_bits hc.2))
theorem op_timesW:OpR X (binaryOp .Mult) rTimesW:=op_mulW.or (op_rep.or op_mulT)
end
section
variable {σ:St} {H:Hp} {Q:VK} {K:PySem.W.Frag}
theorem s_mulW {i j:Int} (h1:i.natAbs < big) (h2:j.natAbs < big) (h:Q (.int (i * j)) H):rTimesW (.int i) (.int j) H Q:=.inl ⟨i,j,rfl,rfl,⟨h1,h2⟩,h⟩
end
section
variable {σ:St} {H:Hp} {Q:VK} {K:PySem.W.Frag}
theorem comp_yes {J : It} {n : Nat} {own : List Str} {sel : List Nat} {g : TG} {te : TE} (f : Nat -> V) (hn : n <= sizeLine) (Iv : Addr -> Nat -> List V -> Hp -> Prop)
  (hgo : ∀ i H', i < n -> Same H H' -> J.go i H') (hsp : ∀ H', Same H H' -> J.stop n H') (hy : ∀ i H1 x H', i < n -> Same H H1 -> J.yld i H1 x H' -> H' = H1 /\ x = f i)
  (h0 : ∀ D, H D = none -> Iv D 0 [] (upd H D (.lst []))) (mono : ∀ D i ys H1 H2, H D = none -> Iv D i ys H1 -> SameBut1 D H1 H2 -> Iv D i ys H2)
  (hst : ∀ D ys H', H D = none -> H' D = some (.lst ys) -> ys.length = n -> Same H H' -> Iv D n ys H' -> Q (.ref D) H')
  (hs : ∀ (D : Addr) (i : Nat) (ys : List V) (H' : Hp) (R : V -> Hp -> Prop), H D = none -> i < n -> H' D = some (.lst ys) -> ys.length = i -> Same H H' -> Iv D i ys H' -> (∀ v H6, Same H' H6 -> Iv D (i + 1) (ys ++ [v]) H6 -> R v H6) ->
   g (f i) (inSt own sel σ) H' fun σ4 H4 => te σ4 H4 R) : CompW J own sel σ g tYes te Q H := by
 refine comp_of (n := n) (fun D i ys H' => ys.length = i /\ Same H H' /\ Iv D i ys H') (fun D hD => ⟨rfl, same_new hD _, h0 D hD⟩) (fun D i ys H' hD hi _ ⟨_, sH, _⟩ => hgo i H' hi sH)
  (fun D ys H' hD hy' hl ⟨e, sH, iv⟩ => ⟨hsp H' sH, hst D ys H' hD hy' e sH iv⟩) ?_
 rintro D i ys H1 x H3 hD hi hyD hl ⟨el, sH, iv⟩ yl
 obtain ⟨rfl, rfl⟩ := hy i H1 x H3 hi sH yl
 have key := hs D i ys H3 (fun v H6 => ∃ ys, H6 D = some (.lst ys) /\ ys.length < sizeLine /\ ∃ m', m' < n - i /\ CW D n (fun i ys H' => ys.length = i /\ Same H H' /\ Iv D i ys H') (i + 1) m' (upd H6 D (.lst (ys ++ [v])))) hD hi hyD el sH iv (fun v H6 s6 iv6 => ?_)
 ·have ef : (fun (σ4 : St) (H4 : Hp) => tYes σ4 H4 fun b H5 => if b = true then te σ4 H5 fun v H6 => ∃ ys, H6 D = some (.lst ys) /\ ys.length < sizeLine /\ ∃ m', m' < n - i /\ CW D n (fun i ys H' => ys.length = i /\ Same H H' /\ Iv D i ys H') (i + 1) m' (upd H6 D (.lst (ys ++ [v])))
    else ∃ m', m' < n - i /\ CW D n (fun i ys H' => ys.length = i /\ Same H H' /\ Iv D i ys H') (i + 1) m' H5) = fun σ4 H4 => te σ4 H4 fun v H6 => ∃ ys, H6 D = some (.lst ys) /\ ys.length < sizeLine /\ ∃ m', m' < n - i /\ CW D n (fun i ys H' => ys.length = i /\ Same H H' /\ Iv D i ys H') (i + 1) m' (upd H6 D (.lst (ys ++ [v]))) := by
   funext σ4 H4
   exact propext ⟨fun z => by have z' := z; simp only [tYes] at z'; simpa using z', fun z => by show tYes _ _ _; simp only [tYes]; simpa using z⟩
  rw [ef]
  exact key
 ·refine comp_next hi hn (s6 _ _ hyD) hl ⟨by simp [el], fun b o z => ?_, mono D _ _ _ _ hD iv6 SameBut1.upd⟩
  rw [upd_ne (ne_of_none z hD)]
  exact s6 b o (sH b o z)
theorem yes_rng {lo : Int} {n : Nat} {own : List Str} {sel : List Nat} {g : TG} {te : TE} (hn : n <= sizeLine) (Iv : Addr -> Nat -> List V -> Hp -> Prop)
  (h0 : ∀ D, H D = none -> Iv D 0 [] (upd H D (.lst []))) (mono : ∀ D i ys H1 H2, H D = none -> Iv D i ys H1 -> SameBut1 D H1 H2 -> Iv D i ys H2)
  (hst : ∀ D ys H', H D = none -> H' D = some (.lst ys) -> ys.length = n -> Same H H' -> Iv D n ys H' -> Q (.ref D) H')
  (hs : ∀ (D : Addr) (i : Nat) (ys : List V) (H' : Hp) (R : V -> Hp -> Prop), H D = none -> i < n -> H' D = some (.lst ys) -> ys.length = i -> Same H H' -> Iv D i ys H' -> (∀ v H6, Same H' H6 -> Iv D (i + 1) (ys ++ [v]) H6 -> R v H6) ->
   g (.int (lo + i)) (inSt own sel σ) H' fun σ4 H4 => te σ4 H4 R) : CompW (Itr lo n) own sel σ g tYes te Q H :=
 comp_yes (fun i => .int (lo + i)) hn Iv (fun i H' hi _ => hi) (fun H' _ => Nat.le_refl _) (fun i H1 x H' _ _ y => y) h0 mono hst hs
theorem yes_rng3 {lo c : Int} {n : Nat} {own : List Str} {sel : List Nat} {g : TG} {te : TE} (hn : n <= sizeLine) (Iv : Addr -> Nat -> List V -> Hp -> Prop)
  (h0 : ∀ D, H D = none -> Iv D 0 [] (upd H D (.lst []))) (mono : ∀ D i ys H1 H2, H D = none -> Iv D i ys H1 -> SameBut1 D H1 H2 -> Iv D i ys H2)
  (hst : ∀ D ys H', H D = none -> H' D = some (.lst ys) -> ys.length = n -> Same H H' -> Iv D n ys H' -> Q (.ref D) H')
  (hs : ∀ (D : Addr) (i : Nat) (ys : List V) (H' : Hp) (R : V -> Hp -> Prop), H D = none -> i < n -> H' D = some (.lst ys) -> ys.length = i -> Same H H' -> Iv D i ys H' -> (∀ v H6, Same H' H6 -> Iv D (i + 1) (ys ++ [v]) H6 -> R v H6) ->
   g (.int (lo + i * c)) (inSt own sel σ) H' fun σ4 H4 => te σ4 H4 R) : CompW (Itr3 lo c n) own sel σ g tYes te Q H :=
 comp_yes (fun i => .int (lo + i * c)) hn Iv (fun i H' hi _ => hi) (fun H' _ => Nat.le_refl _) (fun i H1 x H' _ _ y => y) h0 mono hst hs
theorem yes_str {a : List Nat} {own : List Str} {sel : List Nat} {g : TG} {te : TE} (hn : a.length <= sizeLine) (Iv : Addr -> Nat -> List V -> Hp -> Prop)
  (h0 : ∀ D, H D = none -> Iv D 0 [] (upd H D (.lst []))) (mono : ∀ D i ys H1 H2, H D = none -> Iv D i ys H1 -> SameBut1 D H1 H2 -> Iv D i ys H2)
  (hst : ∀ D ys H', H D = none -> H' D = some (.lst ys) -> ys.length = a.length -> Same H H' -> Iv D a.length ys H' -> Q (.ref D) H')
  (hs : ∀ (D : Addr) (i : Nat) (ys : List V) (H' : Hp) (R : V -> Hp -> Prop), H D = none -> i < a.length -> H' D = some (.lst ys) -> ys.length = i -> Same H H' -> Iv D i ys H' -> (∀ v H6, Same H' H6 -> Iv D (i + 1) (ys ++ [v]) H6 -> R v H6) ->
   g (tx [a.getD i 0]) (inSt own sel σ) H' fun σ4 H4 => te σ4 H4 R) : CompW (Its ⟨a.toArray⟩) own sel σ g tYes te Q H :=
 comp_yes (fun i => tx [a.getD i 0]) hn Iv (fun i H' hi _ => by simpa [Its] using hi) (fun H' _ => by simp [Its]) (fun i H1 x H' hi _ y => by
  obtain ⟨rfl, c, e, rfl⟩ := y
  have e' : a[i]? = some c := by simpa using e
  exact ⟨rfl, by rw [List.getD_eq_getElem?_getD, e']; rfl⟩) h0 mono hst hs
theorem vals_rng {lo:Int} {n:Nat} {own:List Str} {sel:List Nat} {g:TG} {te:TE} (v:Nat->V) (hn:n <= sizeLine) (hst:∀ D H',H D = none->Same H H'->H' D = some (.lst ((List.range n).map v))->Q (.ref D) H')
  (hs:∀ (i:Nat) (H':Hp) (R:V->Hp->Prop),i < n->Same H H'->(∀ H6,Same H' H6->R (v i) H6)->g (.int (lo + i)) (inSt own sel σ) H' fun σ4 H4=>te σ4 H4 R):CompW (Itr lo n) own sel σ g tYes te Q H :=
 yes_rng hn (fun D i ys _=>ys = (List.range i).map v) (fun _ _=>rfl) (fun _ _ _ _ _ _ e _=>e) (fun D ys H' hD hy _ sH e=>hst D H' hD sH (by rw [hy,e]))
  (fun D i ys H' R hD hi hy _ sH e r=>hs i H' R hi sH fun H6 s6=>r _ H6 s6 (by rw [e,List.range_succ,List.map_append]; rfl))
theorem vals_rng3 {lo c:Int} {n:Nat} {own:List Str} {sel:List Nat} {g:TG} {te:TE} (v:Nat->V) (hn:n <= sizeLine) (hst:∀ D H',H D = none->Same H H'->H' D = some (.lst ((List.range n).map v))->Q (.ref D) H')
  (hs:∀ (i:Nat) (H':Hp) (R:V->Hp->Prop),i < n->Same H H'->(∀ H6,Same H' H6->R (v i) H6)->g (.int (lo + i * c)) (inSt own sel σ) H' fun σ4 H4=>te σ4 H4 R):CompW (Itr3 lo c n) own sel σ g tYes te Q H :=
 yes_rng3 hn (fun D i ys _=>ys = (List.range i).map v) (fun _ _=>rfl) (fun _ _ _ _ _ _ e _=>e) (fun D ys H' hD hy _ sH e=>hst D H' hD sH (by rw [hy,e]))
  (fun D i ys H' R hD hi hy _ sH e r=>hs i H' R hi sH fun H6 s6=>r _ H6 s6 (by rw [e,List.range_succ,List.map_append]; rfl))
theorem vals_str {a : List Nat} {own : List Str} {sel : List Nat} {g : TG} {te : TE} (v : Nat -> V) (hn : a.length <= sizeLine) (hst : ∀ D H', H D = none -> Same H H' -> H' D = some (.lst (a.map v)) -> Q (.ref D) H')
  (hs : ∀ (i c : Nat) (H' : Hp) (R : V -> Hp -> Prop), a[i]? = some c -> Same H H' -> (∀ H6, Same H' H6 -> R (v c) H6) -> g (tx [c]) (inSt own sel σ) H' fun σ4 H4 => te σ4 H4 R) : CompW (Its ⟨a.toArray⟩) own sel σ g tYes te Q H :=
 yes_str hn (fun D i ys _ => ys = (a.take i).map v) (fun _ _ => rfl) (fun _ _ _ _ _ _ e _ => e) (fun D ys H' hD hy _ sH e => hst D H' hD sH (by rw [hy, e, List.take_length]))
  (fun D i ys H' R hD hi hy _ sH e r => by
   have ec : a[i]? = some a[i] := List.getElem?_eq_getElem hi
   have eg : a.getD i 0 = a[i] := by rw [List.getD_eq_getElem?_getD, ec]; rfl
   rw [eg]
   exact hs i a[i] H' R ec sH fun H6 s6 => r _ H6 s6 (by rw [e, List.take_add_one, ec, List.map_append]; rfl))
end
end L2
namespace BrC
def sm:Nat->(Nat->Int)->Int
 | 0,_=>0
 | n + 1,f=>sm n f + f n
theorem sm_congr {f g:Nat->Int}:∀ n,(∀ i,i < n->f i = g i)->sm n f = sm n g
 | 0,_=>rfl
 | n + 1,h=>by unfold sm; rw [sm_congr n fun i hi=>h i (Nat.lt_succ_of_lt hi),h n (Nat.lt_succ_self n)]
theorem sm_add (f g:Nat->Int):∀ n,sm n (fun i=>f i + g i) = sm n f + sm n g
 | 0=>rfl
 | n + 1=>by unfold sm; rw [sm_add f g n]; show sm n f + sm n g + (f n + g n) = _; omega
theorem sm_mul (c:Int) (f:Nat->Int):∀ n,sm n (fun i=>c * f i) = c * sm n f
 | 0=>by simp [sm]
 | n + 1=>by unfold sm; rw [sm_mul c f n,Int.mul_add]
theorem sm_mulr (c:Int) (f:Nat->Int) (n:Nat):sm n (fun i=>f i * c) = sm n f * c:=by
 rw [Int.mul_comm,<- sm_mul]; exact sm_congr n fun i _=>Int.mul_comm _ _
theorem sm_zero {f:Nat->Int}:∀ n,(∀ i,i < n->f i = 0)->sm n f = 0
 | 0,_=>rfl
 | n + 1,h=>by unfold sm; rw [sm_zero n fun i hi=>h i (Nat.lt_succ_of_lt hi),h n (Nat.lt_succ_self n)]; rfl
theorem sm_shift (f:Nat->Int):∀ n,sm (n + 1) f = f 0 + sm n (fun i=>f (i + 1))
 | 0=>by simp [sm]
 | n + 1=>by rw [sm,sm_shift f n,sm]; omega
theorem sm_comm (f:Nat->Nat->Int) (m:Nat):∀ n,sm n (fun i=>sm m fun j=>f i j) = sm m (fun j=>sm n fun i=>f i j)
 | 0=>by rw [sm]; exact (sm_zero m fun _ _=>rfl).symm
 | n + 1=>by rw [sm,sm_comm f m n,<- sm_add]; rfl
theorem sm_tri (f : Nat -> Nat -> Int) : ∀ L, sm L (fun a => sm (L - a - 1) fun b => f a (a + 1 + b)) = sm L (fun e => sm e fun a => f a e)
  | 0 => rfl
  | L + 1 => by
    rw [sm, sm]
    have e : sm L (fun a => sm (L + 1 - a - 1) fun b => f a (a + 1 + b)) = sm L (fun a => (sm (L - a - 1) fun b => f a (a + 1 + b)) + f a L) := by
      refine sm_congr L fun a ha => ?_
      have : L + 1 - a - 1 = (L - a - 1) + 1 := by omega
      rw [this, sm]
      congr 2
      omega
    rw [e, sm_add, sm_tri f L, show L + 1 - L - 1 = 0 by omega, sm]
    omega
theorem sm_nonneg {f:Nat->Int}:∀ n,(∀ i,i < n->0 <= f i)->0 <= sm n f
 | 0,_=>Int.le_refl _
 | n + 1,h=>by unfold sm; have:=sm_nonneg n fun i hi=>h i (Nat.lt_succ_of_lt hi); have:=h n (Nat.lt_succ_self n); omega
theorem sm_mono {f g:Nat->Int}:∀ n,(∀ i,i < n->f i <= g i)->sm n f <= sm n g
 | 0,_=>Int.le_refl _
 | n + 1,h=>by unfold sm; have:=sm_mono n fun i hi=>h i (Nat.lt_succ_of_lt hi); have:=h n (Nat.lt_succ_self n); omega
theorem sm_const (c:Int):∀ n,sm n (fun _=>c) = n * c
 | 0=>by simp [sm]
 | n + 1=>by rw [sm,sm_const c n]; rw [Int.natCast_add,Int.add_mul]; simp
theorem sm_one {f : Nat -> Int} {n i : Nat} (hi : i < n) (h : ∀ j, j < n -> j ≠ i -> f j = 0) : sm n f = f i := by
  induction n with
  | zero => omega
  | succ n ih =>
    unfold sm
    by_cases e : i = n
    · subst e; rw [sm_zero i fun j hj => h j (by omega) (by omega)]; omega
    · rw [ih (by omega) fun j hj => h j (by omega), h n (by omega) (by omega)]; omega
theorem sm_even (f : Nat -> Int) : ∀ n, (∀ i, i < n -> i % 2 = 1 -> f i = 0) -> sm n f = sm ((n + 1) / 2) fun q => f (2 * q)
  | 0, _ => rfl
  | n + 1, h => by
    rw [sm, sm_even f n fun i hi => h i (Nat.lt_succ_of_lt hi)]
    by_cases e : n % 2 = 1
    · rw [h n (Nat.lt_succ_self n) e, show (n + 1 + 1) / 2 = (n + 1) / 2 by omega]; omega
    · rw [show (n + 1 + 1) / 2 = (n + 1) / 2 + 1 by omega, sm, show 2 * ((n + 1) / 2) = n by omega]
theorem sum_range (f:Nat->Int):∀ n,((List.range n).map f).sum = sm n f
 | 0=>rfl
 | n + 1=>by rw [List.range_succ,List.map_append,List.sum_append,sum_range f n]; simp [sm]
def cv (P:Nat->Nat->Int) (k:Nat):Nat->Nat->List Nat->Int
 | 0,_,[]=>1
 | 0,_,_ :: _=>0
 | n + 1,i,st=>sm k (fun p=>P i (2 * p) * cv P k n (i + 1) (p :: st)) + (match st with | []=>0 | o :: r=>P i (2 * o + 1) * cv P k n (i + 1) r)
variable {P:Nat->Nat->Int} {k:Nat}
theorem cv_nil (n i:Nat):cv P k (n + 1) i [] = sm k (fun p=>P i (2 * p) * cv P k n (i + 1) [p]):=by
 rw [cv]; simp
theorem cv_cons (n i o:Nat) (st:List Nat):cv P k (n + 1) i (o :: st) = sm k (fun p=>P i (2 * p) * cv P k n (i + 1) (p :: o :: st)) + P i (2 * o + 1) * cv P k n (i + 1) st:=by
 rw [cv]
theorem cv_split : ∀ (N n i o : Nat) (st : List Nat), n <= N -> cv P k n i (o :: st) = sm n (fun e => cv P k e i [] * P (i + e) (2 * o + 1) * cv P k (n - e - 1) (i + e + 1) st) := by
  intro N
  induction N with
  | zero => intro n i o st h; obtain rfl : n = 0 := by omega
            rfl
  | succ N ih =>
    intro n i o st h
    cases n with
    | zero => rfl
    | succ n =>
      rw [cv_cons, sm_shift, show cv P k 0 i [] = 1 from rfl]
      have e0 : (1 : Int) * P (i + 0) (2 * o + 1) * cv P k (n + 1 - 0 - 1) (i + 0 + 1) st = P i (2 * o + 1) * cv P k n (i + 1) st := by rw [Int.one_mul]; rfl
      rw [e0, Int.add_comm]
      congr 1
      have L : ∀ p, cv P k n (i + 1) (p :: o :: st) = sm n (fun e => sm e fun a => (cv P k a (i + 1) [] * P (i + 1 + a) (2 * p + 1)) * (cv P k (e - a - 1) (i + a + 2) [] * P (i + e + 1) (2 * o + 1) * cv P k (n - e - 1) (i + e + 2) st)) := by
        intro p
        rw [ih n (i + 1) p (o :: st) (by omega), <- sm_tri]
        refine sm_congr n fun a ha => ?_
        rw [ih (n - a - 1) (i + 1 + a + 1) o st (by omega), <- sm_mul]
        refine sm_congr _ fun b hb => ?_
        rw [show a + 1 + b - a - 1 = b by omega, show i + 1 + a + 1 = i + a + 2 by omega, show i + a + 2 + b = i + (a + 1 + b) + 1 by omega, show n - a - 1 - b - 1 = n - (a + 1 + b) - 1 by omega, show i + (a + 1 + b) + 1 + 1 = i + (a + 1 + b) + 2 by omega]
      have e1 : sm k (fun p => P i (2 * p) * cv P k n (i + 1) (p :: o :: st)) = sm k (fun p => sm n fun e => P i (2 * p) * sm e fun a => (cv P k a (i + 1) [] * P (i + 1 + a) (2 * p + 1)) * (cv P k (e - a - 1) (i + a + 2) [] * P (i + e + 1) (2 * o + 1) * cv P k (n - e - 1) (i + e + 2) st)) := by
        refine sm_congr k fun p _ => ?_
        rw [L p, <- sm_mul]
      rw [e1, sm_comm]
      refine sm_congr n fun e he => ?_
      rw [cv_nil, show i + (e + 1) = i + e + 1 by omega, show n + 1 - (e + 1) - 1 = n - e - 1 by omega, show i + e + 1 + 1 = i + e + 2 by omega, Int.mul_assoc, <- sm_mulr]
      refine sm_congr k fun p _ => ?_
      rw [ih e (i + 1) p [] (by omega), Int.mul_assoc]
      congr 1
      rw [<- sm_mulr]
      refine sm_congr e fun a ha => ?_
      rw [show i + 1 + a + 1 = i + a + 2 by omega]
      simp only [Int.mul_assoc, Int.mul_comm, Int.mul_left_comm]
theorem cv_odd : ∀ (n i : Nat) (st : List Nat), (n + st.length) % 2 = 1 -> cv P k n i st = 0
  | 0, _, [], h => by simp at h
  | 0, _, _ :: _, _ => rfl
  | n + 1, i, [], h => by
    rw [cv_nil]
    refine sm_zero k fun p _ => ?_
    rw [cv_odd n (i + 1) [p] (by simp at h ⊢; omega), Int.mul_zero]
  | n + 1, i, o :: st, h => by
    rw [cv_cons, sm_zero k fun p _ => by rw [cv_odd n (i + 1) (p :: o :: st) (by simp at h ⊢; omega), Int.mul_zero], cv_odd n (i + 1) st (by simp at h ⊢; omega), Int.mul_zero]
    rfl
def pr (P:Nat->Nat->Int) (k i j:Nat):Int:=sm k fun p=>P i (2 * p) * P j (2 * p + 1)
theorem cv_rec (m i:Nat):cv P k (m + 1) i [] = sm m (fun e=>pr P k i (i + 1 + e) * cv P k e (i + 1) [] * cv P k (m - e - 1) (i + e + 2) []):=by
 rw [cv_nil]
 have e1:sm k (fun p=>P i (2 * p) * cv P k m (i + 1) [p]) = sm k (fun p=>sm m fun e=>P i (2 * p) * P (i + 1 + e) (2 * p + 1) * (cv P k e (i + 1) [] * cv P k (m - e - 1) (i + e + 2) [])):=by
  refine sm_congr k fun p _=>?_
  rw [cv_split m m (i + 1) p [] (Nat.le_refl _),<- sm_mul]
  refine sm_congr m fun e _=>?_
  rw [show i + 1 + e + 1 = i + e + 2 by omega]
  simp only [Int.mul_assoc,Int.mul_comm,Int.mul_left_comm]
 rw [e1,sm_comm]
 refine sm_congr m fun e _=>?_
 rw [sm_mulr,Int.mul_assoc]
 rfl
theorem cv_rec2 (m i:Nat):cv P k (m + 1) i [] = sm ((m + 1) / 2) (fun q=>pr P k i (i + 1 + 2 * q) * cv P k (2 * q) (i + 1) [] * cv P k (m - 2 * q - 1) (i + 2 * q + 2) []):=by
 rw [cv_rec,sm_even]
 intro e _ h
 rw [cv_odd e (i + 1) [] (by simpa using h),Int.mul_zero,Int.zero_mul]
theorem cv_bound {c : Int} (hc : 0 <= c) (h0 : ∀ i b, 0 <= P i b) (h1 : ∀ i b, P i b <= c) : ∀ (n i : Nat) (st : List Nat), 0 <= cv P k n i st /\ cv P k n i st <= (((k : Int) + 1) * c) ^ n
  | 0, i, [] => ⟨by simp [cv], by simp [cv]⟩
  | 0, i, _ :: _ => ⟨by simp [cv], by simp [cv]⟩
  | n + 1, i, st => by
    have ih := cv_bound hc h0 h1 n (i + 1)
    have hB : 0 <= (((k : Int) + 1) * c) ^ n := Int.le_trans (ih []).1 (ih []).2
    have tm : ∀ b s', 0 <= P i b * cv P k n (i + 1) s' /\ P i b * cv P k n (i + 1) s' <= c * (((k : Int) + 1) * c) ^ n := fun b s' =>
      ⟨Int.mul_nonneg (h0 i b) (ih s').1, Int.mul_le_mul (h1 i b) (ih s').2 (ih s').1 hc⟩
    have s1 : 0 <= sm k (fun p => P i (2 * p) * cv P k n (i + 1) (p :: st)) := sm_nonneg k fun p _ => (tm _ _).1
    have s2 : sm k (fun p => P i (2 * p) * cv P k n (i + 1) (p :: st)) <= k * (c * (((k : Int) + 1) * c) ^ n) := by
      rw [<- sm_const]; exact sm_mono k fun p _ => (tm _ _).2
    have e : (((k : Int) + 1) * c) ^ (n + 1) = k * (c * (((k : Int) + 1) * c) ^ n) + c * (((k : Int) + 1) * c) ^ n := by
      rw [Int.pow_succ, Int.mul_comm, Int.mul_assoc, Int.add_mul, Int.one_mul]
    have s3 : 0 <= c * (((k : Int) + 1) * c) ^ n := Int.mul_nonneg hc hB
    cases st with
    | nil => rw [cv_nil, e]; exact ⟨s1, by omega⟩
    | cons o r =>
      have := tm (2 * o + 1) r
      rw [cv_cons, e]; constructor <;> omega
end BrC
namespace BrC
theorem sm_more {f:Nat->Int} (n:Nat):∀ d,(∀ e,n <= e->f e = 0)->sm (n + d) f = sm n f
 | 0,_=>rfl
 | d + 1,h=>by rw [show n + (d + 1) = (n + d) + 1 by omega,sm,sm_more n d h,h (n + d) (by omega)]; omega
end BrC
namespace BrC
variable {P:Nat->Nat->Int} {k:Nat}
end BrC
namespace BrS
open L2 PySem BrM BrC
abbrev iL (l:List Int):HO:=.lst (l.map V.int)
def Pls (H:Hp) (r:Addr) (ps:List (List Int)):Prop:=∃ ad:Nat->Addr,H r = some (.lst ((List.range ps.length).map fun i=>V.ref (ad i)))/\∀ i,i < ps.length->H (ad i) = some (iL (ps.getD i []))
theorem Pls.same {H H':Hp} {r:Addr} {ps:List (List Int)} (h:Pls H r ps) (s:Same H H'):Pls H' r ps:=by
 obtain ⟨ad,h1,h2⟩:=h
 exact ⟨ad,s _ _ h1,fun i hi=>s _ _ (h2 i hi)⟩
def rwl (n:Nat) (f:Nat->Int):List V:=(List.range (n + 1)).map fun j=>V.int (f j)
theorem rwl_len (n:Nat) (f:Nat->Int):(rwl n f).length = n + 1:=by simp [rwl]
theorem rwl_get {n j:Nat} {f:Nat->Int} (h:j <= n):(rwl n f)[j]? = some (.int (f j)):=by
 unfold rwl
 rw [List.getElem?_map,List.getElem?_range (by omega)]; rfl
theorem rwl_set {n j:Nat} {f:Nat->Int} {v:Int}:(rwl n f).set j (.int v) = rwl n (fun x=>if x = j then v else f x):=by
 apply List.ext_getElem?
 intro i
 unfold rwl
 rw [List.getElem?_set,List.getElem?_map,List.getElem?_map]
 by_cases e:j = i
 ·subst e
  by_cases hj:j < n + 1
  ·rw [List.getElem?_range hj]; simp [hj]
  ·rw [if_pos rfl,if_neg (by simpa using hj)]
   rw [List.getElem?_eq_none (by simpa using hj)]; rfl
 ·rw [if_neg e]
  by_cases hi:i < n + 1
  ·rw [List.getElem?_range hi]; simp [Ne.symm e]
  ·rw [List.getElem?_eq_none (by simpa using hi)]; rfl
theorem rwl_congr {n:Nat} {f g:Nat->Int} (h:∀ j,j <= n->f j = g j):rwl n f = rwl n g:=by
 unfold rwl
 refine List.map_congr_left fun j hj=>?_
 rw [h j (by have:=List.mem_range.mp hj; omega)]
structure Tb (H0 H:Hp) (s:Addr) (ad:Nat->Addr) (n:Nat) (T:Nat->Nat->Int):Prop where
 fs:H0 s = none
 fa:∀ i,i <= n->H0 (ad i) = none
 ns:∀ i,i <= n->ad i ≠ s
 inj:∀ i j,i <= n->j <= n->ad i = ad j->i = j
 top:H s = some (.lst ((List.range (n + 1)).map fun i=>V.ref (ad i)))
 row:∀ i,i <= n->H (ad i) = some (.lst (rwl n (T i)))
 sm:Same H0 H
section
variable {H0 H H':Hp} {s:Addr} {ad:Nat->Addr} {n:Nat} {T T':Nat->Nat->Int}
theorem Tb.same (t:Tb H0 H s ad n T) (h:Same H H'):Tb H0 H' s ad n T:=⟨t.fs,t.fa,t.ns,t.inj,h _ _ t.top,fun i hi=>h _ _ (t.row i hi),t.sm.trans h⟩
theorem Tb.congr (t:Tb H0 H s ad n T) (h:∀ i j,i <= n->j <= n->T i j = T' i j):Tb H0 H s ad n T':=⟨t.fs,t.fa,t.ns,t.inj,t.top,fun i hi=>by rw [t.row i hi,rwl_congr fun j hj=>h i j hi hj],t.sm⟩
theorem Tb.at (t:Tb H0 H s ad n T) {i:Nat} (hi:i <= n):((List.range (n + 1)).map fun i=>V.ref (ad i))[i]? = some (.ref (ad i)):=by
 rw [List.getElem?_map,List.getElem?_range (by omega)]; rfl
theorem Tb.set (t:Tb H0 H s ad n T) {i j:Nat} {v:Int} (hi:i <= n):Tb H0 (upd H (ad i) (.lst ((rwl n (T i)).set j (.int v)))) s ad n (fun a b=>if a = i/\b = j then v else T a b):=by
 refine ⟨t.fs,t.fa,t.ns,t.inj,by rw [upd_ne (Ne.symm (t.ns i hi))]; exact t.top,fun a ha=>?_,fun b o z=>?_⟩
 ·by_cases e:a = i
  ·subst e
   rw [upd_same,rwl_set]
   congr 2
   refine rwl_congr fun x _=>?_
   by_cases q:x = j <;> simp [q]
  ·rw [upd_ne (fun z=>e (t.inj a i ha hi z)),t.row a ha]
   congr 2
   refine rwl_congr fun x _=>?_
   simp [e]
 ·rw [upd_ne (ne_of_none z (t.fa i hi))]; exact t.sm b o z
end
def brs:List Nat:=[40,41,91,93,123,125,60,62]
def plw (w:List Int) (c:Nat):List Int:=if c = 63 then w else (brs.take w.length).map fun b=>if c = b then 1 else 0
theorem plw_len {w:List Int} {c:Nat} (h:w.length <= 8):(plw w c).length = w.length:=by
 unfold plw
 split
 ·rfl
 ·rw [List.length_map,List.length_take]; exact Nat.min_eq_left h
abbrev PP (ps:List (List Int)):Nat->Nat->Int:=fun i b=>(ps.getD i []).getD b 0
abbrev ones (k:Nat):List Int:=List.replicate (2 * k) 1
def cnt (k:Nat) (a:List Nat):Int:=cv (PP (a.map (plw (ones k)))) k a.length 0 []
def spWeighed (K:PySem.W.Frag):Sp:=fun vs H Q _=>∃ (a:List Nat) (p:Addr) (w:List Int),vs = [tx a,.ref p]/\a.length <= 40/\SqL K H p (w.map V.int)/\w.length <= 8/\∀ r H',H r = none->Same H H'->Pls H' r (a.map (plw w))->Q (.ref r) H'
theorem weighed_use {K:PySem.W.Frag} {H:Hp} {a:List Nat} {p:Addr} {w:List Int} {Q:VK} {E:XK} (h1:a.length <= 40) (h2:SqL K H p (w.map V.int)) (h3:w.length <= 8) (q:∀ r H',H r = none->Same H H'->Pls H' r (a.map (plw w))->Q (.ref r) H'):spWeighed K ([tx a,.ref p] ++ []) H Q E:=⟨a,p,w,rfl,h1,h2,h3,q⟩
def spCounted:Sp:=fun vs H Q _=>∃ (k:Int) (a:List Nat),vs = [.int k,tx a]/\1 <= k/\k <= 4/\a.length <= 40/\∀ r H',H r = none->Same H H'->Pls H' r (a.map (plw (ones k.toNat)))->Q (.ref r) H'
theorem counted_use {H:Hp} {k:Int} {a:List Nat} {Q:VK} {E:XK} (h1:1 <= k) (h2:k <= 4) (h3:a.length <= 40) (q:∀ r H',H r = none->Same H H'->Pls H' r (a.map (plw (ones k.toNat)))->Q (.ref r) H'):spCounted ([.int k,tx a] ++ []) H Q E:=⟨k,a,rfl,h1,h2,h3,q⟩
def top30:Int:=10 ^ 31
def Sm (l:List Int):Prop:=∀ v ∈ l,0 <= v/\v <= top30
theorem Sm.at {l:List Int} (h:Sm l) (b:Nat):0 <= l.getD b 0/\l.getD b 0 <= top30:=by
 rw [List.getD_eq_getElem?_getD]
 cases e:l[b]? with
 | none=>exact ⟨by simp,by simp [top30]⟩
 | some v=>exact h v (List.mem_of_getElem? e)
def spPair:Sp:=fun vs H Q _=>∃ (p q:Addr) (x y:List Int) (k:Nat),vs = [.ref p,.ref q]/\H p = some (iL x)/\H q = some (iL y)/\x.length = 2 * k/\y.length = 2 * k/\k <= 4/\Sm x/\Sm y/\∀ H',Same H H'->Q (.int (sm k fun o=>x.getD (2 * o) 0 * y.getD (2 * o + 1) 0)) H'
theorem pair_use {H:Hp} {p q:Addr} {x y:List Int} {k:Nat} {Q:VK} {E:XK} (h1:H p = some (iL x)) (h2:H q = some (iL y)) (l1:x.length = 2 * k) (l2:y.length = 2 * k) (hk:k <= 4) (s1:Sm x) (s2:Sm y) (r:∀ H',Same H H'->Q (.int (sm k fun o=>x.getD (2 * o) 0 * y.getD (2 * o + 1) 0)) H'):spPair ([.ref p,.ref q] ++ []) H Q E:=⟨p,q,x,y,k,rfl,h1,h2,l1,l2,hk,s1,s2,r⟩
def spNoSums:Sp:=fun vs H Q _=>∃ n:Nat,vs = [.int n]/\n <= 40/\∀ s ad H',Tb H H' s ad n (fun _ _=>0)->Q (.ref s) H'
theorem noSums_use {H:Hp} {n:Nat} {Q:VK} {E:XK} (h1:n <= 40) (r:∀ s ad H',Tb H H' s ad n (fun _ _=>0)->Q (.ref s) H'):spNoSums ([.int n] ++ []) H Q E:=⟨n,rfl,h1,r⟩
def tbl (P:Nat->Nat->Int) (k:Nat) (i j:Nat):Int:=if i <= j then cv P k (j - i) i [] else 0
def spSpans:Sp:=fun vs H Q _=>∃ (p:Addr) (ps:List (List Int)) (k:Nat),vs = [.ref p]/\Pls H p ps/\ps.length <= 40/\k <= 4/\(∀ l ∈ ps,l.length = 2 * k/\Sm l)/\∀ s ad H',Tb H H' s ad ps.length (tbl (PP ps) k)->Q (.ref s) H'
theorem spans_use {H:Hp} {p:Addr} {ps:List (List Int)} {k:Nat} {Q:VK} {E:XK} (h1:Pls H p ps) (h2:ps.length <= 40) (h3:k <= 4) (h4:∀ l ∈ ps,l.length = 2 * k/\Sm l) (r:∀ s ad H',Tb H H' s ad ps.length (tbl (PP ps) k)->Q (.ref s) H'):spSpans ([.ref p] ++ []) H Q E:=⟨p,ps,k,rfl,h1,h2,h3,h4,r⟩
def spWholeSum:Sp:=fun vs H Q _=>∃ H0 s ad n T,vs = [.ref s]/\Tb H0 H s ad n T/\Q (.int (T 0 n)) H
theorem wholeSum_use {H0 H:Hp} {s:Addr} {ad:Nat->Addr} {n:Nat} {T:Nat->Nat->Int} {Q:VK} {E:XK} (h:Tb H0 H s ad n T) (q:Q (.int (T 0 n)) H):spWholeSum ([.ref s] ++ []) H Q E:=⟨H0,s,ad,n,T,rfl,h,q⟩
def spMany:Sp:=fun vs H Q _=>∃ (k:Int) (a:List Nat),vs = [.int k,tx a]/\1 <= k/\k <= 4/\isRow k a = true/\∀ H',Same H H'->Q (.int (cnt k.toNat a)) H'
theorem many_use {H:Hp} {k:Int} {a:List Nat} {Q:VK} {E:XK} (h1:1 <= k) (h2:k <= 4) (h3:isRow k a = true) (q:∀ H',Same H H'->Q (.int (cnt k.toNat a)) H'):spMany ([.int k,tx a] ++ []) H Q E:=⟨k,a,rfl,h1,h2,h3,q⟩
def spCan:Sp:=fun vs H Q _=>∃ (k:Int) (a:List Nat),vs = [.int k,tx a]/\1 <= k/\k <= 4/\isRow k a = true/\∀ H',Same H H'->Q (.bl (decide (cnt k.toNat a > 0))) H'
theorem can_use {H:Hp} {k:Int} {a:List Nat} {Q:VK} {E:XK} (h1:1 <= k) (h2:k <= 4) (h3:isRow k a = true) (q:∀ H',Same H H'->Q (.bl (decide (cnt k.toNat a > 0))) H'):spCan ([.int k,tx a] ++ []) H Q E:=⟨k,a,rfl,h1,h2,h3,q⟩
theorem ones_sm (k:Nat):Sm (ones k):=fun v hv=>by
 obtain rfl:=List.eq_of_mem_replicate hv
 exact ⟨by decide,by decide⟩
theorem plw_sm {w:List Int} (h:Sm w) (c:Nat):Sm (plw w c):=by
 unfold plw
 split
 ·exact h
 ·intro v hv
  obtain ⟨b,_,rfl⟩:=List.mem_map.mp hv
  split <;> exact ⟨by decide,by decide⟩
theorem PP_bound {ps : List (List Int)} (h : ∀ l ∈ ps, Sm l) (i b : Nat) : 0 <= PP ps i b /\ PP ps i b <= top30 := by
  show 0 <= (ps.getD i []).getD b 0 /\ (ps.getD i []).getD b 0 <= top30
  cases e : ps[i]? with
  | none =>
    have q : ps.getD i [] = [] := by rw [List.getD_eq_getElem?_getD, e]; rfl
    rw [q]; exact ⟨by simp, by simp [top30]⟩
  | some l =>
    have q : ps.getD i [] = l := by rw [List.getD_eq_getElem?_getD, e]; rfl
    rw [q]; exact (h l (List.mem_of_getElem? e)).at b
theorem pow_mono {x y : Int} (h0 : 0 <= x) (h : x <= y) : ∀ n : Nat, 0 <= x ^ n /\ x ^ n <= y ^ n
  | 0 => by simp
  | n + 1 => by
    obtain ⟨a, b⟩ := pow_mono h0 h n
    rw [Int.pow_succ, Int.pow_succ]
    exact ⟨Int.mul_nonneg a h0, Int.mul_le_mul b h h0 (Int.le_trans a b)⟩
theorem pow_up {x : Int} (h1 : 1 <= x) {m n : Nat} (h : m <= n) : x ^ m <= x ^ n := by
  induction n with
  | zero => obtain rfl : m = 0 := by omega
            exact Int.le_refl _
  | succ n ih =>
    by_cases e : m = n + 1
    · subst e; exact Int.le_refl _
    · have h2 := ih (by omega)
      have h3 := (pow_mono (x := x) (y := x) (by omega) (Int.le_refl _) n).1
      rw [Int.pow_succ]
      have := Int.mul_le_mul (Int.le_refl (x ^ n)) h1 (by decide) h3
      omega
def cap:Int:=(5 * top30) ^ 40
theorem cv_cap {ps:List (List Int)} {k:Nat} (hk:k <= 4) (h:∀ l ∈ ps,Sm l) {n:Nat} (hn:n <= 40) (i:Nat) (st:List Nat):0 <= cv (PP ps) k n i st/\cv (PP ps) k n i st <= cap:=by
 obtain ⟨a,b⟩:=cv_bound (P:=PP ps) (k:=k) (c:=top30) (by decide) (fun i b=>(PP_bound h i b).1) (fun i b=>(PP_bound h i b).2) n i st
 refine ⟨a,Int.le_trans b ?_⟩
 have h1:(0:Int) <= ((k:Int) + 1) * top30:=Int.mul_nonneg (by omega) (by decide)
 have h2:((k:Int) + 1) * top30 <= 5 * top30:=Int.mul_le_mul_of_nonneg_right (by omega) (by decide)
 refine Int.le_trans (pow_mono h1 h2 n).2 (pow_up (by decide) hn)
theorem pr_cap {ps:List (List Int)} {k:Nat} (hk:k <= 4) (h:∀ l ∈ ps,Sm l) (i j:Nat):0 <= pr (PP ps) k i j/\pr (PP ps) k i j <= 4 * (top30 * top30):=by
 unfold pr
 have tm:∀ p,0 <= PP ps i (2 * p) * PP ps j (2 * p + 1)/\PP ps i (2 * p) * PP ps j (2 * p + 1) <= top30 * top30:=fun p =>
  ⟨Int.mul_nonneg (PP_bound h _ _).1 (PP_bound h _ _).1,Int.mul_le_mul (PP_bound h _ _).2 (PP_bound h _ _).2 (PP_bound h _ _).1 (by decide)⟩
 refine ⟨sm_nonneg k fun p _=>(tm p).1,Int.le_trans (sm_mono (g:=fun _=>top30 * top30) k fun p _=>(tm p).2) ?_⟩
 rw [sm_const]
 exact Int.mul_le_mul_of_nonneg_right (by omega) (by decide)
theorem big_of {i c:Int} (h0:0 <= i) (h:i <= c) (hc:c.natAbs < big):i.natAbs < big:=by
 refine Nat.lt_of_le_of_lt ?_ hc
 omega
theorem cap_big:cap.natAbs < big:=by unfold cap big top30; decide +kernel
theorem cap2_big:(4 * (top30 * top30) * cap).natAbs < big:=by unfold cap big top30; decide +kernel
theorem top_big:top30.natAbs < big:=by unfold big top30; decide +kernel
theorem pt_big:(4 * (top30 * top30)).natAbs < big:=by unfold big top30; decide +kernel
end BrS
namespace BrS
open L2 PySem BrM BrC
theorem rep_zero (n:Nat):(List.replicate (n + 1) [V.int 0]).flatten = rwl n fun _=>0:=by
 unfold rwl
 have:∀ m,(List.replicate m [V.int 0]).flatten = (List.range m).map fun _=>V.int 0:=by
  intro m
  induction m with
  | zero=>rfl
  | succ m ih=>rw [List.replicate_succ',List.flatten_append,ih,List.range_succ,List.map_append]; rfl
 exact this (n + 1)
theorem atI_end {α:Type} {xs:List α} {v:α} (h:0 < xs.length) (e:xs[xs.length - 1]? = some v):atI xs (-1) = some v:=by
 unfold atI ixN
 rw [if_neg (by omega),if_pos (by omega)]
 have:((-1:Int) + xs.length).toNat = xs.length - 1:=by omega
 simp only [this,Option.bind]
 exact e
end BrS
namespace BrS
open L2 PySem BrM BrC
theorem rep_ones (m:Nat):(List.replicate (2 * m) [V.int 1]).flatten = (ones m).map V.int:=by
 unfold ones
 generalize 2 * m = j
 induction j with
 | zero=>rfl
 | succ j ih=>rw [List.replicate_succ,List.flatten_cons,ih,List.replicate_succ]; rfl
theorem int_at {l:List Int} {j:Nat} (h:j < l.length):(l.map V.int)[j]? = some (.int (l.getD j 0)):=by
 rw [List.getElem?_map,List.getD_eq_getElem?_getD,List.getElem?_eq_getElem h]; rfl
end BrS
namespace BrS
open L2 PySem BrM BrC
def part (P:Nat->Nat->Int) (k i q j:Nat):Int :=
 if j <= i then (if j = i then 1 else 0) else if (j - i) % 2 = 1 then 0 else
  sm q fun e=>if i + 2 + 2 * e <= j then pr P k i (i + 1 + 2 * e) * cv P k (2 * e) (i + 1) [] * cv P k (j - (i + 2 + 2 * e)) (i + 2 + 2 * e) [] else 0
section
variable {P:Nat->Nat->Int} {k i q j n:Nat}
theorem part_zero:part P k i 0 j = if j = i then 1 else 0:=by
 unfold part
 by_cases h:j <= i
 ·rw [if_pos h]
 ·rw [if_neg h,if_neg (show ¬ (j = i) by omega)]
  split <;> rfl
theorem part_odd (h:i < j/\(j - i) % 2 = 1):part P k i q j = 0:=by
 unfold part
 rw [if_neg (by omega),if_pos h.2]
theorem part_same (h:j < i + 2 + 2 * q):part P k i (q + 1) j = part P k i q j:=by
 unfold part
 by_cases h1:j <= i
 ·rw [if_pos h1,if_pos h1]
 ·rw [if_neg h1,if_neg h1,sm,if_neg (show ¬ (i + 2 + 2 * q <= j) by omega),Int.add_zero]
theorem part_next {en:Nat} (he:en = i + 1 + 2 * q) (h:en + 1 <= j) (h2:(j - i) % 2 = 0):part P k i q j + pr P k i en * cv P k (2 * q) (i + 1) [] * cv P k (j - (en + 1)) (en + 1) [] = part P k i (q + 1) j:=by
 subst he
 unfold part
 rw [if_neg (by omega),if_neg (by omega),if_neg (by omega),if_neg (by omega),sm,if_pos (show i + 2 + 2 * q <= j by omega),show i + 1 + 2 * q + 1 = i + 2 + 2 * q by omega]
theorem part_all (hj:j <= n):part P k i ((n - i) / 2) j = tbl P k i j:=by
 unfold part tbl
 by_cases h1:j <= i
 ·rw [if_pos h1]
  by_cases h2:j = i
  ·subst h2; rw [if_pos rfl,if_pos (Nat.le_refl _),Nat.sub_self]; rfl
  ·rw [if_neg h2,if_neg (by omega)]
 ·rw [if_neg h1,if_pos (show i <= j by omega)]
  by_cases h2:(j - i) % 2 = 1
  ·rw [if_pos h2,cv_odd _ _ _ (by simpa using h2)]
  ·rw [if_neg h2]
   obtain ⟨m,hm⟩:∃ m,j - i = m + 1:=⟨j - i - 1,by omega⟩
   rw [hm,cv_rec2]
   obtain ⟨d,hd⟩:∃ d,(n - i) / 2 = (m + 1) / 2 + d:=⟨(n - i) / 2 - (m + 1) / 2,by omega⟩
   rw [hd,sm_more _ d fun e h3=>by rw [if_neg (by omega)]]
   refine sm_congr _ fun e h3=>?_
   rw [if_pos (by omega),show j - (i + 2 + 2 * e) = m - 2 * e - 1 by omega,show i + 2 + 2 * e = i + 2 * e + 2 by omega]
end
end BrS
namespace BrS
open L2 PySem BrM BrC
theorem many_places {k:Nat} {a:List Nat} (hk:k <= 4):∀ l ∈ a.map (plw (ones k)),l.length = 2 * k/\Sm l:=fun l hl=>by
 obtain ⟨c,_,rfl⟩:=List.mem_map.mp hl
 exact ⟨by rw [plw_len (by rw [List.length_replicate]; omega),List.length_replicate],plw_sm (ones_sm k) c⟩
end BrS
namespace BrS
open L2 PySem BrM BrC
theorem eqVs_nil (ds:List Int):eqVs (ds.map V.int) [] = decide (ds = []):=by
 cases ds with
 | nil=>rfl
 | cons d r=>rw [decide_eq_false (by simp)]; rfl
theorem plw_unk (w:List Int):plw w 63 = w:=by unfold plw; rw [if_pos rfl]
end BrS
namespace BrS
open L2 PySem BrM BrC
section
variable {σ:St} {H:Hp} {Q:VK} {K:PySem.W.Frag}
end
end BrS
namespace BrS
open L2 PySem BrM BrC
theorem at4 {α:Type} (x y z u:α) {i:Int} (h0:0 <= i) (h1:i < 4):∃ v,atI [x,y,z,u] i = some v/\(v = x\/v = y\/v = z\/v = u):=by
 have:i = 0\/i = 1\/i = 2\/i = 3:=by omega
 rcases this with rfl | rfl | rfl | rfl
 ·exact ⟨x,rfl,.inl rfl⟩
 ·exact ⟨y,rfl,.inr (.inl rfl)⟩
 ·exact ⟨z,rfl,.inr (.inr (.inl rfl))⟩
 ·exact ⟨u,rfl,.inr (.inr (.inr rfl))⟩
end BrS
namespace BrS
open L2 PySem BrM BrC
end BrS
namespace BrS
open L2 PySem BrM BrC
def pw (k c b:Nat):Int:=(plw (ones k) c).getD b 0
variable {k:Nat}
theorem pw_unk {b:Nat} (h:b < 2 * k):pw k 63 b = 1:=by
 unfold pw
 rw [plw_unk]
 unfold ones
 rw [List.getD_eq_getElem?_getD,List.getElem?_replicate,if_pos h]; rfl
theorem brs_at {b c:Nat} (h:brs[b]? = some c):b < 8:=by
 have:=(List.getElem?_eq_some_iff.mp h).1
 exact this
theorem pw_at {b d c:Nat} (hb:b < 2 * k) (hb8:b < 8) (hd:brs[d]? = some c):pw k c b = if b = d then 1 else 0:=by
 have hd8:=brs_at hd
 have hn:c ≠ 63:=by
  rintro rfl
  revert hd
  have:d = 0\/d = 1\/d = 2\/d = 3\/d = 4\/d = 5\/d = 6\/d = 7:=by omega
  rcases this with rfl | rfl | rfl | rfl | rfl | rfl | rfl | rfl <;> decide
 unfold pw plw
 rw [if_neg hn,List.getD_eq_getElem?_getD,List.getElem?_map,List.getElem?_take]
 rw [if_pos (show b < (ones k).length by unfold ones; rw [List.length_replicate]; exact hb)]
 have hb':b = 0\/b = 1\/b = 2\/b = 3\/b = 4\/b = 5\/b = 6\/b = 7:=by omega
 have hd':d = 0\/d = 1\/d = 2\/d = 3\/d = 4\/d = 5\/d = 6\/d = 7:=by omega
 rcases hd' with rfl | rfl | rfl | rfl | rfl | rfl | rfl | rfl <;> (cases hd; rcases hb' with rfl | rfl | rfl | rfl | rfl | rfl | rfl | rfl <;> decide)
theorem sm_pairs (f:Nat->Int):∀ k,sm (2 * k) f = sm k fun p=>f (2 * p) + f (2 * p + 1)
 | 0=>rfl
 | k + 1=>by rw [show 2 * (k + 1) = 2 * k + 1 + 1 by omega,sm,sm,sm_pairs f k,sm]; omega
end BrS
namespace BrS
open L2 PySem BrM BrC
def clc (p:Nat):Nat:=cls.getD p 0
section
variable {k:Int}
end
end BrS
namespace BrS
open L2 PySem BrM BrC
section
variable {k:Int}
end
end BrS
namespace L2
open PySem PySem.Spec PyProof.Rows
section
variable {κ:Type} [DecidableEq κ]
def valV (kvs:List (κ × V)) (k:κ):Option V:=(kvs.find? fun kv=>decide (kv.1 = k)).map (·.2)
def putK (kvs:List (κ × V)) (k:κ) (v:V):List (κ × V) :=
 if (kvs.any fun kv=>decide (kv.1 = k)) = true then kvs.map (fun kv=>if kv.1 = k then (kv.1,v) else kv) else kvs ++ [(k,v)]
theorem valV_nil {k:κ}:valV ([]:List (κ × V)) k = none:=rfl
theorem valV_pos {p:κ × V} {r:List (κ × V)} {k:κ} (e:p.1 = k):valV (p :: r) k = some p.2:=by simp [valV,List.find?_cons,e]
theorem valV_neg {p:κ × V} {r:List (κ × V)} {k:κ} (e:¬ p.1 = k):valV (p :: r) k = valV r k:=by simp [valV,List.find?_cons,e]
theorem valV_any (k : κ) : ∀ kvs : List (κ × V), (kvs.any fun kv => decide (kv.1 = k)) = (valV kvs k).isSome
  | [] => rfl
  | p :: r => by
    rw [List.any_cons]
    by_cases e : p.1 = k
    · simp only [valV_pos e, decide_eq_true e, Bool.true_or, Option.isSome_some]
    · rw [valV_neg e, decide_eq_false e, Bool.false_or]; exact valV_any k r
theorem valV_map (k j : κ) (y : V) : ∀ kvs : List (κ × V), valV (kvs.map fun kv => if kv.1 = k then (kv.1, y) else kv) j = (valV kvs j).map fun x => if j = k then y else x
  | [] => rfl
  | p :: r => by
    have ih := valV_map k j y r
    rw [List.map_cons]
    by_cases h : p.1 = k
    · rw [if_pos h]
      by_cases e : p.1 = j
      · rw [valV_pos (p := (p.1, y)) e, valV_pos e, Option.map_some, if_pos (e.symm.trans h)]
      · rw [valV_neg (p := (p.1, y)) e, valV_neg e, ih]
    · rw [if_neg h]
      by_cases e : p.1 = j
      · rw [valV_pos (p := p) e, valV_pos e, Option.map_some, if_neg (fun z => h (e.trans z))]
      · rw [valV_neg (p := p) e, valV_neg e, ih]
theorem valV_snoc (k j : κ) (y : V) : ∀ kvs : List (κ × V), valV kvs k = none -> valV (kvs ++ [(k, y)]) j = if j = k then some y else valV kvs j
  | [], _ => by
    by_cases e : k = j
    · rw [if_pos e.symm]; exact valV_pos (p := (k, y)) e
    · rw [if_neg (fun z => e z.symm)]; exact valV_neg (p := (k, y)) e
  | p :: r, hn => by
    rw [List.cons_append]
    have hk : ¬ p.1 = k := fun z => by rw [valV_pos z] at hn; cases hn
    rw [valV_neg hk] at hn
    have ih := valV_snoc k j y r hn
    by_cases e : p.1 = j
    · rw [valV_pos e, valV_pos e, if_neg (fun z => hk (e.trans z))]
    · rw [valV_neg e, valV_neg e, ih]
theorem valV_put (kvs:List (κ × V)) (k j:κ) (y:V):valV (putK kvs k y) j = if j = k then some y else valV kvs j:=by
 unfold putK
 by_cases a:(kvs.any fun kv=>decide (kv.1 = k)) = true
 ·rw [if_pos a,valV_map]
  rw [valV_any] at a
  by_cases e:j = k
  ·obtain ⟨x,hx⟩:=Option.isSome_iff_exists.mp a
   rw [if_pos e,e,hx,Option.map_some,if_pos rfl]
  ·rw [if_neg e]
   cases valV kvs j with
   | none=>rfl
   | some x=>rw [Option.map_some,if_neg e]
 ·rw [if_neg a]
  refine valV_snoc k j y kvs ?_
  rw [valV_any] at a
  cases q:valV kvs k with
  | none=>rfl
  | some x=>rw [q] at a; exact (a rfl).elim
theorem length_putK (kvs:List (κ × V)) (k:κ) (v:V):(putK kvs k v).length <= kvs.length + 1:=by
 unfold putK
 split
 ·rw [List.length_map]; omega
 ·rw [List.length_append,List.length_cons,List.length_nil]; omega
theorem RelO.isSome_eq {o : Option V} {u : Option Value} (r : RelO o u) : o.isSome = u.isSome := by
  cases o with
  | none => cases u with
    | none => rfl
    | some _ => exact (show False from r).elim
  | some _ => cases u with
    | none => exact (show False from r).elim
    | some _ => rfl
theorem RelO.getD {o : Option V} {u : Option Value} {d : V} {d' : Value} (r : RelO o u) (rd : RelV d d') : RelV (o.getD d) (u.getD d') := by
  cases o with
  | none => cases u with
    | none => exact rd
    | some _ => exact (show False from r).elim
  | some _ => cases u with
    | none => exact (show False from r).elim
    | some _ => exact r
theorem KV.val {kvs : List (κ × V)} {vs : List (κ × Value)} (r : KV kvs vs) (k : κ) : RelO (valV kvs k) (valueAt vs k) := by
  unfold KV at r
  induction r with
  | nil => exact True.intro
  | @cons p q ps qs h t ih =>
    obtain ⟨h1, h2⟩ := h
    by_cases e : p.1 = k
    · have e' : q.1 = k := h1.symm.trans e
      have b : valueAt (q :: qs) k = some q.2 := by simp [valueAt, List.find?_cons, e']
      rw [valV_pos e, b]; exact h2
    · have e' : ¬ q.1 = k := fun z => e (h1.trans z)
      have b : valueAt (q :: qs) k = valueAt qs k := by simp [valueAt, List.find?_cons, e']
      rw [valV_neg e, b]; exact ih
theorem KV.any {kvs:List (κ × V)} {vs:List (κ × Value)} (r:KV kvs vs) (k:κ):(kvs.any fun kv=>decide (kv.1 = k)) = vs.any fun kv=>decide (kv.1 = k):=by
 unfold KV at r
 induction r with
 | nil=>rfl
 | cons h t ih=>rw [List.any_cons,List.any_cons,ih,h.1]
theorem KV.repl {kvs : List (κ × V)} {vs : List (κ × Value)} (r : KV kvs vs) (k : κ) {y : V} {u : Value} (ry : RelV y u) :
    KV (kvs.map fun kv => if kv.1 = k then (kv.1, y) else kv) (vs.map fun kv => if kv.1 = k then (kv.1, u) else kv) := by
  unfold KV at r ⊢
  induction r with
  | nil => exact .nil
  | @cons p q ps qs h t ih =>
    rw [List.map_cons, List.map_cons]
    refine .cons ?_ ih
    obtain ⟨h1, h2⟩ := h
    by_cases e : p.1 = k
    · rw [if_pos e, if_pos (h1.symm.trans e)]; exact ⟨h1, ry⟩
    · rw [if_neg e, if_neg (fun z => e (h1.trans z))]; exact ⟨h1, h2⟩
theorem KV.put {kvs:List (κ × V)} {vs:List (κ × Value)} (r:KV kvs vs) (k:κ) {y:V} {u:Value} (ry:RelV y u):KV (putK kvs k y) (stored vs k u):=by
 unfold putK stored
 rw [r.any k]
 by_cases e:(vs.any fun kv=>decide (kv.1 = k)) = true
 ·rw [if_pos e,if_pos e]; exact r.repl k ry
 ·rw [if_neg e,if_neg e]; exact Paired.snoc r ⟨rfl,ry⟩
theorem KV.length {kvs:List (κ × V)} {vs:List (κ × Value)} (r:KV kvs vs):kvs.length = vs.length:=Paired.length r
end
theorem kV_is {P:Program} {w:World} {k:Key} {u:Value} (r:RelV (kV k) u):(mixKind P w).is k u = true:=by
 cases k with
 | inl i=>obtain ⟨t,e⟩:=(show ∃ t,u = Value.int i t from r); subst e; exact mixKind_int P w i t
 | inr x=>obtain ⟨t,e⟩:=(show ∃ t,u = Value.str x t from r); subst e; exact mixKind_str P w x t
theorem items_are {P : Program} {w : World} : ∀ {ks : List Key} {us : List Value}, Vals (ks.map kV) us -> ItemsAre (mixKind P w) ks us
  | [], _, r => by rw [List.map_nil] at r; cases r; exact .nil
  | k :: ks, _, r => by
    rw [List.map_cons] at r
    cases r with
    | cons h t => exact .cons (kV_is h) (items_are t)
abbrev KT (H:Hp):List (List Key × V)->List (List Key × Addr × Value)->Prop:=Paired fun p q=>p.1 = q.1/\H q.2.1 = some (.tup (p.1.map kV))/\RelV p.2 q.2.2
theorem KT.val {H : Hp} {kvs : List (List Key × V)} {xs : List (List Key × Addr × Value)} (r : KT H kvs xs) (k : List Key) : RelO (valV kvs k) ((atKey xs k).map (·.2)) := by
  induction r with
  | nil => exact True.intro
  | @cons p q ps qs h t ih =>
    obtain ⟨h1, _, h2⟩ := h
    by_cases e : p.1 = k
    · have e' : q.1 = k := h1.symm.trans e
      have b : atKey (q :: qs) k = some q.2 := by simp [atKey, List.find?_cons, e']
      rw [valV_pos e, b]; exact h2
    · have e' : ¬ q.1 = k := fun z => e (h1.trans z)
      have b : atKey (q :: qs) k = atKey qs k := by simp [atKey, List.find?_cons, e']
      rw [valV_neg e, b]; exact ih
theorem KT.repl {H : Hp} {kvs : List (List Key × V)} {xs : List (List Key × Addr × Value)} (r : KT H kvs xs) (k : List Key) {y : V} {u : Value} (ry : RelV y u) :
    KT H (kvs.map fun kv => if kv.1 = k then (kv.1, y) else kv) (xs.map (putAt k u)) := by
  induction r with
  | nil => exact .nil
  | @cons p q ps qs h t ih =>
    rw [List.map_cons, List.map_cons]
    refine .cons ?_ ih
    obtain ⟨h1, h2, h3⟩ := h
    unfold putAt
    by_cases e : p.1 = k
    · rw [if_pos e, if_pos (h1.symm.trans e)]; exact ⟨h1, h2, ry⟩
    · rw [if_neg e, if_neg (fun z => e (h1.trans z))]; exact ⟨h1, h2, h3⟩
theorem KT.put {H:Hp} {kvs:List (List Key × V)} {xs:List (List Key × Addr × Value)} (r:KT H kvs xs) (k:List Key) {b:Addr} {y:V} {u:Value} (hb:H b = some (.tup (k.map kV))) (ry:RelV y u) :
  KT H (putK kvs k y) (storedH xs k b u):=by
 have e:(kvs.any fun kv=>decide (kv.1 = k)) = (atKey xs k).isSome:=by
  rw [valV_any,(r.val k).isSome_eq,Option.isSome_map]
 unfold putK storedH
 rw [e]
 by_cases q:(atKey xs k).isSome = true
 ·rw [if_pos q,if_pos q]; exact r.repl k ry
 ·rw [if_neg q,if_neg q]; exact Paired.snoc r ⟨rfl,hb,ry⟩
theorem KT.keeps {H H':Hp} {kvs:List (List Key × V)} {xs:List (List Key × Addr × Value)} (r:KT H kvs xs) (ht:∀ b ys,H b = some (.tup ys)->H' b = some (.tup ys)):KT H' kvs xs :=
 Paired.mapP r fun _ _ z=>⟨z.1,ht _ _ z.2.1,z.2.2⟩
section
variable {P:Program} {w:World} {H:Hp} {h:Heap} {a:Addr}
theorem rd_of {u:HO} (ok:HOk P w H h) (e:Rd H a u):ObjOk P w H h a u:=e.ok ok
theorem dk_rd {kvs:List (Key × V)} (ok:HOk P w H h) (e:Rd H a (.dK kvs)):kvs.length <= sizeLine/\(a == sysModules) = false/\∃ vs,KV kvs vs/\h.DictOf (mixKind P w) a vs :=
 show ObjOk P w H h a (.dK kvs) from rd_of ok e
theorem dk_of {kvs:List (Key × V)} (ok:HOk P w H h) (e:H a = some (.dK kvs)):kvs.length <= sizeLine/\(a == sysModules) = false/\∃ vs,KV kvs vs/\h.DictOf (mixKind P w) a vs:=dk_rd ok (.inl e)
theorem key_of {ks:List Key} (ok:HOk P w H h) (e:H a = some (.tup (ks.map kV))):(tupleKind (mixKind P w)).is h ks a:=by
 obtain ⟨_,its,r,o,h1,h2,n,h3⟩:=(show ObjOk P w H h a (.tup (ks.map kV)) from ok a _ e)
 exact ⟨o,its.toArray,n,h1,h2,h3,by simpa using items_are r⟩
theorem dt_rd {kvs : List (List Key × V)} (ok : HOk P w H h) (e : Rd H a (.dT kvs)) : kvs.length <= sizeLine /\ (a == sysModules) = false /\
    ∃ xs, KT H kvs xs /\ h.DictOfH (tupleKind (mixKind P w)) a xs := by
  obtain ⟨z, y, xs, r, o, es, ep, h1, h2, h3, h4, h5⟩ := (show ObjOk P w H h a (.dT kvs) from rd_of ok e)
  refine ⟨z, y, xs, r, o, es, ep, h1, h2, h3, h4, fun x hx => ?_, h5⟩
  have all : ∀ {l : List (List Key × V)} {m : List (List Key × Addr × Value)}, KT H l m -> ∀ x ∈ m, (tupleKind (mixKind P w)).is h x.1 x.2.1 := by
    intro l m q
    induction q with
    | nil => intro x hx; exact nomatch hx
    | @cons p q ps qs hq t ih =>
      intro x hx
      rcases List.mem_cons.mp hx with e | hx
      · subst e
        exact key_of ok (by rw [<- hq.1]; exact hq.2.1)
      · exact ih x hx
  exact all r x hx
theorem dt_of {kvs:List (List Key × V)} (ok:HOk P w H h) (e:H a = some (.dT kvs)):kvs.length <= sizeLine/\(a == sysModules) = false /\
  ∃ xs,KT H kvs xs/\h.DictOfH (tupleKind (mixKind P w)) a xs:=dt_rd ok (.inl e)
end
def DGet (H:Hp) (a:Addr) (y:V) (r:Option V):Prop :=
 (∃ kvs k,Rd H a (.dK kvs)/\y = kV k/\r = valV kvs k)\/∃ kvs k b,Rd H a (.dT kvs)/\y = .ref b/\H b = some (.tup (k.map kV))/\r = valV kvs k
def DPut (H:Hp) (a:Addr) (y v:V) (H':Hp):Prop :=
 (∃ kvs k,H a = some (.dK kvs)/\y = kV k/\kvs.length < sizeLine/\H' = upd H a (.dK (putK kvs k v))) \/
 ∃ kvs k b,H a = some (.dT kvs)/\y = .ref b/\H b = some (.tup (k.map kV))/\kvs.length < sizeLine/\H' = upd H a (.dT (putK kvs k v))
theorem DGet.k {H:Hp} {a:Addr} {kvs:List (Key × V)} {k:Key} (e:H a = some (.dK kvs)):DGet H a (kV k) (valV kvs k):=.inl ⟨kvs,k,.inl e,rfl,rfl⟩
theorem DGet.t {H:Hp} {a b:Addr} {kvs:List (List Key × V)} {k:List Key} (e:H a = some (.dT kvs)) (eb:H b = some (.tup (k.map kV))):DGet H a (.ref b) (valV kvs k):=.inr ⟨kvs,k,b,.inl e,rfl,eb,rfl⟩
theorem DPut.k {H:Hp} {a:Addr} {kvs:List (Key × V)} {k:Key} {v:V} (e:H a = some (.dK kvs)) (hl:kvs.length < sizeLine):DPut H a (kV k) v (upd H a (.dK (putK kvs k v))):=.inl ⟨kvs,k,e,rfl,hl,rfl⟩
theorem DPut.t {H:Hp} {a b:Addr} {kvs:List (List Key × V)} {k:List Key} {v:V} (e:H a = some (.dT kvs)) (eb:H b = some (.tup (k.map kV))) (hl:kvs.length < sizeLine) :
  DPut H a (.ref b) v (upd H a (.dT (putK kvs k v))):=.inr ⟨kvs,k,b,e,rfl,eb,hl,rfl⟩
section
variable {X:Cx} {pins:List (Addr × Obj)} {σ:St} {H:Hp} {s:Shared} {a:Addr} {y v:V} {u r:Value} {o:Option V} {A:Around} {E:Value->Shared->Prop}
theorem Inv.big (I:Inv X pins σ H s):sysModules < s.heap.objs.size:=by
 have h:mainGlobals < s.heap.objs.size:=(I.mod.glob.keeps I.bk).lt
 exact Nat.lt_trans (by decide) h
theorem d_getItem {Q:Value->Shared->Prop} (hu:A.units + 1 < cLine) (I:Inv X pins σ H s) (g:DGet H a y (some v)) (ry:RelV y u) (h:∀ w' s',Inv X pins σ H s'->RelV v w'->Q w' s') :
  wpAny (model X.prog X.w) A (getItem (.ref a) u) Q E s:=by
 rcases g with ⟨kvs,k,e,ey,l⟩ | ⟨kvs,k,b,e,ey,eb,l⟩
 ·subst ey
  obtain ⟨z,hd,vs,rel,dd⟩:=dk_rd I.hok e
  obtain ⟨w',hw,rw'⟩:=RelO.some_of (v:=v) (o:=valueAt vs k) (by rw [l]; exact rel.val k)
  exact wpAny_getItem_of (kV_is ry) dd.mapOf hw (h w' _ (I.tok _) rw')
 ·subst ey
  cases (show u = Value.ref b from ry)
  obtain ⟨z,hd,xs,rel,dd⟩:=dt_rd I.hok e
  obtain ⟨w',hw,rw'⟩:=RelO.some_of (v:=v) (o:=(atKey xs k).map (·.2)) (by rw [l]; exact rel.val k)
  obtain ⟨p,hp,hp2⟩:=Option.map_eq_some_iff.mp hw
  refine wpAny_getItem_heap (tupleKind_room_in1 hu) (key_of I.hok eb) dd hp ?_
  rw [hp2]
  exact h w' _ (I.tok _) rw'
theorem d_write {h':Heap} {t':Nat} {ob:HO} (I:Inv X pins σ H s) (mu:Mut (H a)) (hs:Heap.SameBut a s.heap h') (he:∃ q,h'.get? a = some q) (new:ObjOk X.prog X.w (upd H a ob) h' a ob) :
  Inv X pins σ (upd H a ob) { s with heap:=h',toks:=t' } :=
 I.write (x:=a) (e:=a) mu (.inl rfl) (fun b q hb z=>(hs.2 b hb).trans z) he new
theorem dk_new {P:Program} {w:World} {H':Hp} {h':Heap} {kvs:List (Key × V)} {vs:List (Key × Value)} (z:kvs.length <= sizeLine) (hd:(a == sysModules) = false) (rel:KV kvs vs) (dd:h'.DictOf (mixKind P w) a vs) :
  ObjOk P w H' h' a (.dK kvs):=⟨z,hd,vs,rel,dd⟩
theorem d_setItem {H':Hp} {Q:Unit->Shared->Prop} (hu:A.units + 1 < cLine) (I:Inv X pins σ H s) (g:DPut H a y v H') (ry:RelV y u) (rv:RelV v r) (h:∀ s',Inv X pins σ H' s'->Q () s') :
  wpAny (model X.prog X.w) A (setItem (.ref a) u r) Q E s:=by
 rcases g with ⟨kvs,k,e,ey,l,eH⟩ | ⟨kvs,k,b,e,ey,eb,l,eH⟩
 ·subst ey eH
  obtain ⟨z,hd,vs,rel,dd⟩:=dk_of I.hok e
  have hz:vs.length <= sizeLine:=by rw [<- rel.length]; exact z
  have hl:(putK kvs k v).length <= sizeLine:=by have:=length_putK kvs k v; omega
  refine wpAny_setItem_pairs (hsz:=hz) (kV_is ry) dd fun h' dd' hs=>h _ ?_
  have he:∃ q,h'.get? a = some q:=let ⟨q,_,_,hq,_⟩:=dd'; ⟨q,hq⟩
  exact d_write I (by rw [e]; exact True.intro) hs he (dk_new hl hd (rel.put k rv) dd')
 ·subst ey eH
  cases (show u = Value.ref b from ry)
  obtain ⟨z,hd,xs,rel,dd⟩:=dt_of I.hok e
  have hz:xs.length <= sizeLine:=by rw [<- Paired.length rel]; exact z
  have hl:(putK kvs k v).length <= sizeLine:=by have:=length_putK kvs k v; omega
  refine wpAny_setItem_heap (hsz:=hz) (tupleKind_room_in1 hu) (key_of I.hok eb) dd fun h' dd' hs=>h _ ?_
  obtain ⟨q,es,ep,hq,h2,h3,h4,_,h5⟩:=dd'
  refine d_write I (by rw [e]; exact True.intro) hs ⟨q,hq⟩ ⟨hl,hd,_,(rel.put k eb rv).keeps fun c ys ec=>?_,q,es,ep,hq,h2,h3,h4,h5⟩
  rw [upd_ne (ne_of ec e (fun z=>nomatch z))]
  exact ec
end
section
variable {X:Cx} {pins:List (Addr × Obj)} {σ:St} {H:Hp} {s:Shared} {a:Addr} {kvs:List (Key × V)} {k:Key} {u:Value} {A:Around} {E:Value->Shared->Prop}
end
def NoSl (i:Expr):Prop:=∀ ov iv,subscripted i false ov iv = operate [ov,iv] (getItem ov iv)
theorem subD_of {prog:Program} {w:World} {A:Around} {E:Value->Shared->Prop} {s:Shared} {env:Env} {value slice:Expr} {pos:Pos} {T id:String} {Q:Value->Shared->Prop}
  (hl:typeLookup (.type T) "__getitem__" = pure (some (.builtin id))) (hs:NoSl slice)
  (h:wpAny (model prog w) A (eval value env) (fun o s₁=>wpAny (model prog w) A (eval slice env) (fun i s₂=>s₂.TypeIs o T/\wpAny (model prog w) A (getItem o i) Q E s₂) E s₁) E s) :
  wpAny (model prog w) A (eval (.Subscript value slice pos) env) Q E s:=by
 refine Subscript_ (wpAny_mono h (fun o s₁ h₁=>wpAny_mono h₁ (fun i s₂ h₂=>?_) fun _ _ x=>x) fun _ _ x=>x)
 obtain ⟨hT,h₂⟩:=h₂
 unfold subscriptTail
 refine wpAny_bind ?_
 rw [getitemInPython_of_ne hT.not_modules]
 refine wpAny_bind (wpAny_specialOf hT hl ?_)
 have fin:wpAny (model prog w) A (subscripted slice false o i) (fun r s₃=>wpAny (model prog w) A (letTemporaryGo value o r >>= fun _=>pure r) Q E s₃) E s₂:=by
  rw [hs o i]
  exact wpAny_operating (wpAny_mono h₂ (fun r s₃ h₃=>wpAny_bind (wpAny_letTemporaryGo (wpAny_pure h₃))) fun _ _ x=>x)
 first
  | exact wpAny_pure (wpAny_bind fin)
  | exact wpAny_bind (wpAny_pure (wpAny_bind fin))
  | exact wpAny_bind fin
theorem dict_typeIs {X:Cx} {pins:List (Addr × Obj)} {σ:St} {H:Hp} {s:Shared} {a:Addr} {y:V} {o:Option V} (I:Inv X pins σ H s) (g:DGet H a y o):s.TypeIs (.ref a) "dict":=by
 rcases g with ⟨kvs,k,e,_,_⟩ | ⟨kvs,k,b,e,_,_,_⟩
 ·obtain ⟨_,_,vs,_,dd⟩:=dk_rd I.hok e
  exact dd.typeIs
 ·obtain ⟨_,_,xs,_,dd⟩:=dt_rd I.hok e
  exact dd.typeIs
def tDGet (td ty:TE):TE:=fun σ H Q=>td σ H fun x H1=>ty σ H1 fun y H2=>∃ a v,x = .ref a/\DGet H2 a y (some v)/\Q v H2
def sDPut (td ty tv:TE):TS:=fun D σ H=>tv σ H fun v H1=>td σ H1 fun x H2=>ty σ H2 fun y H3=>∃ a H4,x = .ref a/\DPut H3 a y v H4/\D.nx σ H4
section
variable {X:Cx} {o i e value:Expr} {pos pos' tpos:Pos} {td ty tv:TE}
theorem pe_dget (hu:X.A.units + 1 < cLine) (ho:PE X o td) (hi:PE X i ty) (hs:NoSl i):PE X (.Subscript o i pos) (tDGet td ty):=by
 intro pins s σ H Q I h
 refine subD_of PySem.F.slot_dict_getitem.lookup hs (thn (ho pins s σ H _ I h) fun u s1 ⟨x,H1,I1,rx,q1⟩=>thn (hi pins s1 σ H1 _ I1 q1) fun iv s2 ⟨y,H2,I2,ry,a,v,ex,g,q2⟩=>?_)
 subst ex
 obtain rfl:u = Value.ref a:=rx
 exact ⟨dict_typeIs I2 g,d_getItem hu I2 g ry fun w' s3 I3 rw'=>⟨v,H2,I3,rw',q2⟩⟩
theorem ps_dput (hu:X.A.units + 1 < cLine) (ho:PE X o td) (hi:PE X i ty) (hv:PE X value tv) (hs:swapsWith value (some (.Subscript o i pos')) pos.line X.env = pure false) :
  PS X (.Assign [.Subscript o i pos'] value pos) (sDPut td ty tv):=by
 intro pins s σ H D I h
 refine wpAny_Assign_Subscript (thn (hv pins s σ H _ I h) fun r s1 ⟨v,H1,I1,rv,q1⟩=>thn (ho pins s1 σ H1 _ I1 q1) fun u s2 ⟨x,H2,I2,rx,q2⟩=>thn (hi pins s2 σ H2 _ I2 q2) fun iv s3 ⟨y,H3,I3,ry,a,H4,ex,g,q3⟩=>?_) hs
 subst ex
 obtain rfl:u = Value.ref a:=rx
 exact d_setItem hu I3 g ry rv fun s4 I4=>⟨σ,H4,I4,q3⟩
end
theorem dt_empty {P:Program} {w:World} {H:Hp} (h:Heap) (hb:sysModules < h.objs.size):ObjOk P w H (h.push { cls:=.type "dict",data:=.dict #[] }) h.objs.size (.dT []) :=
 ⟨Nat.zero_le _,beq_eq_false_iff_ne.mpr (Ne.symm (Nat.ne_of_lt hb)),[],.nil,_,#[],0,Heap.get?_push_size _ rfl,⟨rfl,rfl,rfl⟩,rfl,rfl,List.nodup_nil⟩
def tDNewT:TE:=fun _ H Q=>∀ p,H p = none->Q (.ref p) (upd H p (.dT []))
section
variable {X:Cx} {pos:Pos}
theorem pe_dnewT:PE X (.Dict [] [] pos) tDNewT:=fun pins s σ H Q I h =>
 wpAny_Dict_empty ⟨.ref s.heap.objs.size,_,I.laid (a:=s.heap.objs.size) (o:=.dT []) (t':=s.toks) (fun _ _ q=>Heap.get?_push_of_some _ q) (Nat.le_refl _) (dt_empty s.heap I.big),rfl,h _ (I.hok.fresh (Nat.le_refl _))⟩
end
section
variable {X:Cx} {pins:List (Addr × Obj)} {σ:St} {H:Hp} {s:Shared} {a:Addr} {y d:V} {u r:Value} {o:Option V} {A:Around} {E:Value->Shared->Prop}
end
section
variable {X:Cx} {o e f:Expr} {apos cpos:Pos} {td ty tx:TE}
end
section
variable {X:Cx} {pins:List (Addr × Obj)} {σ:St} {H:Hp} {s:Shared} {a:Addr} {kvs:List (Key × V)} {A:Around} {E:Value->Shared->Prop}
end
section
variable {X:Cx} {pins:List (Addr × Obj)} {σ:St} {H:Hp} {s:Shared} {a:Addr} {y:V} {u:Value} {A:Around} {E:Value->Shared->Prop}
end
end L2
namespace L2
open PySem PySem.Spec PyProof.Rows
section
variable {κ:Type} [DecidableEq κ]
end
end L2
namespace L2
open PySem PySem.Spec PyProof.Rows
section
variable {X:Cx} {pins:List (Addr × Obj)} {σ:St} {H:Hp} {s:Shared}
end
def ShOk (d:PyData):Prop:=d.showable = true/\d.shown.length <= sizeLine/\d.depth <= 20
def Low (a:List Nat):Prop:=∀ c ∈ a,c < 16 ^ 8
end L2
namespace L2
open PySem PySem.Spec PyProof.Rows
theorem paired_of {α β:Type} {F:α->β->Prop}:∀ {l:List α} {m:List β},l.length = m.length->(∀ (i:Nat) x u,l[i]? = some x->m[i]? = some u->F x u)->Paired F l m
 | [],[],_,_=>.nil
 | [],_ :: _,h,_=>by simp at h
 | _ :: _,[],h,_=>by simp at h
 | a :: l,b :: m,h,hf=>.cons (hf 0 a b rfl rfl) (paired_of (by simpa using h) fun i x u h1 h2=>hf (i + 1) x u (by simpa using h1) (by simpa using h2))
section
variable {X:Cx}
def rListS:List V->Hp->VK->Prop:=fun xs H Q=>∃ a,xs = [tx a]/\a.length <= 1000/\∀ l,H l = none->Q (.ref l) (upd H l (.lst ((a.map fun c=>[c]).map tx)))
theorem call_listS (K:PySem.W.Frag) (hc:X.calm = true):CallR X (.type "list") rListS:=by
 intro pins s σ H xs us Q I r h
 obtain ⟨a,rfl,ha,q⟩:=h
 obtain ⟨u,rfl,rx⟩:=vals1 r
 obtain ⟨t,rfl⟩:=rx
 refine PySem.call_list_str (I.ok.hd hc) _ t (fun h' tk acc' c' hk e it=>?_) (by rw [sizeLine_eq]; show a.toArray.size <= _; rw [List.size_toArray]; omega)
 obtain ⟨hsz,hit⟩:=it
 have hsz':acc'.size = a.length:=by rw [hsz]; simp
 have hv:Vals ((a.map fun c=>[c]).map tx) acc'.toList:=by
  refine paired_of ?_ fun i x u hx hu=>?_
  ·simp [hsz']
  ·have hu':acc'[i]? = some u:=by simpa using hu
   obtain ⟨c,t',e1,rfl⟩:=hit i u hu'
   have e2:a[i]? = some c:=by simpa using e1
   rw [List.map_map,List.getElem?_map,e2] at hx
   cases hx
   exact ⟨t',rfl⟩
 refine ⟨.ref s.heap.objs.size,_,I.laid (t':=tk) (o:=.lst ((a.map fun c=>[c]).map tx)) hk (Nat.le_refl _) ⟨?_,acc'.toList,c',hv,by simpa using e⟩,rfl,q _ (I.hok.fresh (Nat.le_refl _))⟩
 rw [List.length_map,List.length_map,sizeLine_eq]; omega
end
inductive PSb (X:Cx) (st:Stmt) (t:TS):Prop
 | mk (h:PS X st t):PSb X st t
theorem PSb.ps {X:Cx} {st:Stmt} {t:TS} (h:PSb X st t):PS X st t:=h.casesOn fun h=>h
end L2
namespace BrM
open L2 PySem
theorem s_listS {H:Hp} {Q:VK} {a:List Nat} (ha:a.length <= 1000) (q:∀ l,H l = none->Q (.ref l) (upd H l (.lst ((a.map fun c=>[c]).map tx)))):rListS [tx a] H Q:=⟨a,rfl,ha,q⟩
def Fine (a:List Nat):Prop:=Low a/\a.length <= 1000
inductive Th (p:Addr) (H:Hp):V->Prop
 | txt (a:List Nat) (h:Fine a):Th p H (tx a)
 | non:Th p H .non
 | int (i:Int) (h:i = 0\/i = 7):Th p H (.int i)
 | bl (b:Bool):Th p H (.bl b)
 | lst {q:Addr} {l:List (List Nat)} (h:H q = some (.lst (l.map tx))) (n:q ≠ p) (f:∀ a ∈ l,Fine a) (z:l.length <= 1100):Th p H (.ref q)
 | tup {q:Addr} {l:List (List Nat)} (h:H q = some (.tup (l.map tx))) (n:q ≠ p) (f:∀ a ∈ l,Fine a) (z:l.length <= 1):Th p H (.ref q)
 | dc0 {q:Addr} (h:H q = some (.dK [])) (n:q ≠ p):Th p H (.ref q)
 | dc1 {q:Addr} {a:List Nat} (h:H q = some (.dK [(.inr ⟨a.toArray⟩,.int 1)])) (n:q ≠ p) (f:Fine a):Th p H (.ref q)
theorem Th.kind {K:PySem.W.Frag} {p:Addr} {H:Hp} {v:V} (t:Th p H v):(∃ a,v = tx a/\Fine a)\/∃ T,TyOf K H v (.type T)/\T ∈ plainTy/\T ≠ "str":=by
 cases t with
 | txt a h=>exact .inl ⟨a,rfl,h⟩
 | non=>exact .inr ⟨_,.non,by decide,by decide⟩
 | int i h=>exact .inr ⟨_,.int i,by decide,by decide⟩
 | bl b=>exact .inr ⟨_,.bl b,by decide,by decide⟩
 | lst h n f z=>exact .inr ⟨_,.lst h,by decide,by decide⟩
 | tup h n f z=>exact .inr ⟨_,.tup h,by decide,by decide⟩
 | dc0 h n=>exact .inr ⟨_,.dK h,by decide,by decide⟩
 | dc1 h n f=>exact .inr ⟨_,.dK h,by decide,by decide⟩
theorem Th.upd {p D:Addr} {H:Hp} {v:V} {o:HO} (t:Th p H v) (n:v ≠ .ref D):Th p (upd H D o) v:=by
 cases t with
 | txt a h=>exact .txt a h
 | non=>exact .non
 | int i h=>exact .int i h
 | bl b=>exact .bl b
 | lst h m f z=>exact .lst (by rw [upd_ne (fun e=>n (by rw [e]))]; exact h) m f z
 | tup h m f z=>exact .tup (by rw [upd_ne (fun e=>n (by rw [e]))]; exact h) m f z
 | dc0 h m=>exact .dc0 (by rw [upd_ne (fun e=>n (by rw [e]))]; exact h) m
 | dc1 h m f=>exact .dc1 (by rw [upd_ne (fun e=>n (by rw [e]))]; exact h) m f
theorem sgs_iff {k:Int} {c:Nat} (h1:1 <= k) (h4:k <= 4):c ∈ sgs k ↔ c ∈ sgn k:=by
 refine ⟨sgs_sgn h1 h4,fun h=>?_⟩
 have hk:k = 1\/k = 2\/k = 3\/k = 4:=by omega
 rcases hk with rfl | rfl | rfl | rfl
 ·exact (show ∀ c ∈ sgn 1,c ∈ sgs 1 by decide) c h
 ·exact (show ∀ c ∈ sgn 2,c ∈ sgs 2 by decide) c h
 ·exact (show ∀ c ∈ sgn 3,c ∈ sgs 3 by decide) c h
 ·exact (show ∀ c ∈ sgn 4,c ∈ sgs 4 by decide) c h
end BrM
namespace BrM
open L2 PySem
theorem all_cons {p:Addr} {H:Hp} {x:V} {l:List V} (h1:Th p H x) (h2:∀ v ∈ l,Th p H v):∀ v ∈ x :: l,Th p H v:=fun v hv=>(List.mem_cons.mp hv).elim (fun e=>e ▸ h1) (h2 v)
end BrM
namespace L2
open PySem PySem.Spec PyProof.Rows
def ExcAt (x C:Addr) (h:Heap):Prop:=∃ o vs,h.get? x = some o/\o.cls = .ref C/\o.data = .fields vs
theorem ExcAt.type {x C:Addr} {h:Heap} {M:Model} (e:ExcAt x C h):PySem.W.Looks M h (typeOf (.ref x)) (.ref C):=by
 obtain ⟨o,vs,h1,h2,_⟩:=e
 exact h2 ▸ (PySem.W.Looks.ld h1).andThen .now
section
variable {prog:Program} {w:World} {A:Around} {E:Value->Shared->Prop} {s:Shared} {K:PySem.W.Frag} {x C:Addr}
end
theorem ObjOk.here {P:Program} {w:World} {H:Hp} {h:Heap} {a:Addr} {o:HO} (x:ObjOk P w H h a o):∃ ob,h.get? a = some ob:=by
 cases o with
 | lst xs=>obtain ⟨_,_,_,_,e⟩:=x; exact ⟨_,e⟩
 | tup xs=>obtain ⟨_,_,_,_,e,_⟩:=x; exact ⟨_,e⟩
 | dK kvs=>obtain ⟨_,_,_,_,_,_,_,e,_⟩:=x; exact ⟨_,e⟩
 | dT kvs=>obtain ⟨_,_,_,_,_,_,_,e,_⟩:=x; exact ⟨_,e⟩
 | set S n=>obtain ⟨_,_,_,_,e,_⟩:=x; exact ⟨_,e⟩
 | ins C dx fs=>obtain ⟨_,_,_,e,_⟩:=x; exact ⟨_,e⟩
 | own y=>exact x
 | xd fs=>obtain ⟨_,⟨_,_,_,e,_⟩,_⟩:=x; exact ⟨_,e⟩
 | rng lo hi=>obtain ⟨_,_,_,e⟩:=x; exact ⟨_,e⟩
 | frz ob u=>obtain ⟨e,_⟩:=x; exact ⟨_,e⟩
 | tbl ps=>exact ⟨_,(show h.get? a = some _ from x)⟩
 | met f y=>exact ⟨_,(show h.get? a = some _ from x)⟩
 | ext φ=>obtain ⟨_,e,_⟩:=x; exact e
end L2
namespace L2
open PySem PySem.Spec PyProof.Rows
structure Aloft (P:Program) (w:World) (l:List Env) (H:Hp) (h:Heap) (x C:Addr) (a0:Value) (H':Hp) (B h':Heap):Prop where
 un:Un (frs l) [] H H' h h'
 ok:HOk P w H' B
 stay:∀ b o,h.get? b = some o->H b = none->b ∉ frs l->B.get? b = some o
 here:∀ b o,h.get? b = some o->b ∉ frs l->∃ o',B.get? b = some o'
 fl:Heap.FlyingW B l x (.ref C) a0 h'
def CXE (P:Program) (w:World):CXT:=fun outer H s E e s'=>∃ (x C:Addr) (a0:Value) (H':Hp) (B:Heap),e = .ref x/\s'.os = s.os/\AllBare s'.gens/\Aloft P w outer H s.heap x C a0 H' B s'.heap/\E (.ref C) (some x) H'
section
variable {P:Program} {w:World} {l:List Env} {H H':Hp} {h h' h2 B:Heap} {x C:Addr} {a0:Value}
end
section
variable {X:Cx} {R:XR} {e:Value} {s':Shared}
end
end L2
namespace L2
open PySem PySem.Spec PyProof.Rows
section
variable {X:Cx} {R:XR} {C:Addr} {x:Str} {e:Expr} {es:List Expr} {t:TA} {np cpos pos p:Pos}
structure FnUE (P:Program) (w:World) (K:PySem.W.Frag) (mg:Str->Option Value) (base:Heap) (k:Nat) (x:Str) (ps:List Str) (sp:Sp):Prop where
 ex:∃ f fd,FnOk P w K mg base (CXE P w) k f fd ps sp/\mg x = some (.ref f)/\PySem.W.keepIn K (.ref f) = true/\Binds K fd ps []
end
section
variable {P:Program} {w:World} {K:PySem.W.Frag} {mg:Str->Option Value} {base:Heap}
theorem FnU.e {k:Nat} {x:Str} {ps:List Str} {sp:Sp} (U:FnU P w K mg base k x ps sp):FnUE P w K mg base k x ps sp:=by
 obtain ⟨f,fd,F,r⟩:=U.ex
 exact ⟨f,fd,⟨F.len,fun A outer s H args us vs Q E h1 h2 h3 h4 h5=>codeAny_mono (F.run A outer s H args us vs Q E h1 h2 h3 h4 h5) fun res s' q=>by
  cases res with
  | error ev=>exact False.elim q
  | ok fl=>cases fl <;> exact q⟩,r⟩
end
end L2
namespace L2
open PySem PySem.Spec PyProof.Rows
section
variable {M:Model} {A:Around} {E:Value->Shared->Prop} {K:PySem.W.Frag} {x C CR:Addr}
end
section
variable {X:Cx} {pins:List (Addr × Obj)} {σ:St} {H:Hp} {s:Shared}
end
section
variable {X:Cx} {cn en:Str} {CR:Addr} {i:Nat} {body suite:List Stmt} {b₀:Stmt} {np hpos pos:Pos} {tb:XR->TS} {ts:TS}
end
end L2
namespace L2
open PySem PySem.Spec PyProof.Rows PySem.SeqAt
section
variable {X:Cx}
end
structure RoomH (k:Nat) (A:Around):Prop where
 dp:A.depth + 3 * k + 5 < recursionLimit
 un:A.units + 16 * k + 200 < cLine
 gd:A.guards = some []
theorem Room.h {k:Nat} {A:Around} (r:Room k A) (e:Value):RoomH k (A.mark (some e)):=⟨r.dp,r.un,r.gd⟩
section
variable {P:Program} {w:World} {K:PySem.W.Frag} {mg:Str->Option Value} {base:Heap}
end
end L2
namespace L2
open PySem PySem.Spec PyProof.Rows
section
variable {X:Cx} {pins:List (Addr × Obj)} {σ:St} {H:Hp} {s:Shared}
end
end L2
namespace L2
open PySem PySem.Spec PyProof.Rows
def Fit (n m:Nat) (d:PyData):Prop:=d.showable = true/\d.shown.length <= n/\d.depth <= m
theorem Fit.ok {n m:Nat} {d:PyData} (h:Fit n m d) (hn:n <= 16777216) (hm:m <= 20):ShOk d:=⟨h.1,Nat.le_trans h.2.1 (by rw [sizeLine_eq]; omega),Nat.le_trans h.2.2 hm⟩
end L2
namespace L2
open PySem PySem.Spec PyProof.Rows BrM BrR BrS BrC
section
variable {σ:St} {H:Hp} {Q:VK} {D:Ends}
end
end L2
namespace L2
open PySem PySem.Spec PyProof.Rows
def CDivB (i j:Int):Prop:=0 < j/\j < 2 ^ 200
theorem op_fdivB {X:Cx}:OpR X (binaryOp .FloorDiv) (rI CDivB fun i j=>.int (i / j)):=opI fun i j _ _ _ _ _ hc q=>by
 have h1:(0:Int) < j:=hc.1
 have h2:j < 2 ^ 200:=hc.2
 refine floordiv_int (by omega) (by rw [Int.fdiv_eq_ediv_of_nonneg i (by omega)]; exact q) (.inl (PyProof.noPylong_of_log2 ?_))
 have h3:j.natAbs ≠ 0:=by omega
 have h4:j.natAbs < 2 ^ 200:=by omega
 exact Nat.lt_trans ((Nat.log2_lt h3).mpr h4) (by decide)
theorem SqL.ty {K:PySem.W.Frag} {H:Hp} {p:Addr} {xs:List V} (h:SqL K H p xs):tyV K "list" (.ref p) H:=.inl ⟨rfl,_,h⟩
end L2
namespace BrS
open L2 PySem BrM BrC BrR
def Po (H:Hp) (p:Addr):Prop:=∃ a b c:Int,H p = some (.lst [.int a,.int b,.int c])
theorem Po.same {H H':Hp} {p:Addr} (h:Po H p) (s:Same H H'):Po H' p:=let ⟨a,b,c,e⟩:=h; ⟨a,b,c,s _ _ e⟩
theorem Po.keep {H H':Hp} {p q:Addr} (h:Po H p) (s:SameBut1 q H H') (n:p ≠ q):Po H' p:=let ⟨a,b,c,e⟩:=h; ⟨a,b,c,s _ _ e n⟩
theorem Po.ne {H:Hp} {p q:Addr} (h:Po H p) (hq:H q = none):q ≠ p:=let ⟨_,_,_,e⟩:=h; (ne_of_none e hq).symm
theorem Po.new {H:Hp} {p:Addr} {a b c:Int}:Po (upd H p (.lst [.int a,.int b,.int c])) p:=⟨a,b,c,upd_same⟩
def spPoolD (K:PySem.W.Frag):Sp:=fun vs H Q _=>∃ (a:Addr) (ns:List Int) (k:Int),vs = [.ref a,.int k]/\SqL K H a (ns.map V.int)/\0 <= k/\k <= 63/\∀ p H',H p = none->Same H H'->Po H' p->Q (.ref p) H'
theorem poolD_use {K:PySem.W.Frag} {H:Hp} {a:Addr} {ns:List Int} {k:Int} {Q:VK} {E:XK} (hS:SqL K H a (ns.map V.int)) (h0:0 <= k) (h1:k <= 63) (q:∀ p H',H p = none->Same H H'->Po H' p->Q (.ref p) H'):spPoolD K ([.ref a,.int k] ++ []) H Q E :=
 ⟨a,ns,k,rfl,hS,h0,h1,q⟩
def spDraw:Sp:=fun vs H Q _=>∃ p m,vs = [.ref p,.int m]/\Po H p/\0 < m/\m < 2 ^ 200/\∀ r H',0 <= r->r < m->Po H' p->SameBut1 p H H'->Q (.int r) H'
theorem draw_use {H:Hp} {p:Addr} {m:Int} {Q:VK} {E:XK} (hp:Po H p) (h0:0 < m) (h1:m < 2 ^ 200) (q:∀ r H',0 <= r->r < m->Po H' p->SameBut1 p H H'->Q (.int r) H'):spDraw ([.ref p,.int m] ++ []) H Q E:=⟨p,m,rfl,hp,h0,h1,q⟩
theorem put1 {p a:Addr} {H H':Hp} {o:HO} (s:SameBut1 p H H') (h:H a = none):SameBut1 p H (upd H' a o):=fun b u z n=>by rw [upd_ne (ne_of_none z h)]; exact s b u z n
theorem flat_one (a:List Nat):(a.map fun c=>[c]).flatten = a:=by
 induction a with
 | nil=>rfl
 | cons c r ih=>rw [List.map_cons,List.flatten_cons,ih]; rfl
theorem flat_txl (l:List (List Nat)):(l.map tx).all flatV = true:=by
 induction l with
 | nil=>rfl
 | cons a r ih=>rw [List.map_cons,List.all_cons,ih]; rfl
theorem ixN_nat {n j:Nat} (h:j < n):ixN n (j:Int) = some j:=by
 unfold ixN
 simp [h]
def ckd (x:Int):Nat:=(atI [41,93,125,62] x).getD 0
def spRightD:Sp:=fun vs H Q _=>∃ (p:Addr) (k h:Int),vs = [.ref p,.int k,.int h]/\Po H p/\1 <= k/\k <= 4/\0 <= h/\h <= 20 /\
 ∀ row H',Rt row->(row.length:Int) = 2 * h->(∀ c ∈ row,kin k c)->Po H' p->SameBut1 p H H'->Q (tx row) H'
theorem rightD_use {H:Hp} {p:Addr} {k h:Int} {Q:VK} {E:XK} (hd:Po H p) (h1:1 <= k) (h2:k <= 4) (h3:0 <= h) (h4:h <= 20)
  (q:∀ row H',Rt row->(row.length:Int) = 2 * h->(∀ c ∈ row,kin k c)->Po H' p->SameBut1 p H H'->Q (tx row) H'):spRightD ([.ref p,.int k,.int h] ++ []) H Q E:=⟨p,k,h,rfl,hd,h1,h2,h3,h4,q⟩
def spRowD:Sp:=fun vs H Q _=>∃ (p:Addr) (k h:Int),vs = [.ref p,.int k,.int h]/\Po H p/\1 <= k/\k <= 4/\0 <= h/\h <= 20 /\
 ∀ row H',(row.length:Int) <= 2 * h + 1->(∀ c ∈ row,c ∈ sgn k)->Po H' p->SameBut1 p H H'->Q (tx row) H'
theorem rowD_use {H:Hp} {p:Addr} {k h:Int} {Q:VK} {E:XK} (hd:Po H p) (h1:1 <= k) (h2:k <= 4) (h3:0 <= h) (h4:h <= 20)
  (q:∀ row H',(row.length:Int) <= 2 * h + 1->(∀ c ∈ row,c ∈ sgn k)->Po H' p->SameBut1 p H H'->Q (tx row) H'):spRowD ([.ref p,.int k,.int h] ++ []) H Q E:=⟨p,k,h,rfl,hd,h1,h2,h3,h4,q⟩
end BrS
namespace BrS
open L2 PySem BrM BrC BrR
end BrS
namespace BrS
open L2 PySem BrM BrC
abbrev En:=List Nat × List Nat
def exB (n at' c : Nat) (e : En) (b : Nat) : List En :=
  if c = 63 \/ c = brs.getD b 0 then
    (if b % 2 = 0 then (if e.2.length + at' + 1 < n then [(e.1 ++ [brs.getD b 0], b / 2 :: e.2)] else [])
     else match e.2 with
       | [] => []
       | p :: r => if p = b / 2 then [(e.1 ++ [brs.getD b 0], r)] else [])
  else []
def exs (k n at' c:Nat) (e:En):List En:=(List.range (2 * k)).flatMap (exB n at' c e)
def fls (k:Nat) (a:List Nat):Nat->List En
 | 0=>[([],[])]
 | i + 1=>(fls k a i).flatMap (exs k a.length i (a.getD i 0))
def res (k:Nat) (a:List Nat):List (List Nat):=((fls k a a.length).filter fun e=>decide (e.2 = [])).map (·.1)
theorem pw_val {k c b:Nat} (hb:b < 2 * k) (hk:k <= 4):pw k c b = if c = 63\/c = brs.getD b 0 then 1 else 0:=by
 by_cases h:c = 63
 ·subst h; rw [pw_unk hb,if_pos (.inl rfl)]
 ·unfold pw plw
  rw [if_neg h,List.getD_eq_getElem?_getD,List.getElem?_map,List.getElem?_take]
  rw [if_pos (show b < (ones k).length by unfold ones; rw [List.length_replicate]; exact hb)]
  have hb8:b < brs.length:=by show b < 8; omega
  rw [List.getElem?_eq_getElem hb8]
  have eg:brs.getD b 0 = brs[b]:=by rw [List.getD_eq_getElem?_getD,List.getElem?_eq_getElem hb8]; rfl
  rw [eg]
  by_cases h2:c = brs[b]
  ·rw [if_pos (.inr h2)]; simp [<- h2]
  ·rw [if_neg (fun z=>by rcases z with z | z; exact h z; exact h2 z)]; simp [h2]
def sts (t:List Nat):List Nat:=(t.map clc).reverse
inductive Ens (H:Hp):List Addr->List En->Prop
 | nil:Ens H [] []
 | cons {a:Addr} {e:En} {as:List Addr} {es:List En} (h:H a = some (.tup [tx e.1,tx (sts e.2)])) (r:Ens H as es):Ens H (a :: as) (e :: es)
theorem Ens.len {H:Hp} {as:List Addr} {es:List En} (h:Ens H as es):as.length = es.length:=by
 induction h with
 | nil=>rfl
 | cons _ _ ih=>rw [List.length_cons,List.length_cons,ih]
theorem Ens.get {H : Hp} {as : List Addr} {es : List En} (h : Ens H as es) : ∀ {i : Nat} {a : Addr}, as[i]? = some a -> ∃ e, es[i]? = some e /\ H a = some (.tup [tx e.1, tx (sts e.2)]) := by
  induction h with
  | nil => intro i a z; simp at z
  | cons h r ih =>
    intro i a z
    cases i with
    | zero => simp at z; subst z; exact ⟨_, rfl, h⟩
    | succ i => simpa using ih (by simpa using z)
end BrS
namespace BrS
open L2 PySem BrM BrC
structure Gr (H1 H':Hp) (lo:Addr) (as:List Addr) (L:List En):Prop where
 fl:H1 lo = none
 sm:Same H1 H'
 at':H' lo = some (.lst (as.map V.ref))
 en:Ens H' as L
 ni:lo ∉ as
theorem Gr.len {H1 H':Hp} {lo:Addr} {as:List Addr} {L:List En} (g:Gr H1 H' lo as L):as.length = L.length:=g.en.len
end BrS
namespace BrS
open L2 PySem BrM BrC BrR
def gd:V->Bool
 | .int i=>decide (0 <= i)
 | _=>false
theorem sm_zero (k:Nat):sm k (fun _=>0) = 0:=by
 induction k with
 | zero=>rfl
 | succ k ih=>rw [sm,ih]; rfl
end BrS
namespace L2
open PySem PySem.Spec PyProof.Rows
def ExcOne (x C t0:Addr) (m:Str) (tk:Tok) (h:Heap):Prop:=(∃ o vs,h.get? x = some o/\o.cls = .ref C/\o.data = .fields vs/\vs[0]? = some (.ref t0))/\∃ o k,h.get? t0 = some o/\o.data = .seq (#[.str m tk]) k
theorem ExcOne.at {x C t0:Addr} {m:Str} {tk:Tok} {h:Heap} (e:ExcOne x C t0 m tk h):ExcAt x C h:=let ⟨⟨o,vs,a,b,c,_⟩,_⟩:=e; ⟨o,vs,a,b,c⟩
section
variable {prog:Program} {w:World} {A:Around} {E:Value->Shared->Prop} {s:Shared} {K:PySem.W.Frag} {x C t0:Addr} {m:Str} {tk:Tok}
end
section
variable {X:Cx} {C:Addr} {x:Str} {e:Expr} {te:TE} {np cpos sp pos:Pos}
end
end L2
namespace L2
open PySem PySem.Spec PyProof.Rows
section
variable {X:Cx}
end
end L2
namespace L2
open PySem PySem.Spec PyProof.Rows BrR
section
variable {σ:St} {H:Hp} {Q:VK} {K:PySem.W.Frag}
end
end L2
namespace BrS
open L2 PySem BrM BrC BrR
end BrS
namespace BrS
open L2 PySem BrM BrC BrR
end BrS
namespace L2
open PySem PySem.Spec PyProof.Rows
section
variable {X:Cx} {pins:List (Addr × Obj)} {σ:St} {H:Hp} {s:Shared} {a:Addr}
end
section
variable {K:PySem.W.Frag} {g:TG} {tb:TS} {D:Ends} {σ:St} {H:Hp} {Q:VK}
end
end L2
namespace L2
open PySem PySem.Spec PyProof.Rows
section
variable {K:PySem.W.Frag} {σ:St} {H:Hp} {Q:VK} {D:Ends}
theorem s_dget {td ty:TE} (h:td σ H fun x H1=>ty σ H1 fun y H2=>∃ a v,x = .ref a/\DGet H2 a y (some v)/\Q v H2):tDGet td ty σ H Q:=h
theorem s_dput {td ty tv:TE} (h:tv σ H fun v H1=>td σ H1 fun x H2=>ty σ H2 fun y H3=>∃ a H4,x = .ref a/\DPut H3 a y v H4/\D.nx σ H4):sDPut td ty tv D σ H:=h
end
end L2
namespace BrS
open L2 PySem BrM BrC BrR
def Ok4 (st:List Nat):Prop:=∀ p ∈ st,p < 4
abbrev Es:=List (List Nat × Int)
structure Wf (es:Es):Prop where
 nd:(es.map (·.1)).Nodup
 ok:∀ e ∈ es,Ok4 e.1
 pos:∀ e ∈ es,1 <= e.2
theorem Wf.nil:Wf []:=⟨by simp,(fun _ h=>nomatch h),(fun _ h=>nomatch h)⟩
theorem units1 {k:Nat} {A:Around} (r:Room k A):A.units + 1 < cLine:=by have:=r.un; omega
end BrS
namespace BrT
open PySem
def Rise (a:Array Nat):Prop:=a.toList.Pairwise (· < ·)
def Tb (l:Bool) (t:SetTable):Prop:=Rise t.place/\t.led = l
theorem Tb.plain {l:Bool} {t:SetTable} (h:Tb l t):Tb l { t with plain:=false }:=h
end BrT
namespace BrT
open PySem PySem.Spec PyProof.Rows
def keyOf (e:Int × Value):Int:=match e.2 with | .int k _=>k | _=>0
section
variable {prog:Program} {w:World} {A:Around} {E:Value->Shared->Prop} {s:Shared}
def SO (prog:Program) (w:World) (l:Bool) (es:Array (Int × Value)) (t:SetTable) (ms:List Int):Prop :=
 ElemsOf (intKind prog w) es.toList/\(es.toList.map keyOf).Nodup/\(∀ k,k ∈ es.toList.map keyOf ↔ k ∈ ms)/\es.size <= ms.length/\t.fits es.size = true/\Tb l t
def SI (prog:Program) (w:World) (l:Bool) (h:Heap) (a:Addr) (ms:List Int):Prop :=
 ∃ o es ep t,h.get? a = some o/\o.ExactSet/\o.data = .set es ep t/\SO prog w l es t ms
theorem SI.at {l:Bool} {h h':Heap} {a:Addr} {ms:List Int} (i:SI prog w l h a ms) (k:∀ o,h.get? a = some o->h'.get? a = some o):SI prog w l h' a ms :=
 let ⟨o,es,ep,t,ho,r⟩:=i; ⟨o,es,ep,t,k o ho,r⟩
theorem stored {l:Bool} {h:Heap} {a:Addr} {o:Obj} {es es':Array (Int × Value)} {ep:Nat} {t t':SetTable} {ms:List Int} (ho:h.get? a = some o) (hex:o.ExactSet) (hd:o.data = .set es ep t) (i:SO prog w l es' t' ms) :
  (h.update a (Obj.putSet es' t')).get? a = some { o with data:=.set es' (ep + 1) t' }/\SI prog w l (h.update a (Obj.putSet es' t')) a ms:=by
 have g:=Heap.get?_update_self (Obj.putSet es' t') ho (by rw [putSet_of es' t' hd]; rfl)
 rw [putSet_of es' t' hd] at g
 exact ⟨g,_,es',ep + 1,t',g,hex,rfl,i⟩
end
end BrT
namespace BrT
open PySem PySem.Spec PyProof.Rows
section
variable {prog:Program} {w:World} {A:Around} {E:Value->Shared->Prop} {s:Shared}
def byT (w:World):Bool:=w.params.followText "set-order"
end
end BrT
namespace BrT
open PySem PySem.Spec PyProof.Rows
section
variable {prog:Program} {w:World} {A:Around} {E:Value->Shared->Prop} {s:Shared}
def slotP (t:SetTable) (i:Nat):Nat:=if i = 0 then 0 else t.place.getD (i - 1) 0 + 1
inductive Way (w:World) (S:Addr) (h:Heap) (es:Array (Int × Value)) (ep:Nat) (t:SetTable):(Nat->Value)->List Value->Prop
 | places (hb:byT w = false) (hp:t.plain = true\/es.size <= 1) (hl:t.led = true) (r:Rise t.place):Way w S h es ep t (fun i=>rawInt (slotP t i:Nat)) (es.toList.map (·.2))
 | text (hb:byT w = true):Way w S h es ep t (fun _=>rawInt (0:Nat)) ((pickOrder (w.params.setOrder S ep) es).toList.map (·.2))
 | draws (T:Addr) (ps:List Nat) (o:Obj) (hT:h.get? T = some o) (hd:∃ n,o.data = .seq (ps.map fun (i:Nat)=>rawInt i).toArray n) (hp:ps.Perm (List.range es.size)):Way w S h es ep t (fun _=>.ref T) (ps.map fun i=>(es.getD i (0,.none)).2)
end
end BrT
namespace BrT
open PySem PySem.Spec PyProof.Rows
section
variable {prog:Program} {w:World} {A:Around} {E:Value->Shared->Prop} {s:Shared}
theorem Way.at {S:Addr} {h h':Heap} {es:Array (Int × Value)} {ep:Nat} {t:SetTable} {f:Nat->Value} {ys:List Value} (x:Way w S h es ep t f ys) (k:∀ T,f 0 = .ref T->∀ o,h.get? T = some o->h'.get? T = some o):Way w S h' es ep t f ys:=by
 cases x with
 | places hb hp hl r=>exact .places hb hp hl r
 | text hb=>exact .text hb
 | draws T ps o hT hd hp=>exact .draws T ps o (k T rfl o hT) hd hp
end
end BrT
namespace BrT
open PySem PySem.Spec PyProof.Rows
section
variable {prog:Program} {w:World} {A:Around} {E:Value->Shared->Prop} {s:Shared}
end
end BrT
namespace L2
open PySem PySem.Spec PyProof.Rows
section
variable {X:Cx} {e:Expr} {te:TE} {np cpos sp pos:Pos}
end
end L2
namespace BrT
open PySem PySem.Spec PyProof.Rows
section
variable {prog:Program} {w:World} {A:Around} {E:Value->Shared->Prop} {s:Shared}
end
end BrT
namespace L2
open PySem PySem.Spec PyProof.Rows
section
variable {X:Cx} {e:Expr} {te:TE} {np cpos sp pos:Pos}
end
end L2
namespace BrC
variable {P:Nat->Nat->Int} {k:Nat}
end BrC
namespace L2
open PySem PySem.Spec PyProof.Rows BrR
section
variable {σ:St} {H:Hp} {Q:VK} {K:PySem.W.Frag}
end
end L2
namespace BrS
open L2 PySem BrM BrC BrR
def F14 (k:Nat) (a:List Nat) (b e:Nat):Int:=cv (PP (a.map (plw (ones k)))) k (e - b) b []
def ky (b e:Nat):List Key:=[.inl (b:Int),.inl (e:Int)]
theorem ky_inj {b e b' e':Nat}:ky b e = ky b' e' ↔ b = b'/\e = e':=by
 unfold ky
 constructor
 ·intro h
  injection h with h1 h2
  injection h2 with h2 _
  injection h1 with h1
  injection h2 with h2
  omega
 ·rintro ⟨rfl,rfl⟩; rfl
def DW (k:Nat) (a:List Nat) (kvs:List (List Key × V)) (E q:Nat):Prop :=
 (∀ b e:Nat,valV kvs (ky b e) = if b <= e/\(e - b) % 2 = 0/\(e < E\/(e = E/\E < b + 2 * q)) then some (.int (F14 k a b e)) else none)/\kvs.length <= E * 41 + q
theorem DW.get {k:Nat} {a:List Nat} {kvs:List (List Key × V)} {E q b e:Nat} (h:DW k a kvs E q) (h1:b <= e) (h2:(e - b) % 2 = 0) (h3:e < E\/(e = E/\E < b + 2 * q)):valV kvs (ky b e) = some (.int (F14 k a b e)):=by
 rw [h.1,if_pos ⟨h1,h2,h3⟩]
theorem DW.at {k:Nat} {a:List Nat} {kvs:List (List Key × V)} {E q b e:Nat} {H:Hp} {d T:Addr} (h:DW k a kvs E q) (gd:H d = some (.dT kvs)) (hT:H T = none) (h1:b <= e) (h2:(e - b) % 2 = 0) (h3:e < E):DGet (upd H T (.tup [.int (b:Int),.int (e:Int)])) d (.ref T) (some (.int (F14 k a b e))):=by
 rw [<- h.get h1 h2 (.inl h3)]
 exact DGet.t (k:=ky b e) (by rw [upd_ne (ne_of_none gd hT)]; exact gd) upd_same
theorem DW.zero {k:Nat} {a:List Nat}:DW k a [] 0 0:=⟨fun b e=>by rw [valV_nil,if_neg (by omega)],by simp⟩
end BrS
namespace L2
open PySem PySem.Spec PyProof.Rows
structure MeU (P:Program) (w:World) (K:PySem.W.Frag) (mg:Str->Option Value) (base:Heap) (k:Nat) (C:Addr) (m:Str) (ps:List Str) (sp:Sp):Prop where
 ex:∃ f fd,FnOk P w K mg base CX0 k f fd ps sp/\Meth K C m f/\Binds K fd ps []
theorem MeU.mono {P:Program} {w:World} {K:PySem.W.Frag} {mg:Str->Option Value} {base:Heap} {j k:Nat} {C:Addr} {m:Str} {ps:List Str} {sp:Sp} (U:MeU P w K mg base j C m ps sp) (h:j <= k):MeU P w K mg base k C m ps sp :=
 let ⟨f,fd,F,a,b⟩:=U.ex; ⟨f,fd,F.mono h,a,b⟩
structure MkU (P:Program) (w:World) (K:PySem.W.Frag) (mg:Str->Option Value) (base:Heap) (k:Nat) (C:Addr) (ps:List Str) (sp:Sp):Prop where
 ex:∃ j f fd,j + 1 <= k/\FnOk P w K mg base CX0 j f fd ps sp/\Mk K C f/\Binds K fd ps []
theorem MkU.mono {P:Program} {w:World} {K:PySem.W.Frag} {mg:Str->Option Value} {base:Heap} {j k:Nat} {C:Addr} {ps:List Str} {sp:Sp} (U:MkU P w K mg base j C ps sp) (h:j <= k):MkU P w K mg base k C ps sp :=
 let ⟨i,f,fd,hi,F,a,b⟩:=U.ex; ⟨i,f,fd,Nat.le_trans hi h,F,a,b⟩
section
variable {X:Cx} {k:Nat} {C:Addr} {m x:Str} {ps:List Str} {sp:Sp} {e o value:Expr} {es:List Expr} {ta tv:TE} {t:TA} {p pos apos pos' tpos:Pos} {f:Str}
theorem pe_mth {pl : Sem Bool} (c : Cls X.K C) (U : MeU X.prog X.w X.K X.mg X.base k C m ps sp) (hr : Room k X.A) (he : PE X o ta) (ha : PA X (e :: es) t)
  (hst : starEach (e :: es) X.env = (false, eval e X.env) :: starEach es X.env := by rfl) (hpl : (backTo pos (starEach es X.env)).any (·.1) = false := by rfl)
  (ht : eval (.Call (.Attribute o m apos) (e :: es) [] pos) X.env = (do
   let ov <- eval o X.env
   standAt apos.atName
   let (f, first) <- holding [ov] (getMethod ov m pl)
   callWith pos f first (backTo pos (starEach (e :: es) X.env)) (backToKw pos (keywordEach [] X.env))) := by rfl) :
  PE X (.Call (.Attribute o m apos) (e :: es) [] pos) (tMeth C m sp [] E0 ta t) :=
 let ⟨_, _, F, hm, hb⟩ := U.ex; pe_meth he c hm F hr hb .nil pass0 ha hst hpl ht
theorem pe_mth0 {pl : Sem Bool} (c : Cls X.K C) (U : MeU X.prog X.w X.K X.mg X.base k C m ps sp) (hr : Room k X.A) (he : PE X o ta)
  (ht : eval (.Call (.Attribute o m apos) [] [] pos) X.env = (do
   let ov <- eval o X.env
   standAt apos.atName
   let (f, first) <- holding [ov] (getMethod ov m pl)
   callWith pos f first (backTo pos (starEach [] X.env)) (backToKw pos (keywordEach [] X.env))) := by rfl) :
  PE X (.Call (.Attribute o m apos) [] [] pos) (tMeth C m sp [] E0 ta tNil) :=
 let ⟨_, _, F, hm, hb⟩ := U.ex; pe_meth0 he c hm F hr hb .nil pass0 ht
theorem pe_mke (U:MkU X.prog X.w X.K X.mg X.base k C ps sp) (hr:Room k X.A) (hm:X.mg x = some (.ref C)) (ha:PA X (e :: es) t) (hg:Gl X x:=by rfl) (hdb:(x == ("__debug__" : Str)) = false:=by decide)
  (he:starEach (e :: es) X.env = (false,eval e X.env) :: starEach es X.env:=by rfl) (hpl:(backTo pos (starEach es X.env)).any (·.1) = false:=by rfl):PE X (.Call (.Name x p) (e :: es) [] pos) (tMake C sp [] E0 t) :=
 let ⟨_,_,_,hi,F,M,hb⟩:=U.ex; pe_make M F (hr.mono hi) hg hm hb .nil pass0 ha hdb he hpl
theorem pe_fldK (K:PySem.W.Frag) (he:PE X e ta) (hK:X.K = K:=by rfl) (hb:attributeBase e f X.env (eval e X.env) = eval e X.env:=by rfl):PE X (.Attribute e f pos) (tFld K ta f):=by subst hK; exact pe_fld he hb
theorem ps_fldK (K:PySem.W.Frag) (ha:PE X o ta) (hv:PE X value tv) (hK:X.K = K:=by rfl) (hs:swapsWith value (some (.Attribute o f pos')) pos.line X.env = pure false:=by rfl):PS X (.Assign [.Attribute o f pos'] value pos) (sFld K ta tv f):=by subst hK; exact ps_fld ha hv hs
theorem ps_fldaugK (K:PySem.W.Frag) {op:Operator} {rd:V->V->Hp->VK->Prop} (hop:InOp X op rd) (ha:PE X o ta) (hv:PE X value tv) (hK:X.K = K:=by rfl):PS X (.AugAssign (.Attribute o f tpos) op value pos) (sFldAug K ta tv rd f):=by subst hK; exact ps_fldaug ha hv hop
def rAddA:V->V->Hp->VK->Prop:=fun x y H Q=>rAdd x y H Q\/∃ a b,x = tx a/\y = tx b/\a.length + b.length <= sizeLine/\Q (tx (a ++ b)) H
theorem in_addA:InOp X .Add rAddA:=by
 rintro pins s σ H x y u v Q I rx ry (h | ⟨a,b,rfl,rfl,hz,q⟩)
 ·exact in_add pins s σ H x y u v Q I rx ry h
 ·obtain ⟨t,rfl⟩:=rx
  obtain ⟨t',rfl⟩:=ry
  refine PyProof.Rows.iadd_str (fun t2 tk=>⟨tx (a ++ b),H,I.tok _,⟨t2,?_⟩,q⟩) (by rw [tx_len,tx_len]; exact hz)
  congr 1
  show (⟨a.toArray ++ b.toArray⟩:Str) = _
  simp
end
section
variable {σ:St} {H:Hp} {Q:VK} {K:PySem.W.Frag} {D:Ends} {C:Addr} {m f:Str} {sp:Sp} {E:XK} {ta tv:TE} {t:TA} {rd:V->V->Hp->VK->Prop}
theorem s_meth (h:ta σ H fun x H1=>∃ a dx fs,x = .ref a/\H1 a = some (.ins C dx fs)/\fs.lookup m = none/\t σ H1 fun vs H2=>sp (x :: (vs ++ [])) H2 Q E):tMeth C m sp [] E ta t σ H Q:=h
theorem s_make (h:t σ H fun vs H1=>∀ x dx,H1 x = none->H1 dx = none->dx ≠ x->sp (.ref x :: (vs ++ [])) (upd (upd H1 dx (.own x)) x (.ins C dx [])) (fun v H2=>v = .non/\Q (.ref x) H2) E):tMake C sp [] E t σ H Q:=h
theorem s_fldT (h:ta σ H fun x H1=>∃ a C dx fs v,x = .ref a/\H1 a = some (.ins C dx fs)/\Cls K C/\NoAttr K C f/\fs.lookup f = some v/\Q v H1):tFld K ta f σ H Q:=h
theorem s_fldS (h:tv σ H fun y H1=>ta σ H1 fun x H2=>∃ a C dx fs,x = .ref a/\H2 a = some (.ins C dx fs)/\Cls K C/\NoAttr K C f/\fs.length < 1000/\D.nx σ (upd H2 a (.ins C dx (putF f y fs)))):sFld K ta tv f D σ H:=h
theorem s_fldA (h:ta σ H fun x H1=>∃ a C dx fs v,x = .ref a/\H1 a = some (.ins C dx fs)/\Cls K C/\NoAttr K C f/\fs.lookup f = some v/\tv σ H1 fun y H2=>rd v y H2 fun z H3=>∃ dx' fs',H3 a = some (.ins C dx' fs')/\fs'.length < 1000/\D.nx σ (upd H3 a (.ins C dx' (putF f z fs')))):sFldAug K ta tv rd f D σ H:=h
end
section
variable {X:Cx}
end
end L2
namespace BrS
open L2 PySem BrM BrC BrR
abbrev pa_ (k:Nat) (a:List Nat):Nat->Nat->Int:=PP (a.map (plw (ones k)))
def W (k:Nat) (a:List Nat) (i:Nat) (st:List Nat):Int:=cv (pa_ k a) k (a.length - i) i st
def rowW (k:Nat) (a:List Nat) (st:List Nat):List Int:=(List.range (a.length + 1)).map fun i=>W k a i st
theorem rowW_at {k:Nat} {a st:List Nat} {i:Nat} (h:i <= a.length):((rowW k a st).map V.int)[i]? = some (.int (W k a i st)):=by
 unfold rowW
 rw [List.map_map,List.getElem?_map,List.getElem?_range (by omega)]
 rfl
theorem W_cap {k:Nat} {a:List Nat} (hk:k <= 4) (ha:a.length <= 40) (i:Nat) (st:List Nat):0 <= W k a i st/\W k a i st <= cap:=cv_cap hk (fun l hl=>(many_places hk l hl).2) (by omega) i st
theorem W_split (k:Nat) (a:List Nat) (i o:Nat) (st:List Nat) (hi:i <= a.length):W k a i (o :: st) = sm ((a.length - i + 1) / 2) fun q=>tbl (pa_ k a) k i (i + 2 * q) * pa_ k a (i + 2 * q) (2 * o + 1) * W k a (i + 2 * q + 1) st:=by
 unfold W
 rw [cv_split _ _ _ _ _ (Nat.le_refl _),sm_even]
 ·refine sm_congr _ fun q hq=>?_
  unfold tbl
  rw [if_pos (by omega),show i + 2 * q - i = 2 * q by omega,show a.length - i - 2 * q - 1 = a.length - (i + 2 * q + 1) by omega]
 ·intro e he ho
  rw [cv_odd e i [] (by simpa using ho),Int.zero_mul,Int.zero_mul]
def clsV (st:List Nat):List V:=st.reverse.map fun p:Nat=>V.int (2 * (p:Int) + 1)
def cf (pl sm cl rs:Addr) (at':Int):List (Str × V):=[("places",.ref pl),("sums",.ref sm),("at",.int at'),("closings",.ref cl),("rests",.ref rs)]
structure CoS (C:Addr) (H0 H:Hp) (co:Addr) (k:Nat) (a:List Nat) (at':Nat) (st:List Nat) (dx pl sm cl rs:Addr) (Hz Hb:Hp) (ad:Nat->Addr) (ra:List Addr):Prop where
 ob:H co = some (.ins C dx (cf pl sm cl rs at'))
 pls:Pls Hb pl (a.map (plw (ones k)))
 tb:Tb Hz Hb sm ad a.length (tbl (pa_ k a) k)
 keep:SameBut1 co Hb H
 nco:∀ xs,Hb co ≠ some (.lst xs)
 ncl:Hb cl = none
 nrs:Hb rs = none
 ne:cl ≠ rs
 clo:H cl = some (.lst (clsV st))
 res:H rs = some (.lst (ra.map V.ref))
 ral:ra.length = st.length + 1
 rows:∀ (j:Nat) x,ra[j]? = some x->H x = some (iL (rowW k a (st.drop (st.length - j))))/\x ≠ cl/\x ≠ rs
 h0:Same H0 H
 h0co:H0 co = none
 h0cl:H0 cl = none
 h0rs:H0 rs = none
 len:a.length <= 40
 hk:k <= 4
def Co (C:Addr) (H0 H:Hp) (co:Addr) (k:Nat) (a:List Nat) (at':Nat) (st:List Nat):Prop:=∃ dx pl sm cl rs Hz Hb ad ra,CoS C H0 H co k a at' st dx pl sm cl rs Hz Hb ad ra
theorem Co.same {C:Addr} {H0 H H':Hp} {co:Addr} {k:Nat} {a:List Nat} {at':Nat} {st:List Nat} (h:Co C H0 H co k a at' st) (s:Same H H'):Co C H0 H' co k a at' st:=by
 obtain ⟨dx,pl,sm,cl,rs,Hz,Hb,ad,ra,c⟩:=h
 exact ⟨dx,pl,sm,cl,rs,Hz,Hb,ad,ra,⟨s _ _ c.ob,c.pls,c.tb,fun b o z n=>s _ _ (c.keep b o z n),c.nco,c.ncl,c.nrs,c.ne,s _ _ c.clo,s _ _ c.res,c.ral,fun j x hx=>⟨s _ _ (c.rows j x hx).1,(c.rows j x hx).2⟩,c.h0.trans s,c.h0co,c.h0cl,c.h0rs,c.len,c.hk⟩⟩
section
variable {C:Addr} {H0 H:Hp} {co:Addr} {k:Nat} {a:List Nat} {at':Nat} {st:List Nat} {dx pl sm cl rs:Addr} {Hz Hb:Hp} {ad:Nat->Addr} {ra:List Addr}
theorem CoS.lst (c:CoS C H0 H co k a at' st dx pl sm cl rs Hz Hb ad ra) {b:Addr} {xs:List V} (h:Hb b = some (.lst xs)):H b = some (.lst xs):=c.keep _ _ h fun z=>c.nco xs (by rw [<- z]; exact h)
theorem CoS.tbH (c:CoS C H0 H co k a at' st dx pl sm cl rs Hz Hb ad ra):Tb (fun _=>none) H sm ad a.length (tbl (pa_ k a) k):=⟨rfl,fun _ _=>rfl,c.tb.ns,c.tb.inj,c.lst c.tb.top,fun i hi=>c.lst (c.tb.row i hi),fun _ _ z=>nomatch z⟩
theorem CoS.plH (c:CoS C H0 H co k a at' st dx pl sm cl rs Hz Hb ad ra):Pls H pl (a.map (plw (ones k))):=by
 obtain ⟨pd,h1,h2⟩:=c.pls
 exact ⟨pd,c.lst h1,fun i hi=>c.lst (h2 i hi)⟩
theorem CoS.top (c:CoS C H0 H co k a at' st dx pl sm cl rs Hz Hb ad ra):∃ x,atI (ra.map V.ref) (-1) = some (.ref x)/\H x = some (iL (rowW k a st)):=by
 obtain ⟨x,hx⟩:∃ x,ra[st.length]? = some x:=⟨_,List.getElem?_eq_getElem (by rw [c.ral]; omega)⟩
 refine ⟨x,atI_end (by rw [List.length_map,c.ral]; omega) (by rw [List.length_map,c.ral,List.getElem?_map,Nat.add_sub_cancel,hx]; rfl),?_⟩
 have:=(c.rows _ x hx).1
 rwa [Nat.sub_self,List.drop_zero] at this
end
theorem pls_at {H:Hp} {pl:Addr} {ps:List (List Int)} (h:Pls H pl ps) {i:Nat} (hi:i < ps.length):∃ xs x,H pl = some (.lst xs)/\xs[i]? = some (.ref x)/\xs.length = ps.length/\H x = some (iL (ps.getD i [])):=by
 obtain ⟨pd,h1,h2⟩:=h
 exact ⟨_,pd i,h1,by rw [List.getElem?_map,List.getElem?_range hi]; rfl,by rw [List.length_map,List.length_range],h2 i hi⟩
theorem pls_len {H:Hp} {pl:Addr} {ps:List (List Int)} (h:Pls H pl ps):∃ xs,H pl = some (.lst xs)/\xs.length = ps.length:=by
 obtain ⟨pd,h1,h2⟩:=h
 exact ⟨_,h1,by rw [List.length_map,List.length_range]⟩
def spOpens:Sp:=fun vs H Q _=>∃ b:Nat,vs = [.int (b:Int)]/\Q (.bl (decide (b % 2 = 0))) H
theorem opens_use {H:Hp} {b:Nat} {Q:VK} {E:XK} (q:Q (.bl (decide (b % 2 = 0))) H):spOpens ([.int (b:Int)] ++ []) H Q E:=⟨b,rfl,q⟩
def spCInit (C:Addr):Sp:=fun vs H Q _=>∃ (co dx:Addr) (k:Int) (a:List Nat) (H0:Hp),vs = [.ref co,.int k,tx a]/\1 <= k/\k <= 4/\isRow k a = true/\H co = some (.ins C dx [])/\H0 co = none/\Same H0 H/\∀ H',Co C H0 H' co k.toNat a 0 []->Q .non H'
def spCAll (C:Addr):Sp:=fun vs H Q _=>∃ (co:Addr) (k:Nat) (a:List Nat) (i:Nat) (st:List Nat) (H0:Hp),vs = [.ref co]/\Co C H0 H co k a i st/\Q (.int (W k a 0 [])) H
def spCClosing (C:Addr):Sp:=fun vs H Q _=>∃ (co:Addr) (k:Nat) (a:List Nat) (i:Nat) (st:List Nat) (H0:Hp) (s p:Nat),vs = [.ref co,.int (s:Int),.int (2 * (p:Int) + 1)]/\Co C H0 H co k a i st/\s <= a.length/\p < k/\∀ H',Same H H'->Q (.int (W k a s (p :: st))) H'
def mw (k:Nat) (a:List Nat) (i:Nat) (st:List Nat) (b:Nat):Int:=if b % 2 = 0 then pa_ k a i b * W k a (i + 1) (b / 2 :: st) else match st with | []=>0 | o :: s'=>if 2 * o + 1 = b then pa_ k a i b * W k a (i + 1) s' else 0
def spCWith (C:Addr):Sp:=fun vs H Q _=>∃ (co:Addr) (k:Nat) (a:List Nat) (i:Nat) (st:List Nat) (H0:Hp) (b:Nat),vs = [.ref co,.int (b:Int)]/\Co C H0 H co k a i st/\i < a.length/\b < 2 * k/\∀ H',Same H H'->Q (.int (mw k a i st b)) H'
def stb (st:List Nat) (b:Nat):List Nat:=if b % 2 = 0 then b / 2 :: st else st.tail
def spCTake (C:Addr):Sp:=fun vs H Q _=>∃ (co:Addr) (k:Nat) (a:List Nat) (i:Nat) (st:List Nat) (H0:Hp) (b:Nat),vs = [.ref co,.int (b:Int)]/\Co C H0 H co k a i st/\i < a.length/\b < 2 * k/\st.length <= i/\(b % 2 = 1->st ≠ [])/\∀ H',Co C H0 H' co k a (i + 1) (stb st b)->Q .non H'
end BrS
namespace L2
open PySem PySem.Spec PyProof.Rows
theorem vals_lst {K:PySem.W.Frag} {σ:St} {H:Hp} {Q:VK} {a:Addr} {n:Nat} {own:List Str} {sel:List Nat} {g:TG} {te:TE} (f v:Nat->V) (hn:n <= sizeLine) (ha:H a = some (.lst ((List.range n).map f)))
  (hst:∀ D H',H D = none->Same H H'->H' D = some (.lst ((List.range n).map v))->Q (.ref D) H')
  (hs:∀ (i:Nat) (H':Hp) (R:V->Hp->Prop),i < n->Same H H'->(∀ H6,Same H' H6->R (v i) H6)->g (f i) (inSt own sel σ) H' fun σ4 H4=>te σ4 H4 R):CompW (Itl K a) own sel σ g tYes te Q H:=by
 have hl:((List.range n).map f).length = n:=by rw [List.length_map,List.length_range]
 refine comp_yes f hn (fun D i ys _=>ys = (List.range i).map v) (fun i H' hi sH=>⟨_,f i,SqL.of (sH _ _ ha),by rw [List.getElem?_map,List.getElem?_range hi]; rfl⟩) (fun H' sH=>⟨_,SqL.of (sH _ _ ha),by rw [hl]; exact Nat.le_refl _⟩) (fun i H1 x H' hi sH y=>?_)
  (fun _ _=>rfl) (fun _ _ _ _ _ _ e _=>e) (fun D ys H' hD hy _ sH e=>hst D H' hD sH (by rw [hy,e]))
  (fun D i ys H' R hD hi hy _ sH e r=>hs i H' R hi sH fun H6 s6=>r _ H6 s6 (by rw [e,List.range_succ,List.map_append]; rfl))
 obtain ⟨rfl,hx⟩:=y
 have:=hx _ (SqL.of (sH _ _ ha))
 rw [List.getElem?_map,List.getElem?_range hi] at this
 exact ⟨rfl,(Option.some.inj this).symm⟩
end L2
namespace BrS
open L2 PySem BrM BrC BrR
theorem nab {x c:Int} (h0:0 <= x) (h:x <= c) (hc:c.natAbs < big):x.natAbs < big:=by
 have:x.natAbs <= c.natAbs:=by omega
 omega
theorem tbl_cap {k:Nat} {a:List Nat} (hk:k <= 4) {i j:Nat} (ha:j <= 40):0 <= tbl (pa_ k a) k i j/\tbl (pa_ k a) k i j <= cap:=by
 unfold tbl
 split
 ·exact cv_cap hk (fun l hl=>(many_places hk l hl).2) (by omega) i []
 ·exact ⟨Int.le_refl _,by unfold cap top30; decide +kernel⟩
theorem pa_top {k:Nat} {a:List Nat} (hk:k <= 4) (i b:Nat):0 <= pa_ k a i b/\pa_ k a i b <= top30:=PP_bound (fun l hl=>(many_places hk l hl).2) i b
theorem tp_big {k:Nat} {a:List Nat} (hk:k <= 4) {i j b:Nat} (ha:j <= 40):(tbl (pa_ k a) k i j * pa_ k a j b).natAbs < big:=by
 obtain ⟨h1,h2⟩:=tbl_cap (a:=a) hk (i:=i) ha
 obtain ⟨h3,h4⟩:=pa_top (a:=a) hk j b
 refine nab (c:=cap * top30) (Int.mul_nonneg h1 h3) (Int.le_trans (Int.mul_le_mul_of_nonneg_right h2 h3) (Int.mul_le_mul_of_nonneg_left h4 (Int.le_trans h1 h2))) ?_
 unfold cap big top30; decide +kernel
end BrS
namespace BrS
open L2 PySem BrM BrC BrR
theorem pa_01 {k : Nat} {a : List Nat} (hk : k <= 4) {i b : Nat} (hi : i < a.length) : pa_ k a i b = 0 \/ pa_ k a i b = 1 := by
  show ((a.map (plw (ones k))).getD i []).getD b 0 = 0 \/ ((a.map (plw (ones k))).getD i []).getD b 0 = 1
  rw [List.getD_eq_getElem?_getD (l := a.map (plw (ones k))), List.getElem?_map, List.getElem?_eq_getElem hi]
  show (plw (ones k) a[i]).getD b 0 = 0 \/ (plw (ones k) a[i]).getD b 0 = 1
  unfold plw
  rw [List.getD_eq_getElem?_getD]
  split
  · cases e : (ones k)[b]? with
    | none => exact .inl rfl
    | some v =>
      have := List.mem_of_getElem? e
      rw [List.eq_of_mem_replicate this]
      exact .inr rfl
  · rw [List.getElem?_map]
    cases e : (brs.take (ones k).length)[b]? with
    | none => exact .inl rfl
    | some v =>
      show (if a[i] = v then (1 : Int) else 0) = 0 \/ (if a[i] = v then (1 : Int) else 0) = 1
      split
      · exact .inr rfl
      · exact .inl rfl
theorem clsV_cons (o:Nat) (s:List Nat):clsV (o :: s) = clsV s ++ [.int (2 * (o:Int) + 1)]:=by unfold clsV; rw [List.reverse_cons,List.map_append]; rfl
theorem clsV_last (o:Nat) (s:List Nat):atI (clsV (o :: s)) (-1) = some (.int (2 * (o:Int) + 1)):=by rw [clsV_cons]; exact atI_last _ _
theorem atI_end2 {α:Type} {xs:List α} {v:α} (h:1 < xs.length) (e:xs[xs.length - 2]? = some v):atI xs (-2) = some v:=by
 unfold atI ixN
 rw [if_neg (by decide),if_pos (by omega)]
 show xs[((-2:Int) + xs.length).toNat]? = some v
 rw [show ((-2:Int) + (xs.length:Int)).toNat = xs.length - 2 by omega]
 exact e
end BrS
namespace BrS
open L2 PySem BrM BrC BrR
section
variable {C:Addr} {H0 H:Hp} {co:Addr} {k:Nat} {a:List Nat} {i:Nat} {st:List Nat} {dx pl sm cl rs:Addr} {Hz Hb:Hp} {ad:Nat->Addr} {ra:List Addr}
theorem CoS.nl (c:CoS C H0 H co k a i st dx pl sm cl rs Hz Hb ad ra) {b:Addr} {xs:List V} (h:H b = some (.lst xs)):b ≠ co:=fun z=>by rw [z,c.ob] at h; cases h
theorem CoS.at (c:CoS C H0 H co k a i st dx pl sm cl rs Hz Hb ad ra) (j:Nat):CoS C H0 (upd H co (.ins C dx (cf pl sm cl rs j))) co k a j st dx pl sm cl rs Hz Hb ad ra :=
 {ob:=upd_same,pls:=c.pls,tb:=c.tb,keep:=c.keep.trans SameBut1.upd,nco:=c.nco,ncl:=c.ncl,nrs:=c.nrs,ne:=c.ne
  clo:=by rw [upd_ne (c.nl c.clo)]; exact c.clo
  res:=by rw [upd_ne (c.nl c.res)]; exact c.res
  ral:=c.ral
  rows:=fun n x hx=>⟨by rw [upd_ne (c.nl (c.rows n x hx).1)]; exact (c.rows n x hx).1,(c.rows n x hx).2⟩
  h0:=fun b o z=>by rw [upd_ne (ne_of_none z c.h0co)]; exact c.h0 _ _ z
  h0co:=c.h0co,h0cl:=c.h0cl,h0rs:=c.h0rs,len:=c.len,hk:=c.hk }
theorem CoS.two (c:CoS C H0 H co k a i st dx pl sm cl rs Hz Hb ad ra) (st':List Nat) (ra':List Addr) (hl:ra'.length = st'.length + 1)
  (hr:∀ (j:Nat) x,ra'[j]? = some x->H x = some (iL (rowW k a (st'.drop (st'.length - j))))/\x ≠ cl/\x ≠ rs) :
  CoS C H0 (upd (upd H rs (.lst (ra'.map V.ref))) cl (.lst (clsV st'))) co k a i st' dx pl sm cl rs Hz Hb ad ra' :=
 {ob:=by rw [upd_ne (c.nl c.clo).symm,upd_ne (c.nl c.res).symm]; exact c.ob
  pls:=c.pls,tb:=c.tb
  keep:=fun b o z hb=>by rw [upd_ne (ne_of_none z c.ncl),upd_ne (ne_of_none z c.nrs)]; exact c.keep _ _ z hb
  nco:=c.nco,ncl:=c.ncl,nrs:=c.nrs,ne:=c.ne
  clo:=upd_same
  res:=by rw [upd_ne c.ne.symm,upd_same]
  ral:=hl
  rows:=fun j x hx=>by
   obtain ⟨h1,h2,h3⟩:=hr j x hx
   exact ⟨by rw [upd_ne h2,upd_ne h3]; exact h1,h2,h3⟩
  h0:=fun b o z=>by rw [upd_ne (ne_of_none z c.h0cl),upd_ne (ne_of_none z c.h0rs)]; exact c.h0 _ _ z
  h0co:=c.h0co,h0cl:=c.h0cl,h0rs:=c.h0rs,len:=c.len,hk:=c.hk }
theorem CoS.push (c:CoS C H0 H co k a i st dx pl sm cl rs Hz Hb ad ra) {D:Addr} {p:Nat} (hD:H D = some (iL (rowW k a (p :: st)))) (n1:D ≠ cl) (n2:D ≠ rs) :
  CoS C H0 (upd (upd H rs (.lst ((ra ++ [D]).map V.ref))) cl (.lst (clsV (p :: st)))) co k a i (p :: st) dx pl sm cl rs Hz Hb ad (ra ++ [D]):=by
 refine c.two (p :: st) (ra ++ [D]) (by rw [List.length_append,c.ral]; rfl) fun j x hx=>?_
 by_cases h:j < ra.length
 ·rw [List.getElem?_append_left h] at hx
  obtain ⟨h1,h2⟩:=c.rows j x hx
  refine ⟨?_,h2⟩
  have hr:=c.ral
  rw [h1,List.length_cons,show st.length + 1 - j = (st.length - j) + 1 by omega,List.drop_succ_cons]
 ·rw [List.getElem?_append_right (by omega)] at hx
  have hj:j = ra.length:=by
   have:=(List.getElem?_eq_some_iff.mp hx).1
   simp at this
   omega
  subst hj
  rw [Nat.sub_self] at hx
  have hx:D = x:=Option.some.inj hx
  subst hx
  rw [c.ral,List.length_cons,Nat.sub_self,List.drop_zero]
  exact ⟨hD,n1,n2⟩
theorem CoS.pop {o:Nat} {s':List Nat} (c:CoS C H0 H co k a i (o :: s') dx pl sm cl rs Hz Hb ad ra) :
  CoS C H0 (upd (upd H rs (.lst (ra.dropLast.map V.ref))) cl (.lst (clsV s'))) co k a i s' dx pl sm cl rs Hz Hb ad ra.dropLast:=by
 have hr:=c.ral
 rw [List.length_cons] at hr
 refine c.two s' ra.dropLast (by rw [List.length_dropLast,hr]; omega) fun j x hx=>?_
 have hj:j < ra.dropLast.length:=(List.getElem?_eq_some_iff.mp hx).1
 rw [List.length_dropLast,hr] at hj
 rw [List.getElem?_dropLast,if_pos (by omega)] at hx
 obtain ⟨h1,h2⟩:=c.rows j x hx
 refine ⟨?_,h2⟩
 rw [h1,List.length_cons,show s'.length + 1 - j = (s'.length - j) + 1 by omega,List.drop_succ_cons]
end
end BrS
namespace BrS
open L2 PySem BrM BrC BrR
theorem mw_nonneg {k : Nat} {a : List Nat} (hk : k <= 4) (ha : a.length <= 40) (i : Nat) (st : List Nat) (b : Nat) : 0 <= mw k a i st b := by
  unfold mw
  split
  · exact Int.mul_nonneg (pa_top hk _ _).1 (W_cap hk ha _ _).1
  · cases st with
    | nil => exact Int.le_refl _
    | cons o s' =>
      show 0 <= (if 2 * o + 1 = b then pa_ k a i b * W k a (i + 1) s' else 0)
      split
      · exact Int.mul_nonneg (pa_top hk _ _).1 (W_cap hk ha _ _).1
      · exact Int.le_refl _
def cwq (k:Nat) (a:List Nat) (i:Nat):List Nat->Nat->Int
 | [],_=>0
 | o :: s',p=>if o = p then pa_ k a i (2 * p + 1) * W k a (i + 1) s' else 0
theorem mw_all {k : Nat} {a : List Nat} {i : Nat} {st : List Nat} (hi : i < a.length) (hst : ∀ o ∈ st, o < k) : sm (2 * k) (mw k a i st) = W k a i st := by
  rw [sm_pairs]
  have e1 : ∀ p, mw k a i st (2 * p) = pa_ k a i (2 * p) * W k a (i + 1) (p :: st) := fun p => by
    unfold mw
    rw [if_pos (by omega), show 2 * p / 2 = p by omega]
  have e2 : ∀ p, mw k a i st (2 * p + 1) = cwq k a i st p := fun p => by
    unfold mw
    rw [if_neg (by omega)]
    cases st with
    | nil => rfl
    | cons o s' =>
      show (if 2 * o + 1 = 2 * p + 1 then _ else _) = (if o = p then _ else _)
      by_cases h : o = p
      · rw [if_pos h, if_pos (by omega)]
      · rw [if_neg h, if_neg (by omega)]
  obtain ⟨m, hm⟩ : ∃ m, a.length - i = m + 1 := ⟨a.length - i - 1, by omega⟩
  have hm2 : a.length - (i + 1) = m := by omega
  rw [sm_congr k fun p _ => by rw [e1, e2], sm_add]
  unfold W
  rw [hm, hm2]
  cases st with
  | nil => rw [cv_nil, BrC.sm_zero (f := fun i_1 => cwq k a i [] i_1) k (fun _ _ => rfl), Int.add_zero]
  | cons o s' =>
    rw [cv_cons]
    congr 1
    have ho := hst o List.mem_cons_self
    rw [sm_one (f := fun i_1 => cwq k a i (o :: s') i_1) ho]
    · show (if o = o then pa_ k a i (2 * o + 1) * W k a (i + 1) s' else 0) = _
      rw [if_pos rfl]
      unfold W
      rw [hm2]
    · intro j hj hne
      show (if o = j then _ else _) = (0 : Int)
      rw [if_neg (fun z => hne z.symm)]
def NF (k:Nat) (a:List Nat):Nat->List Nat->Int->List Nat->Prop
 | i,_,l,[]=>i = a.length/\l = 0
 | i,st,l,b :: bs=>b < 2 * k/\sm b (mw k a i st) <= l/\l < sm (b + 1) (mw k a i st)/\NF k a (i + 1) (stb st b) (l - sm b (mw k a i st)) bs
def brt (bs:List Nat):List Nat:=bs.map fun b=>brs.getD b 0
def spNth:Sp:=fun vs H Q _=>∃ (k:Int) (a:List Nat) (n:Int),vs = [.int k,tx a,.int n]/\1 <= k/\k <= 4/\isRow k a = true/\0 <= n/\n < cnt k.toNat a/\∀ bs H',Same H H'->NF k.toNat a 0 [] n bs->bs.length = a.length->Q (tx (brt bs)) H'
end BrS
namespace BrS
open L2 PySem BrM BrC BrR
theorem cum_mono {k : Nat} {a : List Nat} (hk : k <= 4) (ha : a.length <= 40) (i : Nat) (st : List Nat) {b c : Nat} (h : b <= c) : sm b (mw k a i st) <= sm c (mw k a i st) := by
  induction c with
  | zero => rw [show b = 0 by omega]; exact Int.le_refl _
  | succ c ih =>
    by_cases e : b = c + 1
    · rw [e]; exact Int.le_refl _
    · have h1 := ih (by omega)
      have h2 := mw_nonneg hk ha i st c
      show _ <= sm c (mw k a i st) + mw k a i st c
      omega
theorem mw_pos {k : Nat} {a : List Nat} (hk : k <= 4) (ha : a.length <= 40) {i : Nat} (hi : i < a.length) {st : List Nat} {b : Nat} (hst : ∀ o ∈ st, o < k) (hb : b < 2 * k) (h : 0 < mw k a i st b) : mw k a i st b = W k a (i + 1) (stb st b) /\ (b % 2 = 1 -> st ≠ []) /\ (∀ o ∈ stb st b, o < k) /\ (stb st b).length <= st.length + 1 := by
  have h01 : pa_ k a i b ≠ 0 -> pa_ k a i b = 1 := fun z => (pa_01 hk hi).resolve_left z
  by_cases hev : b % 2 = 0
  · have e : mw k a i st b = pa_ k a i b * W k a (i + 1) (b / 2 :: st) := by unfold mw; rw [if_pos hev]
    have es : stb st b = b / 2 :: st := by unfold stb; rw [if_pos hev]
    rw [e] at h ⊢
    have h1 := h01 fun z => by rw [z, Int.zero_mul] at h; exact absurd h (Int.lt_irrefl _)
    rw [es, h1, Int.one_mul]
    refine ⟨rfl, by omega, fun o ho => ?_, by simp⟩
    rcases List.mem_cons.mp ho with z | z
    · omega
    · exact hst o z
  · have es : stb st b = st.tail := by unfold stb; rw [if_neg hev]
    rw [es]
    cases st with
    | nil =>
      unfold mw at h
      rw [if_neg hev] at h
      exact absurd h (Int.lt_irrefl _)
    | cons o s' =>
      have e : mw k a i (o :: s') b = if 2 * o + 1 = b then pa_ k a i b * W k a (i + 1) s' else 0 := by unfold mw; rw [if_neg hev]
      rw [e] at h ⊢
      by_cases ho : 2 * o + 1 = b
      · rw [if_pos ho] at h ⊢
        have h1 := h01 fun z => by rw [z, Int.zero_mul] at h; exact absurd h (Int.lt_irrefl _)
        rw [h1, Int.one_mul]
        exact ⟨rfl, fun _ => by simp, fun x hx => hst x (List.mem_cons_of_mem _ hx), by simp; omega⟩
      · rw [if_neg ho] at h
        exact absurd h (Int.lt_irrefl _)
theorem W_end (k:Nat) (a:List Nat) (st:List Nat):W k a a.length st = if st = [] then 1 else 0:=by
 unfold W
 rw [Nat.sub_self]
 cases st <;> rfl
end BrS
namespace BrS
open L2 PySem BrM BrC BrR
def num (k:Nat) (a:List Nat):Nat->List Nat->List Nat->Int
 | _,_,[]=>0
 | i,st,b :: bs=>sm b (mw k a i st) + num k a (i + 1) (stb st b) bs
theorem NF.first {k:Nat} {a:List Nat} (hk:k <= 4) (ha:a.length <= 40) {i:Nat} {st:List Nat} {l m:Int} {b c:Nat} (hl:l <= m) (h1:sm b (mw k a i st) <= l) (h2:m < sm (c + 1) (mw k a i st)):b <= c:=by
 rcases Nat.lt_or_ge c b with z | z
 ·have:=cum_mono hk ha i st (show c + 1 <= b from z)
  omega
 ·exact z
theorem NF.uniq {k : Nat} {a : List Nat} (hk : k <= 4) (ha : a.length <= 40) : ∀ {bs cs : List Nat} {i : Nat} {st : List Nat} {l : Int}, bs.length = cs.length -> NF k a i st l bs -> NF k a i st l cs -> bs = cs
  | [], [], _, _, _, _, _, _ => rfl
  | [], _ :: _, _, _, _, h, _, _ => by cases h
  | _ :: _, [], _, _, _, h, _, _ => by cases h
  | b :: bs, c :: cs, i, st, l, h, g1, g2 => by
    have e1 := NF.first hk ha (Int.le_refl l) g1.2.1 g2.2.2.1
    have e2 := NF.first hk ha (Int.le_refl l) g2.2.1 g1.2.2.1
    have e : b = c := by omega
    subst e
    rw [NF.uniq hk ha (by simpa using h) g1.2.2.2 g2.2.2.2]
def Ear:List Nat->List Nat->Prop
 | b :: bs,c :: cs=>b < c\/(b = c/\Ear bs cs)
 | _,_=>False
theorem NF.ear {k : Nat} {a : List Nat} (hk : k <= 4) (ha : a.length <= 40) : ∀ {bs cs : List Nat} {i : Nat} {st : List Nat} {l m : Int}, bs.length = cs.length -> NF k a i st l bs -> NF k a i st m cs -> l < m -> Ear bs cs
  | [], [], _, _, _, _, _, g1, g2, hl => by
    have := g1.2
    have := g2.2
    omega
  | [], _ :: _, _, _, _, _, h, _, _, _ => by cases h
  | _ :: _, [], _, _, _, _, h, _, _, _ => by cases h
  | b :: bs, c :: cs, i, st, l, m, h, g1, g2, hl => by
    have e1 := NF.first hk ha (Int.le_of_lt hl) g1.2.1 g2.2.2.1
    by_cases e : b = c
    · subst e
      exact .inr ⟨rfl, NF.ear hk ha (by simpa using h) g1.2.2.2 g2.2.2.2 (by omega)⟩
    · exact .inl (by omega)
def Fi (k:Nat) (a:List Nat):Nat->List Nat->List Nat->Prop
 | i,st,[]=>i = a.length/\st = []
 | i,st,b :: bs=>b < 2 * k/\pa_ k a i b = 1/\(b % 2 = 1->∃ s',st = b / 2 :: s')/\Fi k a (i + 1) (stb st b) bs
theorem Fi.len {k : Nat} {a : List Nat} : ∀ {bs : List Nat} {i : Nat} {st : List Nat}, Fi k a i st bs -> i + bs.length = a.length
  | [], _, _, h => h.1
  | b :: bs, i, st, h => by
    have := Fi.len h.2.2.2
    rw [List.length_cons]
    omega
theorem Fi.pos {k : Nat} {a : List Nat} (hk : k <= 4) (ha : a.length <= 40) : ∀ {bs : List Nat} {i : Nat} {st : List Nat}, (∀ o ∈ st, o < k) -> Fi k a i st bs -> NF k a i st (BrS.num k a i st bs) bs /\ 0 <= BrS.num k a i st bs /\ BrS.num k a i st bs < W k a i st
  | [], i, st, hst, h => by
    obtain ⟨h1, h2⟩ := h
    subst h1 h2
    refine ⟨⟨rfl, rfl⟩, Int.le_refl _, ?_⟩
    rw [W_end, if_pos rfl]
    exact Int.zero_lt_one
  | b :: bs, i, st, hst, h => by
    obtain ⟨h1, h2, h3, h4⟩ := h
    have hi : i < a.length := by have := Fi.len h4; omega
    have hst' : ∀ o ∈ stb st b, o < k := by
      unfold stb
      split
      · intro o ho
        rcases List.mem_cons.mp ho with z | z
        · omega
        · exact hst o z
      · intro o ho
        exact hst o (List.mem_of_mem_tail ho)
    obtain ⟨g1, g2, g3⟩ := Fi.pos hk ha hst' h4
    have ew : mw k a i st b = W k a (i + 1) (stb st b) := by
      unfold mw stb
      by_cases hev : b % 2 = 0
      · rw [if_pos hev, if_pos hev, h2, Int.one_mul]
      · obtain ⟨s', rfl⟩ := h3 (by omega)
        rw [if_neg hev, if_neg hev]
        show (if 2 * (b / 2) + 1 = b then pa_ k a i b * W k a (i + 1) s' else 0) = _
        rw [if_pos (by omega), h2, Int.one_mul]
        rfl
    have hs : sm (b + 1) (mw k a i st) = sm b (mw k a i st) + mw k a i st b := rfl
    have h0 : 0 <= sm b (mw k a i st) := sm_nonneg b fun j _ => mw_nonneg hk ha i st j
    have en : BrS.num k a i st (b :: bs) = sm b (mw k a i st) + BrS.num k a (i + 1) (stb st b) bs := rfl
    have hm := cum_mono hk ha i st (show b + 1 <= 2 * k by omega)
    rw [mw_all hi hst] at hm
    rw [en]
    refine ⟨⟨h1, by omega, by omega, ?_⟩, by omega, by omega⟩
    rw [show sm b (mw k a i st) + BrS.num k a (i + 1) (stb st b) bs - sm b (mw k a i st) = BrS.num k a (i + 1) (stb st b) bs by omega]
    exact g1
theorem NF.fl {k : Nat} {a : List Nat} (hk : k <= 4) (ha : a.length <= 40) : ∀ {bs : List Nat} {i : Nat} {st : List Nat} {l : Int}, i + bs.length = a.length -> (∀ o ∈ st, o < k) -> 0 <= l -> l < W k a i st -> NF k a i st l bs -> Fi k a i st bs
  | [], i, st, l, hn, hst, l0, l1, h => by
    have e : i = a.length := h.1
    subst e
    rw [W_end] at l1
    refine ⟨rfl, ?_⟩
    by_cases z : st = []
    · exact z
    · rw [if_neg z] at l1; omega
  | b :: bs, i, st, l, hn, hst, l0, l1, h => by
    obtain ⟨h1, h2, h3, h4⟩ := h
    rw [List.length_cons] at hn
    have hi : i < a.length := by omega
    have hs : sm (b + 1) (mw k a i st) = sm b (mw k a i st) + mw k a i st b := rfl
    obtain ⟨ew, hodd, hst', _⟩ := mw_pos hk ha hi hst h1 (by omega)
    have hp : 0 < mw k a i st b := by omega
    refine ⟨h1, (pa_01 hk hi).resolve_left fun z => ?_, fun ho => ?_, NF.fl hk ha (by omega) hst' (by omega) (by omega) h4⟩
    · unfold mw at hp
      rw [z] at hp
      split at hp
      · rw [Int.zero_mul] at hp; omega
      · cases st with
        | nil => exact absurd hp (Int.lt_irrefl _)
        | cons o s' =>
          have hp : 0 < (if 2 * o + 1 = b then 0 * W k a (i + 1) s' else 0) := hp
          split at hp
          · rw [Int.zero_mul] at hp; omega
          · omega
    · cases st with
      | nil => exact absurd rfl (hodd ho)
      | cons o s' =>
        unfold mw at hp
        rw [if_neg (by omega)] at hp
        have hp : 0 < (if 2 * o + 1 = b then pa_ k a i b * W k a (i + 1) s' else 0) := hp
        split at hp
        · rename_i e
          exact ⟨s', by rw [show b / 2 = o by omega]⟩
        · omega
end BrS
namespace BrS
open L2 PySem BrM BrC BrR
theorem nth_use {H:Hp} {k:Int} {a:List Nat} {n:Int} {Q:VK} {E:XK} (h1:1 <= k) (h2:k <= 4) (h3:isRow k a = true) (h4:0 <= n) (h5:n < cnt k.toNat a) (q:∀ bs H',Same H H'->NF k.toNat a 0 [] n bs->bs.length = a.length->Q (tx (brt bs)) H'):spNth ([.int k,tx a,.int n] ++ []) H Q E:=⟨k,a,n,rfl,h1,h2,h3,h4,h5,q⟩
end BrS
namespace L2
open PySem PySem.Spec PyProof.Rows
def fnd (l:List Nat) (c:Nat):Int:=Txt.find ⟨l.toArray⟩ ⟨#[c]⟩
end L2
namespace BrS
open L2 PySem BrM BrC BrR
theorem fnd_brs:∀ b,b < 8->fnd brs (brs.getD b 0) = b:=by decide +kernel
end BrS
namespace PySem.SeqAt
open AutoSeq1 (wpAny_loadPart')
open MeetsSeq MeetsSeq2 MeetsSeq3 SeqRoads2
section
variable {prog:Program} {w:World} {A:Around} {E:Value->Shared->Prop} {s:Shared}
end
end PySem.SeqAt
namespace L2
open PySem PySem.Spec PyProof.Rows BrS
end L2
namespace PySem
open Sem (wp)
structure ZAp (z TI TO i1 i2:Addr) (fp1 fp2:List Addr):Prop where
 TIz:TI ≠ z
 TOz:TO ≠ z
 TITO:TI ≠ TO
 TIi1:TI ≠ i1
 TIi2:TI ≠ i2
 z1:z ∉ fp1
 z2:z ∉ fp2
 o1:TO ∉ fp1
 o2:TO ∉ fp2
 a12:i1 ∉ fp2
 a21:i2 ∉ fp1
 m1:i1 ∈ fp1
 m2:i2 ∈ fp2
section
variable {prog:Program} {w:World} {A:Around} {E:Value->Shared->Prop} {s:Shared}
variable {z TI TO i1 i2:Addr} {fp1 fp2:List Addr} {n1 n2 i:Nat} {P1 P2:Nat->Value->Prop} {S1 S2:Nat->Heap->Prop} {a b:Value}
theorem ZAp.i1z (D:ZAp z TI TO i1 i2 fp1 fp2):i1 ≠ z:=fun e=>D.z1 (e ▸ D.m1)
theorem ZAp.i2z (D:ZAp z TI TO i1 i2 fp1 fp2):i2 ≠ z:=fun e=>D.z2 (e ▸ D.m2)
theorem ZAp.i1o (D:ZAp z TI TO i1 i2 fp1 fp2):i1 ≠ TO:=fun e=>D.o1 (e ▸ D.m1)
theorem ZAp.i2o (D:ZAp z TI TO i1 i2 fp1 fp2):i2 ≠ TO:=fun e=>D.o2 (e ▸ D.m2)
theorem Draws.but {it c:Addr} {fp:List Addr} {n:Nat} {P:Nat->Value->Prop} {S:Nat->Heap->Prop} {h h':Heap} (D:Draws prog w A it fp n P S) (st:S i h) (k:Heap.ExtBut c h h') (hc:c ∉ fp):S i h':=D.frame _ _ _ st fun x hx o e=>k x o (fun q=>hc (q ▸ hx)) e
theorem zipD_next_item {Q : Value -> Shared -> Prop} (D : ZAp z TI TO i1 i2 fp1 fp2) (D1 : Draws prog w A i1 fp1 n1 P1 S1) (D2 : Draws prog w A i2 fp2 n2 P2 S2)
  (hz : IsZip s.heap z TI TO .none) (hTI : IsPair s.heap TI (.ref i1) (.ref i2)) (hTO : IsPair s.heap TO a b) (h1 : S1 i s.heap) (h2 : S2 i s.heap) (l1 : i < n1) (l2 : i < n2)
  (hQ : ∀ x y h' tk, P1 i x -> P2 i y -> IsZip h' z TI TO (rawInt s.heap.objs.size) -> IsPair h' TO x y -> S1 (i + 1) h' -> S2 (i + 1) h' -> IsPair h' s.heap.objs.size x y -> h'.objs.size = s.heap.objs.size + 1 ->
   (∀ c o, c ≠ z -> c ≠ TO -> c ≠ i1 -> c ≠ i2 -> s.heap.get? c = some o -> h'.get? c = some o) -> Q (.ref s.heap.objs.size) { s with heap := h', toks := tk }) :
  wpAny (model prog w) A (Builtin.«zip.__next__» ⟨[.ref z], []⟩) (fun fin s' => ∃ v, fin = .done (.ret v) /\ Q v s') E s := by
 obtain ⟨hp, g, d, tk₀, os⟩ := s
 show wpAny _ _ (field (.ref z) 2 >>= _) _ _ _
 refine wpAny_bind (wpAny_field hz rfl (x := .bool false) rfl ?_)
 show wpAny _ _ (field (.ref z) 3 >>= _) _ _ _
 refine wpAny_bind (wpAny_field hz rfl (x := .ref TI) rfl ?_)
 refine wpAny_bind (wpAny_seqItems hTI rfl ?_)
 show wpAny _ _ (Builtin.SmallTypes.ownedTupleIsFree (.ref z) >>= _) _ _ _
 refine wpAny_bind ?_
 unfold Builtin.SmallTypes.ownedTupleIsFree
 refine wpAny_bind (wpAny_field hz rfl (x := .none) rfl (wpAny_pure ?_))
 simp only [if_true]
 refine wpAny_bind (wpAny_rule ?_)
 refine wpAny_bind (wpAny_field hz rfl (x := .ref TO) rfl ?_)
 refine wpAny_bind (wpAny_setField_rec hz (by simp) fun h₁ hz₁ hs₁ => ?_)
 replace hz₁ : IsZip h₁ z TI TO .ellipsis := hz₁
 replace hs₁ : Heap.SameBut z hp h₁ := hs₁
 refine wpAny_bind ?_
 simp only [List.zipIdx_cons, List.zipIdx_nil, List.forIn_cons, List.forIn_nil]
 refine wpAny_bind (wpAny_bind (wpAny_onRaise ?_))
 show wpAny _ _ (Builtin.SmallTypes.nextOf (.ref i1) >>= _) _ _ _
 refine wpAny_bind (D1.item i _ _ _ l1 (D1.but h1 hs₁.extBut D.z1) fun x h₂ tk₂ hx h1₂ hs₂ => wpAny_pure ?_)
 replace hs₂ : Heap.SameBut i1 h₁ h₂ := hs₂
 have hTO₂ : IsPair h₂ TO a b := hs₂.extBut _ _ D.i1o.symm (hs₁.extBut _ _ D.TOz hTO)
 refine wpAny_bind (wpAny_seqItems hTO₂ rfl ?_)
 refine wpAny_bind (wpAny_updateSeq_pair hTO₂ fun h₃ hTO₃ hs₃ => ?_)
 replace hTO₃ : IsPair h₃ TO x b := hTO₃
 replace hs₃ : Heap.SameBut TO h₂ h₃ := hs₃
 refine wpAny_bind (wpAny_letGo (wpAny_pure ?_))
 refine wpAny_bind (wpAny_bind (wpAny_onRaise ?_))
 show wpAny _ _ (Builtin.SmallTypes.nextOf (.ref i2) >>= _) _ _ _
 refine wpAny_bind (D2.item i _ _ _ l2 (D2.but (D2.but (D2.but h2 hs₁.extBut D.z2) hs₂.extBut D.a12) hs₃.extBut D.o2) fun y h₄ tk₄ hy h2₄ hs₄ => wpAny_pure ?_)
 replace hs₄ : Heap.SameBut i2 h₃ h₄ := hs₄
 have hTO₄ : IsPair h₄ TO x b := hs₄.extBut _ _ D.i2o.symm hTO₃
 refine wpAny_bind (wpAny_seqItems hTO₄ rfl ?_)
 refine wpAny_bind (wpAny_updateSeq_pair hTO₄ fun h₅ hTO₅ hs₅ => ?_)
 replace hTO₅ : IsPair h₅ TO x y := hTO₅
 replace hs₅ : Heap.SameBut TO h₄ h₅ := hs₅
 refine wpAny_bind (wpAny_letGo (wpAny_pure (wpAny_pure ?_)))
 refine wpAny_bind (wpAny_seqItems hTO₅ rfl ?_)
 refine wpAny_bind (wpAny_newTuple ?_)
 have hsz : h₅.objs.size = hp.objs.size := by rw [hs₅.1, hs₄.1, hs₃.1, hs₂.1, hs₁.1]
 have hz₅ : IsZip h₅ z TI TO .ellipsis := hs₅.extBut _ _ D.TOz.symm (hs₄.extBut _ _ D.i2z.symm (hs₃.extBut _ _ D.TOz.symm (hs₂.extBut _ _ D.i1z.symm hz₁)))
 have hk₅ : ∀ c o, c ≠ z -> c ≠ TO -> c ≠ i1 -> c ≠ i2 -> hp.get? c = some o -> h₅.get? c = some o := fun c o c1 c2 c3 c4 e =>
  hs₅.extBut _ _ c2 (hs₄.extBut _ _ c4 (hs₃.extBut _ _ c2 (hs₂.extBut _ _ c3 (hs₁.extBut _ _ c1 e))))
 have h1₅ : S1 (i + 1) h₅ := D1.but (D1.but (D1.but h1₂ hs₃.extBut D.o1) hs₄.extBut D.a21) hs₅.extBut D.o1
 have h2₅ : S2 (i + 1) h₅ := D2.but h2₄ hs₅.extBut D.o2
 have hzlt : z < h₅.objs.size := Heap.lt_size hz₅
 show wpAny _ _ (Builtin.SmallTypes.ownedTupleHandOut (.ref z) (.ref h₅.objs.size) >>= _) _ _ _
 refine wpAny_bind ?_
 unfold Builtin.SmallTypes.ownedTupleHandOut
 have hz₆ : IsZip (h₅.push { cls := .type "tuple", data := .seq #[x, y] }) z TI TO .ellipsis := Heap.get?_push_of_some _ hz₅
 refine wpAny_bind (wpAny_setField_rec hz₆ (by simp) fun h₇ hz₇ hs₇ => ?_)
 replace hz₇ : IsZip h₇ z TI TO (rawInt h₅.objs.size) := hz₇
 replace hs₇ : Heap.SameBut z (h₅.push { cls := .type "tuple", data := .seq #[x, y] }) h₇ := hs₇
 refine wpAny_setField_rec hz₇ (by simp) fun h₈ hz₈ hs₈ => ?_
 replace hz₈ : IsZip h₈ z TI TO (rawInt h₅.objs.size) := hz₈
 replace hs₈ : Heap.SameBut z h₇ h₈ := hs₈
 have up : ∀ c o, c ≠ z -> h₅.get? c = some o -> h₈.get? c = some o := fun c o c1 e => hs₈.extBut _ _ c1 (hs₇.extBut _ _ c1 (Heap.get?_push_of_some _ e))
 have hT₈ : IsPair h₈ h₅.objs.size x y := hs₈.extBut _ _ (Nat.ne_of_gt hzlt) (hs₇.extBut _ _ (Nat.ne_of_gt hzlt) (Heap.get?_push_size _ rfl))
 have hz8 : h₈.objs.size = h₅.objs.size + 1 := by rw [hs₈.1, hs₇.1, Heap.size_push]
 rw [hsz] at hz₈ hT₈ hz8
 refine wpAny_pure ⟨_, rfl, ?_⟩
 show Q (.ref h₅.objs.size) _
 rw [hsz]
 exact hQ x y h₈ _ hx hy hz₈ (up _ _ D.TOz hTO₅) (D1.frame _ _ _ h1₅ fun c hc o e => up c o (fun q => D.z1 (q ▸ hc)) e) (D2.frame _ _ _ h2₅ fun c hc o e => up c o (fun q => D.z2 (q ▸ hc)) e) hT₈ hz8 fun c o c1 c2 c3 c4 e => up c o c1 (hk₅ c o c1 c2 c3 c4 e)
theorem zipD_next_end {Q:Fin->Shared->Prop} (D:ZAp z TI TO i1 i2 fp1 fp2) (D1:Draws prog w A i1 fp1 n1 P1 S1) (D2:Draws prog w A i2 fp2 n2 P2 S2)
  (hz:IsZip s.heap z TI TO .none) (hTI:IsPair s.heap TI (.ref i1) (.ref i2)) (hTO:IsPair s.heap TO a b) (h1:S1 i s.heap) (h2:S2 i s.heap) (hend:i = n1\/(i < n1/\i = n2))
  (hE:∀ h' tk e,(∀ c o,c ≠ z->c ≠ TO->c ≠ i1->c ≠ i2->s.heap.get? c = some o->h'.get? c = some o)->(∃ o,h'.get? e = some o/\o.cls = .type "StopIteration")->E (.ref e) { s with heap:=h',toks:=tk }) :
  wpAny (model prog w) A (Builtin.«zip.__next__» ⟨[.ref z],[]⟩) Q E s:=by
 obtain ⟨hp,g,d,tk₀,os⟩:=s
 show wpAny _ _ (field (.ref z) 2 >>= _) _ _ _
 refine wpAny_bind (wpAny_field hz rfl (x:=.bool false) rfl ?_)
 show wpAny _ _ (field (.ref z) 3 >>= _) _ _ _
 refine wpAny_bind (wpAny_field hz rfl (x:=.ref TI) rfl ?_)
 refine wpAny_bind (wpAny_seqItems hTI rfl ?_)
 show wpAny _ _ (Builtin.SmallTypes.ownedTupleIsFree (.ref z) >>= _) _ _ _
 refine wpAny_bind ?_
 unfold Builtin.SmallTypes.ownedTupleIsFree
 refine wpAny_bind (wpAny_field hz rfl (x:=.none) rfl (wpAny_pure ?_))
 simp only [if_true]
 refine wpAny_bind (wpAny_rule ?_)
 refine wpAny_bind (wpAny_field hz rfl (x:=.ref TO) rfl ?_)
 refine wpAny_bind (wpAny_setField_rec hz (by simp) fun h₁ hz₁ hs₁=>?_)
 replace hz₁:IsZip h₁ z TI TO .ellipsis:=hz₁
 replace hs₁:Heap.SameBut z hp h₁:=hs₁
 refine wpAny_bind ?_
 simp only [List.zipIdx_cons,List.zipIdx_nil,List.forIn_cons,List.forIn_nil]
 refine wpAny_bind (wpAny_bind (wpAny_onRaise ?_))
 show wpAny _ _ (Builtin.SmallTypes.nextOf (.ref i1) >>= _) _ _ _
 rcases hend with rfl | ⟨l1,rfl⟩
 ·refine wpAny_bind (D1.done _ _ _ (D1.but h1 hs₁.extBut D.z1) fun h₂ e hs₂ he=>?_)
  replace hs₂:Heap.ExtBut i1 h₁ h₂:=hs₂
  obtain ⟨oe,hoe,hce⟩:=he
  have hz₂:IsZip h₂ z TI TO .ellipsis:=hs₂ _ _ D.i1z.symm hz₁
  have hez:e ≠ z:=fun x=>by subst x; rw [hz₂] at hoe; cases hoe; simp at hce
  refine wpAny_setField_rec hz₂ (by simp) fun h₃ _ hs₃=>?_
  replace hs₃:Heap.SameBut z h₂ h₃:=hs₃
  exact hE h₃ _ e (fun c o c1 _ c3 _ x=>hs₃.extBut _ _ c1 (hs₂ _ _ c3 (hs₁.extBut _ _ c1 x))) ⟨oe,hs₃.extBut _ _ hez hoe,hce⟩
 ·refine wpAny_bind (D1.item i _ _ _ l1 (D1.but h1 hs₁.extBut D.z1) fun x h₂ tk₂ hx h1₂ hs₂=>wpAny_pure ?_)
  replace hs₂:Heap.SameBut i1 h₁ h₂:=hs₂
  have hTO₂:IsPair h₂ TO a b:=hs₂.extBut _ _ D.i1o.symm (hs₁.extBut _ _ D.TOz hTO)
  refine wpAny_bind (wpAny_seqItems hTO₂ rfl ?_)
  refine wpAny_bind (wpAny_updateSeq_pair hTO₂ fun h₃ hTO₃ hs₃=>?_)
  replace hs₃:Heap.SameBut TO h₂ h₃:=hs₃
  refine wpAny_bind (wpAny_letGo (wpAny_pure ?_))
  refine wpAny_bind (wpAny_bind (wpAny_onRaise ?_))
  show wpAny _ _ (Builtin.SmallTypes.nextOf (.ref i2) >>= _) _ _ _
  refine wpAny_bind (D2.done _ _ _ (D2.but (D2.but (D2.but h2 hs₁.extBut D.z2) hs₂.extBut D.a12) hs₃.extBut D.o2) fun h₄ e hs₄ he=>?_)
  replace hs₄:Heap.ExtBut i2 h₃ h₄:=hs₄
  obtain ⟨oe,hoe,hce⟩:=he
  have hz₄:IsZip h₄ z TI TO .ellipsis:=hs₄ _ _ D.i2z.symm (hs₃.extBut _ _ D.TOz.symm (hs₂.extBut _ _ D.i1z.symm hz₁))
  have hez:e ≠ z:=fun x=>by subst x; rw [hz₄] at hoe; cases hoe; simp at hce
  refine wpAny_setField_rec hz₄ (by simp) fun h₅ _ hs₅=>?_
  replace hs₅:Heap.SameBut z h₄ h₅:=hs₅
  exact hE h₅ _ e (fun c o c1 c2 c3 c4 x=>hs₅.extBut _ _ c1 (hs₄ _ _ c4 (hs₃.extBut _ _ c2 (hs₂.extBut _ _ c3 (hs₁.extBut _ _ c1 x))))) ⟨oe,hs₅.extBut _ _ hez hoe,hce⟩
theorem pyNext_zipD {Q : Option Value -> Shared -> Prop} (D : ZAp z TI TO i1 i2 fp1 fp2) (D1 : Draws prog w A.in1 i1 fp1 n1 P1 S1) (D2 : Draws prog w A.in1 i2 fp2 n2 P2 S2)
  (hz : IsZip s.heap z TI TO .none) (hTI : IsPair s.heap TI (.ref i1) (.ref i2)) (hTO : IsPair s.heap TO a b) (h1 : S1 i s.heap) (h2 : S2 i s.heap) (l1 : i < n1) (l2 : i < n2)
  (hQ : ∀ x y h' tk, P1 i x -> P2 i y -> IsZip h' z TI TO (rawInt s.heap.objs.size) -> IsPair h' TO x y -> S1 (i + 1) h' -> S2 (i + 1) h' -> IsPair h' s.heap.objs.size x y -> h'.objs.size = s.heap.objs.size + 1 ->
   (∀ c o, c ≠ z -> c ≠ TO -> c ≠ i1 -> c ≠ i2 -> s.heap.get? c = some o -> h'.get? c = some o) -> Q (some (.ref s.heap.objs.size)) { s with heap := h', toks := tk }) :
  wpAny (model prog w) A (pyNext (.ref z)) Q E s := by
 have hT : s.TypeIs (.ref z) "zip" := ⟨_, hz, rfl⟩
 unfold pyNext
 exact wpAny_bind (wpAny_attempt (wpAny_callSpecial?_slot (name := Str.ofString "__next__") hT F.slot_zip_next
  (wpAny_call_entry F.slot_zip_next hT F.entry_zip_next
   (zipD_next_item D D1 D2 hz hTI hTO h1 h2 l1 l2 fun x y h' tk p1 p2 a1 a2 a3 a4 a5 a6 a7 => wpAny_pure (hQ x y h' tk p1 p2 a1 a2 a3 a4 a5 a6 a7)) (F.args_zip_next_1 _))))
theorem pyNext_zipD_end {Q:Option Value->Shared->Prop} (D:ZAp z TI TO i1 i2 fp1 fp2) (D1:Draws prog w A.in1 i1 fp1 n1 P1 S1) (D2:Draws prog w A.in1 i2 fp2 n2 P2 S2)
  (hz:IsZip s.heap z TI TO .none) (hTI:IsPair s.heap TI (.ref i1) (.ref i2)) (hTO:IsPair s.heap TO a b) (h1:S1 i s.heap) (h2:S2 i s.heap) (hend:i = n1\/(i < n1/\i = n2))
  (hQ:∀ h' tk,(∀ c o,c ≠ z->c ≠ TO->c ≠ i1->c ≠ i2->s.heap.get? c = some o->h'.get? c = some o)->Q none { s with heap:=h',toks:=tk }):wpAny (model prog w) A (pyNext (.ref z)) Q E s:=by
 have hT:s.TypeIs (.ref z) "zip":=⟨_,hz,rfl⟩
 unfold pyNext
 refine wpAny_bind (wpAny_attempt (wpAny_callSpecial?_slot (name:=Str.ofString "__next__") hT F.slot_zip_next
  (wpAny_call_entry F.slot_zip_next hT F.entry_zip_next (zipD_next_end D D1 D2 hz hTI hTO h1 h2 hend fun h' tk e hk he=>?_) (F.args_zip_next_1 _))))
 obtain ⟨o,ho,hc⟩:=he
 refine wpAny_bind (wpAny_isInstance (T:="StopIteration") (b:=true) ⟨o,ho,hc⟩ isSubtype_stop ?_)
 exact wpAny_pure (hQ _ _ hk)
end
abbrev sit (x:Str) (t:Tok):Obj:={ cls:=.type (strIterType x),data:=.fields #[.str x t,.int 0 0] }
abbrev zs2 (h:Heap) (x y:Str) (t u:Tok):Heap:=(h.push (sit x t)).push (sit y u)
abbrev zs3 (h:Heap) (x y:Str) (t u:Tok):Heap:=(zs2 h x y t u).push { cls:=.type "tuple",data:=.seq #[.ref h.objs.size,.ref (h.push (sit x t)).objs.size] }
abbrev zs4 (h:Heap) (x y:Str) (t u:Tok):Heap:=(zs3 h x y t u).push { cls:=.type "tuple",data:=.seq #[.none,.none] }
abbrev zs5 (h:Heap) (x y:Str) (t u:Tok):Heap:=(zs4 h x y t u).push { cls:=.type "zip",data:=.fields #[.none,.bool false,.bool false,.ref (zs2 h x y t u).objs.size,.ref (zs3 h x y t u).objs.size] }
theorem meets_zip_newS (x y:Str) (t u:Tok) :
  Meets (Builtin.«zip.__new__» ⟨[.type "zip",.str x t,.str y u],[]⟩) (fun _ R s=>R (.ok (.ret (.ref (zs4 s.heap x y t u).objs.size))) { s with heap:=zs5 s.heap x y t u }) :=
 .of_wp fun prog w A R s h=>by
  obtain ⟨hp,g,d,tk,os⟩:=s
  have hsub:=sub_zip
  wp_walk using wpAny_pyIter_strU (x:=x) (t:=t),wpAny_pyIter_strU (x:=y) (t:=u)
  exact ⟨_,rfl,h⟩
theorem call_zipS {prog : Program} {w : World} {A : Around} {E : Value -> Shared -> Prop} {s : Shared} {x y : Str} {t u : Tok} {Q : Value -> Shared -> Prop}
  (h : ∀ h', IsZip h' (s.heap.objs.size + 4) (s.heap.objs.size + 2) (s.heap.objs.size + 3) .none -> IsPair h' (s.heap.objs.size + 2) (.ref s.heap.objs.size) (.ref (s.heap.objs.size + 1)) ->
   IsPair h' (s.heap.objs.size + 3) .none .none -> h'.IsStrIter s.heap.objs.size (strIterType x) x t 0 -> h'.IsStrIter (s.heap.objs.size + 1) (strIterType y) y u 0 -> h'.objs.size = s.heap.objs.size + 5 ->
   (∀ c o, s.heap.get? c = some o -> h'.get? c = some o) -> Q (.ref (s.heap.objs.size + 4)) { s with heap := h' }) :
  wpAny (model prog w) A (call (.type "zip") [.str x t, .str y u]) Q E s := by
 refine callType_new F.called_zip (by decide) (F.typeCall_zip_2 _ _) (F.newCall_zip_2 _ _) (fun obj => F.args_object_init_3 obj _ _) F.entry_zip_new
  (meets_zip_newS x y t u) ?_
 have z1 : (s.heap.push (sit x t)).objs.size = s.heap.objs.size + 1 := Heap.size_push ..
 have z2 : (zs2 s.heap x y t u).objs.size = s.heap.objs.size + 2 := by rw [Heap.size_push, z1]
 have z3 : (zs3 s.heap x y t u).objs.size = s.heap.objs.size + 3 := by rw [Heap.size_push, z2]
 have z4 : (zs4 s.heap x y t u).objs.size = s.heap.objs.size + 4 := by rw [Heap.size_push, z3]
 have z5 : (zs5 s.heap x y t u).objs.size = s.heap.objs.size + 5 := by rw [Heap.size_push, z4]
 have g5 : (zs5 s.heap x y t u).get? (zs4 s.heap x y t u).objs.size = some _ := Heap.get?_push_size _ rfl
 have g4 : (zs5 s.heap x y t u).get? (zs3 s.heap x y t u).objs.size = some _ := Heap.get?_push_of_some _ (Heap.get?_push_size _ rfl)
 have g3 : (zs5 s.heap x y t u).get? (zs2 s.heap x y t u).objs.size = some _ := Heap.get?_push_of_some _ (Heap.get?_push_of_some _ (Heap.get?_push_size _ rfl))
 have g2 : (zs5 s.heap x y t u).get? (s.heap.push (sit x t)).objs.size = some _ := Heap.get?_push_of_some _ (Heap.get?_push_of_some _ (Heap.get?_push_of_some _ (Heap.get?_push_size _ rfl)))
 have g1 : (zs5 s.heap x y t u).get? s.heap.objs.size = some _ := Heap.get?_push_of_some _ (Heap.get?_push_of_some _ (Heap.get?_push_of_some _ (Heap.get?_push_of_some _ (Heap.get?_push_size _ rfl))))
 show _ /\ _
 rw [z2, z3, z4] at g5
 rw [z1, z2] at g3
 rw [z3] at g4
 rw [z1] at g2
 rw [z4]
 exact ⟨⟨_, g5, rfl⟩, h _ g5 g3 g4 ⟨_, g1, rfl, rfl⟩ ⟨_, g2, rfl, rfl⟩ z5 fun c o x =>
  Heap.get?_push_of_some _ (Heap.get?_push_of_some _ (Heap.get?_push_of_some _ (Heap.get?_push_of_some _ (Heap.get?_push_of_some _ x))))⟩
end PySem
namespace L2
open PySem PySem.Spec PyProof.Rows
def IzS (x y:Str):It:=⟨fun i _=>i < x.cps.size/\i < y.cps.size,fun i H v H'=>∃ T c d,H T = none/\x.cps[i]? = some c/\y.cps[i]? = some d/\v = .ref T/\H' = upd H T (.tup [.str ⟨#[c]⟩,.str ⟨#[d]⟩]),fun i _=>i = x.cps.size\/(i < x.cps.size/\i = y.cps.size)⟩
section
variable {P:Program} {w:World} {K:PySem.W.Frag} {elts:List Expr} {k:Nat} {tpos:Pos}
theorem zip_item {X:Cx} {pins:List (Addr × Obj)} {σ:St} {H:Hp} {s:Shared} {E:Value->Shared->Prop} {z TI TO i1 i2:Addr} {fp1 fp2:List Addr} {n1 n2 i:Nat} {P1 P2:Nat->Value->Prop} {S1 S2:Nat->Heap->Prop} {a b:Value} {Qx Qy:Value->V->Prop} {tn:Heap->Prop}
  (D:ZAp z TI TO i1 i2 fp1 fp2) (D1:Draws X.prog X.w X.A.in1 i1 fp1 n1 P1 S1) (D2:Draws X.prog X.w X.A.in1 i2 fp2 n2 P2 S2) (I:Inv X pins σ H s) (hf:∀ b ∈ [z,TI,TO,i1,i2],FpOk X pins H b)
  (hz:IsZip s.heap z TI TO .none) (hTI:IsPair s.heap TI (.ref i1) (.ref i2)) (hTO:IsPair s.heap TO a b) (h1:S1 i s.heap) (h2:S2 i s.heap) (l1:i < n1) (l2:i < n2)
  (tnk:∀ h' x y,IsZip h' z TI TO .none->IsPair h' TI (.ref i1) (.ref i2)->IsPair h' TO x y->S1 (i + 1) h'->S2 (i + 1) h'->tn h') (y1:∀ v,P1 i v->∃ q,RelV q v/\Qx v q) (y2:∀ v,P2 i v->∃ q,RelV q v/\Qy v q) :
  wpAny (model X.prog X.w) X.A (pyNext (.ref z)) (fun r s1=>∃ u,r = some u/\wpAny (model X.prog X.w) X.A (letOwnedTupleGo (.Tuple elts k tpos) (.ref z) u) (fun _ s2=>∃ x H',Inv X pins σ H' s2/\RelV x u /\
   (∃ T q1 q2 v1 v2,H T = none/\Qx v1 q1/\Qy v2 q2/\x = .ref T/\H' = upd H T (.tup [q1,q2]))/\tn s2.heap/\∀ b ∈ [z,TI,TO,i1,i2],H' b = none) E s1) E s:=by
 refine pyNext_zipD D D1 D2 hz hTI hTO h1 h2 l1 l2 fun x y h1' tk p1 p2 a1 a2 a3 a4 a5 a6 a7=>⟨_,rfl,wpAny_letOwnedTupleGo_zip a1 fun h2' hz2 hs2=>?_⟩
 replace hs2:Heap.SameBut z h1' h2':=hs2
 obtain ⟨q1,r1,e1⟩:=y1 x p1
 obtain ⟨q2,r2,e2⟩:=y2 y p2
 have hzl:z < s.heap.objs.size:=Heap.lt_size hz
 have hT2:h2'.get? s.heap.objs.size = some { cls:=.type "tuple",data:=.seq #[x,y] }:=(hs2.2 _ (Nat.ne_of_gt hzl)).trans a5
 have ob:ObjOk X.prog X.w (upd H s.heap.objs.size (.tup [q1,q2])) h2' s.heap.objs.size (.tup [q1,q2]):=⟨(by show 2 <= sizeLine; decide),[x,y],.cons r1 (.cons r2 .nil),⟨_,hT2,rfl,_,rfl⟩⟩
 have I2:Inv X pins σ (upd H s.heap.objs.size (.tup [q1,q2])) { s with heap:=h2',toks:=tk }:=I.turnedLaid hf (fun b u hb q=>(hs2.2 b (fun z=>hb (by simp [z]))).trans (a7 b u (fun z=>hb (by simp [z])) (fun z=>hb (by simp [z])) (fun z=>hb (by simp [z])) (fun z=>hb (by simp [z])) q)) (Nat.le_refl _) ob
 have up:∀ c o,c ≠ z->h1'.get? c = some o->h2'.get? c = some o:=fun c o hc e=>(hs2.2 c hc).trans e
 refine ⟨.ref s.heap.objs.size,_,I2,rfl,⟨s.heap.objs.size,q1,q2,x,y,I.hok.fresh (Nat.le_refl _),e1,e2,rfl,rfl⟩,tnk h2' x y hz2 (up _ _ D.TIz (a7 _ _ D.TIz D.TITO D.TIi1 D.TIi2 hTI)) (up _ _ D.TOz a2) (D1.frame _ _ _ a3 fun c hc o e=>up c o (fun q=>D.z1 (q ▸ hc)) e) (D2.frame _ _ _ a4 fun c hc o e=>up c o (fun q=>D.z2 (q ▸ hc)) e),fun b hb=>?_⟩
 have hlt:b < s.heap.objs.size:=by
  simp only [List.mem_cons,List.not_mem_nil,or_false] at hb
  rcases hb with e | e | e | e | e
  ·rw [e]; exact hzl
  ·rw [e]; exact Heap.lt_size hTI
  ·rw [e]; exact Heap.lt_size hTO
  ·rw [e]; obtain ⟨_,q⟩:=D1.live _ _ h1; exact Heap.lt_size q
  ·rw [e]; obtain ⟨_,q⟩:=D2.live _ _ h2; exact Heap.lt_size q
 rw [upd_ne (Nat.ne_of_lt hlt)]
 exact (hf b hb).1
theorem turn_zipS {x y:Str} {t u:Tok} {T1 T2:String} {z TI TO i1 i2:Addr} (D:ZAp z TI TO i1 i2 [i1] [i2])
  (W1:∀ A:Around,A.handled = none->Draws P w A i1 [i1] x.cps.size (fun i v=>∃ c u,x.cps[i]? = some c/\v = .str ⟨#[c]⟩ u) (fun i h=>h.IsStrIter i1 T1 x t i))
  (W2:∀ A:Around,A.handled = none->Draws P w A i2 [i2] y.cps.size (fun i v=>∃ c u,y.cps[i]? = some c/\v = .str ⟨#[c]⟩ u) (fun i h=>h.IsStrIter i2 T2 y u i)) :
  Turn P w K (.Tuple elts k tpos) (IzS x y) [z,TI,TO,i1,i2] z (fun i h=>IsZip h z TI TO .none/\IsPair h TI (.ref i1) (.ref i2)/\(∃ a b,IsPair h TO a b)/\h.IsStrIter i1 T1 x t i/\h.IsStrIter i2 T2 y u i) where
 mem:=by simp
 obj:=fun i h st b hb=>by
  obtain ⟨hz,hTI,⟨a,b',hTO⟩,⟨o1,ho1,_,hd1⟩,⟨o2,ho2,_,hd2⟩⟩:=st
  simp only [List.mem_cons,List.not_mem_nil,or_false] at hb
  rcases hb with e | e | e | e | e
  ·rw [e]; exact ⟨_,hz,fun v z=>by cases z⟩
  ·rw [e]; exact ⟨_,hTI,fun v z=>by cases z⟩
  ·rw [e]; exact ⟨_,hTO,fun v z=>by cases z⟩
  ·rw [e]; exact ⟨_,ho1,fun v z=>by rw [hd1] at z; cases z⟩
  ·rw [e]; exact ⟨_,ho2,fun v z=>by rw [hd2] at z; cases z⟩
 keep:=fun i h h' st k=>by
  obtain ⟨hz,hTI,⟨a,b',hTO⟩,⟨o1,ho1,r1⟩,⟨o2,ho2,r2⟩⟩:=st
  exact ⟨k z (by simp) _ hz,k TI (by simp) _ hTI,⟨a,b',k TO (by simp) _ hTO⟩,⟨o1,k i1 (by simp) _ ho1,r1⟩,⟨o2,k i2 (by simp) _ ho2,r2⟩⟩
 item:=by
  intro X hP hw hK hc i pins s σ H E I hf st hg
  subst hP hw hK
  obtain ⟨hz,hTI,⟨a,b',hTO⟩,h1,h2⟩:=st
  refine thn (zip_item (elts:=elts) (k:=k) (tpos:=tpos) (Qx:=fun v q=>∃ c,x.cps[i]? = some c/\q = .str ⟨#[c]⟩) (Qy:=fun v q=>∃ c,y.cps[i]? = some c/\q = .str ⟨#[c]⟩)
   (tn:=fun h=>IsZip h z TI TO .none/\IsPair h TI (.ref i1) (.ref i2)/\(∃ a b,IsPair h TO a b)/\h.IsStrIter i1 T1 x t (i + 1)/\h.IsStrIter i2 T2 y u (i + 1)) D (W1 X.A.in1 (I.ok.hd hc)) (W2 X.A.in1 (I.ok.hd hc)) I hf hz hTI hTO h1 h2 hg.1 hg.2
   (fun h' _ _ a1 a2 a3 a4 a5=>⟨a1,a2,⟨_,_,a3⟩,a4,a5⟩) ?_ ?_) ?_
  ·rintro v ⟨c,u,hx,rfl⟩
   exact ⟨.str ⟨#[c]⟩,⟨u,rfl⟩,c,hx,rfl⟩
  ·rintro v ⟨c,u,hx,rfl⟩
   exact ⟨.str ⟨#[c]⟩,⟨u,rfl⟩,c,hx,rfl⟩
  ·rintro r s1 ⟨u,hr,h1⟩
   refine ⟨u,hr,thn h1 ?_⟩
   rintro _ s2 ⟨xv,H',I2,rx,⟨Ta,q1,q2,v1,v2,hT,⟨c,hx,rfl⟩,⟨d,hy,rfl⟩,ex,eH⟩,tn2,fr⟩
   exact ⟨xv,H',I2,rx,⟨Ta,c,d,hT,hx,hy,ex,eH⟩,tn2,fr⟩
 done:=by
  intro X hP hw hK hc i pins s σ H E I hf st hg
  subst hP hw hK
  obtain ⟨hz,hTI,⟨a,b',hTO⟩,h1,h2⟩:=st
  exact pyNext_zipD_end D (W1 X.A.in1 (I.ok.hd hc)) (W2 X.A.in1 (I.ok.hd hc)) hz hTI hTO h1 h2 hg fun h' tk hx=>⟨rfl,I.turnedAll (t':=tk) hf fun b o hb q=>hx b o (fun z=>hb (by simp [z])) (fun z=>hb (by simp [z])) (fun z=>hb (by simp [z])) (fun z=>hb (by simp [z])) q⟩
 self:=fun A i s Q E st h=>wpAny_pyIter_zip st.1 h
end
theorem drawsU {P:Program} {w:World} (it:Addr) (x:Str) (t:Tok):∀ A:Around,A.handled = none->Draws P w A it [it] x.cps.size (fun i v=>∃ c u,x.cps[i]? = some c/\v = .str ⟨#[c]⟩ u) (fun i h=>h.IsStrIter it (strIterType x) x t i):=fun A hh=>by
 cases ha:x.cps.all (· < 128)
 ·have e:strIterType x = "str_iterator":=by simp [strIterType,ha]
  rw [e]; exact Draws.strWide hh _ x t
 ·have e:strIterType x = "str_ascii_iterator":=by simp [strIterType,ha]
  rw [e]; exact Draws.strAscii hh _ x t
def iZiS (ta:TA):TI:=fun σ H R=>ta σ H fun vs H1=>∃ x y,vs = [.str x,.str y]/\R (IzS x y) H1
section
variable {X:Cx} {a b:Expr} {ta:TA} {p pos:Pos} {elts:List Expr} {k:Nat} {tpos:Pos}
theorem fresh5 {pins:List (Addr × Obj)} {σ:St} {H:Hp} {s:Shared} (I:Inv X pins σ H s):∀ b ∈ [s.heap.objs.size + 4,s.heap.objs.size + 2,s.heap.objs.size + 3,s.heap.objs.size,s.heap.objs.size + 1],FpOk X pins H b:=fun b hb=>by
 have:s.heap.objs.size <= b:=by
  simp only [List.mem_cons,List.not_mem_nil,or_false] at hb
  rcases hb with e | e | e | e | e <;> omega
 exact I.fpOk this (I.hok.fresh this)
theorem zap5 (n:Nat):ZAp (n + 4) (n + 2) (n + 3) n (n + 1) [n] [n + 1]:=by
 constructor <;> simp <;> omega
theorem pi_zipS (hg : Gl X "zip") (hm : X.mg "zip" = none) (ha : PA X [a, b] ta) (hs : starEach [a, b] X.env = [(false, eval a X.env), (false, eval b X.env)] := by rfl) (hs2 : starEach [b] X.env = [(false, eval b X.env)] := by rfl) : PI X (.Tuple elts k tpos) (.Call (.Name "zip" p) [a, b] [] pos) (iZiS ta) := by
  intro pins s σ H R I h
  refine Call_ (ld_blt I hg hm boot_zip (PyProof.Rows.callWith_type1 (thn (ha pos pins s σ H _ I h) fun us s1 ⟨vs, H1, I1, r1, q1⟩ => ?_) (by rw [hs, hs2]) (by rw [hs2]; rfl)))
  obtain ⟨x, y, e, q⟩ := q1
  subst e
  cases r1 with
  | cons r rr =>
    cases rr with
    | cons r2 rr =>
      cases rr
      obtain ⟨t, rfl⟩ := r
      obtain ⟨u, rfl⟩ := r2
      refine call_zipS fun h' hz hTI hTO h1 h2 hsz hk => wpAny_pyIter_zip hz ?_
      exact ⟨s1.heap.objs.size + 4, [s1.heap.objs.size + 4, s1.heap.objs.size + 2, s1.heap.objs.size + 3, s1.heap.objs.size, s1.heap.objs.size + 1], _, _, H1, rfl, I1.kept (t' := s1.toks) hk, turn_zipS (zap5 _) (drawsU _ x t) (drawsU _ y u), ⟨hz, hTI, ⟨_, _, hTO⟩, h1, h2⟩, fresh5 I1, q⟩
end
end L2
namespace L2
open PySem PySem.Spec PyProof.Rows
section
variable {σ:St} {H:Hp} {Q:VK} {K:PySem.W.Frag}
theorem s_iziS {ta:TA} {R:It->Hp->Prop} (h:ta σ H fun vs H1=>∃ x y,vs = [.str x,.str y]/\R (IzS x y) H1):iZiS ta σ H R:=h
theorem s_iziT {a b:List Nat} {R:Str->Str->Prop} (h:R ⟨a.toArray⟩ ⟨b.toArray⟩):∃ x y,[tx a,tx b] = [.str x,.str y]/\R x y:=⟨_,_,rfl,h⟩
theorem comp_zip {a b : List Nat} {own : List Str} {sel : List Nat} {g : TG} {tt : TT} {te : TE} (hl : b.length = a.length) (hn : a.length <= sizeLine) (Pv : Addr -> Nat -> List V -> Hp -> Prop) (h0 : ∀ D, H D = none -> Pv D 0 [] (upd H D (.lst [])))
  (hst : ∀ D ys H', H D = none -> H' D = some (.lst ys) -> Pv D a.length ys H' -> Q (.ref D) H')
  (hs : ∀ D i c d T ys H1 H', H D = none -> a[i]? = some c -> b[i]? = some d -> i < a.length -> H' D = some (.lst ys) -> ys.length <= i -> Pv D i ys H1 -> Same H1 H' -> H' T = some (.tup [tx [c], tx [d]]) -> g (.ref T) (inSt own sel σ) H' fun σ4 H4 => tt σ4 H4 fun b H5 =>
   if b = true then te σ4 H5 fun v H6 => ∃ ys, H6 D = some (.lst ys) /\ ys.length < sizeLine /\ ∃ m', m' < a.length - i /\ CW D a.length (Pv D) (i + 1) m' (upd H6 D (.lst (ys ++ [v])))
   else ∃ m', m' < a.length - i /\ CW D a.length (Pv D) (i + 1) m' H5) : CompW (IzS ⟨a.toArray⟩ ⟨b.toArray⟩) own sel σ g tt te Q H := by
 refine comp_of (n := a.length) Pv h0 (fun D i ys H' hD hi _ p => by simp only [IzS, List.size_toArray]; omega) (fun D ys H' hD hy _ p => ⟨by simp [IzS], hst D ys H' hD hy p⟩) (fun D i ys H1 x H3 hD hi hy hl2 p y => ?_)
 obtain ⟨T, c, d, hT, hc, hd, rfl, rfl⟩ := y
 exact hs D i c d T ys H1 _ hD (by simpa using hc) (by simpa using hd) hi (same_new hT _ _ _ hy) hl2 p (same_new hT _) upd_same
theorem yes_then {te:TE} {R:V->Hp->Prop} {S:Hp->Prop}:(fun (σ4:St) (H4:Hp)=>tYes σ4 H4 fun b H5=>if b = true then te σ4 H5 R else S H5) = fun σ4 H4=>te σ4 H4 R:=by
 funext σ4 H4
 exact propext ⟨fun z=>by have z':=z; simp only [tYes] at z'; simpa using z',fun z=>by show tYes _ _ _; simp only [tYes]; simpa using z⟩
theorem vals_zip {a b:List Nat} {own:List Str} {sel:List Nat} {g:TG} {te:TE} (v:Nat->Nat->V) (hl:b.length = a.length) (hn:a.length <= sizeLine) (hst:∀ D H',H D = none->Same H H'->H' D = some (.lst ((List.range a.length).map fun i=>v (a.getD i 0) (b.getD i 0)))->Q (.ref D) H')
  (hs:∀ (i c d:Nat) (T:Addr) (H':Hp) (R:V->Hp->Prop),a[i]? = some c->b[i]? = some d->Same H H'->H' T = some (.tup [tx [c],tx [d]])->(∀ H6,Same H' H6->R (v c d) H6)->g (.ref T) (inSt own sel σ) H' fun σ4 H4=>te σ4 H4 R):CompW (IzS ⟨a.toArray⟩ ⟨b.toArray⟩) own sel σ g tYes te Q H:=by
 refine comp_zip hl hn (fun D i ys H'=>Same H H'/\ys = (List.range i).map fun i=>v (a.getD i 0) (b.getD i 0)) (fun D hD=>⟨same_new hD _,rfl⟩) (fun D ys H' hD hy' ⟨sH,e⟩=>hst D H' hD sH (by rw [hy',e])) ?_
 rintro D i c d T ys H1 H3 hD hc hd hi hyD hl2 ⟨sH,e⟩ s3 hT
 have hv:v (a.getD i 0) (b.getD i 0) = v c d:=by rw [List.getD_eq_getElem?_getD,List.getD_eq_getElem?_getD,hc,hd]; rfl
 rw [yes_then]
 refine hs i c d T H3 _ hc hd (sH.trans s3) hT fun H6 s6=>?_
 refine comp_next hi hn (s6 _ _ hyD) hl2 ⟨fun x o z=>?_,?_⟩
 ·rw [upd_ne (ne_of_none z hD)]
  exact s6 _ _ (s3 _ _ (sH _ _ z))
 ·rw [e,List.range_succ,List.map_append,List.map_singleton,hv]
end
end L2
namespace BrS
open L2 PySem BrM BrC BrR
theorem brs_get {b:Nat} (h:b < 8):brs[b]? = some (brs.getD b 0):=by
 match b,h with
 | 0,_=>rfl
 | 1,_=>rfl
 | 2,_=>rfl
 | 3,_=>rfl
 | 4,_=>rfl
 | 5,_=>rfl
 | 6,_=>rfl
 | 7,_=>rfl
theorem brs_evn:∀ o,o < 4->brs.getD (2 * o) 0 ∈ opn/\clo (brs.getD (2 * o) 0) = brs.getD (2 * o + 1) 0/\brs.getD (2 * o + 1) 0 ∉ opn:=by decide
theorem brs_ne:∀ b,b < 8->brs.getD b 0 ≠ 63:=by decide
theorem brs_inj:∀ b,b < 8->∀ c,c < 8->brs.getD b 0 = brs.getD c 0->b = c:=by decide
theorem brs_sgn:∀ k:Nat,k <= 4->∀ b,b < 2 * k->brs.getD b 0 ∈ sgn (k:Int):=by decide +kernel
theorem sgn_of:∀ k:Nat,k <= 4->∀ c ∈ sgn (k:Int),c = 63\/∃ b,b < 2 * k/\c = brs.getD b 0:=by decide +kernel
def cl_ (st:List Nat):List Nat:=st.map fun o=>brs.getD (2 * o + 1) 0
theorem Fi.run {k : Nat} {a : List Nat} (hk : k <= 4) : ∀ {bs : List Nat} {i : Nat} {st : List Nat}, (∀ o ∈ st, o < k) -> Fi k a i st bs -> run (cl_ st) (brt bs) = some []
  | [], i, st, hst, h => by
    obtain ⟨_, rfl⟩ := h
    rfl
  | b :: bs, i, st, hst, h => by
    obtain ⟨h1, h2, h3, h4⟩ := h
    have e : brt (b :: bs) = brs.getD b 0 :: brt bs := rfl
    rw [e]
    show (BrM.stp (cl_ st) (brs.getD b 0)).bind _ = _
    by_cases hev : b % 2 = 0
    · obtain ⟨q1, q2, q3⟩ := brs_evn (b / 2) (by omega)
      rw [show 2 * (b / 2) = b by omega] at q1 q2 q3
      rw [stp_open q1, q2]
      have es : stb st b = b / 2 :: st := by unfold stb; rw [if_pos hev]
      rw [es] at h4
      have := Fi.run hk (st := b / 2 :: st) (fun o ho => by
        rcases List.mem_cons.mp ho with z | z
        · omega
        · exact hst o z) h4
      have ec : cl_ (b / 2 :: st) = brs.getD (b + 1) 0 :: cl_ st := by
        show brs.getD (2 * (b / 2) + 1) 0 :: cl_ st = _
        rw [show 2 * (b / 2) = b by omega]
      rw [ec] at this
      exact this
    · obtain ⟨s', rfl⟩ := h3 (by omega)
      obtain ⟨q1, q2, q3⟩ := brs_evn (b / 2) (by omega)
      have eb : 2 * (b / 2) + 1 = b := by omega
      rw [eb] at q3
      have ec : cl_ (b / 2 :: s') = brs.getD b 0 :: cl_ s' := by
        show brs.getD (2 * (b / 2) + 1) 0 :: cl_ s' = _
        rw [eb]
      rw [ec, stp_close q3]
      have es : stb (b / 2 :: s') b = s' := by unfold stb; rw [if_neg hev]; rfl
      rw [es] at h4
      exact Fi.run hk (fun o ho => hst o (List.mem_cons_of_mem _ ho)) h4
theorem pw_one {k c b:Nat} (hk:k <= 4) (hb:b < 2 * k) (h:pw k c b = 1):c = 63\/c = brs.getD b 0:=by
 by_cases hc:c = 63
 ·exact .inl hc
 ·refine .inr ?_
  unfold pw plw at h
  rw [if_neg hc,List.getD_eq_getElem?_getD,List.getElem?_map,List.getElem?_take,if_pos (show b < (ones k).length by unfold ones; rw [List.length_replicate]; exact hb),brs_get (by omega)] at h
  have h:(if c = brs.getD b 0 then (1:Int) else 0) = 1:=h
  split at h
  ·assumption
  ·cases h
theorem pa_pw {k:Nat} {a:List Nat} {i c:Nat} (h:a[i]? = some c) (b:Nat):pa_ k a i b = pw k c b:=by
 show ((a.map (plw (ones k))).getD i []).getD b 0 = _
 have e:(a.map (plw (ones k))).getD i [] = plw (ones k) c:=by rw [List.getD_eq_getElem?_getD,List.getElem?_map,h]; rfl
 rw [e]; rfl
def Fll (k:Nat):List Nat->List Nat->List Nat->Prop
 | [],st,[]=>st = []
 | c :: r,st,b :: bs=>b < 2 * k/\pw k c b = 1/\(b % 2 = 1->∃ s',st = b / 2 :: s')/\Fll k r (stb st b) bs
 | _,_,_=>False
theorem Fi.l {k : Nat} {a : List Nat} : ∀ {bs : List Nat} {i : Nat} {st : List Nat}, Fi k a i st bs -> Fll k (a.drop i) st bs
  | [], i, st, h => by
    obtain ⟨rfl, rfl⟩ := h
    rw [List.drop_length]
    rfl
  | b :: bs, i, st, h => by
    have hi : i < a.length := by have := h.len; rw [List.length_cons] at this; omega
    obtain ⟨h1, h2, h3, h4⟩ := h
    rw [List.drop_eq_getElem_cons hi]
    rw [pa_pw (List.getElem?_eq_getElem hi)] at h2
    exact ⟨h1, h2, h3, Fi.l h4⟩
theorem Fll.fl {k : Nat} {a : List Nat} : ∀ {bs : List Nat} {i : Nat} {st : List Nat}, i <= a.length -> Fll k (a.drop i) st bs -> Fi k a i st bs
  | [], i, st, hi, h => by
    cases e : a.drop i with
    | nil =>
      rw [e] at h
      have := List.drop_eq_nil_iff.mp e
      exact ⟨by omega, h⟩
    | cons c r => rw [e] at h; exact h.elim
  | b :: bs, i, st, hi, h => by
    by_cases hi' : i < a.length
    · rw [List.drop_eq_getElem_cons hi'] at h
      obtain ⟨h1, h2, h3, h4⟩ := h
      exact ⟨h1, by rw [pa_pw (List.getElem?_eq_getElem hi')]; exact h2, h3, Fll.fl hi' h4⟩
    · rw [List.drop_eq_nil_iff.mpr (by omega)] at h
      exact h.elim
theorem Fll.len {k:Nat}:∀ {a st bs:List Nat},Fll k a st bs->bs.length = a.length
 | [],_,[],_=>rfl
 | c :: r,st,b :: bs,h=>by rw [List.length_cons,List.length_cons,Fll.len h.2.2.2]
 | [],_,_ :: _,h=>h.elim
 | _ :: _,_,[],h=>h.elim
theorem Fll.at {k : Nat} : ∀ {a st bs : List Nat}, Fll k a st bs -> ∀ {i c b : Nat}, a[i]? = some c -> bs[i]? = some b -> b < 2 * k /\ pw k c b = 1
  | c :: r, st, b :: bs, h, 0, c', b', h1, h2 => by
    obtain rfl : c = c' := Option.some.inj h1
    obtain rfl : b = b' := Option.some.inj h2
    exact ⟨h.1, h.2.1⟩
  | c :: r, st, b :: bs, h, i + 1, c', b', h1, h2 => Fll.at h.2.2.2 (i := i) h1 h2
  | [], _, _, _, i, _, _, h1, _ => by simp at h1
  | _ :: _, _, [], _, i, _, _, _, h2 => by simp at h2
def exk (p q o:Nat):Nat:=if o = p then q else if o = q then p else o
def exb (p q b:Nat):Nat:=2 * exk p q (b / 2) + b % 2
def exc (p q c:Nat):Nat:=if c = 63 then 63 else brs.getD (exb p q (fnd brs c).toNat) 0
theorem exk_lt {p q o k:Nat} (hp:p < k) (hq:q < k) (ho:o < k):exk p q o < k:=by unfold exk; split; exact hq; split; exact hp; exact ho
theorem exb_lt {p q b k:Nat} (hp:p < k) (hq:q < k) (hb:b < 2 * k):exb p q b < 2 * k:=by
 have:=exk_lt hp hq (show b / 2 < k by omega)
 unfold exb
 omega
theorem exb_half (p q b:Nat):exb p q b / 2 = exk p q (b / 2):=by unfold exb; omega
theorem exb_mod (p q b:Nat):exb p q b % 2 = b % 2:=by unfold exb; omega
theorem exc_brs {p q b:Nat} (h:b < 8):exc p q (brs.getD b 0) = brs.getD (exb p q b) 0:=by
 unfold exc
 rw [if_neg (brs_ne b h),fnd_brs b h,Int.toNat_natCast]
theorem Fll.ex {p q k : Nat} (hk : k <= 4) (hp : p < k) (hq : q < k) : ∀ {a st bs : List Nat}, Fll k a st bs -> Fll k (a.map (exc p q)) (st.map (exk p q)) (bs.map (exb p q))
  | [], st, [], h => by
    have h : st = [] := h
    subst h
    rfl
  | c :: r, st, b :: bs, h => by
    obtain ⟨h1, h2, h3, h4⟩ := h
    have hb' := exb_lt hp hq h1
    have es : stb (st.map (exk p q)) (exb p q b) = (stb st b).map (exk p q) := by
      unfold stb
      rw [exb_mod, exb_half]
      split
      · rfl
      · rw [List.map_tail]
    refine ⟨hb', ?_, fun ho => ?_, ?_⟩
    · rcases pw_one hk h1 h2 with rfl | rfl
      · exact pw_unk hb'
      · show pw k (exc p q (brs.getD b 0)) _ = 1
        rw [exc_brs (by omega), pw_at hb' (by omega) (brs_get (by omega)), if_pos rfl]
    · rw [exb_mod] at ho
      obtain ⟨s', rfl⟩ := h3 ho
      exact ⟨s'.map (exk p q), by rw [exb_half]; rfl⟩
    · rw [es]
      exact Fll.ex hk hp hq h4
  | [], _, _ :: _, h => h.elim
  | _ :: _, _, [], h => h.elim
end BrS
namespace BrS
open L2 PySem BrM BrC BrR
theorem isRow_brt {k:Nat} {bs:List Nat} (hk:k <= 4) (hl:bs.length <= 40) (h:∀ b ∈ bs,b < 2 * k):isRow (k:Int) (brt bs) = true:=by
 unfold isRow brt
 rw [Bool.and_eq_true,List.length_map]
 refine ⟨decide_eq_true hl,?_⟩
 rw [List.all_eq_true]
 intro c hc
 obtain ⟨b,hb,rfl⟩:=List.mem_map.mp hc
 exact decide_eq_true (brs_sgn k hk b (h b hb))
end BrS
namespace BrS
open L2 PySem BrM BrC BrR
end BrS
namespace BrS
open L2 PySem BrM BrC BrR
theorem isRow_sgn {k:Int} {a:List Nat} (h:isRow k a = true):∀ c ∈ a,c ∈ sgn k:=fun c hc=>by
 unfold isRow at h
 rw [Bool.and_eq_true,List.all_eq_true] at h
 exact of_decide_eq_true (h.2 c hc)
end BrS
namespace L2
open PySem PySem.Spec PyProof.Rows
section
variable {σ:St} {H:Hp} {Q:VK} {K:PySem.W.Frag}
end
end L2
namespace L2
open PySem
end L2
namespace BrS
open L2 PySem BrM BrC BrR
theorem run_back {k : Nat} (hk : k <= 4) : ∀ {b a st : List Nat}, (∀ o ∈ st, o < k) -> (∀ c ∈ b, c ∈ sgn (k : Int)) -> b.length = a.length -> (∀ i, i < a.length -> a.getD i 0 = 63 \/ a.getD i 0 = b.getD i 0) -> run (cl_ st) b = some [] -> ∃ bs, b = brt bs /\ Fll k a st bs
  | [], [], st, _, _, _, _, h => by
    have h : some (cl_ st) = some [] := h
    have : st = [] := List.map_eq_nil_iff.mp (Option.some.inj h)
    subst this
    exact ⟨[], rfl, rfl⟩
  | [], _ :: _, _, _, _, hl, _, _ => by cases hl
  | _ :: _, [], _, _, _, hl, _, _ => by cases hl
  | d :: b, c :: a, st, hst, hs, hl, hm, h => by
    have h : (stp (cl_ st) d).bind (fun s => run s b) = some [] := h
    have hd := hs d List.mem_cons_self
    have hs' : ∀ c ∈ b, c ∈ sgn (k : Int) := fun x hx => hs x (List.mem_cons_of_mem _ hx)
    have hl' : b.length = a.length := by simpa using hl
    have hm' : ∀ i, i < a.length -> a.getD i 0 = 63 \/ a.getD i 0 = b.getD i 0 := fun i hi => by
      have := hm (i + 1) (by simpa using hi)
      simpa using this
    have hc : c = 63 \/ c = d := by simpa using hm 0 (by simp)
    rcases sgn_of k hk d hd with rfl | ⟨x, hx, rfl⟩
    · exfalso
      have : stp (cl_ st) 63 = none := by
        unfold stp
        rw [if_neg (by decide)]
        cases st with
        | nil => rfl
        | cons o s' =>
          show (if (63 : Nat) = brs.getD (2 * o + 1) 0 then some (cl_ s') else none) = none
          rw [if_neg fun z => brs_ne (2 * o + 1) (by have := hst o List.mem_cons_self; omega) z.symm]
      rw [this] at h
      cases h
    · have hpw : pw k c x = 1 := by
        rcases hc with rfl | rfl
        · exact pw_unk hx
        · rw [pw_at hx (by omega) (brs_get (by omega)), if_pos rfl]
      obtain ⟨q1, q2, q3⟩ := brs_evn (x / 2) (by omega)
      by_cases hev : x % 2 = 0
      · rw [show 2 * (x / 2) = x by omega] at q1 q2 q3
        rw [stp_open q1, q2] at h
        have h : run (cl_ (x / 2 :: st)) b = some [] := by
          have e : cl_ (x / 2 :: st) = brs.getD (x + 1) 0 :: cl_ st := by
            show brs.getD (2 * (x / 2) + 1) 0 :: cl_ st = _
            rw [show 2 * (x / 2) = x by omega]
          rw [e]; exact h
        obtain ⟨bs, rfl, hf⟩ := run_back hk (fun o ho => by
          rcases List.mem_cons.mp ho with z | z
          · omega
          · exact hst o z) hs' hl' hm' h
        refine ⟨x :: bs, rfl, hx, hpw, by omega, ?_⟩
        unfold stb
        rw [if_pos hev]
        exact hf
      · have ex : 2 * (x / 2) + 1 = x := by omega
        rw [ex] at q3
        cases st with
        | nil =>
          exfalso
          have : stp (cl_ []) (brs.getD x 0) = none := by unfold stp; rw [if_neg q3]; rfl
          rw [this] at h
          cases h
        | cons o s' =>
          have ho := hst o List.mem_cons_self
          have e : stp (cl_ (o :: s')) (brs.getD x 0) = if brs.getD x 0 = brs.getD (2 * o + 1) 0 then some (cl_ s') else none := by unfold stp; rw [if_neg q3]; rfl
          rw [e] at h
          by_cases z : brs.getD x 0 = brs.getD (2 * o + 1) 0
          · rw [if_pos z] at h
            have zo : x = 2 * o + 1 := brs_inj x (by omega) _ (by omega) z
            have h : run (cl_ s') b = some [] := h
            obtain ⟨bs, rfl, hf⟩ := run_back hk (fun o ho => hst o (List.mem_cons_of_mem _ ho)) hs' hl' hm' h
            refine ⟨x :: bs, rfl, hx, hpw, fun _ => ⟨s', by rw [show x / 2 = o by omega]⟩, ?_⟩
            unfold stb
            rw [if_neg hev]
            exact hf
          · rw [if_neg z] at h
            cases h
end BrS
namespace BrB
open BrM BrC
def cl:List Nat->Nat->Option (List Nat)
 | [],_=>none
 | p :: s,q=>if p = q then some s else none
theorem cl_cons (p:Nat) (s:List Nat) (q:Nat):cl (p :: s) q = if p = q then some s else none:=rfl
def nx (k:Nat) (st:List Nat) (b:Nat):Option (List Nat):=if b < 2 * k then (if b % 2 = 0 then some (b / 2 :: st) else cl st (b / 2)) else none
def go (k:Nat):List Nat->List Nat->Option (List Nat)
 | st,[]=>some st
 | st,b :: r=>(nx k st b).bind fun s=>go k s r
theorem go_nil {k:Nat} (st:List Nat):go k st [] = some st:=by rw [go]
theorem go_cons {k:Nat} (st:List Nat) (b:Nat) (r:List Nat):go k st (b :: r) = (nx k st b).bind fun s=>go k s r:=by rw [go]
theorem nx_some {k : Nat} {st s : List Nat} {b : Nat} (h : nx k st b = some s) : b < 2 * k /\ ((b % 2 = 0 /\ s = b / 2 :: st) \/ (b % 2 = 1 /\ st = b / 2 :: s)) := by
  unfold nx at h
  by_cases h1 : b < 2 * k
  · rw [if_pos h1] at h
    by_cases h2 : b % 2 = 0
    · rw [if_pos h2] at h; cases h; exact ⟨h1, .inl ⟨h2, rfl⟩⟩
    · rw [if_neg h2] at h
      cases st with
      | nil => cases h
      | cons p q =>
        rw [cl_cons] at h
        by_cases h3 : p = b / 2
        · rw [if_pos h3] at h; cases h; exact ⟨h1, .inr ⟨by omega, by rw [h3]⟩⟩
        · rw [if_neg h3] at h; cases h
  · rw [if_neg h1] at h; cases h
theorem nx_open {k p:Nat} (st:List Nat) (h:p < k):nx k st (2 * p) = some (p :: st):=by
 unfold nx; rw [if_pos (by omega),if_pos (by omega),show 2 * p / 2 = p by omega]
theorem nx_close {k p:Nat} (st:List Nat) (h:p < k):nx k (p :: st) (2 * p + 1) = some st:=by
 unfold nx; rw [if_pos (by omega),if_neg (by omega),show (2 * p + 1) / 2 = p by omega]
 rw [cl_cons,if_pos rfl]
theorem nx_of {k:Nat} {st s:List Nat} {b:Nat} (h1:b < 2 * k) (h:(b % 2 = 0/\s = b / 2 :: st)\/(b % 2 = 1/\st = b / 2 :: s)):nx k st b = some s:=by
 rcases h with ⟨h2,rfl⟩ | ⟨h2,rfl⟩
 ·unfold nx; rw [if_pos h1,if_pos h2]
 ·unfold nx; rw [if_pos h1,if_neg (by omega)]; rw [cl_cons,if_pos rfl]
def Rg (k:Nat) (l:List Nat):Prop:=go k [] l = some []
theorem go_open {k p:Nat} (st r:List Nat) (h:p < k):go k st (2 * p :: r) = go k (p :: st) r:=by rw [go_cons,nx_open st h]; rfl
theorem go_close {k p:Nat} (st r:List Nat) (h:p < k):go k (p :: st) ((2 * p + 1) :: r) = go k st r:=by rw [go_cons,nx_close st h]; rfl
theorem go_app {k : Nat} : ∀ (l r st : List Nat), go k st (l ++ r) = (go k st l).bind fun s => go k s r
  | [], r, st => by rw [List.nil_append, go_nil]; rfl
  | b :: l, r, st => by
    rw [List.cons_append, go_cons, go_cons]
    cases nx k st b with
    | none => rfl
    | some s => exact go_app l r s
theorem nx_up {k:Nat} {st s:List Nat} {b:Nat} (more:List Nat) (h:nx k st b = some s):nx k (st ++ more) b = some (s ++ more):=by
 obtain ⟨h1,h2⟩:=nx_some h
 refine nx_of h1 (h2.imp (fun ⟨a,e⟩=>⟨a,by rw [e]; rfl⟩) fun ⟨a,e⟩=>⟨a,by rw [e]; rfl⟩)
theorem go_up {k : Nat} : ∀ (l st s more : List Nat), go k st l = some s -> go k (st ++ more) l = some (s ++ more)
  | [], st, s, more, h => by rw [go_nil] at h ⊢; cases h; rfl
  | b :: l, st, s, more, h => by
    rw [go_cons] at h ⊢
    obtain ⟨s1, h1, h2⟩ := Option.bind_eq_some_iff.mp h
    rw [nx_up more h1]
    exact go_up l s1 s more h2
theorem rg_pair {k p:Nat} {u v:List Nat} (hp:p < k) (hu:Rg k u) (hv:Rg k v):Rg k (2 * p :: (u ++ (2 * p + 1) :: v)):=by
 unfold Rg
 have h:=go_up u [] [] [p] hu
 rw [List.nil_append] at h
 rw [go_open _ _ hp,go_app,h]
 show go k [p] _ = _
 rw [go_close _ _ hp]
 exact hv
theorem go_split {k : Nat} : ∀ (n : Nat) (r : List Nat) (p : Nat) (st : List Nat), r.length <= n -> go k (p :: st) r = some [] -> p < k -> ∃ u v, r = u ++ (2 * p + 1) :: v /\ Rg k u /\ go k st v = some []
  | 0, [], p, st, _, h, _ => by rw [go_nil] at h; cases h
  | n + 1, [], p, st, _, h, _ => by rw [go_nil] at h; cases h
  | n + 1, b :: r, p, st, hl, h, hp => by
    rw [go_cons] at h
    obtain ⟨s1, h1, h2⟩ := Option.bind_eq_some_iff.mp h
    obtain ⟨hb, ⟨h3, rfl⟩ | ⟨h3, h4⟩⟩ := nx_some h1
    · have hl' : r.length <= n := by simpa using hl
      obtain ⟨u1, v1, e1, g1, g2⟩ := go_split n r (b / 2) (p :: st) hl' h2 (by omega)
      have hv1 : v1.length <= n := by rw [e1] at hl'; simp at hl'; omega
      obtain ⟨u2, v2, e2, g3, g4⟩ := go_split n v1 p st hv1 g2 hp
      refine ⟨2 * (b / 2) :: (u1 ++ (2 * (b / 2) + 1) :: u2), v2, ?_, rg_pair (by omega) g1 g3, g4⟩
      rw [e1, e2, show 2 * (b / 2) = b by omega]; simp
    · cases h4
      exact ⟨[], r, by rw [List.nil_append, show 2 * (b / 2) + 1 = b by omega], by unfold Rg; rw [go_nil], h2⟩
theorem rg_split {k : Nat} {l : List Nat} (h : Rg k l) : l = [] \/ ∃ p u v, p < k /\ l = 2 * p :: (u ++ (2 * p + 1) :: v) /\ Rg k u /\ Rg k v := by
  cases l with
  | nil => exact .inl rfl
  | cons b r =>
    unfold Rg at h
    rw [go_cons] at h
    obtain ⟨s1, h1, h2⟩ := Option.bind_eq_some_iff.mp h
    obtain ⟨hb, ⟨h3, rfl⟩ | ⟨h3, h4⟩⟩ := nx_some h1
    · obtain ⟨u, v, e, g1, g2⟩ := go_split r.length r (b / 2) [] (Nat.le_refl _) h2 (by omega)
      exact .inr ⟨b / 2, u, v, by omega, by rw [e, show 2 * (b / 2) = b by omega], g1, g2⟩
    · cases h4
theorem go_len {k : Nat} : ∀ (l st s : List Nat), go k st l = some s -> st.length <= s.length + l.length /\ (st.length + s.length + l.length) % 2 = 0
  | [], st, s, h => by rw [go_nil] at h; cases h; simp; omega
  | b :: l, st, s, h => by
    rw [go_cons] at h
    obtain ⟨s1, h1, h2⟩ := Option.bind_eq_some_iff.mp h
    have := go_len l _ _ h2
    obtain ⟨hb, ⟨h3, rfl⟩ | ⟨h3, rfl⟩⟩ := nx_some h1
    · simp only [List.length_cons] at this ⊢; omega
    · simp only [List.length_cons] at this ⊢; omega
theorem rg_even {k:Nat} {l:List Nat} (h:Rg k l):l.length % 2 = 0:=by have:=(go_len l [] [] h).2; simpa using this
theorem go_bd {k : Nat} : ∀ (l st s : List Nat), go k st l = some s -> ∀ b ∈ l, b < 2 * k
  | [], _, _, _, b, hb => nomatch hb
  | c :: l, st, s, h, b, hb => by
    rw [go_cons] at h
    obtain ⟨s1, h1, h2⟩ := Option.bind_eq_some_iff.mp h
    rcases List.mem_cons.mp hb with rfl | hb
    · exact (nx_some h1).1
    · exact go_bd l _ _ h2 b hb
theorem lt_app : ∀ {a b c d : List Nat}, a.length = c.length -> (a ++ b < c ++ d ↔ a < c \/ (a = c /\ b < d))
  | [], b, [], d, _ => by simp
  | x :: a, b, y :: c, d, h => by
    have h' : a.length = c.length := by simpa using h
    clear h
    rw [List.cons_append, List.cons_append, List.cons_lt_cons_iff, List.cons_lt_cons_iff, lt_app h']
    constructor
    · rintro (h | ⟨rfl, h | ⟨rfl, h⟩⟩)
      · exact .inl (.inl h)
      · exact .inl (.inr ⟨rfl, h⟩)
      · exact .inr ⟨rfl, h⟩
    · rintro ((h | ⟨rfl, h⟩) | ⟨e, h⟩)
      · exact .inl h
      · exact .inr ⟨rfl, .inl h⟩
      · cases e; exact .inr ⟨rfl, .inr ⟨rfl, h⟩⟩
theorem lt_tri (a b:List Nat):a < b\/a = b\/b < a:=by
 by_cases h:a < b
 ·exact .inl h
 ·by_cases h2:b < a
  ·exact .inr (.inr h2)
  ·exact .inr (.inl (List.le_antisymm (List.not_lt.mp h2) (List.not_lt.mp h)))
theorem nlt_trans {a b c:List Nat} (h1:¬ b < a) (h2:¬ c < b):¬ c < a:=fun h=>by
 rcases lt_tri b c with z | z | z
 ·exact h1 (List.lt_trans z h)
 ·exact h1 (z ▸ h)
 ·exact h2 z
abbrev O:=Option (Int × List Nat)
def lik:O->O->O
 | none,b=>b
 | some a,none=>some a
 | some (x,l),some (y,m)=>if x = y then (if l < m then some (x,l) else some (y,m)) else if x > y then some (x,l) else some (y,m)
def Best (S:List Nat->Prop) (f:List Nat->Int):O->Prop
 | none=>∀ l,S l->f l <= 0
 | some (w,l)=>S l/\f l = w/\0 < w/\∀ m,S m->f m < w\/(f m = w/\¬ m < l)
theorem Best.iff {S S':List Nat->Prop} {f:List Nat->Int} {o:O} (h:Best S f o) (e:∀ l,S l ↔ S' l):Best S' f o:=by
 have:S = S':=funext fun l=>propext (e l)
 rw [<- this]; exact h
theorem Best.cong {S:List Nat->Prop} {f g:List Nat->Int} {o:O} (h:Best S f o) (e:∀ l,S l->f l = g l):Best S g o:=by
 match o,h with
 | none,h=>exact fun l hl=>by rw [<- e l hl]; exact h l hl
 | some (w,l),⟨h1,h2,h3,h4⟩=>exact ⟨h1,by rw [<- e l h1]; exact h2,h3,fun m hm=>by rw [<- e m hm]; exact h4 m hm⟩
theorem Best.un {S S' : List Nat -> Prop} {f : List Nat -> Int} : ∀ {a b : O}, Best S f a -> Best S' f b -> Best (fun l => S l \/ S' l) f (lik a b)
  | none, none, h, g => fun l hl => hl.elim (h l) (g l)
  | none, some (v, m), h, ⟨g1, g2, g3, g4⟩ => ⟨.inr g1, g2, g3, fun x hx => hx.elim (fun z => .inl (by have := h x z; omega)) (g4 x)⟩
  | some (w, l), none, ⟨h1, h2, h3, h4⟩, g => ⟨.inl h1, h2, h3, fun x hx => hx.elim (h4 x) (fun z => .inl (by have := g x z; omega))⟩
  | some (w, l), some (v, m), ⟨h1, h2, h3, h4⟩, ⟨g1, g2, g3, g4⟩ => by
    show Best _ f (if w = v then (if l < m then some (w, l) else some (v, m)) else if w > v then some (w, l) else some (v, m))
    by_cases e : w = v
    · subst e
      rw [if_pos rfl]
      by_cases e2 : l < m
      · rw [if_pos e2]
        refine ⟨.inl h1, h2, h3, fun x hx => hx.elim (h4 x) fun z => (g4 x z).imp id fun ⟨a, b⟩ => ⟨a, nlt_trans (fun t => List.lt_irrefl _ (List.lt_trans t e2)) b⟩⟩
      · rw [if_neg e2]
        refine ⟨.inr g1, g2, g3, fun x hx => hx.elim (fun z => (h4 x z).imp id fun ⟨a, b⟩ => ⟨a, nlt_trans e2 b⟩) (g4 x)⟩
    · rw [if_neg e]
      by_cases e2 : w > v
      · rw [if_pos e2]
        exact ⟨.inl h1, h2, h3, fun x hx => hx.elim (h4 x) fun z => .inl (by rcases g4 x z with y | ⟨y, _⟩ <;> omega)⟩
      · rw [if_neg e2]
        exact ⟨.inr g1, g2, g3, fun x hx => hx.elim (fun z => .inl (by rcases h4 x z with y | ⟨y, _⟩ <;> omega)) (g4 x)⟩
theorem Best.pos {S:List Nat->Prop} {f:List Nat->Int} {w:Int} {l:List Nat} (h:Best S f (some (w,l))):0 < w:=h.2.2.1
theorem prod_cmp {x y a b:Int} (ha0:0 <= a) (hb0:0 <= b) (hx:0 < x) (hy:0 < y) (ha:a <= x) (hb:b <= y):a * b < x * y\/(a = x/\b = y):=by
 by_cases e1:a = x
 ·by_cases e2:b = y
  ·exact .inr ⟨e1,e2⟩
  ·subst e1; exact .inl (Int.mul_lt_mul_of_pos_left (by omega) hx)
 ·left
  calc a * b <= a * y:=Int.mul_le_mul_of_nonneg_left hb ha0
   _ < x * y:=Int.mul_lt_mul_of_pos_right (by omega) hy
def beh:O->O->O
 | some (x,l),some (y,m)=>some (x * y,l ++ m)
 | _,_=>none
def rnd:O->O->O
 | some (x,l),some (y,m)=>some (x * y,[l.getD 0 0] ++ m ++ [l.getD 1 0])
 | _,_=>none
theorem Best.beh {S S' T : List Nat -> Prop} {f g h : List Nat -> Int} {n : Nat} (hS : ∀ l, S l -> l.length = n /\ 0 <= f l) (hS' : ∀ l, S' l -> 0 <= g l) (hT : ∀ l, T l ↔ ∃ u v, l = u ++ v /\ S u /\ S' v) (hh : ∀ u v, S u -> S' v -> h (u ++ v) = f u * g v) : ∀ {a b : O}, Best S f a -> Best S' g b -> Best T h (beh a b)
  | none, b, ha, hb => fun l hl => by
    obtain ⟨u, v, rfl, h1, h2⟩ := (hT l).mp hl
    have e : f u = 0 := by have := ha u h1; have := (hS u h1).2; omega
    rw [hh u v h1 h2, e]; omega
  | some (x, l), none, ha, hb => fun l' hl => by
    obtain ⟨u, v, rfl, h1, h2⟩ := (hT l').mp hl
    have e : g v = 0 := by have := hb v h2; have := hS' v h2; omega
    rw [hh u v h1 h2, e]; omega
  | some (x, l), some (y, m), ⟨a1, a2, a3, a4⟩, ⟨b1, b2, b3, b4⟩ => by
    refine ⟨(hT _).mpr ⟨l, m, rfl, a1, b1⟩, by rw [hh l m a1 b1, a2, b2], Int.mul_pos a3 b3, fun z hz => ?_⟩
    obtain ⟨u, v, rfl, h1, h2⟩ := (hT z).mp hz
    rw [hh u v h1 h2]
    have c1 := a4 u h1
    have c2 := b4 v h2
    have l1 : f u <= x := by rcases c1 with t | ⟨t, _⟩ <;> omega
    have l2 : g v <= y := by rcases c2 with t | ⟨t, _⟩ <;> omega
    rcases prod_cmp (hS u h1).2 (hS' v h2) a3 b3 l1 l2 with t | ⟨t1, t2⟩
    · exact .inl t
    · refine .inr ⟨by rw [t1, t2], fun hlt => ?_⟩
      have n1 : ¬ u < l := by rcases c1 with t | ⟨_, t⟩; omega; exact t
      have n2 : ¬ v < m := by rcases c2 with t | ⟨_, t⟩; omega; exact t
      rcases (lt_app (by rw [(hS u h1).1, (hS l a1).1])).mp hlt with t | ⟨_, t⟩
      · exact n1 t
      · exact n2 t
theorem Best.rnd {S T : List Nat -> Prop} {f g h : List Nat -> Int} {k n : Nat} (hf : ∀ p, p < k -> 0 <= f [2 * p, 2 * p + 1]) (hS : ∀ l, S l -> l.length = n /\ 0 <= g l) (hT : ∀ l, T l ↔ ∃ p u, p < k /\ l = 2 * p :: (u ++ [2 * p + 1]) /\ S u) (hh : ∀ p u, p < k -> S u -> h (2 * p :: (u ++ [2 * p + 1])) = f [2 * p, 2 * p + 1] * g u) :
    ∀ {a b : O}, Best (fun l => ∃ p, p < k /\ l = [2 * p, 2 * p + 1]) f a -> Best S g b -> Best T h (BrB.rnd a b)
  | none, b, ha, hb => fun l hl => by
    obtain ⟨p, u, hp, rfl, h2⟩ := (hT l).mp hl
    have e : f [2 * p, 2 * p + 1] = 0 := by have := ha _ ⟨p, hp, rfl⟩; have := hf p hp; omega
    rw [hh p u hp h2, e]; omega
  | some (x, l), none, ha, hb => fun l' hl => by
    obtain ⟨p, u, hp, rfl, h2⟩ := (hT l').mp hl
    have e : g u = 0 := by have := hb u h2; have := (hS u h2).2; omega
    rw [hh p u hp h2, e]; omega
  | some (x, l), some (y, m), ⟨⟨p, hp, a1⟩, a2, a3, a4⟩, ⟨b1, b2, b3, b4⟩ => by
    subst a1
    refine ⟨(hT _).mpr ⟨p, m, hp, rfl, b1⟩, ?_, Int.mul_pos a3 b3, fun z hz => ?_⟩
    · show h (2 * p :: (m ++ [2 * p + 1])) = x * y
      rw [hh p m hp b1, a2, b2]
    obtain ⟨q, u, hq, rfl, h2⟩ := (hT z).mp hz
    rw [hh q u hq h2]
    have c1 := a4 _ ⟨q, hq, rfl⟩
    have c2 := b4 u h2
    have l1 : f [2 * q, 2 * q + 1] <= x := by rcases c1 with t | ⟨t, _⟩ <;> omega
    have l2 : g u <= y := by rcases c2 with t | ⟨t, _⟩ <;> omega
    rcases prod_cmp (hf q hq) (hS u h2).2 a3 b3 l1 l2 with t | ⟨t1, t2⟩
    · exact .inl t
    · refine .inr ⟨by rw [t1, t2], fun hlt => ?_⟩
      have n1 : ¬ [2 * q, 2 * q + 1] < [2 * p, 2 * p + 1] := by rcases c1 with t | ⟨_, t⟩; omega; exact t
      have n2 : ¬ u < m := by rcases c2 with t | ⟨_, t⟩; omega; exact t
      have hlt : 2 * q :: (u ++ [2 * q + 1]) < 2 * p :: (m ++ [2 * p + 1]) := hlt
      rw [List.cons_lt_cons_iff] at hlt
      rcases hlt with t | ⟨t, hlt⟩
      · exact n1 (by rw [List.cons_lt_cons_iff]; exact .inl t)
      · have : q = p := by omega
        subst this
        rcases (lt_app (by rw [(hS u h2).1, (hS m b1).1])).mp hlt with t | ⟨_, t⟩
        · exact n2 t
        · exact List.lt_irrefl _ t
def wtl (P:Nat->Nat->Int):Nat->List Nat->Int
 | _,[]=>1
 | s,b :: r=>P s b * wtl P (s + 1) r
theorem wtl_app {P : Nat -> Nat -> Int} : ∀ (u v : List Nat) (s : Nat), wtl P s (u ++ v) = wtl P s u * wtl P (s + u.length) v
  | [], v, s => by rw [List.nil_append, wtl, Int.one_mul]; rfl
  | b :: u, v, s => by
    rw [List.cons_append, wtl, wtl, wtl_app u v, Int.mul_assoc, List.length_cons, show s + 1 + u.length = s + (u.length + 1) by omega]
theorem wtl_nn {P:Nat->Nat->Int} (h:∀ i b,0 <= P i b):∀ (l:List Nat) (s:Nat),0 <= wtl P s l
 | [],_=>by rw [wtl]; decide
 | b :: l,s=>by rw [wtl]; exact Int.mul_nonneg (h s b) (wtl_nn h l _)
def Dn (k s t:Nat) (l:List Nat):Prop:=Rg k l/\s + l.length = t
def Sq (k s q t:Nat) (l:List Nat):Prop:=∃ j p u v,j < q/\p < k/\l = 2 * p :: (u ++ (2 * p + 1) :: v)/\Rg k u/\u.length = 2 * j/\Rg k v/\s + 2 + 2 * j + v.length = t
def Nw (k s q t:Nat) (l:List Nat):Prop:=∃ p u v,p < k/\l = 2 * p :: (u ++ (2 * p + 1) :: v)/\Rg k u/\u.length = 2 * q/\Rg k v/\s + 2 + 2 * q + v.length = t
theorem Sq.zero (k s t:Nat) (l:List Nat):¬ Sq k s 0 t l:=fun ⟨j,_,_,_,h,_⟩=>absurd h (Nat.not_lt_zero _)
theorem Sq.next (k s q t:Nat) (l:List Nat):Sq k s (q + 1) t l ↔ Sq k s q t l\/Nw k s q t l:=by
 constructor
 ·rintro ⟨j,p,u,v,hj,h⟩
  by_cases e:j = q
  ·subst e; exact .inr ⟨p,u,v,h⟩
  ·exact .inl ⟨j,p,u,v,by omega,h⟩
 ·rintro (⟨j,p,u,v,hj,h⟩ | ⟨p,u,v,h⟩)
  ·exact ⟨j,p,u,v,by omega,h⟩
  ·exact ⟨q,p,u,v,by omega,h⟩
theorem Nw.par {k s q t:Nat} {l:List Nat} (h:Nw k s q t l):∃ r,t = s + 2 + 2 * q + 2 * r:=by
 obtain ⟨p,u,v,_,_,_,_,hv,e⟩:=h
 have:=rg_even hv
 exact ⟨v.length / 2,by omega⟩
theorem Sq.same {k s q t:Nat} (h:∀ r,t ≠ s + 2 + 2 * q + 2 * r) (l:List Nat):Sq k s q t l ↔ Sq k s (q + 1) t l:=by
 rw [Sq.next]
 exact ⟨.inl,fun z=>z.elim id fun w=>by obtain ⟨r,e⟩:=w.par; exact absurd e (h r)⟩
theorem Sq.len {k s q t:Nat} {l:List Nat} (h:Sq k s q t l):s + l.length = t:=by
 obtain ⟨j,p,u,v,_,_,rfl,_,hu,_,e⟩:=h
 simp only [List.length_cons,List.length_append]; omega
theorem Nw.len {k s q t:Nat} {l:List Nat} (h:Nw k s q t l):s + l.length = t:=by
 obtain ⟨p,u,v,_,rfl,_,hu,_,e⟩:=h
 simp only [List.length_cons,List.length_append]; omega
theorem Sq.apart {k s q t : Nat} {l m : List Nat} (h : Sq k s q t l) (g : Nw k s q t m) : l ≠ m := by
  rintro rfl
  obtain ⟨j, p, u, v, hj, hp, rfl, ru, lu, rv, e⟩ := h
  obtain ⟨p', u', v', hp', e', ru', lu', rv', _⟩ := g
  obtain ⟨e1, e2⟩ := List.cons.inj e'
  have : p = p' := by omega
  subst this
  have e3 : u ++ ((2 * p + 1) :: v) = u' ++ ((2 * p + 1) :: v') := e2
  rcases List.append_eq_append_iff.mp e3 with ⟨w, h1, h2⟩ | ⟨w, h1, h2⟩
  · cases w with
    | nil => rw [List.append_nil] at h1; rw [h1] at lu'; omega
    | cons x w =>
      rw [List.cons_append] at h2
      obtain ⟨rfl, _⟩ := List.cons.inj h2
      unfold Rg at ru'
      rw [h1, go_app, ru] at ru'
      rw [Option.bind_some, go_cons] at ru'
      obtain ⟨s1, z, _⟩ := Option.bind_eq_some_iff.mp ru'
      obtain ⟨_, ⟨z1, _⟩ | ⟨_, z2⟩⟩ := nx_some z
      · omega
      · cases z2
  · rw [h1] at lu; simp at lu; omega
theorem Dn.iff {k s t q:Nat} (h:s < t) (hq:t < s + 2 + 2 * q) (l:List Nat):Sq k s q t l ↔ Dn k s t l:=by
 constructor
 ·intro z
  refine ⟨?_,z.len⟩
  obtain ⟨j,p,u,v,_,hp,rfl,ru,_,rv,_⟩:=z
  exact rg_pair hp ru rv
 ·rintro ⟨r,e⟩
  rcases rg_split r with rfl | ⟨p,u,v,hp,rfl,ru,rv⟩
  ·simp at e; omega
  ·have:=rg_even ru
   simp only [List.length_cons,List.length_append] at e
   exact ⟨u.length / 2,p,u,v,by omega,hp,rfl,ru,by omega,rv,by omega⟩
theorem Dn.nil (k s:Nat) (l:List Nat):Dn k s s l ↔ l = []:=by
 constructor
 ·rintro ⟨_,e⟩; exact List.eq_nil_of_length_eq_zero (by omega)
 ·rintro rfl; exact ⟨by unfold Rg; rw [go_nil],rfl⟩
def Pk (k:Nat) (l:List Nat):Prop:=∃ p,p < k/\l = [2 * p,2 * p + 1]
def pf (P:Nat->Nat->Int) (s e:Nat) (l:List Nat):Int:=P s (l.getD 0 0) * P e (l.getD 1 0)
theorem best_new {P:Nat->Nat->Int} (hP:∀ i b,0 <= P i b) {k s q t r:Nat} (ht:t = s + 2 + 2 * q + 2 * r) {a b c:O} (ha:Best (Pk k) (pf P s (s + 1 + 2 * q)) a) (hb:Best (Dn k (s + 1) (s + 1 + 2 * q)) (wtl P (s + 1)) b) (hc:Best (Dn k (s + 2 + 2 * q) t) (wtl P (s + 2 + 2 * q)) c) :
  Best (Nw k s q t) (wtl P s) (beh (rnd a b) c):=by
 have h1:Best (fun l=>∃ p u,p < k/\l = 2 * p :: (u ++ [2 * p + 1])/\Dn k (s + 1) (s + 1 + 2 * q) u) (wtl P s) (rnd a b):=by
  refine Best.rnd (k:=k) (n:=2 * q) (f:=pf P s (s + 1 + 2 * q)) (g:=wtl P (s + 1)) (fun p _=>Int.mul_nonneg (hP _ _) (hP _ _)) (fun l hl=>⟨by have:=hl.2; omega,wtl_nn hP l _⟩) (fun l=>Iff.rfl) (fun p u hp hu=>?_) ha hb
  have hl:=hu.2
  rw [wtl,wtl_app,wtl,wtl,show s + 1 + u.length = s + 1 + 2 * q by omega]
  show P s (2 * p) * (wtl P (s + 1) u * (P (s + 1 + 2 * q) (2 * p + 1) * 1)) = P s (2 * p) * P (s + 1 + 2 * q) (2 * p + 1) * wtl P (s + 1) u
  rw [Int.mul_one,Int.mul_comm (wtl P (s + 1) u),Int.mul_assoc]
 refine Best.beh (n:=2 * q + 2) (f:=wtl P s) (g:=wtl P (s + 2 + 2 * q)) (fun l hl=>⟨?_,wtl_nn hP l _⟩) (fun l _=>wtl_nn hP l _) (fun l=>?_) (fun u v hu hv=>?_) h1 hc
 ·obtain ⟨p,u,_,rfl,hu⟩:=hl
  have:=hu.2
  simp only [List.length_cons,List.length_append,List.length_nil]; omega
 ·constructor
  ·rintro ⟨p,u,v,hp,rfl,ru,lu,rv,e⟩
   exact ⟨2 * p :: (u ++ [2 * p + 1]),v,by simp,⟨p,u,hp,rfl,ru,by omega⟩,rv,e⟩
  ·rintro ⟨x,v,rfl,⟨p,u,hp,rfl,ru,lu⟩,rv,e⟩
   exact ⟨p,u,v,hp,by simp,ru,by omega,rv,e⟩
 ·obtain ⟨p,x,_,rfl,hx⟩:=hu
  have:=hx.2
  rw [wtl_app]
  congr 2
  simp only [List.length_cons,List.length_append,List.length_nil]; omega
theorem best_more {P:Nat->Nat->Int} {k s q t:Nat} {a b:O} (ha:Best (Sq k s q t) (wtl P s) a) (hb:Best (Nw k s q t) (wtl P s) b):Best (Sq k s (q + 1) t) (wtl P s) (lik a b):=(Best.un ha hb).iff fun l=>(Sq.next k s q t l).symm
theorem best_one {P:Nat->Nat->Int} (s:Nat) (k:Nat):Best (Dn k s s) (wtl P s) (some (1,[])):=⟨(Dn.nil k s []).mpr rfl,rfl,by decide,fun m hm=>by rw [(Dn.nil k s m).mp hm]; exact .inr ⟨rfl,List.lt_irrefl _⟩⟩
end BrB
namespace PySem.SeqAt
open AutoSeq1 (wpAny_loadPart')
open MeetsSeq MeetsSeq2 MeetsSeq3 SeqRoads2
theorem lt_loopAt (l b : Addr) (items items2 : Array Value) (n n2 : Nat) (dd dd2 : Option Addr) (sl sl2 : Array (Option Value)) (e : Nat -> Bool) (j : Nat) (x y : Int) (t u : Tok) (h1 : items[j]? = some (.int x t)) (h2 : items2[j]? = some (.int y u)) (hj : e j = false) (k : Nat) :
    ∀ i : Nat, j - i = k -> i <= j -> (∀ m, i <= m -> m < j -> e m = true) -> Meets (Builtin.«list.__eq__.loop» ⟨[.ref l, .ref b, rawInt i, rawInt 0], []⟩)
      (fun A R s => s.heap.get? l = some { cls := .type "list", dict := dd, data := .seq items n, slots := sl } /\ s.heap.get? b = some { cls := .type "list", dict := dd2, data := .seq items2 n2, slots := sl2 } /\
        (∀ j (h1 : j < items.size) (h2 : j < items2.size), EqAt A.in1 s items[j] items2[j] (e j)) /\
        R (.ok (.ret (.bool (decide (x < y))))) s) := by
  have q1 : j < items.size := (Array.getElem?_eq_some_iff.mp h1).1
  have q2 : j < items2.size := (Array.getElem?_eq_some_iff.mp h2).1
  induction k with
  | zero =>
    intro i hk hle hno prog w A R s h
    obtain ⟨hp, g, d, tk, os⟩ := s; obtain ⟨hl, hb, he, h⟩ := h
    have : i = j := by omega
    subst this
    wp_walk using wpAny_loadPart' hl, wpAny_loadPart' hb
    have hi1 : items[((i : Nat) : Int).toNat]? = some (.int x t) := by simpa using h1
    have hi2 : items2[((i : Nat) : Int).toNat]? = some (.int y u) := by simpa using h2
    have g1 : items[i] = .int x t := (Array.getElem?_eq_some_iff.mp h1).2
    have g2 : items2[i] = .int y u := (Array.getElem?_eq_some_iff.mp h2).2
    rw [hi1, hi2]
    have hei := he i q1 q2
    rw [g1, g2] at hei
    refine wpAny_bind (hei prog w _ _ ?_)
    rw [hj]
    wp_walk using wpAny_loadPart' hl, wpAny_loadPart' hb
    rw [hi1, hi2]
    show wpAny _ _ (compareOp .Lt (.int x t) (.int y u) >>= _) _ _ _
    refine wpAny_bind (PyProof.Rows.lt_int ?_)
    exact wpAny_pure h
  | succ k ih =>
    intro i hk hle hno prog w A R s h
    obtain ⟨hp, g, d, tk, os⟩ := s; obtain ⟨hl, hb, he, h⟩ := h
    wp_walk using wpAny_loadPart' hl, wpAny_loadPart' hb
    have hlt : i < items.size := by omega
    have hlt2 : i < items2.size := by omega
    have hi1 : items[((i : Nat) : Int).toNat]? = some items[i] := by simp [hlt]
    have hi2 : items2[((i : Nat) : Int).toNat]? = some items2[i] := by simp [hlt2]
    have hc : ((i : Int) + 1) = ((i + 1 : Nat) : Int) := by push_cast; rfl
    rw [hi1, hi2]
    refine wpAny_bind (he i hlt hlt2 prog w _ _ ?_)
    rw [hno i (Nat.le_refl _) (by omega)]
    wp_walk
    rw [hc]
    exact ⟨plainId_quiet plain_eq_loop _, codeAny_builtin entry_eq_loop (by
      rw [Around.under_plainId plain_eq_loop _]
      exact ih (i + 1) (by omega) (by omega) (fun m a b => hno m (by omega) b) prog w A R _ ⟨hl, hb, he, h⟩)⟩
theorem list_ltAt (l b : Addr) (items items2 : Array Value) (n n2 : Nat) (dd dd2 : Option Addr) (sl sl2 : Array (Option Value)) (e : Nat -> Bool) (j : Nat) (x y : Int) (t u : Tok) (h1 : items[j]? = some (.int x t)) (h2 : items2[j]? = some (.int y u)) (hj : e j = false) (hno : ∀ m, m < j -> e m = true) :
  Meets (Builtin.«list.__lt__» ⟨[.ref l, .ref b], []⟩)
   (fun A R s => s.heap.get? l = some { cls := .type "list", dict := dd, data := .seq items n, slots := sl } /\ s.heap.get? b = some { cls := .type "list", dict := dd2, data := .seq items2 n2, slots := sl2 } /\
    (∀ j (h1 : j < items.size) (h2 : j < items2.size), EqAt A.in1 s items[j] items2[j] (e j)) /\
    R (.ok (.ret (.bool (decide (x < y))))) s) := by
 intro prog w A R s h
 obtain ⟨hp, g, d, tk, os⟩ := s; obtain ⟨hl, hb, he, h⟩ := h
 have f3 := AutoSeq1.sub_list_list
 wp_walk using wpAny_loadPart' hl, wpAny_loadPart' hb
 exact ⟨plainId_quiet plain_eq_loop _, codeAny_builtin entry_eq_loop (by
  rw [Around.under_plainId plain_eq_loop _]
  exact lt_loopAt l b items items2 n n2 dd dd2 sl sl2 e j x y t u h1 h2 hj _ 0 rfl (Nat.zero_le _) (fun m _ b => hno m b) prog w A R _ ⟨hl, hb, he, h⟩)⟩
section
variable {prog:Program} {w:World} {A:Around} {E:Value->Shared->Prop} {s:Shared}
theorem lt_listAt {l b:Addr} {items items2:Array Value} {e:Nat->Bool} {j:Nat} {x y:Int} {t u:Tok} {Q:Value->Shared->Prop} (hl:s.heap.IsList l items) (hb:s.heap.IsList b items2) (hu:A.units < cLine)
  (he:∀ j (h1:j < items.size) (h2:j < items2.size),EqAt A.in1 s items[j] items2[j] (e j)) (h1:items[j]? = some (.int x t)) (h2:items2[j]? = some (.int y u)) (hj:e j = false) (hno:∀ m,m < j->e m = true)
  (h:Q (.bool (decide (x < y))) s):wpAny (model prog w) A (compareOp .Lt (.ref l) (.ref b)) Q E s:=by
 obtain ⟨⟨cls,dd,data,sl⟩,ho,hc,n,hd⟩:=id hl
 obtain ⟨⟨cls2,dd2,data2,sl2⟩,ho2,hc2,n2,hd2⟩:=id hb
 simp only at hc hd hc2 hd2
 subst hc hd hc2 hd2
 show wpAny _ _ (richCompare .Lt (.ref l) (.ref b)) Q E s
 exact richCompare_meets_room (op:=.Lt) ⟨_,ho,rfl⟩ ⟨_,ho2,rfl⟩ F.slot_list_lt F.entry_list_lt (F.args_list_lt_2 _ _) (list_ltAt l b items items2 n n2 dd dd2 sl sl2 e j x y t u h1 h2 hj hno)
  ⟨ho,ho2,he,show Value.bool (decide (x < y)) ≠ Value.notImplemented/\Q (.bool (decide (x < y))) s from ⟨(fun x=>nomatch x),h⟩⟩ hu
end
end PySem.SeqAt
namespace L2
open PySem PySem.Spec PyProof.Rows
theorem lt_first : ∀ {bs cs : List Nat}, bs.length = cs.length -> bs ≠ cs -> ∃ (j b c : Nat), bs[j]? = some b /\ cs[j]? = some c /\ b ≠ c /\ (b < c ↔ bs < cs) /\ ∀ m, m < j -> bs.getD m 0 = cs.getD m 0
  | [], [], _, h => absurd rfl h
  | b :: bs, c :: cs, hl, h => by
    by_cases e : b = c
    · subst e
      obtain ⟨j, x, y, h1, h2, h3, h5, h4⟩ := lt_first (bs := bs) (cs := cs) (by simpa using hl) (fun z => h (by rw [z]))
      refine ⟨j + 1, x, y, h1, h2, h3, ?_, fun m hm => ?_⟩
      · rw [h5, List.cons_lt_cons_iff]
        constructor
        · exact fun z => .inr ⟨rfl, z⟩
        · rintro (z | ⟨_, z⟩)
          · exact absurd z (Nat.lt_irrefl _)
          · exact z
      · cases m with
        | zero => rfl
        | succ m => exact h4 m (by omega)
    · refine ⟨0, b, c, rfl, rfl, e, ?_, fun m hm => by omega⟩
      rw [List.cons_lt_cons_iff]
      exact ⟨.inl, fun z => z.elim id fun w => absurd w.1 e⟩
abbrev nL (bs:List Nat):List V:=bs.map fun b:Nat=>V.int (b:Int)
def rLtL (K:PySem.W.Frag):R2:=fun x y H Q=>∃ a b bs cs,x = .ref a/\y = .ref b/\SqL K H a (nL bs)/\SqL K H b (nL cs)/\bs.length = cs.length/\bs ≠ cs/\Q (.bl (decide (bs < cs))) H
theorem op_ltL {X:Cx} (K:PySem.W.Frag) (hr:X.A.units < cLine) (hK:X.K = K:=by rfl):OpR X (compareOp .Lt) (rLtL K):=by
 subst hK
 intro pins s σ H x y v u Q I rx ry ⟨a,b,bs,cs,e1,e2,q1,q2,hl,hne,q⟩
 subst e1 e2
 cases rx
 cases ry
 obtain ⟨us,r1,p1,z1⟩:=I.list q1
 obtain ⟨ws,r2,p2,z2⟩:=I.list q2
 obtain ⟨j,m,n,h1,h2,h3,h5,h4⟩:=lt_first hl hne
 have l1:=r1.length
 have l2:=r2.length
 rw [List.length_map] at l1 l2
 obtain ⟨u1,e1,t1,rfl⟩:=r1.get (i:=j) (x:=.int (m:Int)) (by rw [List.getElem?_map,h1]; rfl)
 obtain ⟨u2,e2,t2,rfl⟩:=r2.get (i:=j) (x:=.int (n:Int)) (by rw [List.getElem?_map,h2]; rfl)
 have fl:∀ bs:List Nat,(bs.map fun b:Nat=>V.int (b:Int)).all flatV = true:=fun bs=>by rw [List.all_map,List.all_eq_true]; intro _ _; rfl
 refine SeqAt.lt_listAt (e:=fun i=>eqV ((bs.map fun b:Nat=>V.int (b:Int)).getD i .non) ((cs.map fun b:Nat=>V.int (b:Int)).getD i .non)) (j:=j) (x:=(m:Int)) (y:=(n:Int)) (t:=t1) (u:=t2) p1.isList p2.isList hr (eqVs_at r1 r2 (fl _) (fl _)) (by simpa using e1) (by simpa using e2) ?_ ?_ ?_
 ·show eqV _ _ = false
  rw [List.getD_eq_getElem?_getD,List.getD_eq_getElem?_getD,List.getElem?_map,List.getElem?_map,h1,h2]
  show decide ((m:Int) = (n:Int)) = false
  exact decide_eq_false (by omega)
 ·intro i hi
  have g:=h4 i hi
  have k1:j < bs.length:=(List.getElem?_eq_some_iff.mp h1).1
  have k2:j < cs.length:=(List.getElem?_eq_some_iff.mp h2).1
  have a1:bs[i]? = some (bs.getD i 0):=by rw [List.getD_eq_getElem?_getD,List.getElem?_eq_getElem (by omega)]; rfl
  have a2:cs[i]? = some (cs.getD i 0):=by rw [List.getD_eq_getElem?_getD,List.getElem?_eq_getElem (by omega)]; rfl
  show eqV _ _ = true
  rw [List.getD_eq_getElem?_getD,List.getD_eq_getElem?_getD,List.getElem?_map,List.getElem?_map,a1,a2,g]
  show decide (((cs.getD i 0:Nat):Int) = ((cs.getD i 0:Nat):Int)) = true
  exact decide_eq_true rfl
 ·refine ⟨.bl (decide (bs < cs)),H,I,?_,q⟩
  show Value.bool (decide ((m:Int) < (n:Int))) = Value.bool (decide (bs < cs))
  congr 1
  rw [decide_eq_decide,<- h5]
  omega
end L2
namespace L2
open PySem PySem.Spec PyProof.Rows
section
variable {X:Cx}
def gTupL (K:PySem.W.Frag) (n:Nat) (t:TGs):TG:=fun v σ H Q=>∃ a xs,v = .ref a/\SqL K H a xs/\xs.length = n/\t xs σ H Q
theorem pg_tupL (K:PySem.W.Frag) {es:List Expr} {k:Nat} {t:TGs} {n:Nat} {pos:Pos} (hc:X.calm = true) (h:PGs X es t)
  (hn:(assignEach es X.env).length = n:=by rfl) (hst:(assignEach es X.env).findIdx? (·.1) = none:=by rfl) (hK:X.K = K:=by rfl):PG X (.Tuple es k pos) (gTupL K n t):=by
 subst hK
 intro pins s σ H v u Q I r hw
 obtain ⟨a,xs,e1,hq,hl,hw⟩:=hw
 subst e1
 cases r
 obtain ⟨its,rv,ht,hz⟩:=I.list hq
 have hln:=rv.length
 rw [assign_Tuple]
 refine wpAny_bind (wpAny_standAt ?_)
 unfold unpack
 rw [show (assignEach es X.env).length = its.toArray.size by rw [hn,List.size_toArray]; omega,hst]
 refine wpAny_bind (wpAny_holding (PySem.W.kun_itemsOf (I.ok.hd hc) ht.isList fun h' hx=>?_))
 have I1:Inv X pins σ H { s with heap:=h' }:=I.kept (t':=s.toks) fun b o e=>hx b o (Nat.ne_of_lt (Heap.lt_size e)) e
 exact h pins _ σ H xs _ Q I1 (by simpa using rv) hw
end
end L2
namespace BrS
open L2 PySem BrM BrC BrB
def Bt (F:Addr->Prop) (H:Hp) (v:V):O->Prop
 | none=>v = .non
 | some (w,l)=>∃ T a,v = .ref T/\F T/\F a/\H T = some (.tup [.int w,.ref a])/\H a = some (.lst (nL l))
theorem Bt.keep {F:Addr->Prop} {H H':Hp} {v:V} {o:O} (h:Bt F H v o) (k:∀ b x,F b->H b = some x->H' b = some x):Bt F H' v o:=by
 match o,h with
 | none,h=>exact h
 | some (w,l),⟨T,a,e,f1,f2,g1,g2⟩=>exact ⟨T,a,e,f1,f2,k _ _ f1 g1,k _ _ f2 g2⟩
theorem Bt.same {F:Addr->Prop} {H H':Hp} {v:V} {o:O} (h:Bt F H v o) (s:Same H H'):Bt F H' v o:=h.keep fun b x _ z=>s b x z
theorem Bt.imp {F G:Addr->Prop} {H:Hp} {v:V} {o:O} (h:Bt F H v o) (k:∀ b x,F b->H b = some x->G b):Bt G H v o:=by
 match o,h with
 | none,h=>exact h
 | some (w,l),⟨T,a,e,f1,f2,g1,g2⟩=>exact ⟨T,a,e,k _ _ f1 g1,k _ _ f2 g2,g1,g2⟩
abbrev Any:Addr->Prop:=fun _=>True
def spLikelier:Sp:=fun vs H Q _=>∃ (v1 v2:V) (o1 o2:O),vs = [v1,v2]/\Bt Any H v1 o1/\Bt Any H v2 o2/\(∀ w l x m,o1 = some (w,l)->o2 = some (x,m)->l.length = m.length/\l ≠ m)/\∀ v H',Same H H'->((v = v1/\lik o1 o2 = o1)\/(v = v2/\lik o1 o2 = o2))->Q v H'
def spLPair:Sp:=fun vs H Q _=>∃ (p1 p2:Addr) (x y:List Int) (k:Nat),vs = [.ref p1,.ref p2]/\H p1 = some (iL x)/\H p2 = some (iL y)/\x.length = 2 * k/\y.length = 2 * k/\k <= 4/\Sm x/\Sm y /\
 ∀ v o H',Same H H'->Bt (fun b=>H b = none) H' v o->Best (Pk k) (fun l=>x.getD (l.getD 0 0) 0 * y.getD (l.getD 1 0) 0) o->Q v H'
def Sz (o:O):Prop:=∀ w l,o = some (w,l)->w.natAbs < big/\l.length <= 40
def spRound:Sp:=fun vs H Q _=>∃ (v1 v2:V) (o1 o2:O),vs = [v1,v2]/\Bt Any H v1 o1/\Bt Any H v2 o2/\(∀ w l,o1 = some (w,l)->l.length = 2)/\Sz o1/\Sz o2/\∀ v H',Same H H'->Bt (fun b=>H b = none) H' v (rnd o1 o2)->Q v H'
def spBehindO:Sp:=fun vs H Q _=>∃ (v1 v2:V) (o1 o2:O),vs = [v1,v2]/\Bt Any H v1 o1/\Bt Any H v2 o2/\Sz o1/\Sz o2/\∀ v H',Same H H'->Bt (fun b=>H b = none) H' v (beh o1 o2)->Q v H'
def rwv (n:Nat) (f:Nat->V):List V:=(List.range (n + 1)).map f
theorem rwv_len (n:Nat) (f:Nat->V):(rwv n f).length = n + 1:=by simp [rwv]
theorem rwv_get {n j:Nat} {f:Nat->V} (h:j <= n):(rwv n f)[j]? = some (f j):=by
 unfold rwv
 rw [List.getElem?_map,List.getElem?_range (by omega)]; rfl
theorem rwv_set {n j:Nat} {f:Nat->V} {v:V}:(rwv n f).set j v = rwv n (fun x=>if x = j then v else f x):=by
 apply List.ext_getElem?
 intro i
 unfold rwv
 rw [List.getElem?_set,List.getElem?_map,List.getElem?_map]
 by_cases e:j = i
 ·subst e
  by_cases hj:j < n + 1
  ·rw [List.getElem?_range hj]; simp [hj]
  ·rw [if_pos rfl,if_neg (by simpa using hj)]
   rw [List.getElem?_eq_none (by simpa using hj)]; rfl
 ·rw [if_neg e]
  by_cases hi:i < n + 1
  ·rw [List.getElem?_range hi]; simp [Ne.symm e]
  ·rw [List.getElem?_eq_none (by simpa using hi)]; rfl
structure Tv (H0 H1 H:Hp) (s:Addr) (ad:Nat->Addr) (n:Nat) (T:Nat->Nat->V):Prop where
 fs:H0 s = none
 fa:∀ i,i <= n->H0 (ad i) = none
 ns:∀ i,i <= n->ad i ≠ s
 inj:∀ i j,i <= n->j <= n->ad i = ad j->i = j
 old:∀ i,i <= n->H1 (ad i) ≠ none
 top:H s = some (.lst ((List.range (n + 1)).map fun i=>V.ref (ad i)))
 row:∀ i,i <= n->H (ad i) = some (.lst (rwv n (T i)))
 sm:Same H0 H
 gr:∀ b,H b = none->H1 b = none
section
variable {H0 H1 H H':Hp} {s:Addr} {ad:Nat->Addr} {n:Nat} {T T':Nat->Nat->V}
theorem Tv.same (t:Tv H0 H1 H s ad n T) (h:Same H H'):Tv H0 H1 H' s ad n T:=⟨t.fs,t.fa,t.ns,t.inj,t.old,h _ _ t.top,fun i hi=>h _ _ (t.row i hi),t.sm.trans h,fun b z=>t.gr b (h.free z)⟩
theorem Tv.at (t:Tv H0 H1 H s ad n T) {i:Nat} (hi:i <= n):((List.range (n + 1)).map fun i=>V.ref (ad i))[i]? = some (.ref (ad i)):=by
 rw [List.getElem?_map,List.getElem?_range (by omega)]; rfl
theorem Tv.set (t:Tv H0 H1 H s ad n T) {i j:Nat} {v:V} (hi:i <= n):Tv H0 H1 (upd H (ad i) (.lst ((rwv n (T i)).set j v))) s ad n (fun a b=>if a = i then (if b = j then v else T a b) else T a b):=by
 refine ⟨t.fs,t.fa,t.ns,t.inj,t.old,by rw [upd_ne (Ne.symm (t.ns i hi))]; exact t.top,fun a ha=>?_,fun b o z=>?_,fun b z=>?_⟩
 ·by_cases e:a = i
  ·subst e
   rw [upd_same,rwv_set]
   simp
  ·rw [upd_ne (fun z=>e (t.inj a i ha hi z)),t.row a ha]
   simp [e]
 ·rw [upd_ne (ne_of_none z (t.fa i hi))]; exact t.sm b o z
 ·by_cases e:b = ad i
  ·subst e; rw [upd_same] at z; cases z
  ·rw [upd_ne e] at z; exact t.gr b z
theorem Tv.keep (t:Tv H0 H1 H s ad n T) {i:Nat} (hi:i <= n) {o:HO} (b:Addr) (x:HO) (f:H1 b = none) (z:H b = some x):(upd H (ad i) o) b = some x:=by
 have ne:b ≠ ad i:=fun e=>t.old i hi (by rw [<- e]; exact f)
 rw [upd_ne ne]; exact z
end
def spSpansL:Sp:=fun vs H Q _=>∃ (p:Addr) (ps:List (List Int)) (k:Nat),vs = [.ref p]/\Pls H p ps/\ps.length <= 40/\k <= 4/\(∀ l ∈ ps,l.length = 2 * k/\Sm l) /\
 ∀ (s r:Addr) (rs:List V) (xs:List V) (v:V) (o:O) (H':Hp),Same H H'->H' s = some (.lst (.ref r :: rs))->H' r = some (.lst (xs ++ [v]))->Bt Any H' v o->Best (Dn k 0 ps.length) (wtl (PP ps) 0) o->Q (.ref s) H'
theorem spansL_use {H:Hp} {p:Addr} {ps:List (List Int)} {k:Nat} {Q:VK} {E:XK} (h1:Pls H p ps) (h2:ps.length <= 40) (h3:k <= 4) (h4:∀ l ∈ ps,l.length = 2 * k/\Sm l)
 (q:∀ (s r:Addr) (rs:List V) (xs:List V) (v:V) (o:O) (H':Hp),Same H H'->H' s = some (.lst (.ref r :: rs))->H' r = some (.lst (xs ++ [v]))->Bt Any H' v o->Best (Dn k 0 ps.length) (wtl (PP ps) 0) o->Q (.ref s) H'):spSpansL ([.ref p] ++ []) H Q E:=⟨p,ps,k,rfl,h1,h2,h3,h4,q⟩
def brx (l:List Nat):List Nat:=l.map fun b=>brs.getD b 0
def Ft (H:Hp) (v:V):O->Prop
 | none=>v = .non
 | some (w,l)=>∃ T,v = .ref T/\H T = some (.tup [.int w,tx (brx l)])
def spFirstL:Sp:=fun vs H Q _=>∃ (p:Addr) (ps:List (List Int)) (k:Nat),vs = [.ref p]/\Pls H p ps/\ps.length <= 40/\k <= 4/\(∀ l ∈ ps,l.length = 2 * k/\Sm l) /\
 ∀ (v:V) (o:O) (H':Hp),Same H H'->Ft H' v o->Best (Dn k 0 ps.length) (wtl (PP ps) 0) o->Q v H'
theorem wtl_cap {ps : List (List Int)} (h : ∀ l ∈ ps, Sm l) : ∀ (l : List Nat) (s : Nat), 0 <= wtl (PP ps) s l /\ wtl (PP ps) s l <= top30 ^ l.length
  | [], s => by rw [wtl]; exact ⟨by decide, by decide⟩
  | b :: l, s => by
    obtain ⟨a1, a2⟩ := wtl_cap h l (s + 1)
    obtain ⟨b1, b2⟩ := PP_bound h s b
    rw [wtl, List.length_cons, Int.pow_succ, Int.mul_comm (top30 ^ l.length)]
    exact ⟨Int.mul_nonneg b1 a1, Int.mul_le_mul b2 a2 a1 (by decide)⟩
theorem top_pow {n : Nat} (h : n <= 40) : top30 ^ n <= top30 ^ 40 := by
  have : ∀ m, top30 ^ n <= top30 ^ (n + m) := by
    intro m
    induction m with
    | zero => exact Int.le_refl _
    | succ m ih =>
      rw [show n + (m + 1) = (n + m) + 1 by omega, Int.pow_succ]
      have h0 : 0 <= top30 ^ (n + m) := Int.pow_nonneg (by decide)
      have h1 : (1 : Int) <= top30 := by decide
      calc top30 ^ n <= top30 ^ (n + m) * 1 := by rw [Int.mul_one]; exact ih
        _ <= top30 ^ (n + m) * top30 := Int.mul_le_mul_of_nonneg_left h1 h0
  have := this (40 - n)
  rwa [show n + (40 - n) = 40 by omega] at this
theorem topp_big:(top30 ^ 40).natAbs < big:=by unfold big top30; decide +kernel
theorem best_sz {ps:List (List Int)} (h:∀ l ∈ ps,Sm l) {S:List Nat->Prop} {s:Nat} {o:O} (hS:∀ l,S l->l.length <= 40) (hb:Best S (wtl (PP ps) s) o):Sz o:=by
 rintro w l rfl
 obtain ⟨b1,b2,_⟩:=hb
 have hl:=hS l b1
 obtain ⟨c1,c2⟩:=wtl_cap h l s
 rw [b2] at c1 c2
 exact ⟨big_of c1 (Int.le_trans c2 (top_pow hl)) topp_big,hl⟩
theorem topp2_big:(top30 * top30 * top30 ^ 40).natAbs < big:=by unfold big top30; decide +kernel
end BrS
namespace PySem
open Sem (wp)
end PySem
namespace L2
open PySem PySem.Spec PyProof.Rows
section
variable {P:Program} {w:World} {K:PySem.W.Frag} {elts:List Expr} {k:Nat} {tpos:Pos}
end
section
variable {X:Cx} {a b:Expr} {ta:TA} {p pos:Pos} {elts:List Expr} {k:Nat} {tpos:Pos}
end
end L2
namespace BrB
open BrM BrC BrS
abbrev Fe:=List Nat × List Nat
def okc (c b:Nat):Bool:=decide (c = 63\/c = brs.getD b 0)
def Mt (a l:List Nat):Prop:=∀ i,i < l.length->okc (a.getD i 0) (l.getD i 0) = true
end BrB
namespace BrS
open L2 PySem BrM BrC BrB BrR
def spNeeds:Sp:=fun vs H Q _=>∃ c b:Nat,vs = [tx [c],tx [b]]/\∀ H',Same H H'->Q (.bl (!decide (c = 63\/c = b))) H'
def plc (k c:Nat):List Int:=(brs.take (2 * k)).map fun b=>if c = 63\/c = b then 2 else 1
def spPlacesC:Sp:=fun vs H Q _=>∃ (k:Int) (a:List Nat),vs = [.int k,tx a]/\1 <= k/\k <= 4/\a.length <= 40/\∀ r H',H r = none->Same H H'->Pls H' r (a.map (plc k.toNat))->Q (.ref r) H'
theorem plc_len {k c:Nat} (h:k <= 4):(plc k c).length = 2 * k:=by
 unfold plc
 rw [List.length_map,List.length_take]
 show min (2 * k) 8 = 2 * k
 omega
theorem plc_sm (k c:Nat):Sm (plc k c):=by
 intro v hv
 unfold plc at hv
 obtain ⟨b,_,rfl⟩:=List.mem_map.mp hv
 split <;> exact ⟨by decide,by decide⟩
theorem plc_at {k c b:Nat} (hk:k <= 4) (hb:b < 2 * k):(plc k c).getD b 0 = if okc c b = true then 2 else 1:=by
 unfold plc okc
 rw [List.getD_eq_getElem?_getD,List.getElem?_map,List.getElem?_take_of_lt hb,brs_get (by omega)]
 show (if c = 63\/c = brs.getD b 0 then (2:Int) else 1) = _
 by_cases h:c = 63\/c = brs.getD b 0
 ·rw [if_pos h,if_pos (decide_eq_true h)]
 ·rw [if_neg h,if_neg (by rw [decide_eq_false h]; decide)]
def chg:List Nat->List Nat->Nat
 | c :: a,b :: l=>(if okc c b = true then 0 else 1) + chg a l
 | _,_=>0
theorem chg_le : ∀ (a l : List Nat), chg a l <= l.length
  | [], l => by unfold chg; exact Nat.zero_le _
  | c :: a, [] => by unfold chg; exact Nat.zero_le _
  | c :: a, b :: l => by
    have := chg_le a l
    unfold chg
    rw [List.length_cons]
    split <;> omega
theorem wtl_chg {k : Nat} (hk : k <= 4) : ∀ (a l : List Nat) (ps : List (List Int)) (s : Nat), a.length = l.length -> (∀ b ∈ l, b < 2 * k) -> (∀ i, i < l.length -> ps.getD (s + i) [] = plc k (a.getD i 0)) -> wtl (PP ps) s l = 2 ^ (l.length - chg a l)
  | [], [], ps, s, _, _, _ => rfl
  | c :: a, b :: l, ps, s, hl, hb, hp => by
    have h0 := hp 0 (by simp)
    have ih := wtl_chg hk a l ps (s + 1) (by simpa using hl) (fun x hx => hb x (List.mem_cons_of_mem _ hx)) (fun i hi => by
      have := hp (i + 1) (by simpa using hi)
      rw [show s + 1 + i = s + (i + 1) by omega, this]; rfl)
    rw [wtl, ih]
    have e : PP ps s b = if okc c b = true then 2 else 1 := by
      show (ps.getD s []).getD b 0 = _
      rw [Nat.add_zero] at h0
      rw [h0]
      exact plc_at hk (hb b (List.mem_cons_self ..))
    rw [e]
    have hc := chg_le a l
    by_cases o : okc c b = true
    · rw [if_pos o]
      have : chg (c :: a) (b :: l) = chg a l := by rw [chg, if_pos o, Nat.zero_add]
      rw [this, List.length_cons, show l.length + 1 - chg a l = (l.length - chg a l) + 1 by omega, Int.pow_succ, Int.mul_comm]
    · rw [if_neg o]
      have : chg (c :: a) (b :: l) = 1 + chg a l := by rw [chg, if_neg o]
      rw [this, List.length_cons, show l.length + 1 - (1 + chg a l) = l.length - chg a l by omega, Int.one_mul]
  | [], _ :: _, _, _, hl, _, _ => by cases hl
  | _ :: _, [], _, _, hl, _, _ => by cases hl
def FtC (a:List Nat) (H:Hp) (v:V):O->Prop
 | none=>v = .non
 | some (w,l)=>∃ T,v = .ref T/\H T = some (.tup [.int (chg a l),tx (brx l)])
abbrev Pc (k:Nat) (a:List Nat):Nat->Nat->Int:=PP (a.map (plc k))
theorem pow2_lt {m n:Nat} (h:m < n):(2:Int) ^ m < 2 ^ n:=by
 have:∀ d,(2:Int) ^ m < 2 ^ (m + 1 + d):=by
  intro d
  induction d with
  | zero=>rw [Nat.add_zero,Int.pow_succ]; have:(0:Int) < 2 ^ m:=Int.pow_pos (by decide); omega
  | succ d ih=>rw [<- Nat.add_assoc,Int.pow_succ]; have:(0:Int) < 2 ^ (m + 1 + d):=Int.pow_pos (by decide); omega
 have:=this (n - (m + 1))
 rwa [show m + 1 + (n - (m + 1)) = n by omega] at this
theorem in_2x (c b:Nat):inV (tx [c]) [tx [63],tx [b]] = decide (c = 63\/c = b):=by
 unfold inV
 simp only [List.any_cons,List.any_nil,eqV_tx]
 by_cases h1:c = 63 <;> by_cases h2:c = b <;> simp [h1,h2,eq_comm] <;> omega
theorem last_atx (ds:List V) (x:V):atI (ds ++ [x]) (-1) = some x:=atI_end (by simp) (by simp)
theorem chg_sum : ∀ (a l : List Nat), a.length = l.length -> ((List.range a.length).map fun i => (if okc (a.getD i 0) (l.getD i 0) = true then (0 : Int) else 1)).sum = chg a l
  | [], [], _ => rfl
  | c :: a, b :: l, h => by
    have ih := chg_sum a l (by simpa using h)
    rw [List.length_cons, List.range_succ_eq_map, List.map_cons, List.map_map, List.sum_cons]
    have e : ((List.range a.length).map ((fun i => (if okc ((c :: a).getD i 0) ((b :: l).getD i 0) = true then (0 : Int) else 1)) ∘ Nat.succ)) = (List.range a.length).map fun i => (if okc (a.getD i 0) (l.getD i 0) = true then (0 : Int) else 1) := List.map_congr_left fun i _ => rfl
    rw [e, ih, chg]
    show (if okc c b = true then (0 : Int) else 1) + _ = _
    split <;> simp
  | [], _ :: _, h => by cases h
  | _ :: _, [], h => by cases h
def Fs (fu:Addr) (H:Hp) (vs:List V) (es:List Fe):Prop:=vs.length = es.length/\∀ (i:Nat) (e:Fe),es[i]? = some e->∃ T p s:Addr,vs[i]? = some (V.ref T)/\T ≠ fu/\p ≠ fu/\s ≠ fu/\H T = some (.tup [.ref p,.ref s])/\H p = some (.lst (nL e.1))/\H s = some (.lst (nL e.2.reverse))
theorem Fs.nil (fu:Addr) (H:Hp):Fs fu H [] []:=⟨rfl,fun i e he=>by simp at he⟩
end BrS
namespace L2
open PySem PySem.Spec PyProof.Rows
section
variable {σ:St} {H:Hp} {Q:VK} {K:PySem.W.Frag}
end
end L2
namespace BrS
open L2 PySem BrM BrC BrB BrR
end BrS
namespace BrS
open L2 PySem PyProof.Rows BrM BrC BrB BrR
end BrS
namespace BrB
open BrM BrC BrS
end BrB
namespace BrB
open BrM BrC BrS
theorem Best.ext {S S':List Nat->Prop} {f:List Nat->Int} {o:O} (h:Best S f o) (h1:∀ l,S l->S' l) (h2:∀ l,S' l->S l\/f l <= 0):Best S' f o:=by
 match o,h with
 | none,h=>exact fun l hl=>(h2 l hl).elim (h l) id
 | some (w,l),⟨a,b,c,d⟩=>exact ⟨h1 l a,b,c,fun m hm=>(h2 m hm).elim (d m) fun z=>.inl (by omega)⟩
end BrB
namespace BrS
open L2 PySem PySem.Spec PyProof.Rows BrM BrC BrB BrR
end BrS
namespace BrI
open BrM BrC BrS
section
variable {P:Nat->Nat->Int} {k n:Nat}
theorem tb_self (i:Nat):tbl P k i i = 1:=by unfold tbl; rw [if_pos (Nat.le_refl _),Nat.sub_self]; rfl
theorem tb_gt {i j:Nat} (h:j < i):tbl P k i j = 0:=by unfold tbl; rw [if_neg (by omega)]
def Of (P:Nat->Nat->Int) (k n:Nat):Nat->Nat->Nat->Int
 | 0,_,_=>0
 | f + 1,t,j=>(if j = n then tbl P k 0 t else 0) + sm n (fun u=>tbl P k (u + 1) t * (pr P k u j * sm (n + 1) (fun s=>Of P k n f u s * tbl P k (j + 1) s)))
theorem Of_next : ∀ (f t j : Nat), t < f -> Of P k n f t j = Of P k n (f + 1) t j
  | 0, t, j, h => absurd h (Nat.not_lt_zero _)
  | f + 1, t, j, h => by
    rw [Of, Of.eq_def (n := n) (P := P) (k := k) (f + 1 + 1)]
    simp only
    congr 1
    refine sm_congr n fun u hu => ?_
    by_cases e : u < t
    · congr 2
      exact sm_congr (n + 1) fun s _ => by rw [Of_next f u s (by omega)]
    · rw [tb_gt (i := u + 1) (j := t) (by omega)]; simp
def Oo (P:Nat->Nat->Int) (k n t j:Nat):Int:=Of P k n (n + 1) t j
def out (P:Nat->Nat->Int) (k n u j:Nat):Int:=sm (n + 1) (fun s=>Oo P k n u s * tbl P k (j + 1) s)
theorem Oo_eq {t j:Nat} (h:t <= n):Oo P k n t j = (if j = n then tbl P k 0 t else 0) + sm n (fun u=>tbl P k (u + 1) t * (pr P k u j * out P k n u j)):=by
 unfold Oo out
 rw [Of]
 congr 1
 refine sm_congr n fun u hu=>?_
 by_cases e:u < t
 ·congr 2
  refine sm_congr (n + 1) fun s _=>?_
  unfold Oo
  rw [Of_next n u s (by omega)]
 ·rw [tb_gt (i:=u + 1) (j:=t) (by omega)]; simp
theorem Oo_zero (j:Nat):Oo P k n 0 j = if j = n then 1 else 0:=by
 rw [Oo_eq (Nat.zero_le _),tb_self,sm_zero n fun u _=>by rw [tb_gt (i:=u + 1) (j:=0) (by omega)]; simp]
 omega
end
section
variable {P P':Nat->Nat->Int} {k n i:Nat}
end
end BrI
namespace BrI
open BrM BrC BrS
section
variable {P:Nat->Nat->Int} {k n:Nat} {c:Int}
theorem cv_nn {P:Nat->Nat->Int} {k:Nat} (h0:∀ i b,0 <= P i b):∀ (n i:Nat) (st:List Nat),0 <= cv P k n i st
 | 0,_,[]=>by rw [cv]; decide
 | 0,_,_ :: _=>by rw [cv]; decide
 | n + 1,i,[]=>by rw [cv_nil]; exact sm_nonneg k fun p _=>Int.mul_nonneg (h0 _ _) (cv_nn h0 _ _ _)
 | n + 1,i,o :: r=>by rw [cv_cons]; exact Int.add_nonneg (sm_nonneg k fun p _=>Int.mul_nonneg (h0 _ _) (cv_nn h0 _ _ _)) (Int.mul_nonneg (h0 _ _) (cv_nn h0 _ _ _))
end
end BrI
namespace BrS
open L2 PySem BrM BrC BrB BrI BrR
def rst (P:Nat->Nat->Int) (k n s e:Nat):Int:=tbl P k (s + 1) e * out P k n s e
def Fp (P:Nat->Nat->Int) (k n:Nat) (H:Hp) (vs:List V) (L:List (Nat × Nat)):Prop:=vs.length = L.length/\∀ (m:Nat) (x:Nat × Nat),L[m]? = some x->∃ T:Addr,vs[m]? = some (V.ref T)/\H T = some (.tup [.int x.1,.int x.2,.int (rst P k n x.1 x.2)])
theorem Fp.lst {P:Nat->Nat->Int} {k n:Nat} {H:Hp} {vs:List V} {L:List (Nat × Nat)} {a:Addr} {xs:List V} {o:HO} (h:Fp P k n H vs L) (ha:H a = some (.lst xs)):Fp P k n (upd H a o) vs L:=⟨h.1,fun m x hx=>by
 obtain ⟨T,e,b⟩:=h.2 m x hx
 exact ⟨T,e,by rw [upd_ne (ne_of b ha (fun z=>by cases z))]; exact b⟩⟩
def ot (P:Nat->Nat->Int) (k n s q r i j:Nat):Int :=
 if i <= s then Oo P k n i j else
  sm s (fun u=>Oo P k n u j * (pr P k u (i - 1) * tbl P k (u + 1) (i - 1))) +
  (if s < i - 1/\(i - 1 < s + 1 + 2 * q\/(i - 1 = s + 1 + 2 * q/\j < r)) then Oo P k n s j * (pr P k s (i - 1) * tbl P k (s + 1) (i - 1)) else 0) +
  (if i = s + 1/\j < s + 1 + 2 * q then pr P k s j * out P k n s j else 0)
def OkT (P:Nat->Nat->Int) (k n s q r:Nat) (T:Nat->Nat->Int):Prop:=∀ i j,i <= j->j <= n->(j - i) % 2 = 0->T i j = ot P k n s q r i j
theorem OkT.zero {P:Nat->Nat->Int} {k n:Nat} {T:Nat->Nat->Int} (h:∀ i j,T i j = if i = 0/\j = n then 1 else 0):OkT P k n 0 0 0 T:=by
 intro i j h1 h2 h3
 rw [h]
 unfold ot
 by_cases e:i = 0
 ·subst e
  rw [if_pos (Nat.le_refl _),Oo_zero]
  by_cases z:j = n
  ·rw [if_pos ⟨rfl,z⟩,if_pos z]
  ·rw [if_neg (fun w=>z w.2),if_neg z]
 ·rw [if_neg (fun w=>e w.1),if_neg (by omega),if_neg (by omega),if_neg (by omega)]; rfl
theorem OkT.row {P:Nat->Nat->Int} {k n s q r j:Nat} {T:Nat->Nat->Int} (h:OkT P k n s q r T) (h1:s <= j) (h2:j <= n) (h3:(j - s) % 2 = 0):T s j = Oo P k n s j:=by
 rw [h s j h1 h2 h3]; unfold ot; rw [if_pos (Nat.le_refl _)]
section
variable {ps:List (List Int)} {k n:Nat}
end
def rw2 (m:Nat) (f:Nat->Int):List V:=(List.range m).map fun j=>V.int (f j)
theorem rw2_set {m j:Nat} {f:Nat->Int} {v:Int}:(rw2 m f).set j (.int v) = rw2 m (fun x=>if x = j then v else f x):=by
 apply List.ext_getElem?
 intro i
 unfold rw2
 rw [List.getElem?_set,List.getElem?_map,List.getElem?_map]
 by_cases e:j = i
 ·subst e
  by_cases hj:j < m
  ·rw [List.getElem?_range hj]; simp [hj]
  ·rw [if_pos rfl,if_neg (by simpa using hj)]
   rw [List.getElem?_eq_none (by simpa using hj)]; rfl
 ·rw [if_neg e]
  by_cases hi:i < m
  ·rw [List.getElem?_range hi]; simp [Ne.symm e]
  ·rw [List.getElem?_eq_none (by simpa using hi)]; rfl
theorem rw2_congr {m:Nat} {f g:Nat->Int} (h:∀ j,j < m->f j = g j):rw2 m f = rw2 m g:=by
 unfold rw2
 refine List.map_congr_left fun j hj=>?_
 rw [h j (List.mem_range.mp hj)]
structure Tw (H0 H:Hp) (s:Addr) (ad:Nat->Addr) (n m:Nat) (T:Nat->Nat->Int):Prop where
 fs:H0 s = none
 fa:∀ i,i < n->H0 (ad i) = none
 ns:∀ i,i < n->ad i ≠ s
 inj:∀ i j,i < n->j < n->ad i = ad j->i = j
 top:H s = some (.lst ((List.range n).map fun i=>V.ref (ad i)))
 row:∀ i,i < n->H (ad i) = some (.lst (rw2 m (T i)))
 sm:Same H0 H
section
variable {H0 H H':Hp} {s:Addr} {ad:Nat->Addr} {n m:Nat} {T T':Nat->Nat->Int}
theorem Tw.congr (t:Tw H0 H s ad n m T) (h:∀ i j,i < n->j < m->T i j = T' i j):Tw H0 H s ad n m T':=⟨t.fs,t.fa,t.ns,t.inj,t.top,fun i hi=>by rw [t.row i hi,rw2_congr fun j hj=>h i j hi hj],t.sm⟩
theorem Tw.at (t:Tw H0 H s ad n m T) {i:Nat} (hi:i < n):((List.range n).map fun i=>V.ref (ad i))[i]? = some (.ref (ad i)):=by
 rw [List.getElem?_map,List.getElem?_range hi]; rfl
theorem Tw.set (t:Tw H0 H s ad n m T) {i j:Nat} {v:Int} (hi:i < n):Tw H0 (upd H (ad i) (.lst ((rw2 m (T i)).set j (.int v)))) s ad n m (fun a b=>if a = i/\b = j then v else T a b):=by
 refine ⟨t.fs,t.fa,t.ns,t.inj,by rw [upd_ne (Ne.symm (t.ns i hi))]; exact t.top,fun a ha=>?_,fun b o z=>?_⟩
 ·by_cases e:a = i
  ·subst e
   rw [upd_same,rw2_set]
   congr 2
   refine rw2_congr fun x _=>?_
   by_cases q:x = j <;> simp [q]
  ·rw [upd_ne (fun z=>e (t.inj a i ha hi z)),t.row a ha]
   congr 2
   refine rw2_congr fun x _=>?_
   simp [e]
 ·rw [upd_ne (ne_of_none z (t.fa i hi))]; exact t.sm b o z
end
section
variable {K:PySem.W.Frag} {σ:St} {H:Hp} {Q:VK}
end
end BrS
namespace PySem
open Sem (wp)
end PySem
namespace L2
open PySem PySem.Spec PyProof.Rows
section
variable {P:Program} {w:World} {K:PySem.W.Frag} {elts:List Expr} {k:Nat} {tpos:Pos}
end
section
variable {X:Cx} {a b:Expr} {ta:TA} {p pos:Pos} {elts:List Expr} {k:Nat} {tpos:Pos}
end
end L2
namespace L2
open PySem PySem.Spec PyProof.Rows
end L2
namespace BrS
open L2 PySem PySem.Spec PyProof.Rows BrM BrC BrB BrI BrR
section
variable {σ:L2.St} {H:Hp} {Q:VK}
end
end BrS
namespace L2
open PySem PySem.Spec PyProof.Rows
section
variable {X:Cx} {pins:List (Addr × Obj)} {σ:St} {H:Hp} {s:Shared} {a:Addr} {kvs:List (Key × V)} {k:Key} {v:V} {u r:Value} {A:Around} {E:Value->Shared->Prop}
end
section
variable {prog:Program} {w:World} {A:Around} {R:Result->Shared->Prop} {s:Shared}
end
section
variable {X:Cx}
end
end L2
namespace L2
open PySem PySem.Spec PyProof.Rows PySem.SeqAt
end L2
namespace BrS
open L2 PySem PySem.Spec PyProof.Rows BrM BrC BrB BrI BrR
def Prl (H:Hp) (vs:List V) (L:List (Nat × Nat)):Prop:=vs.length = L.length/\∀ (m:Nat) (x:Nat × Nat),L[m]? = some x->∃ T:Addr,vs[m]? = some (V.ref T)/\H T = some (.tup [.int x.1,.int x.2])
theorem Prl.lst {H:Hp} {vs:List V} {L:List (Nat × Nat)} {a:Addr} {xs:List V} {o:HO} (h:Prl H vs L) (ha:H a = some (.lst xs)):Prl (upd H a o) vs L:=⟨h.1,fun m x hx=>by
 obtain ⟨T,e,b⟩:=h.2 m x hx
 exact ⟨T,e,by rw [upd_ne (ne_of b ha (fun z=>by cases z))]; exact b⟩⟩
def Sll (H:Hp) (vs:List V) (L:List (Nat × Nat)):Prop:=vs.length = L.length/\∀ (m:Nat) (x:Nat × Nat),L[m]? = some x->∃ T:Addr,vs[m]? = some (V.ref T)/\H T = some (.tup [.int x.1,tx [brs.getD x.2 0]])
theorem Sll.lst {H:Hp} {vs:List V} {L:List (Nat × Nat)} {a:Addr} {xs:List V} {o:HO} (h:Sll H vs L) (ha:H a = some (.lst xs)):Sll (upd H a o) vs L:=⟨h.1,fun m x hx=>by
 obtain ⟨T,e,b⟩:=h.2 m x hx
 exact ⟨T,e,by rw [upd_ne (ne_of b ha (fun z=>by cases z))]; exact b⟩⟩
end BrS
namespace BrI
open BrM BrC BrS BrB
theorem sm_pos {f : Nat -> Int} : ∀ {n : Nat}, (∀ i, i < n -> 0 <= f i) -> (0 < sm n f ↔ ∃ i, i < n /\ 0 < f i)
  | 0, _ => ⟨fun h => absurd h (by simp [sm]), fun ⟨i, h, _⟩ => absurd h (Nat.not_lt_zero _)⟩
  | n + 1, h => by
    have ih := sm_pos (f := f) (n := n) fun i hi => h i (by omega)
    have h1 := sm_nonneg (f := f) n fun i hi => h i (by omega)
    have h2 := h n (by omega)
    rw [sm]
    constructor
    · intro q
      by_cases e : 0 < f n
      · exact ⟨n, by omega, e⟩
      · obtain ⟨i, hi, hf⟩ := ih.mp (by omega)
        exact ⟨i, by omega, hf⟩
    · rintro ⟨i, hi, hf⟩
      by_cases e : i = n
      · subst e; omega
      · have := ih.mpr ⟨i, by omega, hf⟩; omega
theorem mul_pos_iff {x y:Int} (hx:0 <= x) (hy:0 <= y):0 < x * y ↔ 0 < x/\0 < y:=by
 constructor
 ·intro h
  refine ⟨?_,?_⟩
  ·by_cases e:x = 0
   ·subst e; simp at h
   ·omega
  ·by_cases e:y = 0
   ·subst e; simp at h
   ·omega
 ·rintro ⟨a,b⟩; exact Int.mul_pos a b
def Fits (P:Nat->Nat->Int) (i:Nat) (v:List Nat):Prop:=∀ j,j < v.length->0 < P (i + j) (v.getD j 0)
theorem fit_cons {P : Nat -> Nat -> Int} {i b : Nat} {v : List Nat} : Fits P i (b :: v) ↔ 0 < P i b /\ Fits P (i + 1) v := by
  constructor
  · intro h
    refine ⟨h 0 (by simp), fun j hj => ?_⟩
    have := h (j + 1) (by simpa using hj)
    rw [show i + 1 + j = i + (j + 1) by omega]; exact this
  · rintro ⟨h1, h2⟩ j hj
    cases j with
    | zero => exact h1
    | succ j =>
      have := h2 j (by simpa using hj)
      rw [show i + (j + 1) = i + 1 + j by omega]; exact this
theorem fit_nil (P:Nat->Nat->Int) (i:Nat):Fits P i []:=fun j hj=>absurd hj (Nat.not_lt_zero _)
section
variable {P:Nat->Nat->Int} {k:Nat}
theorem cv_pos (h0 : ∀ i b, 0 <= P i b) : ∀ (m i : Nat) (st : List Nat), (∀ o ∈ st, o < k) -> (0 < cv P k m i st ↔ ∃ v : List Nat, v.length = m /\ go k st v = some [] /\ Fits P i v)
  | 0, i, [], _ => ⟨fun _ => ⟨[], rfl, go_nil _, fit_nil P i⟩, fun _ => by simp [cv]⟩
  | 0, i, o :: s, _ => by
    refine ⟨fun h => absurd h (by simp [cv]), ?_⟩
    rintro ⟨v, hv, hg, _⟩
    have : v = [] := List.length_eq_zero_iff.mp hv
    subst this
    rw [go_nil] at hg
    cases hg
  | m + 1, i, st, hst => by
    have nn : ∀ i st, 0 <= cv P k m i st := fun i st => cv_nn h0 m i st
    have key : 0 < cv P k (m + 1) i st ↔ (∃ p, p < k /\ 0 < P i (2 * p) /\ 0 < cv P k m (i + 1) (p :: st)) \/ (∃ o s, st = o :: s /\ 0 < P i (2 * o + 1) /\ 0 < cv P k m (i + 1) s) := by
      have hs := sm_pos (f := fun p => P i (2 * p) * cv P k m (i + 1) (p :: st)) (n := k) fun p _ => Int.mul_nonneg (h0 _ _) (nn _ _)
      have hsn := sm_nonneg (f := fun p => P i (2 * p) * cv P k m (i + 1) (p :: st)) k fun p _ => Int.mul_nonneg (h0 _ _) (nn _ _)
      have h1 : (0 < sm k fun p => P i (2 * p) * cv P k m (i + 1) (p :: st)) ↔ ∃ p, p < k /\ 0 < P i (2 * p) /\ 0 < cv P k m (i + 1) (p :: st) := by
        rw [hs]
        constructor
        · rintro ⟨p, hp, q⟩; exact ⟨p, hp, (mul_pos_iff (h0 _ _) (nn _ _)).mp q⟩
        · rintro ⟨p, hp, q⟩; exact ⟨p, hp, (mul_pos_iff (h0 _ _) (nn _ _)).mpr q⟩
      cases st with
      | nil =>
        rw [cv_nil, h1]
        exact ⟨.inl, fun z => z.elim id fun ⟨o, s, e, _⟩ => nomatch e⟩
      | cons o s =>
        have h2 := mul_pos_iff (h0 i (2 * o + 1)) (nn (i + 1) s)
        have h3 := Int.mul_nonneg (h0 i (2 * o + 1)) (nn (i + 1) s)
        rw [cv_cons]
        constructor
        · intro z
          by_cases e : 0 < sm k fun p => P i (2 * p) * cv P k m (i + 1) (p :: o :: s)
          · exact .inl (h1.mp e)
          · exact .inr ⟨o, s, rfl, h2.mp (by omega)⟩
        · rintro (z | ⟨o', s', e, z⟩)
          · have := h1.mpr z
            omega
          · cases e
            have := h2.mpr z
            omega
    rw [key]
    constructor
    · rintro (⟨p, hp, h1, h2⟩ | ⟨o, s, rfl, h1, h2⟩)
      · obtain ⟨v, hv, hg, hf⟩ := (cv_pos h0 m (i + 1) (p :: st) (fun o ho => by rcases List.mem_cons.mp ho with rfl | ho; exact hp; exact hst o ho)).mp h2
        exact ⟨2 * p :: v, by simp [hv], by rw [go_open _ _ hp]; exact hg, fit_cons.mpr ⟨h1, hf⟩⟩
      · have ho := hst o List.mem_cons_self
        obtain ⟨v, hv, hg, hf⟩ := (cv_pos h0 m (i + 1) s (fun x hx => hst x (List.mem_cons_of_mem _ hx))).mp h2
        exact ⟨(2 * o + 1) :: v, by simp [hv], by rw [go_close _ _ ho]; exact hg, fit_cons.mpr ⟨h1, hf⟩⟩
    · rintro ⟨v, hv, hg, hf⟩
      cases v with
      | nil => cases hv
      | cons b v =>
        obtain ⟨f1, f2⟩ := fit_cons.mp hf
        rw [go_cons] at hg
        cases en : nx k st b with
        | none => rw [en] at hg; cases hg
        | some s1 =>
          rw [en] at hg
          have hg : go k s1 v = some [] := hg
          obtain ⟨hb, ⟨e1, e2⟩ | ⟨e1, e2⟩⟩ := nx_some en
          · refine .inl ⟨b / 2, by omega, by rw [show 2 * (b / 2) = b by omega]; exact f1, ?_⟩
            rw [<- e2]
            exact (cv_pos h0 m (i + 1) s1 (fun o ho => by rw [e2] at ho; rcases List.mem_cons.mp ho with rfl | ho; omega; exact hst o ho)).mpr ⟨v, by simpa using hv, hg, f2⟩
          · refine .inr ⟨b / 2, s1, e2, by rw [show 2 * (b / 2) + 1 = b by omega]; exact f1, ?_⟩
            exact (cv_pos h0 m (i + 1) s1 (fun o ho => hst o (by rw [e2]; exact List.mem_cons_of_mem _ ho))).mpr ⟨v, by simpa using hv, hg, f2⟩
end
theorem go_on {k:Nat} {v:List Nat} (h:Rg k v) (st:List Nat):go k st v = some st:=by
 have:=go_up v [] [] st h
 simpa using this
theorem go_top {k : Nat} : ∀ (u : List Nat) (o : Nat) (r : List Nat), go k [] u = some (o :: r) -> ∃ u0 v, u = u0 ++ 2 * o :: v /\ go k [] u0 = some r /\ Rg k v /\ o < k := by
  intro u
  induction hn : u.length using Nat.strongRecOn generalizing u with
  | _ n ih =>
    intro o r h
    rcases List.eq_nil_or_concat u with rfl | ⟨u', b, rfl⟩
    · rw [go_nil] at h; cases h
    · rw [List.concat_eq_append, go_app] at h
      have hl : u'.length < n := by rw [<- hn]; simp
      cases e : go k [] u' with
      | none => rw [e] at h; cases h
      | some s1 =>
        rw [e] at h
        have h : go k s1 [b] = some (o :: r) := h
        rw [go_cons] at h
        cases en : nx k s1 b with
        | none => rw [en] at h; cases h
        | some s2 =>
          rw [en] at h
          have h : go k s2 [] = some (o :: r) := h
          rw [go_nil] at h
          cases h
          obtain ⟨hb, ⟨e1, e2⟩ | ⟨e1, e2⟩⟩ := nx_some en
          · cases e2
            exact ⟨u', [], by rw [show 2 * (b / 2) = b by omega, List.concat_eq_append], e, go_nil _, by omega⟩
          · subst e2
            have hk : b / 2 < k := by omega
            obtain ⟨u1, v1, eu1, g1, r1, _⟩ := ih u'.length hl u' rfl _ _ e
            have hl1 : u1.length < n := by rw [eu1] at hl; simp at hl; omega
            obtain ⟨u0, v0, eu0, g0, r0, hk0⟩ := ih u1.length hl1 u1 rfl _ _ g1
            refine ⟨u0, v0 ++ (2 * (b / 2) :: v1 ++ [b]), ?_, g0, ?_, hk0⟩
            · rw [List.concat_eq_append, eu1, eu0]; simp
            · unfold Rg
              rw [go_app, show go k [] v0 = some [] from r0]
              show go k [] (2 * (b / 2) :: v1 ++ [b]) = some []
              rw [List.cons_append, go_open _ _ hk, go_app, go_on r1 [b / 2]]
              show go k [b / 2] [b] = some []
              have h9 : go k [b / 2] [2 * (b / 2) + 1] = some [] := by rw [go_close _ _ hk, go_nil]
              rw [show 2 * (b / 2) + 1 = b by omega] at h9
              exact h9
section
variable {P:Nat->Nat->Int} {k n:Nat}
end
section
variable {P:Nat->Nat->Int} {k n:Nat}
end
end BrI
namespace PySem
abbrev OldHp (g h:Heap):Prop:=∀ b o,g.get? b = some o->h.get? b = some o
def CmpIn (prog:Program) (w:World) (A:Around) (g:Heap) (P:Nat->Value->Prop) (bt:Nat->Nat->Bool):Prop :=
 ∀ (i j:Nat) (x y:Value) (s:Shared) (Q E:Value->Shared->Prop),OldHp g s.heap->P i x->P j y->Q (.bool (bt i j)) s->wpAny (model prog w) A (richCompare .Lt x y) Q E s
section
variable {prog:Program} {w:World} {A:Around} {R:Result->Shared->Prop} {I:Addr} {fp wr:List Addr} {n:Nat} {P:Nat->Value->Prop} {St:Nat->Heap->Prop}
theorem nm_min:(toString "min" ++ toString ".loop" : String) = "min.loop":=by decide
theorem min_goes (W : Walks prog w A.in1 I fp wr n P St) (g : Heap) (bt : Nat -> Nat -> Bool) (hc : CmpIn prog w A.in1 g P bt) (Z : Addr) (hZ : Z ∉ fp) (gZ : g.get? Z = none) (gw : ∀ b, b ∈ wr -> g.get? b = none) :
    ∀ (k j : Nat) (s : Shared) (m : Value) (c : Nat), n - (j + 1) = k -> j + 1 <= n -> St (j + 1) s.heap -> OldHp g s.heap -> P (argBest bt j) m ->
    s.heap.get? Z = some { cls := .type "list", dict := none, data := .seq #[m, m] c, slots := #[] } ->
    (∀ v h' tk, P (argBest bt (n - 1)) v -> OldHp g h' -> R (.ok (.ret v)) { s with heap := h', toks := tk }) ->
    codeAny (model prog w) A (.builtin "min.loop" ⟨[.ref I, .none, .ref Z], []⟩) R s := by
  have hZw : Z ∉ wr := fun h => hZ (W.sub _ h)
  intro k
  induction k with
  | zero =>
    intro j s m c hk hj hst ho hm hS hR
    have hin : j + 1 = n := by omega
    refine codeAny_builtin F.entry_min_loop ?_; rw [Around.under_plainId F.plain_min_loop _]
    show wpAny _ A.in1 (seqItems? (.ref Z) >>= _) _ _ s
    refine wpAny_bind (wpAny_seqItems hS rfl ?_); show wpAny _ A.in1 (tryCatch (pyNext (.ref I)) _ >>= _) _ _ s
    refine wpAny_bind (wpAny_tryCatch (W.done s _ _ (hin ▸ hst) fun h2 tk e2 => ?_))
    have hS2 := e2 Z _ hZw hS
    show wpAny _ A.in1 (updateSeq Z (fun _ => #[]) >>= _) _ _ _
    refine wpAny_bind ?_; refine wpAny_updateSeq hS2 rfl (wpAny_bind (wpAny_letGo (wpAny_pure ?_)))
    refine hR m _ tk (by rw [<- hin]; exact hm) fun b o e => ?_
    have hbw : b ∉ wr := fun z => by rw [gw b z] at e; cases e
    have hbZ : Z ≠ b := fun z => by rw [<- z, gZ] at e; cases e
    exact (Heap.get?_update_other _ _ hbZ).trans (e2 b o hbw (ho b o e))
  | succ k ih =>
    intro j s m c hk hj hst ho hm hS hR
    have hlt : j + 1 < n := by omega
    refine codeAny_builtin F.entry_min_loop ?_; rw [Around.under_plainId F.plain_min_loop _]
    show wpAny _ A.in1 (seqItems? (.ref Z) >>= _) _ _ s
    refine wpAny_bind (wpAny_seqItems hS rfl ?_); show wpAny _ A.in1 (tryCatch (pyNext (.ref I)) _ >>= _) _ _ s
    refine wpAny_bind (wpAny_tryCatch (W.item (j + 1) s _ _ hlt hst fun v h2 tk hP hst2 e2 => ?_))
    have hS2 := e2 Z _ hZw hS
    have ho2 : OldHp g h2 := fun b o e => e2 b o (fun z => by rw [gw b z] at e; cases e) (ho b o e)
    show wpAny _ A.in1 (tryCatch (holding [v, v] (richCompare .Lt v m >>= _)) _ >>= _) _ _ _
    refine wpAny_bind (wpAny_tryCatch (wpAny_holding (wpAny_bind (hc (j + 1) (argBest bt j) v m _ _ _ ho2 hP hm ?_))))
    refine wpAny_bind (wpAny_holding (wpAny_truthy_bool ?_)); refine wpAny_bind (wpAny_letGo (wpAny_pure ?_))
    cases hb : bt (j + 1) (argBest bt j) with
    | true =>
      simp only [if_true]; refine wpAny_bind ?_
      refine wpAny_updateSeq hS2 rfl (wpAny_bind (wpAny_letGo ?_)); rw [nm_min]
      refine wpAny_pure ⟨plainId_quiet F.plain_min_loop _, ih (j + 1) _ v _ (by omega) hlt (W.frame _ _ _ hst2 fun b hbf o e => ?_) (fun b o e => ?_) (by simp only [argBest, hb, if_true]; exact hP) (Heap.get?_update_self _ hS2 rfl) fun v3 h3 tk3 hP3 e3 => hR v3 h3 tk3 hP3 e3⟩
      · exact (Heap.get?_update_other _ _ (fun h : Z = b => hZ (by rw [h]; exact hbf))).trans e
      · exact (Heap.get?_update_other _ _ (fun z : Z = b => by rw [<- z, gZ] at e; cases e)).trans (ho2 b o e)
    | false =>
      simp only [Bool.false_eq_true, if_false]; refine wpAny_bind (wpAny_letGo ?_); rw [nm_min]
      exact wpAny_pure ⟨plainId_quiet F.plain_min_loop _, ih (j + 1) _ m c (by omega) hlt hst2 ho2 (by simp only [argBest, hb, Bool.false_eq_true, if_false]; exact hm) hS2 fun v3 h3 tk3 hP3 e3 => hR v3 h3 tk3 hP3 e3⟩
theorem min_begins (W:Walks prog w A.in1 I fp wr n P St) (g:Heap) (bt:Nat->Nat->Bool) (hc:CmpIn prog w A.in1 g P bt) (Z:Addr) (hZ:Z ∉ fp) (gZ:g.get? Z = none) (gw:∀ b,b ∈ wr->g.get? b = none) (hn:0 < n) {s:Shared} {c:Nat} (hst:St 0 s.heap) (ho:OldHp g s.heap)
  (hS:s.heap.get? Z = some { cls:=.type "list",dict:=none,data:=.seq #[] c,slots:=#[] })
  (hR:∀ v h' tk,P (argBest bt (n - 1)) v->OldHp g h'->R (.ok (.ret v)) { s with heap:=h',toks:=tk }) :
  codeAny (model prog w) A (.builtin "min.loop" ⟨[.ref I,.none,.ref Z],[]⟩) R s:=by
 have hZw:Z ∉ wr:=fun h=>hZ (W.sub _ h)
 refine codeAny_builtin F.entry_min_loop ?_; rw [Around.under_plainId F.plain_min_loop _]
 show wpAny _ A.in1 (seqItems? (.ref Z) >>= _) _ _ s
 refine wpAny_bind (wpAny_seqItems hS rfl ?_); show wpAny _ A.in1 (tryCatch (pyNext (.ref I)) _ >>= _) _ _ s
 refine wpAny_bind (wpAny_tryCatch (W.item 0 s _ _ hn hst fun v h2 tk hP hst2 e2=>?_))
 have hS2:=e2 Z _ hZw hS
 show wpAny _ A.in1 (updateSeq Z (fun _=>#[v,v]) >>= _) _ _ _
 refine wpAny_bind ?_; refine wpAny_updateSeq hS2 rfl ?_; rw [nm_min]
 refine wpAny_pure ⟨plainId_quiet F.plain_min_loop _,min_goes W g bt hc Z hZ gZ gw _ 0 _ v _ rfl hn (W.frame _ _ _ hst2 fun b hbf o e=>?_) (fun b o e=>?_) hP (Heap.get?_update_self _ hS2 rfl) fun v3 h3 tk3 hP3 e3=>hR v3 h3 tk3 hP3 e3⟩
 ·exact (Heap.get?_update_other _ _ (fun h:Z = b=>hZ (by rw [h]; exact hbf))).trans e
 ·exact (Heap.get?_update_other _ _ (fun z:Z = b=>by rw [<- z,gZ] at e; cases e)).trans (e2 b o (fun z=>by rw [gw b z] at e; cases e) (ho b o e))
end
section
variable {prog:Program} {w:World} {A:Around} {E:Value->Shared->Prop} {s:Shared}
theorem min_ofList {l:Addr} {its:Array Value} {bt:Nat->Nat->Bool} {Q:Value->Shared->Prop} (hh:A.handled = none) (hl:s.heap.IsList l its) (hn:0 < its.size) (hc:CmpIn prog w A.in1 s.heap (fun i v=>its[i]? = some v) bt)
  (q:∀ v h' tk,its[argBest bt (its.size - 1)]? = some v->OldHp s.heap h'->Q v { s with heap:=h',toks:=tk }):wpAny (model prog w) A (call (.builtin "min") [.ref l]) Q E s:=by
 have hlt:l < s.heap.objs.size:=by obtain ⟨_,e,_⟩:=hl; exact Heap.lt_size e
 refine call_function_tree F.kind_min F.plain_min F.entry_min (F.args_min1 _) ?_
 show wpAny _ A.in1 (Builtin.Builtins.bindParams "min" ["key","default"] 0 ⟨[],[]⟩ >>= _) _ _ s; refine wpAny_bind (wpAny_of_eq (show Builtin.Builtins.bindParams "min" ["key","default"] 0 ⟨[],[]⟩ = pure [none,none] from rfl) ?_)
 refine wpAny_bind (wpAny_pure ?_)
 refine wpAny_bind (wpAny_pyIter_list hl ?_)
 refine wpAny_bind (wpAny_newObj_type ?_); rw [nm_min]
 have sz1:∀ o,(s.heap.push o).objs.size = s.heap.objs.size + 1:=fun o=>Heap.size_push ..
 have big:∀ k,s.heap.objs.size <= k->s.heap.get? k = none:=fun k hk=>by
  cases z:s.heap.get? k with
  | none=>rfl
  | some o=>exact absurd (Heap.lt_size z) (Nat.not_lt.mpr hk)
 refine wpAny_pure ⟨plainId_quiet F.plain_min_loop _,min_begins (Walks.list (A:=A.in1) hh s.heap.objs.size l (Nat.ne_of_lt hlt) its) s.heap bt hc _ ?_ ?_ ?_ hn ?_ ?_ (Heap.get?_push_size _ rfl) fun v h' tk hP hk=>q v h' tk hP hk⟩
 ·intro hm
  rw [sz1] at hm
  rcases List.mem_cons.mp hm with e | hm
  ·have e:s.heap.objs.size + 1 = s.heap.objs.size:=e
   omega
  ·rcases List.mem_cons.mp hm with e | hm
   ·have e:s.heap.objs.size + 1 = l:=e
    rw [<- e] at hlt; exact absurd hlt (Nat.not_lt.mpr (Nat.le_succ _))
   ·cases hm
 ·exact big _ (by rw [sz1]; omega)
 ·intro b hb
  rcases List.mem_cons.mp hb with rfl | hb
  ·exact big _ (Nat.le_refl _)
  ·cases hb
 ·have st0:(s.heap.push { cls:=.type "list_iterator",data:=.fields #[.ref l,.int 0 0] }).IsListIter s.heap.objs.size l 0/\(s.heap.push { cls:=.type "list_iterator",data:=.fields #[.ref l,.int 0 0] }).IsList l its:=⟨⟨_,Heap.get?_push_size _ rfl,rfl,rfl⟩,hl.push _⟩
  exact (Walks.list (prog:=prog) (w:=w) (A:=A.in1) hh s.heap.objs.size l (Nat.ne_of_lt hlt) its).frame 0 _ _ st0 fun b _ o e=>Heap.get?_push_of_some _ e
 ·exact fun b o e=>Heap.get?_push_of_some _ (Heap.get?_push_of_some _ e)
end
theorem argBest_least {α : Type} (lt : α -> α -> Bool) (tr : ∀ x y z, lt y x = false -> lt z y = false -> lt z x = false) (irr : ∀ x, lt x x = false) (asym : ∀ x y, lt x y = true -> lt y x = false) (f : Nat -> α) :
    ∀ n, argBest (fun i j => lt (f i) (f j)) n <= n /\ ∀ j, j <= n -> lt (f j) (f (argBest (fun i j => lt (f i) (f j)) n)) = false
  | 0 => ⟨Nat.le_refl _, fun j hj => by
    have : j = 0 := by omega
    subst this; exact irr _⟩
  | n + 1 => by
    obtain ⟨h1, h2⟩ := argBest_least lt tr irr asym f n
    by_cases c : lt (f (n + 1)) (f (argBest (fun i j => lt (f i) (f j)) n)) = true
    · have e : argBest (fun i j => lt (f i) (f j)) (n + 1) = n + 1 := by show (if _ then _ else _) = _; rw [if_pos c]
      rw [e]
      refine ⟨Nat.le_refl _, fun j hj => ?_⟩
      by_cases z : j = n + 1
      · subst z; exact irr _
      · exact tr _ _ _ (asym _ _ c) (h2 j (by omega))
    · have e : argBest (fun i j => lt (f i) (f j)) (n + 1) = argBest (fun i j => lt (f i) (f j)) n := by show (if _ then _ else _) = _; rw [if_neg c]
      rw [e]
      refine ⟨by omega, fun j hj => ?_⟩
      by_cases z : j = n + 1
      · subst z; simpa using c
      · exact h2 j (by omega)
end PySem
namespace PySem.SeqAt
open AutoSeq1 (wpAny_loadPart')
open MeetsSeq MeetsSeq2 MeetsSeq3 SeqRoads2
def LtAt (A:Around) (s:Shared) (x y:Value) (r:Bool):Prop:=∀ (prog:Program) (w:World) (Q E:Value->Shared->Prop),Q (.bool r) s->wpAny (model prog w) A (richCompare .Lt x y) Q E s
theorem tup2_lt (l b : Addr) (x1 x2 y1 y2 : Value) (n n2 : Nat) (dd dd2 : Option Addr) (sl sl2 : Array (Option Value)) (e1 e2 r : Bool) :
    Meets (Builtin.«tuple.__lt__» ⟨[.ref l, .ref b], []⟩)
      (fun A R s => s.heap.get? l = some { cls := .type "tuple", dict := dd, data := .seq #[x1, x2] n, slots := sl } /\ s.heap.get? b = some { cls := .type "tuple", dict := dd2, data := .seq #[y1, y2] n2, slots := sl2 } /\
        EqAt A.in1 s x1 y1 e1 /\ (e1 = true -> EqAt A.in1 s x2 y2 e2) /\ (e1 = false -> LtAt A.in1 s x1 y1 r) /\ (e1 = true -> e2 = false -> LtAt A.in1 s x2 y2 r) /\ (e1 = true -> e2 = true -> r = false) /\ R (.ok (.ret (.bool r))) s) :=
  .of_wp fun prog w A R s h => by
    obtain ⟨hp, g, d, tk, os⟩ := s
    obtain ⟨hl, hb, q1, q2, q3, q4, q5, h⟩ := h
    have f2 := AutoSeq1.sub_tuple_tuple
    wp_walk using wpAny_loadPart' hl, wpAny_loadPart' hb, wpAny_forIn_list _ (fun rest b s' => b.1 = none /\ s' = ⟨hp, g, d, tk, os⟩ /\ (rest = [(x1, y1), (x2, y2)] \/ (rest = [(x2, y2)] /\ e1 = true) \/ (rest = [] /\ e1 = true /\ e2 = true))) _
    case turn =>
      rintro ⟨y, x⟩ rest b s' ⟨hb', rfl, hz⟩
      rcases hz with hz | ⟨hz, c1⟩ | ⟨hz, _, _⟩
      · injection hz with hyx hrest
        injection hyx with hy hx
        subst hy hx
        refine wpAny_bind (q1 prog w _ _ ?_)
        cases e1 with
        | true => wp_walk; exact ⟨rfl, rfl, .inr (.inl ⟨hrest, rfl⟩)⟩
        | false =>
          have hri := q3 rfl prog w
          wp_walk using hri
          exact ⟨_, rfl, by simpa using h⟩
      · injection hz with hyx hrest
        injection hyx with hy hx
        subst hy hx
        refine wpAny_bind (q2 c1 prog w _ _ ?_)
        cases e2 with
        | true => wp_walk; exact ⟨rfl, rfl, .inr (.inr ⟨hrest, c1, rfl⟩)⟩
        | false =>
          have hri := q4 c1 rfl prog w
          wp_walk using hri
          exact ⟨_, rfl, by simpa using h⟩
      · cases hz
    case fin =>
      rintro ⟨b1, b2⟩ s' ⟨hb', rfl, hz⟩
      simp only at hb'
      subst hb'
      rcases hz with hz | ⟨hz, _⟩ | ⟨_, c1, c2⟩
      · cases hz
      · cases hz
      · rw [q5 c1 c2] at h
        wp_walk
        exact ⟨_, rfl, by simpa [Builtin.Tuple.tupleCompareSizes] using h⟩
    case h => exact ⟨rfl, rfl, .inl rfl⟩
theorem lt_tup2 {A:Around} {s:Shared} {l b:Addr} {x1 x2 y1 y2:Value} {e1 e2 r:Bool} (hl:s.heap.IsTuple l #[x1,x2]) (hb:s.heap.IsTuple b #[y1,y2]) (hu:A.units < cLine)
  (q1:EqAt A.in1 s x1 y1 e1) (q2:e1 = true->EqAt A.in1 s x2 y2 e2) (q3:e1 = false->LtAt A.in1 s x1 y1 r) (q4:e1 = true->e2 = false->LtAt A.in1 s x2 y2 r) (q5:e1 = true->e2 = true->r = false):LtAt A s (.ref l) (.ref b) r:=fun prog w Q E h=>by
 obtain ⟨⟨cls,dd,data,sl⟩,ho,hc,n,hd⟩:=id hl
 obtain ⟨⟨cls2,dd2,data2,sl2⟩,ho2,hc2,n2,hd2⟩:=id hb
 simp only at hc hd hc2 hd2; subst hc hd hc2 hd2
 exact richCompare_meets_room (op:=.Lt) ⟨_,ho,rfl⟩ ⟨_,ho2,rfl⟩ F.slot_tuple_lt F.entry_tuple_lt (F.args_tuple_lt_2 _ _) (tup2_lt l b x1 x2 y1 y2 n n2 dd dd2 sl sl2 e1 e2 r)
  ⟨ho,ho2,q1,q2,q3,q4,q5,show Value.bool r ≠ Value.notImplemented/\Q (.bool r) s from ⟨(fun x=>nomatch x),h⟩⟩ hu
end PySem.SeqAt
namespace L2
open PySem PySem.Spec PyProof.Rows
def ltP (x y:Int × List Nat):Bool:=decide (x.1 < y.1) || (decide (x.1 = y.1) && decide (x.2 < y.2))
theorem ltP_iff {x y:Int × List Nat}:ltP x y = true ↔ x.1 < y.1\/(x.1 = y.1/\x.2 < y.2):=by simp [ltP]
theorem ltP_no {x y:Int × List Nat}:ltP x y = false ↔ y.1 < x.1\/(x.1 = y.1/\¬ x.2 < y.2):=by
 rw [<- Bool.not_eq_true,ltP_iff]
 constructor
 ·intro h
  by_cases c:y.1 < x.1
  ·exact .inl c
  ·by_cases d:x.1 < y.1
   ·exact absurd (.inl d) h
   ·exact .inr ⟨by omega,fun z=>h (.inr ⟨by omega,z⟩)⟩
 ·rintro (h | ⟨h1,h2⟩) (g | ⟨g1,g2⟩)
  ·omega
  ·omega
  ·omega
  ·exact h2 g2
theorem ltP_irr (x:Int × List Nat):ltP x x = false:=ltP_no.mpr (.inr ⟨rfl,List.lt_irrefl _⟩)
theorem ltP_asym (x y:Int × List Nat) (h:ltP x y = true):ltP y x = false:=by
 rcases ltP_iff.mp h with h | ⟨h1,h2⟩
 ·exact ltP_no.mpr (.inl h)
 ·exact ltP_no.mpr (.inr ⟨h1.symm,fun z=>List.lt_irrefl _ (List.lt_trans z h2)⟩)
theorem ltP_tr (x y z:Int × List Nat) (h1:ltP y x = false) (h2:ltP z y = false):ltP z x = false:=by
 rcases ltP_no.mp h1 with a | ⟨a,b⟩ <;> rcases ltP_no.mp h2 with c | ⟨c,d⟩
 ·exact ltP_no.mpr (.inl (by omega))
 ·exact ltP_no.mpr (.inl (by omega))
 ·exact ltP_no.mpr (.inl (by omega))
 ·exact ltP_no.mpr (.inr ⟨by omega,fun e=>by
   have b':x.2 <= y.2:=List.not_lt.mp b
   have d':y.2 <= z.2:=List.not_lt.mp d
   exact List.not_lt.mpr (List.le_trans b' d') e⟩)
def Tps (H:Hp) (vs:List V) (L:List (Int × List Nat)):Prop:=vs.length = L.length/\∀ (i:Nat) (x:Int × List Nat),L[i]? = some x->∃ T p:Addr,vs[i]? = some (V.ref T)/\H T = some (.tup [.int x.1,.ref p])/\H p = some (.lst (nL x.2))
theorem fl_nL (bs:List Nat):(nL bs).all flatV = true:=by rw [List.all_map,List.all_eq_true]; intro _ _; rfl
theorem eqVs_nL : ∀ (bs cs : List Nat), eqVs (nL bs) (nL cs) = decide (bs = cs)
  | [], [] => by simp [eqVs]
  | [], _ :: _ => by simp [eqVs]
  | _ :: _, [] => by simp [eqVs]
  | b :: bs, c :: cs => by
    have ih := eqVs_nL bs cs
    show (decide ((b : Int) = (c : Int)) && eqVs (nL bs) (nL cs)) = _
    rw [ih]
    by_cases h : b = c
    · subst h; simp
    · have : ¬ ((b : Int) = (c : Int)) := by omega
      simp [h, this]
section
variable {A:Around} {s:Shared} {p p':Addr} {bs cs:List Nat} {us ws:List Value}
theorem lists_eq (r1:Vals (nL bs) us) (r2:Vals (nL cs) ws) (h1:s.heap.IsList p us.toArray) (h2:s.heap.IsList p' ws.toArray) (hl:bs.length = cs.length) (hs:p = p'->bs = cs) (hu:A.units < cLine):SeqAt.EqAt A s (.ref p) (.ref p') (decide (bs = cs)):=by
 by_cases e:p = p'
 ·rw [decide_eq_true (hs e),e]; exact SeqAt.EqAt.same _
 ·refine SeqAt.EqAt.of_refs e ?_
  have l1:=r1.length
  have l2:=r2.length
  rw [List.length_map] at l1 l2
  have:=SeqAt.RcAt.lists (A:=A) h1 h2 (by simp; omega) hu (eqVs_at r1 r2 (fl_nL _) (fl_nL _))
  rw [List.size_toArray,<- l1,<- List.length_map (f:=fun b:Nat=>V.int (b:Int)),eqVs_range _ _ (by simpa using hl),eqVs_nL] at this
  exact this
theorem lists_lt (r1:Vals (nL bs) us) (r2:Vals (nL cs) ws) (p1:s.heap.IsList p us.toArray) (p2:s.heap.IsList p' ws.toArray) (hl:bs.length = cs.length) (hne:bs ≠ cs) (hu:A.units < cLine):SeqAt.LtAt A s (.ref p) (.ref p') (decide (bs < cs)):=by
 intro prog w Q E q
 obtain ⟨j,m,n,h1,h2,h3,h5,h4⟩:=lt_first hl hne
 have l1:=r1.length
 have l2:=r2.length
 rw [List.length_map] at l1 l2
 obtain ⟨u1,e1,t1,rfl⟩:=r1.get (i:=j) (x:=.int (m:Int)) (by rw [List.getElem?_map,h1]; rfl)
 obtain ⟨u2,e2,t2,rfl⟩:=r2.get (i:=j) (x:=.int (n:Int)) (by rw [List.getElem?_map,h2]; rfl)
 refine SeqAt.lt_listAt (prog:=prog) (w:=w) (e:=fun i=>eqV ((nL bs).getD i .non) ((nL cs).getD i .non)) (j:=j) (x:=(m:Int)) (y:=(n:Int)) (t:=t1) (u:=t2) p1 p2 hu (eqVs_at r1 r2 (fl_nL _) (fl_nL _)) (by simpa using e1) (by simpa using e2) ?_ ?_ ?_
 ·show eqV _ _ = false
  rw [List.getD_eq_getElem?_getD,List.getD_eq_getElem?_getD,List.getElem?_map,List.getElem?_map,h1,h2]
  exact decide_eq_false (show ¬ ((m:Int) = (n:Int)) by omega)
 ·intro i hi
  have g:=h4 i hi
  have k1:j < bs.length:=(List.getElem?_eq_some_iff.mp h1).1
  have k2:j < cs.length:=(List.getElem?_eq_some_iff.mp h2).1
  have a1:bs[i]? = some (bs.getD i 0):=by rw [List.getD_eq_getElem?_getD,List.getElem?_eq_getElem (by omega)]; rfl
  have a2:cs[i]? = some (cs.getD i 0):=by rw [List.getD_eq_getElem?_getD,List.getElem?_eq_getElem (by omega)]; rfl
  show eqV _ _ = true
  rw [List.getD_eq_getElem?_getD,List.getD_eq_getElem?_getD,List.getElem?_map,List.getElem?_map,a1,a2,g]
  exact decide_eq_true rfl
 ·have:decide (bs < cs) = decide ((m:Int) < (n:Int)):=by rw [decide_eq_decide,<- h5]; omega
  rw [<- this]; exact q
end
def rMinT (K:PySem.W.Frag):List V->Hp->VK->Prop:=fun xs H Q=>∃ (p:Addr) (vs:List V) (L:List (Int × List Nat)) (n:Nat),xs = [.ref p]/\H p = some (.lst vs)/\Tps H vs L/\0 < L.length/\(∀ x ∈ L,x.2.length = n) /\
 ∀ (i:Nat) (x:Int × List Nat) (v:V),L[i]? = some x->vs[i]? = some v->(∀ y ∈ L,ltP y x = false)->Q v H
theorem call_minT {X : Cx} (K : PySem.W.Frag) (hc : X.calm = true) (hu : X.A.units + 5 < cLine) : CallR X (.builtin "min") (rMinT K) := by
  intro pins s σ H xs us Q I r h
  obtain ⟨p, vs, L, n, rfl, hp, ⟨hlen, hT⟩, h0, hn, q⟩ := h
  obtain ⟨u, rfl, ru⟩ := vals1 r
  cases ru
  obtain ⟨its, rr, ht, hz⟩ := I.list (SqL.of hp)
  have hl := rr.length
  have key : ∀ (i : Nat) (x : Int × List Nat), L[i]? = some x -> ∃ (T l : Addr) (u : Value) (us : List Value) (ys : List Value), its[i]? = some (Value.ref T) /\ vs[i]? = some (V.ref T) /\ Vals [.int x.1, .ref l] us /\ IsTup s.heap T us.toArray /\ Vals (nL x.2) ys /\ s.heap.IsList l ys.toArray /\ H l = some (.lst (nL x.2)) := fun i x hx => by
    obtain ⟨T, l, e1, e2, e3⟩ := hT i x hx
    obtain ⟨w, g1, g2⟩ := rr.get e1
    cases g2
    obtain ⟨us, r1, p1, _⟩ := I.tuple (SqT.of e2)
    obtain ⟨ys, r2, p2, _⟩ := I.list (SqL.of e3)
    exact ⟨T, l, .none, us, ys, g1, e1, r1, p1, r2, p2.isList, e3⟩
  have hat : ∀ i, i < L.length -> L[i]? = some (L.getD i (0, [])) := fun i hi => by
    rw [List.getD_eq_getElem?_getD, List.getElem?_eq_getElem hi]; rfl
  refine min_ofList (I.ok.hd hc) ht.isList (by simp; omega) (bt := fun i j => ltP (L.getD i (0, [])) (L.getD j (0, []))) ?_ ?_
  · intro i j x y s2 Q2 E2 old hx hy q2
    have q2 : Q2 (Value.bool (ltP (L.getD i (0, [])) (L.getD j (0, [])))) s2 := q2
    have hi : i < L.length := by
      have := (Array.getElem?_eq_some_iff.mp hx).1
      simp at this; omega
    have hj : j < L.length := by
      have := (Array.getElem?_eq_some_iff.mp hy).1
      simp at this; omega
    obtain ⟨T1, l1, _, us1, ys1, a1, _, a3, a4, a5, a6, a7⟩ := key i _ (hat i hi)
    obtain ⟨T2, l2, _, us2, ys2, b1, _, b3, b4, b5, b6, b7⟩ := key j _ (hat j hj)
    have n1 := hn _ (List.mem_of_getElem? (hat i hi))
    have n2 := hn _ (List.mem_of_getElem? (hat j hj))
    have ex : x = .ref T1 := by
      have : its.toArray[i]? = some (.ref T1) := by simpa using a1
      rw [this] at hx; exact (Option.some.inj hx).symm
    have ey : y = .ref T2 := by
      have : its.toArray[j]? = some (.ref T2) := by simpa using b1
      rw [this] at hy; exact (Option.some.inj hy).symm
    subst ex ey
    generalize hX : L.getD i (0, []) = XX at *
    generalize hY : L.getD j (0, []) = YY at *
    cases a3 with
    | cons ra rb =>
      cases rb with
      | cons rb rc =>
        cases rc; cases rb
        obtain ⟨t1, rfl⟩ := ra
        cases b3 with
        | cons sa sb =>
          cases sb with
          | cons sb sc =>
            cases sc; cases sb
            obtain ⟨t2, rfl⟩ := sa
            have k4 : s2.heap.IsTuple T1 _ := let ⟨o, e, z⟩ := a4; ⟨o, old _ _ e, z⟩
            have k5 : s2.heap.IsTuple T2 _ := let ⟨o, e, z⟩ := b4; ⟨o, old _ _ e, z⟩
            have k6 : s2.heap.IsList l1 _ := let ⟨o, e, z⟩ := a6; ⟨o, old _ _ e, z⟩
            have k7 : s2.heap.IsList l2 _ := let ⟨o, e, z⟩ := b6; ⟨o, old _ _ e, z⟩
            have hs : l1 = l2 -> XX.2 = YY.2 := fun e => by
              subst e; rw [a7] at b7
              have b8 : nL XX.2 = nL YY.2 := by injection b7 with b7; injection b7
              have := eqVs_nL XX.2 YY.2
              rw [b8, eqVs_nL, decide_eq_true rfl] at this
              exact of_decide_eq_true this.symm
            have hlen2 : XX.2.length = YY.2.length := by rw [n1, n2]
            refine SeqAt.lt_tup2 (A := X.A.in1) (e1 := (XX.1 == YY.1)) (e2 := decide (XX.2 = YY.2)) (r := ltP XX YY) k4 k5 (show X.A.units + 1 < cLine by omega) (SeqAt.EqAt.int_int _ _ _ _) (fun _ => lists_eq a5 b5 k6 k7 hlen2 hs (show X.A.units + 2 < cLine by omega)) ?_ ?_ ?_ X.prog X.w Q2 E2 q2
            · intro h1 prog w Q3 E3 q3
              have h1 : ¬ XX.1 = YY.1 := by simpa using h1
              have : ltP XX YY = decide (XX.1 < YY.1) := by simp [ltP, h1]
              rw [this] at q3
              exact (PyProof.Rows.lt_int q3 : wpAny (model prog w) _ (compareOp .Lt _ _) Q3 E3 s2)
            · intro h1 h2
              have h1 : XX.1 = YY.1 := by simpa using h1
              have : ltP XX YY = decide (XX.2 < YY.2) := by simp [ltP, h1]
              rw [this]
              exact lists_lt a5 b5 k6 k7 hlen2 (of_decide_eq_false h2) (show X.A.units + 2 < cLine by omega)
            · intro h1 h2
              have h1 : XX.1 = YY.1 := by simpa using h1
              exact ltP_no.mpr (.inr ⟨h1, by rw [of_decide_eq_true h2]; exact List.lt_irrefl _⟩)
  · intro v h' tk hv hk
    have hsz : its.toArray.size = L.length := by simp; omega
    rw [hsz] at hv
    obtain ⟨m1, m2⟩ := argBest_least ltP ltP_tr ltP_irr ltP_asym (fun i => L.getD i (0, [])) (L.length - 1)
    generalize argBest (fun i j => ltP (L.getD i (0, [])) (L.getD j (0, []))) (L.length - 1) = b at *
    have hb : b < L.length := by omega
    obtain ⟨T1, l1, _, us1, ys1, a1, a2, _⟩ := key b _ (hat b hb)
    have ev : v = .ref T1 := by
      have : its.toArray[b]? = some (.ref T1) := by simpa using a1
      rw [this] at hv; exact (Option.some.inj hv).symm
    subst ev
    refine ⟨.ref T1, H, I.kept hk, rfl, q b _ _ (hat b hb) a2 fun y hy => ?_⟩
    obtain ⟨j, hj, e⟩ := List.getElem_of_mem hy
    have := m2 j (by omega)
    rw [<- e]
    have e2 : L.getD j (0, []) = L[j] := by rw [List.getD_eq_getElem?_getD, List.getElem?_eq_getElem hj]; rfl
    rw [e2] at this
    exact this
end L2
namespace BrS
open L2 PySem BrM BrC BrB BrR BrI
theorem ltP_tri {x y:Int × List Nat} (h1:ltP x y = false) (h2:ltP y x = false):x = y:=by
 rcases ltP_no.mp h1 with a | ⟨a,b⟩ <;> rcases ltP_no.mp h2 with c | ⟨c,d⟩
 ·omega
 ·omega
 ·omega
 ·rcases lt_tri x.2 y.2 with z | z | z
  ·exact absurd z b
  ·exact Prod.ext a z
  ·exact absurd z d
def C32 (k:Nat) (a:List Nat) (i j:Nat) (x:Int × List Nat):Prop:=Rg k x.2/\i + x.2.length = j/\x.1 = (chg (a.drop i) x.2:Nat)
structure MnS (k:Nat) (a:List Nat) (i j:Nat) (x:Int × List Nat):Prop where
 is:C32 k a i j x
 le:∀ y,C32 k a i j y->ltP y x = false
theorem MnS.uniq {k:Nat} {a:List Nat} {i j:Nat} {x y:Int × List Nat} (h:MnS k a i j x) (g:MnS k a i j y):x = y:=ltP_tri (g.le x h.is) (h.le y g.is)
def cs1 (c b:Nat):Nat:=if okc c b = true then 0 else 1
theorem chg_nil (a:List Nat):chg a [] = 0:=by cases a <;> rfl
theorem chg_cons (c:Nat) (a:List Nat) (b:Nat) (l:List Nat):chg (c :: a) (b :: l) = cs1 c b + chg a l:=rfl
theorem chg_app : ∀ (a u v : List Nat), u.length <= a.length -> chg a (u ++ v) = chg a u + chg (a.drop u.length) v
  | a, [], v, _ => by rw [chg_nil, List.nil_append]; simp
  | [], _ :: _, v, h => by simp at h
  | c :: a, b :: u, v, h => by
    have ih := chg_app a u v (by simpa using h)
    rw [List.cons_append, chg_cons, chg_cons, ih, List.length_cons, List.drop_succ_cons, Nat.add_assoc]
theorem chg_one {a:List Nat} {b:Nat} (h:0 < a.length):chg a [b] = cs1 (a.getD 0 0) b:=by
 cases a with
 | nil=>simp at h
 | cons c a=>rw [chg_cons,chg_nil]; rfl
theorem drop_getD (a:List Nat) (i j:Nat):(a.drop i).getD j 0 = a.getD (i + j) 0:=by
 rw [List.getD_eq_getElem?_getD,List.getD_eq_getElem?_getD,List.getElem?_drop]
theorem mn_nil (k:Nat) (a:List Nat) (i:Nat):MnS k a i i (0,[]):=by
 refine ⟨⟨go_nil _,rfl,by rw [chg_nil]; rfl⟩,fun y hy=>?_⟩
 have e:y.2 = []:=List.length_eq_zero_iff.mp (by have:=hy.2.1; omega)
 have e1:y.1 = 0:=by rw [hy.2.2,e,chg_nil]; rfl
 exact ltP_no.mpr (.inr ⟨e1,by rw [e]; exact List.lt_irrefl _⟩)
def jn (p:Nat) (u v:List Nat):List Nat:=u ++ ([2 * p] ++ (v ++ [2 * p + 1]))
theorem rg_last {k:Nat} {l:List Nat} (h:Rg k l) (hl:0 < l.length):∃ p u v,p < k/\l = jn p u v/\Rg k u/\Rg k v:=by
 obtain ⟨l0,b,rfl⟩:∃ l0 b,l = l0 ++ [b]:=⟨l.dropLast,l.getLast (by intro z; rw [z] at hl; exact absurd hl (by decide)),(List.dropLast_concat_getLast _).symm⟩
 unfold Rg at h
 rw [go_app] at h
 obtain ⟨s,h1,h2⟩:=Option.bind_eq_some_iff.mp h
 rw [go_cons] at h2
 obtain ⟨s2,h3,h4⟩:=Option.bind_eq_some_iff.mp h2
 rw [go_nil] at h4
 cases h4
 obtain ⟨hb,⟨_,z⟩ | ⟨hm,z⟩⟩:=nx_some h3
 ·cases z
 ·subst z
  obtain ⟨u,v,e,g1,g2,g3⟩:=go_top l0 (b / 2) [] h1
  refine ⟨b / 2,u,v,g3,?_,g1,g2⟩
  unfold jn
  rw [e,show b = 2 * (b / 2) + 1 by omega,show (2 * (b / 2) + 1) / 2 = b / 2 by omega]
  simp
theorem rg_jn {k p:Nat} {u v:List Nat} (hp:p < k) (hu:Rg k u) (hv:Rg k v):Rg k (jn p u v):=by
 have h1:=rg_pair hp hv (go_nil (k:=k) [])
 unfold Rg jn
 rw [go_app,show go k [] u = some [] from hu]
 show go k [] ([2 * p] ++ (v ++ [2 * p + 1])) = some []
 exact h1
theorem jn_len (p:Nat) (u v:List Nat):(jn p u v).length = u.length + v.length + 2:=by unfold jn; simp; omega
theorem jn_chg {a:List Nat} {i m last p:Nat} {u v:List Nat} (h1:i + u.length = m) (h2:m + 1 + v.length = last) (h3:last < a.length):chg (a.drop i) (jn p u v) = cs1 (a.getD m 0) (2 * p) + cs1 (a.getD last 0) (2 * p + 1) + chg (a.drop i) u + chg (a.drop (m + 1)) v:=by
 unfold jn
 rw [chg_app _ _ _ (by rw [List.length_drop]; omega),List.drop_drop,h1]
 rw [chg_app _ _ _ (by rw [List.length_drop]; simp; omega),chg_one (by rw [List.length_drop]; omega),drop_getD,Nat.add_zero,List.drop_drop]
 show _ + (_ + chg (a.drop (m + 1)) (v ++ [2 * p + 1])) = _
 rw [chg_app _ _ _ (by rw [List.length_drop]; omega),List.drop_drop,h2,chg_one (by rw [List.length_drop]; omega),drop_getD]
 simp only [Nat.add_zero]
 omega
theorem entry_is {k:Nat} {a:List Nat} {i m last p:Nat} {x y:Int × List Nat} (hp:p < k) (h3:last < a.length) (hx:C32 k a i m x) (hy:C32 k a (m + 1) last y):C32 k a i (last + 1) ((cs1 (a.getD m 0) (2 * p):Nat) + (cs1 (a.getD last 0) (2 * p + 1):Nat) + x.1 + y.1,jn p x.2 y.2):=by
 obtain ⟨a1,a2,a3⟩:=hx
 obtain ⟨b1,b2,b3⟩:=hy
 refine ⟨rg_jn hp a1 b1,by show i + (jn p x.2 y.2).length = _; rw [jn_len]; omega,?_⟩
 show _ = ((chg (a.drop i) (jn p x.2 y.2):Nat):Int)
 rw [jn_chg a2 b2 h3,a3,b3]
 omega
theorem entry_least {k:Nat} {a:List Nat} {i m last p:Nat} {x y:Int × List Nat} (h3:last < a.length) (hx:MnS k a i m x) (hy:MnS k a (m + 1) last y) {z:Int × List Nat} (hz:C32 k a i (last + 1) z) {u v:List Nat} (e:z.2 = jn p u v) (hu:Rg k u) (hv:Rg k v) (hul:i + u.length = m) :
  ltP z ((cs1 (a.getD m 0) (2 * p):Nat) + (cs1 (a.getD last 0) (2 * p + 1):Nat) + x.1 + y.1,jn p x.2 y.2) = false:=by
 obtain ⟨c1,c2,c3⟩:=hz
 have hvl:m + 1 + v.length = last:=by rw [e,jn_len] at c2; omega
 rw [e,jn_chg hul hvl h3] at c3
 have g1:=hx.le ((chg (a.drop i) u:Nat),u) ⟨hu,hul,rfl⟩
 have g2:=hy.le ((chg (a.drop (m + 1)) v:Nat),v) ⟨hv,hvl,rfl⟩
 have lu:u.length = x.2.length:=by have:=hx.is.2.1; omega
 have lv:v.length = y.2.length:=by have:=hy.is.2.1; omega
 rw [ltP_no]
 show _\/(_/\¬ z.2 < jn p x.2 y.2)
 rw [c3,e]
 rcases ltP_no.mp g1 with q1 | ⟨q1,r1⟩ <;> rcases ltP_no.mp g2 with q2 | ⟨q2,r2⟩
 ·exact .inl (by simp only at q1 q2 ⊢; omega)
 ·exact .inl (by simp only at q1 q2 ⊢; omega)
 ·exact .inl (by simp only at q1 q2 ⊢; omega)
 ·refine .inr ⟨by simp only at q1 q2 ⊢; omega,fun w=>?_⟩
  unfold jn at w
  rcases (lt_app lu).mp w with w | ⟨_,w⟩
  ·exact r1 w
  ·rcases (lt_app rfl).mp w with w | ⟨_,w⟩
   ·exact List.lt_irrefl _ w
   ·rcases (lt_app lv).mp w with w | ⟨_,w⟩
    ·exact r2 w
    ·exact List.lt_irrefl _ w
structure Cov (k:Nat) (a:List Nat) (i last t q:Nat) (L:List (Int × List Nat)):Prop where
 ok:∀ x ∈ L,C32 k a i (last + 1) x
 all:∀ z,C32 k a i (last + 1) z->∀ p u v,p < k->z.2 = jn p u v->Rg k u->Rg k v->(u.length < 2 * t\/(u.length = 2 * t/\p < q))->∃ x ∈ L,ltP z x = false
 len:L.length = t * k + q
theorem Cov.nil (k:Nat) (a:List Nat) (i last:Nat):Cov k a i last 0 0 []:=⟨fun x h=>(nomatch h),fun z _ p u v _ _ _ _ h=>by omega,by simp⟩
theorem Cov.add {k:Nat} {a:List Nat} {i m last t q:Nat} {L:List (Int × List Nat)} (h:Cov k a i last t q L) {x y:Int × List Nat} (hm:i + 2 * t = m) (hq:q < k) (h3:last < a.length) (hx:MnS k a i m x) (hy:MnS k a (m + 1) last y):Cov k a i last t (q + 1) (L ++ [((cs1 (a.getD m 0) (2 * q):Nat) + (cs1 (a.getD last 0) (2 * q + 1):Nat) + x.1 + y.1,jn q x.2 y.2)]):=by
 refine ⟨fun w hw=>?_,fun z hz p u v hp e hu hv hc=>?_,by rw [List.length_append,h.len]; simp; omega⟩
 ·rcases List.mem_append.mp hw with hw | hw
  ·exact h.ok w hw
  ·rw [List.mem_singleton.mp hw]; exact entry_is hq h3 hx.is hy.is
 ·by_cases c:u.length = 2 * t/\p = q
  ·obtain ⟨c1,rfl⟩:=c
   exact ⟨_,List.mem_append_right _ (List.mem_singleton.mpr rfl),entry_least h3 hx hy hz e hu hv (by omega)⟩
  ·obtain ⟨w,hw,g⟩:=h.all z hz p u v hp e hu hv (by omega)
   exact ⟨w,List.mem_append_left _ hw,g⟩
theorem Cov.next {k:Nat} {a:List Nat} {i last t:Nat} {L:List (Int × List Nat)} (h:Cov k a i last t k L):Cov k a i last (t + 1) 0 L:=by
 refine ⟨h.ok,fun z hz p u v hp e hu hv hc=>h.all z hz p u v hp e hu hv ?_,by rw [h.len,Nat.succ_mul]; omega⟩
 have:=rg_even hu
 omega
theorem Cov.least {k:Nat} {a:List Nat} {i last t:Nat} {L:List (Int × List Nat)} (h:Cov k a i last t 0 L) (ht:last + 1 = i + 2 * t) {x:Int × List Nat} (hx:x ∈ L) (hm:∀ y ∈ L,ltP y x = false):MnS k a i (last + 1) x:=by
 refine ⟨h.ok x hx,fun z hz=>?_⟩
 obtain ⟨p,u,v,hp,e,hu,hv⟩:=rg_last hz.1 (by have:=hz.2.1; have:=(h.ok x hx).2.1; have ne:t ≠ 0:=fun z0=>(by
  have:=h.len; rw [z0] at this; simp at this; rw [this] at hx; cases hx); omega)
 have:=hz.2.1
 rw [e,jn_len] at this
 obtain ⟨w,hw,g⟩:=h.all z hz p u v hp e hu hv (.inl (by omega))
 exact ltP_tr _ _ _ (hm w hw) g
theorem zz_right {k : Nat} (h : 1 <= k) : ∀ n, ∃ l, Rg k l /\ l.length = 2 * n
  | 0 => ⟨[], go_nil _, rfl⟩
  | n + 1 => by
    obtain ⟨l, h1, h2⟩ := zz_right h n
    exact ⟨2 * 0 :: ([] ++ (2 * 0 + 1) :: l), rg_pair (by omega) (go_nil _) h1, by simp; omega⟩
theorem wtl_few {k:Nat} (hk:k <= 4) {a x:List Nat} (hx:Rg k x) (he:x.length = a.length):wtl (Pc k a) 0 x = 2 ^ (a.length - chg a x):=by
 rw [<- he]
 refine wtl_chg hk a x _ 0 he.symm (go_bd x [] [] hx) fun i hi=>?_
 rw [Nat.zero_add,List.getD_eq_getElem?_getD,List.getElem?_map,List.getElem?_eq_getElem (by omega),List.getD_eq_getElem?_getD,List.getElem?_eq_getElem (by omega)]; rfl
theorem best_mn {k:Nat} (hk:k <= 4) {a:List Nat} {w:Int} {l:List Nat} (h:Best (Dn k 0 a.length) (wtl (Pc k a) 0) (some (w,l))):MnS k a 0 a.length ((chg a l:Nat),l):=by
 obtain ⟨⟨h1,h2⟩,h3,h4,h5⟩:=h
 refine ⟨⟨h1,h2,rfl⟩,fun y hy=>?_⟩
 obtain ⟨g1,g2,g3⟩:=hy
 rw [List.drop_zero] at g3
 rw [Nat.zero_add] at h2 g2
 have hw:=wtl_few hk h1 h2
 have hv:=wtl_few hk g1 g2
 have c1:=chg_le a l
 have c2:=chg_le a y.2
 rw [h3] at hw
 rw [ltP_no]
 show ((chg a l:Nat):Int) < y.1\/(y.1 = ((chg a l:Nat):Int)/\¬ y.2 < l)
 rw [g3]
 rcases h5 y.2 ⟨g1,by omega⟩ with z | ⟨z,z2⟩
 ·left
  by_cases c:chg a l < chg a y.2
  ·omega
  ·exfalso
   rw [hv,hw] at z
   by_cases e:chg a l = chg a y.2
   ·rw [e] at z; omega
   ·have:=pow2_lt (m:=a.length - chg a l) (n:=a.length - chg a y.2) (by omega)
    omega
 ·rw [hv,hw] at z
  by_cases e:chg a l = chg a y.2
  ·exact .inr ⟨by omega,z2⟩
  ·by_cases e2:chg a l < chg a y.2
   ·exact .inl (by omega)
   ·have:=pow2_lt (m:=a.length - chg a l) (n:=a.length - chg a y.2) (by omega)
    omega
def Res32 (k:Nat) (a:List Nat) (H:Hp) (v:V):Prop:=(a.length % 2 = 1/\v = .non)\/(a.length % 2 = 0/\∃ T l,v = .ref T/\H T = some (.tup [.int (chg a l:Nat),tx (brx l)])/\MnS k a 0 a.length ((chg a l:Nat),l))
theorem res_of {k : Nat} (hk : k <= 4) (h1 : 1 <= k) {a : List Nat} {H : Hp} {v : V} {o : O} (ft : FtC a H v o) (h : Best (Dn k 0 a.length) (wtl (Pc k a) 0) o) : Res32 k a H v := by
  match o, ft, h with
  | none, ft, h =>
    refine .inl ⟨?_, ft⟩
    by_cases c : a.length % 2 = 1
    · exact c
    · exfalso
      obtain ⟨l, g1, g2⟩ := zz_right h1 (a.length / 2)
      have hl : l.length = a.length := by omega
      have := h l ⟨g1, by omega⟩
      rw [wtl_few hk g1 hl] at this
      have : (0 : Int) < 2 ^ (a.length - chg a l) := Int.pow_pos (by decide)
      omega
  | some (w, l), ⟨T, e, g⟩, h =>
    have hl : l.length = a.length := by have := h.1.2; omega
    exact .inr ⟨by rw [<- hl]; exact rg_even h.1.1, T, l, e, g, best_mn hk h⟩
def spFewest32:Sp:=fun vs H Q _=>∃ (k:Int) (a:List Nat),vs = [.int k,tx a]/\1 <= k/\k <= 4/\isRow k a = true/\∀ (v:V) (H':Hp),Same H H'->Res32 k.toNat a H' v->Q v H'
theorem few32_use {H:Hp} {k:Int} {a:List Nat} {Q:VK} {E:XK} (h1:1 <= k) (h2:k <= 4) (h3:isRow k a = true) (q:∀ (v:V) (H':Hp),Same H H'->Res32 k.toNat a H' v->Q v H'):spFewest32 ([.int k,tx a] ++ []) H Q E:=⟨k,a,rfl,h1,h2,h3,q⟩
theorem chg_set : ∀ {a l : List Nat} {i c : Nat}, a.length = l.length -> i < a.length -> chg (a.set i c) l + cs1 (a.getD i 0) (l.getD i 0) = chg a l + cs1 c (l.getD i 0)
  | x :: a, b :: l, 0, c, _, _ => by
    show chg (c :: a) (b :: l) + cs1 x b = chg (x :: a) (b :: l) + cs1 c b
    rw [chg_cons, chg_cons]; omega
  | x :: a, b :: l, i + 1, c, hl, hi => by
    have ih := chg_set (a := a) (l := l) (i := i) (c := c) (by simpa using hl) (by simpa using hi)
    show chg (x :: a.set i c) (b :: l) + cs1 (a.getD i 0) (l.getD i 0) = chg (x :: a) (b :: l) + cs1 c (l.getD i 0)
    rw [chg_cons, chg_cons]; omega
  | [], _, _, _, _, hi => by simp at hi
  | _ :: _, [], _, _, hl, _ => by simp at hl
theorem cs1_le (c b:Nat):cs1 c b <= 1:=by unfold cs1; split <;> omega
theorem cs1_own (b:Nat):cs1 (brs.getD b 0) b = 0:=by unfold cs1 okc; simp
theorem set_cut {a:List Nat} {i c:Nat} (h:i < a.length):a.take i ++ [c] ++ a.drop (i + 1) = a.set i c:=by
 rw [List.set_eq_take_append_cons_drop,if_pos h]; simp
theorem chg_own : ∀ l : List Nat, chg (brx l) l = 0
  | [] => rfl
  | b :: l => by
    show chg (brs.getD b 0 :: brx l) (b :: l) = 0
    rw [chg_cons, cs1_own, chg_own l]
theorem MnS.most {k:Nat} {a:List Nat} {x:Int × List Nat} (h:MnS k a 0 a.length x) {l:List Nat} (hl:Rg k l) (he:l.length = a.length):x.1 <= (chg a l:Nat):=by
 rcases ltP_no.mp (h.le ((chg a l:Nat),l) ⟨hl,by show 0 + l.length = _; omega,rfl⟩) with z | ⟨z,_⟩
 ·exact Int.le_of_lt z
 ·exact Int.le_of_eq z.symm
theorem MnS.again {k:Nat} {a:List Nat} {l l':List Nat} {i c:Nat} (hi:i < a.length) (h:MnS k a 0 a.length ((chg a l:Nat),l)) (h':MnS k (a.set i c) 0 (a.set i c).length ((chg (a.set i c) l':Nat),l')):chg (a.set i c) l' <= chg a l + 1:=by
 obtain ⟨h1,h2,_⟩:=h.is
 have hl:l.length = a.length:=by simpa using h2
 have:=h'.most h1 (by rw [List.length_set]; exact hl)
 have e:=chg_set (c:=c) hl.symm hi
 have:=cs1_le c (l.getD i 0)
 simp only at *
 omega
theorem MnS.back {k:Nat} (hk:k <= 4) {a:List Nat} {l:List Nat} {i:Nat} (hi:i < a.length) (h:MnS k a 0 a.length ((chg a l:Nat),l)) (hn:okc (a.getD i 0) (l.getD i 0) = false):MnS k (a.set i (brs.getD (l.getD i 0) 0)) 0 (a.set i (brs.getD (l.getD i 0) 0)).length (((chg a l:Nat):Int) - 1,l):=by
 obtain ⟨h1,h2,_⟩:=h.is
 have hl:l.length = a.length:=by simpa using h2
 have b8:∀ x:List Nat,Rg k x->x.length = a.length->x.getD i 0 < 8:=fun x hx he=>by
  have:=go_bd x [] [] hx (x.getD i 0) (by rw [List.getD_eq_getElem?_getD,List.getElem?_eq_getElem (by omega)]; exact List.getElem_mem _)
  omega
 have e1:cs1 (a.getD i 0) (l.getD i 0) = 1:=by unfold cs1; rw [hn]; rfl
 have e:=chg_set (c:=brs.getD (l.getD i 0) 0) hl.symm hi
 rw [e1,cs1_own] at e
 refine ⟨⟨h1,by show 0 + l.length = _; rw [List.length_set]; omega,by show ((chg a l:Nat):Int) - 1 = ((chg ((a.set i _).drop 0) l:Nat):Int); rw [List.drop_zero]; omega⟩,fun y hy=>?_⟩
 obtain ⟨g1,g2,g3⟩:=hy
 rw [List.drop_zero] at g3
 have g2:y.2.length = a.length:=by rw [List.length_set] at g2; omega
 have f:=chg_set (c:=brs.getD (l.getD i 0) 0) g2.symm hi
 have m:=h.le ((chg a y.2:Nat),y.2) ⟨g1,by show 0 + y.2.length = _; omega,rfl⟩
 rw [ltP_no] at m ⊢
 show ((chg a l:Nat):Int) - 1 < y.1\/(y.1 = ((chg a l:Nat):Int) - 1/\¬ y.2 < l)
 have m:((chg a l:Nat):Int) < ((chg a y.2:Nat):Int)\/(((chg a y.2:Nat):Int) = ((chg a l:Nat):Int)/\¬ y.2 < l):=m
 by_cases z:y.2.getD i 0 = l.getD i 0
 ·rw [z,e1,cs1_own] at f
  rcases m with m | ⟨m,m2⟩
  ·exact .inl (by omega)
  ·exact .inr ⟨by omega,m2⟩
 ·left
  have c1:cs1 (brs.getD (l.getD i 0) 0) (y.2.getD i 0) = 1:=by
   unfold cs1 okc
   rw [if_neg]
   intro w
   rcases of_decide_eq_true w with w | w
   ·exact brs_ne _ (b8 l h1 hl) w
   ·exact z (brs_inj _ (b8 l h1 hl) _ (b8 y.2 g1 g2) w).symm
  have c2:=cs1_le (a.getD i 0) (y.2.getD i 0)
  rcases m with m | ⟨m,m2⟩ <;> omega
theorem fll_iff {k : Nat} (hk : k <= 4) : ∀ {a bs st : List Nat}, bs.length = a.length -> (Fll k a st bs ↔ go k st bs = some [] /\ chg a bs = 0)
  | [], [], st, _ => by
    rw [go_nil, chg_nil]
    exact ⟨fun h => ⟨by rw [show st = [] from h], rfl⟩, fun h => Option.some.inj h.1⟩
  | c :: a, b :: bs, st, hl => by
    have hl : bs.length = a.length := by simpa using hl
    rw [chg_cons, go_cons]
    constructor
    · rintro ⟨h1, h2, h3, h4⟩
      have hn : nx k st b = some (stb st b) := by
        refine nx_of h1 ?_
        unfold stb
        by_cases c : b % 2 = 0
        · rw [if_pos c]; exact .inl ⟨c, rfl⟩
        · obtain ⟨s, e⟩ := h3 (by omega)
          rw [if_neg c, e]
          exact .inr ⟨by omega, rfl⟩
      obtain ⟨g1, g2⟩ := (fll_iff hk hl).mp h4
      rw [hn]
      refine ⟨g1, ?_⟩
      have ok : okc c b = true := decide_eq_true (pw_one hk h1 h2)
      unfold cs1
      rw [if_pos ok, g2]
    · rintro ⟨h1, h2⟩
      obtain ⟨s, g1, g2⟩ := Option.bind_eq_some_iff.mp h1
      obtain ⟨hb, g3⟩ := nx_some g1
      have ok : okc c b = true := by
        cases o : okc c b with
        | true => rfl
        | false => unfold cs1 at h2; rw [o] at h2; simp at h2
      have es : s = stb st b := by
        unfold stb
        rcases g3 with ⟨z, e⟩ | ⟨z, e⟩
        · rw [if_pos z]; exact e
        · rw [if_neg (by omega), e]; rfl
      refine ⟨hb, ?_, fun z => ?_, (fll_iff hk hl).mpr ⟨by rw [<- es]; exact g2, by omega⟩⟩
      · rw [pw_val hb hk, if_pos (of_decide_eq_true ok)]
      · rcases g3 with ⟨w, _⟩ | ⟨_, e⟩
        · omega
        · exact ⟨s, e⟩
  | [], _ :: _, _, hl => by simp at hl
  | _ :: _, [], _, hl => by simp at hl
theorem fi_of {k:Nat} (hk:k <= 4) {a l:List Nat} (hl:l.length = a.length) (h:Rg k l) (h0:chg a l = 0):Fi k a 0 [] l:=Fll.fl (Nat.zero_le _) (by rw [List.drop_zero]; exact (fll_iff hk hl).mpr ⟨h,h0⟩)
theorem of_fi {k:Nat} (hk:k <= 4) {a l:List Nat} (h:Fi k a 0 [] l):Rg k l/\chg a l = 0:=by
 have hl:=h.len
 have:=h.l
 rw [List.drop_zero] at this
 exact (fll_iff hk (by omega)).mp this
theorem rt_brx {k:Nat} (hk:k <= 4) {l:List Nat} (h:Rg k l):Rt (brx l):=Fi.run hk (st:=[]) (fun _ z=>nomatch z) (fi_of (a:=brx l) hk (by unfold brx; simp) h (chg_own l))
theorem brx_of {k:Nat} (hk:k <= 4) {row:List Nat} (h:Rt row) (hs:∀ c ∈ row,c ∈ sgn (k:Int)):∃ l,row = brx l/\Rg k l:=by
 obtain ⟨bs,e,f⟩:=run_back hk (b:=row) (a:=row) (st:=[]) (fun _ z=>nomatch z) hs rfl (fun i _=>.inr rfl) h
 exact ⟨bs,e,((fll_iff hk f.len).mp f).1⟩
theorem mt_chg : ∀ {a l : List Nat}, l.length = a.length -> Mt a l -> chg a l = 0
  | [], [], _, _ => rfl
  | c :: a, b :: l, hl, h => by
    rw [chg_cons, mt_chg (a := a) (l := l) (by simpa using hl) fun i hi => h (i + 1) (by simpa using hi)]
    have := h 0 (by simp)
    unfold cs1
    rw [if_pos (show okc c b = true from this)]
  | [], _ :: _, hl, _ => by simp at hl
  | _ :: _, [], hl, _ => by simp at hl
theorem cnt_has {k:Nat} (hk:k <= 4) {a:List Nat} (h:0 < cnt k a):∃ l,Rg k l/\l.length = a.length/\chg a l = 0:=by
 have hP:∀ i b,0 <= PP (a.map (plw (ones k))) i b:=fun i b=>(PP_bound (fun l hl=>(many_places hk l hl).2) i b).1
 obtain ⟨v,h1,h2,h3⟩:=(cv_pos hP a.length 0 [] (fun _ z=>nomatch z)).mp h
 refine ⟨v,h2,h1,mt_chg h1 fun i hi=>?_⟩
 have:=h3 i hi
 rw [Nat.zero_add] at this
 have hi':i < a.length:=by omega
 have hb:v.getD i 0 < 2 * k:=go_bd v [] [] h2 _ (by rw [List.getD_eq_getElem?_getD,List.getElem?_eq_getElem hi]; exact List.getElem_mem _)
 have e:PP (a.map (plw (ones k))) i (v.getD i 0) = pw k (a.getD i 0) (v.getD i 0):=pa_pw (by rw [List.getD_eq_getElem?_getD,List.getElem?_eq_getElem hi']; rfl) _
 rw [e,pw_val hb hk] at this
 refine decide_eq_true ?_
 by_cases c:a.getD i 0 = 63\/a.getD i 0 = brs.getD (v.getD i 0) 0
 ·exact c
 ·rw [if_neg c] at this; exact absurd this (Int.lt_irrefl _)
theorem cnt_zero {k:Nat} (hk:k <= 4) {a l:List Nat} (ha:a.length <= 40) (h:MnS k a 0 a.length ((chg a l:Nat),l)):decide (((chg a l:Nat):Int) = 0) = decide (cnt k a > 0):=by
 rw [decide_eq_decide]
 obtain ⟨h1,h2,_⟩:=h.is
 have hl:l.length = a.length:=by simpa using h2
 constructor
 ·intro z
  have hf:=fi_of hk hl h1 (by omega)
  have:=(Fi.pos hk ha (st:=[]) (fun _ z=>nomatch z) hf).2
  show 0 < W k a 0 []
  omega
 ·intro z
  obtain ⟨x,g1,g2,g3⟩:=cnt_has hk z
  have:=h.most g1 g2
  simp only at this
  omega
theorem ear_lt : ∀ {bs cs : List Nat}, Ear bs cs -> bs < cs
  | b :: bs, c :: cs, h => by
    rw [List.cons_lt_cons_iff]
    rcases h with h | ⟨h1, h2⟩
    · exact .inl h
    · exact .inr ⟨h1, ear_lt h2⟩
  | [], _, h => h.elim
  | _ :: _, [], h => h.elim
theorem nth_first {k:Nat} (hk:k <= 4) {a l bs:List Nat} (ha:a.length <= 40) (h:MnS k a 0 a.length ((chg a l:Nat),l)) (h0:chg a l = 0) (hn:NF k a 0 [] 0 bs) (hb:bs.length = a.length):bs = l:=by
 obtain ⟨h1,h2,_⟩:=h.is
 have hl:l.length = a.length:=by simpa using h2
 obtain ⟨p1,p2,p3⟩:=Fi.pos hk ha (st:=[]) (fun _ z=>nomatch z) (fi_of hk hl h1 h0)
 have hpos:0 < W k a 0 []:=by omega
 by_cases c:num k a 0 [] l = 0
 ·rw [c] at p1
  exact NF.uniq hk ha (by omega) hn p1
 ·exfalso
  have e:=ear_lt (NF.ear hk ha (by omega) hn p1 (by omega))
  obtain ⟨g1,g2⟩:=of_fi hk (NF.fl hk ha (i:=0) (st:=[]) (by omega) (fun _ z=>nomatch z) (Int.le_refl _) hpos hn)
  have:=h.le ((chg a bs:Nat),bs) ⟨g1,by show 0 + bs.length = _; omega,rfl⟩
  rcases ltP_no.mp this with z | ⟨_,z⟩
  ·simp only at z; omega
  ·exact z e
def sx (s:Nat × Nat) (c:Nat):Nat × Nat:=if c = 40 then (s.1,s.2 + 1) else if 0 < s.2 then (s.1,s.2 - 1) else (s.1 + 1,s.2)
def eo (a:List Nat):Nat × Nat:=a.foldl sx (0,0)
theorem eo_snoc (a:List Nat) (c:Nat):eo (a ++ [c]) = sx (eo a) c:=by unfold eo; rw [List.foldl_append]; rfl
theorem snoc_of {α:Type} {l:List α} {n:Nat} (h:l.length = n + 1):∃ l0 x,l = l0 ++ [x]/\l0.length = n:=by
 have ne:l ≠ []:=fun z=>by rw [z] at h; simp at h
 exact ⟨l.dropLast,l.getLast ne,(List.dropLast_concat_getLast ne).symm,by rw [List.length_dropLast]; omega⟩
theorem chg_snoc {a l : List Nat} {c b : Nat} (h : a.length = l.length) : chg (a ++ [c]) (l ++ [b]) = chg a l + cs1 c b := by
  have e : ∀ {a l : List Nat} (x : List Nat), a.length = l.length -> chg (a ++ x) l = chg a l := by
    intro a
    induction a with
    | nil => intro l x h; have : l = [] := List.length_eq_zero_iff.mp h.symm; rw [this, chg_nil, chg_nil]
    | cons y a ih =>
      intro l x h
      cases l with
      | nil => simp at h
      | cons z l => rw [List.cons_append, chg_cons, chg_cons, ih x (by simpa using h)]
  rw [chg_app _ _ _ (by rw [List.length_append]; omega), e _ h, <- h, List.drop_left, chg_one (by simp)]; rfl
theorem cs1_vals:cs1 40 0 = 0/\cs1 40 1 = 1/\cs1 41 0 = 1/\cs1 41 1 = 0:=by decide
theorem one_low : ∀ (n : Nat) {a l : List Nat} {st : List Nat}, a.length = n -> l.length = n -> (∀ c ∈ a, c = 40 \/ c = 41) -> go 1 [] l = some st ->
    (eo a).1 + (eo a).2 + 2 * ((eo a).1 % 2) <= 2 * chg a l + st.length /\ (eo a).1 + st.length <= 2 * chg a l + (eo a).2 /\ ((eo a).1 + (eo a).2 + st.length) % 2 = 0
  | 0, a, l, st, ha, hl, _, hg => by
    have e1 : a = [] := List.length_eq_zero_iff.mp ha
    have e2 : l = [] := List.length_eq_zero_iff.mp hl
    subst e1 e2
    rw [go_nil] at hg
    cases hg
    decide
  | n + 1, a, l, st, ha, hl, hc, hg => by
    obtain ⟨a, c, rfl, ha0⟩ := snoc_of ha
    obtain ⟨l, b, rfl, hl0⟩ := snoc_of hl
    clear ha hl
    have ha := ha0
    have hl := hl0
    rw [go_app] at hg
    obtain ⟨s, g1, g2⟩ := Option.bind_eq_some_iff.mp hg
    rw [go_cons] at g2
    obtain ⟨s2, g3, g4⟩ := Option.bind_eq_some_iff.mp g2
    rw [go_nil] at g4
    cases g4
    obtain ⟨i1, i2, i3⟩ := one_low n ha hl (fun c hc' => hc c (List.mem_append_left _ hc')) g1
    have c4 := hc c (List.mem_append_right _ (List.mem_singleton.mpr rfl))
    rw [eo_snoc, chg_snoc (by omega)]
    obtain ⟨v1, v2, v3, v4⟩ := cs1_vals
    generalize eo a = s0 at *
    obtain ⟨e, o⟩ := s0
    simp only at i1 i2 i3
    obtain ⟨hb, ⟨hm, hs⟩ | ⟨hm, hs⟩⟩ := nx_some g3
    · have b0 : b = 0 := by omega
      subst b0
      have hlen : st.length = s.length + 1 := by rw [hs]; rfl
      rcases c4 with rfl | rfl
      · rw [v1]; unfold sx; rw [if_pos rfl]; simp only; omega
      · rw [v3]; unfold sx; rw [if_neg (by decide)]
        by_cases ho : 0 < o
        · rw [if_pos ho]; simp only; omega
        · rw [if_neg ho]; simp only; omega
    · have b0 : b = 1 := by omega
      subst b0
      have hlen : s.length = st.length + 1 := by rw [hs]; rfl
      rcases c4 with rfl | rfl
      · rw [v2]; unfold sx; rw [if_pos rfl]; simp only; omega
      · rw [v4]; unfold sx; rw [if_neg (by decide)]
        by_cases ho : 0 < o
        · rw [if_pos ho]; simp only; omega
        · rw [if_neg ho]; simp only; omega
theorem go_snoc0 {l:List Nat} {h:Nat} (g:go 1 [] l = some (List.replicate h 0)):go 1 [] (l ++ [0]) = some (List.replicate (h + 1) 0):=by
 rw [go_app,g]
 show go 1 (List.replicate h 0) [2 * 0] = _
 rw [go_open _ _ (by decide),go_nil]; rfl
theorem go_snoc1 {l:List Nat} {h:Nat} (g:go 1 [] l = some (List.replicate (h + 1) 0)):go 1 [] (l ++ [1]) = some (List.replicate h 0):=by
 rw [go_app,g]
 show go 1 (0 :: List.replicate h 0) [2 * 0 + 1] = _
 rw [go_close _ _ (by decide),go_nil]
theorem one_high : ∀ (n : Nat) {a : List Nat} (h : Nat), a.length = n -> (∀ c ∈ a, c = 40 \/ c = 41) -> h <= (eo a).2 + (eo a).1 % 2 -> ((eo a).1 + (eo a).2 + h) % 2 = 0 ->
    ∃ l, l.length = n /\ go 1 [] l = some (List.replicate h 0) /\ 2 * chg a l + h <= (eo a).1 + (eo a).2 + 2 * ((eo a).1 % 2)
  | 0, a, h, ha, _, h1, h2 => by
    have e1 : a = [] := List.length_eq_zero_iff.mp ha
    subst e1
    have : h = 0 := by
      have : h <= 0 := h1
      omega
    subst this
    exact ⟨[], rfl, go_nil _, by decide⟩
  | n + 1, a, h, ha, hc, h1, h2 => by
    obtain ⟨a, c, rfl, ha0⟩ := snoc_of ha
    clear ha
    have ha := ha0
    have ih := fun h' => one_high n (a := a) h' ha (fun c hc' => hc c (List.mem_append_left _ hc'))
    have c4 := hc c (List.mem_append_right _ (List.mem_singleton.mpr rfl))
    rw [eo_snoc] at h1 h2 ⊢
    obtain ⟨v1, v2, v3, v4⟩ := cs1_vals
    generalize eo a = s0 at *
    obtain ⟨e, o⟩ := s0
    simp only at ih
    rcases c4 with rfl | rfl
    · unfold sx at h1 h2 ⊢
      rw [if_pos rfl] at h1 h2 ⊢
      simp only at h1 h2 ⊢
      cases h with
      | zero =>
        obtain ⟨l, l1, l2, l3⟩ := ih 1 (by omega) (by omega)
        exact ⟨l ++ [1], by simp [l1], go_snoc1 l2, by rw [chg_snoc (by omega), v2]; omega⟩
      | succ h =>
        obtain ⟨l, l1, l2, l3⟩ := ih h (by omega) (by omega)
        exact ⟨l ++ [0], by simp [l1], go_snoc0 l2, by rw [chg_snoc (by omega), v1]; omega⟩
    · unfold sx at h1 h2 ⊢
      rw [if_neg (by decide)] at h1 h2 ⊢
      by_cases ho : 0 < o
      · rw [if_pos ho] at h1 h2 ⊢
        simp only at h1 h2 ⊢
        obtain ⟨l, l1, l2, l3⟩ := ih (h + 1) (by omega) (by omega)
        exact ⟨l ++ [1], by simp [l1], go_snoc1 l2, by rw [chg_snoc (by omega), v4]; omega⟩
      · rw [if_neg ho] at h1 h2 ⊢
        simp only at h1 h2 ⊢
        by_cases he : e % 2 = 0
        · have : h = 1 := by omega
          subst this
          obtain ⟨l, l1, l2, l3⟩ := ih 0 (by omega) (by omega)
          exact ⟨l ++ [0], by simp [l1], go_snoc0 l2, by rw [chg_snoc (by omega), v3]; omega⟩
        · have : h = 0 := by omega
          subst this
          obtain ⟨l, l1, l2, l3⟩ := ih 1 (by omega) (by omega)
          exact ⟨l ++ [1], by simp [l1], go_snoc1 l2, by rw [chg_snoc (by omega), v4]; omega⟩
theorem one_all {a l:List Nat} (hc:∀ c ∈ a,c = 40\/c = 41) (he:a.length % 2 = 0) (h:MnS 1 a 0 a.length ((chg a l:Nat),l)):chg a l = ((eo a).1 + 1) / 2 + ((eo a).2 + 1) / 2:=by
 obtain ⟨h1,h2,_⟩:=h.is
 have hl:l.length = a.length:=by simpa using h2
 obtain ⟨p1,p2,p3⟩:=one_low a.length rfl hl hc h1
 obtain ⟨x,q1,q2,q3⟩:=one_high a.length (a:=a) 0 rfl hc (Nat.zero_le _) (by simpa using p3)
 have:=h.most (l:=x) q2 q1
 simp only [List.length_nil] at *
 omega
def unl (a l:List Nat):List Nat:=(List.range a.length).filter fun i=>!okc (a.getD i 0) (l.getD i 0)
theorem unl_len {a l : List Nat} (h : a.length = l.length) : (unl a l).length = chg a l := by
  have e := chg_sum a l h
  have : ∀ n : Nat, (((List.range n).filter fun i => !okc (a.getD i 0) (l.getD i 0)).length : Int) = ((List.range n).map fun i => (if okc (a.getD i 0) (l.getD i 0) = true then (0 : Int) else 1)).sum := by
    intro n
    induction n with
    | zero => rfl
    | succ n ih =>
      rw [List.range_succ, List.filter_append, List.length_append, List.map_append, List.sum_append, <- ih]
      rw [List.map_cons, List.map_nil, List.sum_cons, List.sum_nil, List.filter_cons, List.filter_nil]
      cases o : okc (a.getD n 0) (l.getD n 0) <;> simp
  have h2 := this a.length
  rw [e] at h2
  exact Int.ofNat_inj.mp h2
def spUnlike:Sp:=fun vs H Q _=>∃ (a l:List Nat),vs = [tx a,tx (brx l)]/\l.length = a.length/\a.length <= 40/\∀ r H',H r = none->Same H H'->H' r = some (.lst (nL (unl a l)))->Q (.ref r) H'
def spTold32:Sp:=fun vs H Q _=>∃ (k:Int) (a l:List Nat) (T:Addr),vs = [.int k,tx a,.ref T]/\1 <= k/\k <= 4/\isRow k a = true/\H T = some (.tup [.int (chg a l:Nat),tx (brx l)])/\MnS k.toNat a 0 a.length ((chg a l:Nat),l)/\∀ H',Same H H'->Q (.bl true) H'
def spOne32:Sp:=fun vs H Q _=>∃ (a:List Nat),vs = [tx a]/\a.length <= 40/\(∀ c ∈ a,c = 40\/c = 41)/\∀ H',Same H H'->Q (.int (((eo a).1 + 1) / 2 + ((eo a).2 + 1) / 2:Nat)) H'
def spLeast32:Sp:=fun vs H Q _=>∃ (k:Int) (a:List Nat),vs = [.int k,tx a]/\1 <= k/\k <= 4/\isRow k a = true/\a.length % 2 = 0/\∀ T l H',Same H H'->H' T = some (.tup [.int (chg a l:Nat),tx (brx l)])->MnS k.toNat a 0 a.length ((chg a l:Nat),l)->Q (.ref T) H'
def TD (k:Nat) (a:List Nat) (d:Addr) (H:Hp) (kvs:List (List Key × V)) (P:Nat->Nat->Prop):Prop :=
 ∀ i j:Nat,P i j->∃ (T p:Addr) (x:Int × List Nat),valV kvs (ky i j) = some (.ref T)/\T ≠ d/\p ≠ d/\H T = some (.tup [.int x.1,.ref p])/\H p = some (.lst (nL x.2))/\MnS k a i j x
theorem TD.keep {k:Nat} {a:List Nat} {d:Addr} {H H':Hp} {kvs:List (List Key × V)} {P:Nat->Nat->Prop} (h:TD k a d H kvs P) (s:SameBut1 d H H'):TD k a d H' kvs P:=fun i j hp=>by
 obtain ⟨T,p,x,h1,h2,h3,h4,h5,h6⟩:=h i j hp
 exact ⟨T,p,x,h1,h2,h3,s _ _ h4 h2,s _ _ h5 h3,h6⟩
theorem TD.put {k:Nat} {a:List Nat} {d:Addr} {H:Hp} {kvs:List (List Key × V)} {P P':Nat->Nat->Prop} (h:TD k a d H kvs P) {i j:Nat} {T p:Addr} {x:Int × List Nat} (hP:∀ i' j',P' i' j'->P i' j'\/(i' = i/\j' = j)) (h2:T ≠ d) (h3:p ≠ d) (h4:H T = some (.tup [.int x.1,.ref p])) (h5:H p = some (.lst (nL x.2))) (h6:MnS k a i j x):TD k a d (upd H d (.dT (putK kvs (ky i j) (.ref T)))) (putK kvs (ky i j) (.ref T)) P':=fun i' j' hp=>by
 rw [valV_put]
 by_cases c:i' = i/\j' = j
 ·obtain ⟨rfl,rfl⟩:=c
  rw [if_pos rfl]
  exact ⟨T,p,x,rfl,h2,h3,by rw [upd_ne h2]; exact h4,by rw [upd_ne h3]; exact h5,h6⟩
 ·rw [if_neg (fun z=>c (ky_inj.mp z))]
  obtain ⟨T',p',x',g1,g2,g3,g4,g5,g6⟩:=h i' j' ((hP i' j' hp).resolve_right c)
  exact ⟨T',p',x',g1,g2,g3,by rw [upd_ne g2]; exact g4,by rw [upd_ne g3]; exact g5,g6⟩
end BrS
namespace L2
open PySem PySem.Spec PyProof.Rows
section
variable {X:Cx}
theorem eqV_same {x:V} (h:flatV x = true):eqV x x = true:=by cases x <;> simp_all [eqV,flatV]
def rSmU (b:Bool) (K:PySem.W.Frag):R2:=fun x y H Q=>∃ a c xs,x = .ref a/\y = .ref c/\SqT K H a xs/\SqT K H c xs/\xs.all flatV = true/\Q (.bl b) H
theorem same_at {A:Around} {s:Shared} {xs:List V} {us ws:List Value} (r1:Vals xs us) (r2:Vals xs ws) (hf:xs.all flatV = true):∀ j (h1:j < us.toArray.size) (h2:j < ws.toArray.size),SeqAt.EqAt A s us.toArray[j] ws.toArray[j] true:=fun j h1 h2=>by
 have:=eqVs_at (A:=A) (s:=s) r1 r2 hf hf j h1 h2
 have l1:=r1.length
 have hj:j < xs.length:=by simpa [l1] using h1
 have e:xs.getD j .non = xs[j]:=by rw [List.getD_eq_getElem?_getD,List.getElem?_eq_getElem hj]; rfl
 rw [e,eqV_same (List.all_eq_true.mp hf _ (List.getElem_mem hj))] at this
 exact this
theorem op_neU2 (K:PySem.W.Frag) (hu:X.A.units < cLine) (hK:X.K = K:=by rfl):OpR X (compareOp .NotEq) (rSmU false K):=by
 subst hK
 intro pins s σ H x y v u Q I rx ry ⟨a,b,xs,e1,e2,q1,q2,hf,q⟩
 subst e1 e2
 cases rx
 cases ry
 obtain ⟨us,r1,p1,z1⟩:=I.tuple q1
 obtain ⟨ws,r2,p2,z2⟩:=I.tuple q2
 have l1:=r1.length
 have l2:=r2.length
 refine SeqAt.RcNeAt.tuples (e:=fun _=>true) p1 p2 hu (same_at r1 r2 hf) _ _ _ _ ⟨.bl false,H,I,?_,q⟩
 show Value.bool (!(((List.range (min us.toArray.size ws.toArray.size)).all fun _=>true) && us.toArray.size == ws.toArray.size)) = Value.bool false
 simp
 omega
theorem op_eqU (K:PySem.W.Frag) (hu:X.A.units < cLine) (hK:X.K = K:=by rfl):OpR X (compareOp .Eq) (rSmU true K):=by
 subst hK
 intro pins s σ H x y v u Q I rx ry ⟨a,b,xs,e1,e2,q1,q2,hf,q⟩
 subst e1 e2
 cases rx
 cases ry
 obtain ⟨us,r1,p1,z1⟩:=I.tuple q1
 obtain ⟨ws,r2,p2,z2⟩:=I.tuple q2
 have l1:=r1.length
 have l2:=r2.length
 refine SeqAt.RcAt.tuples (e:=fun _=>true) p1 p2 hu (same_at r1 r2 hf) _ _ _ _ ⟨.bl true,H,I,?_,q⟩
 show Value.bool (((List.range (min us.toArray.size ws.toArray.size)).all fun _=>true) && us.toArray.size == ws.toArray.size) = Value.bool true
 simp
 omega
end
theorem s_smU {b:Bool} {K:PySem.W.Frag} {a c:Addr} {xs:List V} {H:Hp} {Q:VK} (h1:H a = some (.tup xs)) (h2:H c = some (.tup xs)) (hf:xs.all flatV = true) (q:Q (.bl b) H):rSmU b K (.ref a) (.ref c) H Q:=⟨a,c,xs,rfl,rfl,SqT.of h1,SqT.of h2,hf,q⟩
end L2
namespace L2
open PySem PySem.Spec PyProof.Rows
section
variable {σ:St} {H:Hp} {Q:VK}
theorem comp_fR {lo:Int} {n:Nat} (p:Nat->Bool) (f:Nat->V) {own:List Str} {sel:List Nat} {g:TG} {tt:TT} {te:TE} (hn:n <= sizeLine)
  (hst:∀ D H',H D = none->Same H H'->H' D = some (.lst (((List.range n).filter p).map f))->Q (.ref D) H')
  (hs:∀ (D:Addr) (i:Nat) (H':Hp) (R0:Hp->Prop) (R1:V->Hp->Prop),H D = none->i < n->Same H H'->(p i = false->∀ H6,Same H' H6->R0 H6)->(p i = true->∀ H6,Same H' H6->R1 (f i) H6)->g (.int (lo + i)) (inSt own sel σ) H' fun σ4 H4=>tt σ4 H4 fun b H5=>if b = true then te σ4 H5 R1 else R0 H5):CompW (Itr lo n) own sel σ g tt te Q H:=by
 refine comp_of (n:=n) (fun D i ys H'=>ys = ((List.range i).filter p).map f/\Same H H') (fun D hD=>⟨rfl,same_new hD _⟩) (fun D i ys H' hD hi hy _=>hi) (fun D ys H' hD hy hl ⟨e,sH⟩=>⟨Nat.le_refl _,hst D H' hD sH (by rw [hy,e])⟩) ?_
 rintro D i ys H' x H3 hD hi hy hl ⟨e,sH⟩ ⟨rfl,rfl⟩
 refine hs D i H3 _ _ hD hi sH (fun hp H6 s6=>?_) (fun hp H6 s6=>?_)
 ·refine comp_skip hi (s6 _ _ hy) hl ⟨?_,sH.trans s6⟩
  rw [e,List.range_succ,List.filter_append]; simp [hp]
 ·refine comp_next hi hn (s6 _ _ hy) hl ⟨?_,fun b o z=>?_⟩
  ·rw [e,List.range_succ,List.filter_append]; simp [hp]
  ·rw [upd_ne (ne_of_none z hD)]
   exact s6 _ _ (sH _ _ z)
end
end L2
namespace BrS
open L2 PySem BrM BrC BrB BrR BrI
theorem isRow_set {kk:Int} {a:List Nat} {i c:Nat} (h:isRow kk a = true) (hc:c ∈ sgn kk):isRow kk (a.set i c) = true :=
 isRow_mk (by rw [List.length_set]; exact isRow_len h) fun x hx=>(List.mem_or_eq_of_mem_set hx).elim (fun z=>isRow_sgn h x z) fun e=>by rw [e]; exact hc
theorem sgn_bk {kk:Int} {b:Nat} (h1:1 <= kk) (h4:kk <= 4) (hb:b < 2 * kk.toNat):brs.getD b 0 ∈ sgn kk:=by
 have:=brs_sgn kk.toNat (by omega) b hb
 rwa [show ((kk.toNat:Nat):Int) = kk by omega] at this
end BrS
namespace BrS
open L2 PySem BrM BrC BrB BrR BrI
def PSp (n s i x y:Nat):Prop:=∃ t,y = x + 2 * t/\y <= n/\(t < s\/(t = s/\x < i))
theorem TD.imp {k:Nat} {a:List Nat} {d:Addr} {H:Hp} {kvs:List (List Key × V)} {P P':Nat->Nat->Prop} (h:TD k a d H kvs P) (hP:∀ i j,P' i j->P i j):TD k a d H kvs P':=fun i j hp=>h i j (hP i j hp)
theorem TD.at {k:Nat} {a:List Nat} {d:Addr} {H H':Hp} {kvs:List (List Key × V)} {P:Nat->Nat->Prop} (h:TD k a d H kvs P) {i j:Nat} (hp:P i j) (gd:H' d = some (.dT kvs)) {T:Addr} (hT:H' T = none):∃ (T' p:Addr) (x:Int × List Nat),DGet (upd H' T (.tup [.int (i:Int),.int (j:Int)])) d (.ref T) (some (.ref T'))/\H T' = some (.tup [.int x.1,.ref p])/\H p = some (.lst (nL x.2))/\MnS k a i j x:=by
 obtain ⟨T',p,x,h1,h2,h3,h4,h5,h6⟩:=h i j hp
 refine ⟨T',p,x,?_,h4,h5,h6⟩
 rw [<- h1]
 exact DGet.t (k:=ky i j) (by rw [upd_ne (ne_of_none gd hT)]; exact gd) upd_same
def Tq (sm:Addr) (H:Hp) (vs:List V) (L:List (Int × List Nat)):Prop:=vs.length = L.length/\∀ (i:Nat) (x:Int × List Nat),L[i]? = some x->∃ T p:Addr,vs[i]? = some (V.ref T)/\T ≠ sm/\p ≠ sm/\H T = some (.tup [.int x.1,.ref p])/\H p = some (.lst (nL x.2))
theorem Tq.nil (sm:Addr) (H:Hp):Tq sm H [] []:=⟨rfl,fun i e he=>by simp at he⟩
theorem Tq.keep {sm:Addr} {H H':Hp} {vs:List V} {L:List (Int × List Nat)} (h:Tq sm H vs L) (s:SameBut1 sm H H'):Tq sm H' vs L:=⟨h.1,fun i x hx=>by
 obtain ⟨T,p,a1,a2,a3,a4,a5⟩:=h.2 i x hx
 exact ⟨T,p,a1,a2,a3,s _ _ a4 a2,s _ _ a5 a3⟩⟩
theorem Tq.tps {sm:Addr} {H:Hp} {vs:List V} {L:List (Int × List Nat)} (h:Tq sm H vs L):Tps H vs L:=⟨h.1,fun i x hx=>by
 obtain ⟨T,p,a1,a2,a3,a4,a5⟩:=h.2 i x hx
 exact ⟨T,p,a1,a4,a5⟩⟩
theorem Tq.more {sm:Addr} {H:Hp} {vs:List V} {L:List (Int × List Nat)} {x:Int × List Nat} {T p:Addr} (h:Tq sm H vs L) (a2:T ≠ sm) (a3:p ≠ sm) (a4:H T = some (.tup [.int x.1,.ref p])) (a5:H p = some (.lst (nL x.2))):Tq sm H (vs ++ [.ref T]) (L ++ [x]):=by
 refine ⟨by rw [List.length_append,List.length_append,h.1]; rfl,fun i y hy=>?_⟩
 by_cases c:i < L.length
 ·rw [List.getElem?_append_left c] at hy
  obtain ⟨T',p',b1,b⟩:=h.2 i y hy
  exact ⟨T',p',by rw [List.getElem?_append_left (by rw [h.1]; exact c)]; exact b1,b⟩
 ·rw [List.getElem?_append_right (by omega)] at hy
  have hi:i = L.length:=by
   have:=(List.getElem?_eq_some_iff.mp hy).1
   simp at this; omega
  subst hi
  rw [Nat.sub_self] at hy
  cases hy
  exact ⟨T,p,by rw [List.getElem?_append_right (by rw [h.1]; exact Nat.le_refl _),h.1,Nat.sub_self]; rfl,a2,a3,a4,a5⟩
theorem pair_cut {q:Nat} (h:q < 4):cutL brs (some ((2 * q:Nat):Int)) (some ((2 * q + 2:Nat):Int)) = [brs.getD (2 * q) 0,brs.getD (2 * q + 1) 0]:=by
 rw [cut_nn]
 have:q = 0\/q = 1\/q = 2\/q = 3:=by omega
 rcases this with rfl | rfl | rfl | rfl <;> decide
theorem cs1_int (c b:Nat):(if (!decide (c = 63\/c = brs.getD b 0)) = true then (1:Int) else 0) = ((cs1 c b:Nat):Int):=by
 unfold cs1 okc
 by_cases z:c = 63\/c = brs.getD b 0
 ·rw [decide_eq_true z]; rfl
 ·rw [decide_eq_false z]; rfl
end BrS
namespace L2
open PySem
theorem units5 {k:Nat} {A:Around} (r:Room k A):A.units + 5 < cLine:=by have:=r.units; omega
end L2
namespace Bk
open PySem L2 BrM BrR BrS BrC BrB BrI
def top (i:Nat):Stmt:=PySem.Challenge.pw_bracketrows_k32_whole_changes_in_long_ro.main.body.getD i (.Pass ⟨0,0,0,0⟩)
abbrev d_is_whole:Stmt:=top 13
abbrev d_check_kinds:Stmt:=top 14
abbrev d_is_line:Stmt:=top 15
abbrev d_check_line:Stmt:=top 16
abbrev d_matched:Stmt:=top 17
abbrev d_is_right:Stmt:=top 18
abbrev d_partners:Stmt:=top 19
abbrev d_weighed_places:Stmt:=top 21
abbrev d_counted_places:Stmt:=top 22
abbrev d_pair_sum:Stmt:=top 23
abbrev d_no_sums:Stmt:=top 24
abbrev d_span_sums:Stmt:=top 25
abbrev d_whole_sum:Stmt:=top 26
abbrev d_likelier:Stmt:=top 28
abbrev d_likeliest_pair:Stmt:=top 29
abbrev d_round_about:Stmt:=top 30
abbrev d_one_behind_the_other:Stmt:=top 31
abbrev d_likeliest_spans:Stmt:=top 32
abbrev d_first_likeliest:Stmt:=top 33
abbrev d_needs_change:Stmt:=top 37
abbrev d_places_to_change:Stmt:=top 38
abbrev d_fewest_changes:Stmt:=top 39
abbrev d_opens:Stmt:=top 41
abbrev d_Course___init__:Stmt:=inClass (top 42) 0
abbrev d_Course_many_in_all:Stmt:=inClass (top 42) 1
abbrev d_Course_many_closing:Stmt:=inClass (top 42) 2
abbrev d_Course_many_with:Stmt:=inClass (top 42) 3
abbrev d_Course_take:Stmt:=inClass (top 42) 4
abbrev d_nth_filling:Stmt:=top 43
abbrev d_how_many:Stmt:=top 45
abbrev d_can_be_right:Stmt:=top 46
abbrev d_law_pool:Stmt:=top 48
abbrev d_law_draw:Stmt:=top 49
abbrev d_law_right:Stmt:=top 50
abbrev d_law_row:Stmt:=top 51
abbrev d_law_unlike:Stmt:=top 52
abbrev d_law_told_right:Stmt:=top 53
abbrev d_law_of_one_kind:Stmt:=top 54
abbrev d_law_fewest:Stmt:=top 55
abbrev d_law:Stmt:=top 56
structure Txt (K:PySem.W.Frag) (mg:Str->Option Value) (aK:Addr) (aC:Addr):Prop where
 n_all:mg "all" = none
 n_bool:mg "bool" = none
 n_enumerate:mg "enumerate" = none
 n_int:mg "int" = none
 n_isinstance:mg "isinstance" = none
 n_len:mg "len" = none
 n_list:mg "list" = none
 n_min:mg "min" = none
 n_range:mg "range" = none
 n_str:mg "str" = none
 n_sum:mg "sum" = none
 n_tuple:mg "tuple" = none
 n_zip:mg "zip" = none
 g_OPENING:∃ u,mg "OPENING" = some u/\RelV (tx [40,91,123,60]) u
 g_CLOSING:∃ u,mg "CLOSING" = some u/\RelV (tx [41,93,125,62]) u
 g_KINDS:∃ u,mg "KINDS" = some u/\RelV (.ref aK) u
 t_KINDS:∀ H,SqT K H aK [tx [40,41],tx [91,93],tx [123,125],tx [60,62]]
 g_BRACKETS:∃ u,mg "BRACKETS" = some u/\RelV (tx [40,41,91,93,123,125,60,62]) u
 g_UNKNOWN:∃ u,mg "UNKNOWN" = some u/\RelV (tx [63]) u
 g_MOST_SIGNS:∃ u,mg "MOST_SIGNS" = some u/\RelV (.int 40) u
 g_KEPT:∃ u,mg "KEPT" = some u/\RelV (.int 2) u
 g_CHANGED:∃ u,mg "CHANGED" = some u/\RelV (.int 1) u
 c_Course:mg "Course" = some (.ref aC)
 cl_Course:Cls K aC
 no_at:NoAttr K aC "at"
 no_closings:NoAttr K aC "closings"
 no_places:NoAttr K aC "places"
 no_rests:NoAttr K aC "rests"
 no_sums:NoAttr K aC "sums"
section
variable {P:Program} {w:World} {K:PySem.W.Frag} {mg:Str->Option Value} {base:Heap} {f aK aC:Addr} {fd:FuncData} {k:Nat}
local macro_rules | `(tactic| walk_at "st")=>`(tactic| first
 | with_reducible refine s_seq ?_
 | with_reducible refine s_asg ?_
 | with_reducible refine s_name ?_
 | ((with_reducible refine s_var (v:=?v) ?e ?_); (case e=>exact rfl))
 | with_reducible refine s_c ?_
 | with_reducible refine s_op ?_
 | with_reducible refine s_if ?_
 | with_reducible refine s_test ?_
 | with_reducible refine s_bl ?_
 | with_reducible refine s_call ?_
 | with_reducible refine s_cons ?_
 | with_reducible refine s_nil ?_
 | with_reducible refine s_cb ?_
 | with_reducible refine s_ret ?_
 | with_reducible refine s_lst ?_
 | with_reducible refine s_tup ?_
 | with_reducible refine s_drop ?_
 | with_reducible refine s_next ?_
 | with_reducible refine s_cont ?_
 | with_reducible refine s_break ?_
 | with_reducible refine s_gnil ?_
 | with_reducible refine s_gcons ?_
 | with_reducible refine s_gsub ?_
 | with_reducible refine s_un ?_
 | with_reducible refine s_neg ?_
 | with_reducible refine s_ifE ?_
 | with_reducible refine s_and ?_
 | with_reducible refine s_or ?_
 | with_reducible refine s_not ?_
 | with_reducible refine s_andV ?_
 | with_reducible refine s_orV ?_
 | with_reducible refine s_notV ?_
 | with_reducible refine s_tru ?_
 | with_reducible refine s_chain ?_
 | with_reducible refine s_truB ?_
 | with_reducible refine s_truN ?_
 | with_reducible refine s_addI ?_
 | with_reducible refine s_subI ?_
 | with_reducible refine s_eqI ?_
 | with_reducible refine s_eqT ?_
 | with_reducible refine s_eqB ?_
 | with_reducible refine s_neI ?_
 | with_reducible refine s_neT ?_
 | with_reducible refine s_neB ?_
 | with_reducible refine s_inT ?_
 | with_reducible refine s_notinT ?_
 | with_reducible refine s_sl ?_
 | with_reducible refine s_nopart ?_
 | with_reducible refine s_part ?_
 | with_reducible refine s_partI ?_
 | with_reducible refine s_max ?_
 | with_reducible refine s_min ?_
 | with_reducible refine s_intB ?_
 | with_reducible refine s_intI ?_
 | with_reducible refine s_bm ?_
 | with_reducible refine s_bm0 ?_
 | with_reducible refine s_for ?_
 | with_reducible refine s_irng1 ?_
 | with_reducible refine s_irng2 ?_
 | with_reducible refine s_irng3 ?_
 | with_reducible refine s_augS ?_
 | with_reducible refine s_ilist ?_
 | with_reducible refine s_istr ?_
 | with_reducible refine s_istrT ?_
 | with_reducible refine s_ienS ?_
 | with_reducible refine s_ienST ?_
 | with_reducible refine s_ienL ?_
 | with_reducible refine s_comp ?_
 | with_reducible refine s_rev ?_
 | with_reducible refine s_revI ?_
 | with_reducible refine s_irev ?_
 | with_reducible refine s_tyT ?_
 | ((with_reducible refine s_irevT ?e ?_); (case e=>first | assumption | exact small (by omega)))
 | ((with_reducible refine s_revT ?e ?_); (case e=>first | assumption | exact small (by omega)))
 | with_reducible refine s_yes ?_
 | with_reducible refine s_dput ?_
 | with_reducible refine s_dget ?_
 | with_reducible refine s_par ?_
 | with_reducible refine s_sset ?_
 | with_reducible refine s_iziS ?_
 | with_reducible refine s_iziT ?_
 | with_reducible refine s_meth ?_
 | with_reducible refine s_make ?_
 | with_reducible refine s_fldT ?_
 | with_reducible refine s_fldS ?_
 | with_reducible refine s_fldA ?_
 | ((with_reducible refine s_aug (x:=?x) ?e ?_); (case e=>exact rfl))
 | with_reducible refine s_ipI ?_
 | ((with_reducible refine s_is ?e ?_); (case e=>exact rfl))
 | ((with_reducible refine s_isnot ?e ?_); (case e=>exact rfl))
 | ((with_reducible refine s_ixL (xs:=?xs) (v:=?v) ?h ?e ?_); (case h=>assumption); (case e=>exact rfl))
 | ((with_reducible refine s_rI ?e ?_); (case e=>first | (exact (show (0:Int) < _ by omega)) | (exact ⟨by omega,by omega⟩) | (exact ⟨by decide,by decide,by decide⟩)))
 | ((with_reducible refine s_mulI ?e ?_); (case e=>first | exact .inl ⟨by omega,by omega⟩ | exact .inr ⟨by omega,by omega⟩))
 | ((with_reducible refine s_lenT ?e ?_); (case e=>first | assumption | exact small (by omega)))
 | ((with_reducible refine s_addT ?e ?_); (case e=>first | exact small (by omega) | exact small (by simp only [List.length_append,List.length_cons,List.length_nil]; omega)))
 | ((with_reducible refine s_slT ?e ?_); (case e=>first | assumption | exact small (by omega) | exact small (by simp only [List.length_append,List.length_cons,List.length_nil]; omega)))
 )
local macro_rules | `(tactic| walk_at "go")=>`(tactic| repeat (walk_at "st"))
theorem sc_is_whole:FnScope ["thing"] ["thing"] (defScope d_is_whole):=⟨rfl,rfl,rfl,by decide +kernel,rfl,by decide +kernel,by decide +kernel⟩
theorem ok_is_whole (F:Fun K "is_whole" "is_whole" d_is_whole f fd) (T:Txt K mg aK aC)  : FnOk P w K mg base CX0 (k + 1) f fd ["thing"] (spWhole K):=by
 refine F.ok sc_is_whole (fun vs H Q E h=>?_) (fun cdv A outer s H vs Q E hr h=>?_)
 ·obtain ⟨x,T',rfl,_⟩:=h; rfl
 obtain ⟨x,ty,rfl,hT,hp,q⟩:=h
 refine ⟨_,(pss_one (ps_ret (pe_and (pe_callB (call_isiA K) rfl T.n_isinstance PyProof.Rows.boot_isinstance (pa_cons (pv 0) (pa_cons (pe_ty T.n_int PyProof.Rows.boot_int) pa_nil))) (pe_one (pe_not (pe_callB (call_isiA K) rfl T.n_isinstance PyProof.Rows.boot_isinstance (pa_cons (pv 0) (pa_cons (pe_ty T.n_bool PyProof.Rows.boot_bool) pa_nil)))))))),?_⟩
 walk_at "go"
 have hp':ty = "NoneType"\/ty = "bool"\/ty = "int"\/ty = "str"\/ty = "list"\/ty = "tuple"\/ty = "dict":=by simpa [plainTy] using hp
 rcases hp' with rfl | rfl | rfl | rfl | rfl | rfl | rfl
 ·refine s_isi (b:=false) hT (by with_unfolding_all rfl) (s_bl (iteF ?_)); exact q
 ·refine s_isi (b:=true) hT (by with_unfolding_all rfl) (s_bl (iteT ?_))
  walk_at "go"
  refine s_isi (b:=true) hT (by with_unfolding_all rfl) (s_bl ?_); exact q
 ·refine s_isi (b:=true) hT (by with_unfolding_all rfl) (s_bl (iteT ?_))
  walk_at "go"
  refine s_isi (b:=false) hT (by with_unfolding_all rfl) (s_bl ?_); exact q
 ·refine s_isi (b:=false) hT (by with_unfolding_all rfl) (s_bl (iteF ?_)); exact q
 ·refine s_isi (b:=false) hT (by with_unfolding_all rfl) (s_bl (iteF ?_)); exact q
 ·refine s_isi (b:=false) hT (by with_unfolding_all rfl) (s_bl (iteF ?_)); exact q
 ·refine s_isi (b:=false) hT (by with_unfolding_all rfl) (s_bl (iteF ?_)); exact q
theorem sc_check_kinds:FnScope ["k"] ["k"] (defScope d_check_kinds):=⟨rfl,rfl,rfl,by decide +kernel,rfl,by decide +kernel,by decide +kernel⟩
theorem ok_check_kinds (F:Fun K "check_kinds" "check_kinds" d_check_kinds f fd) (T:Txt K mg aK aC) (U_is_whole:FnU P w K mg base k "is_whole" ["thing"] (spWhole K)):FnOk P w K mg base CX0 (k + 1) f fd ["k"] (spKinds):=by
 refine F.ok sc_check_kinds (fun vs H Q E h=>?_) (fun cdv A outer s H vs Q E hr h=>?_)
 ·obtain ⟨x,rfl,_⟩:=h; rfl
 obtain ⟨x,rfl,h1,h2,q⟩:=h
 refine ⟨_,(pss_one (ps_if (PW.pt (pw_or (pt_not (pt_tru K (pe_fn U_is_whole hr (pa_cons (pv 0) pa_nil)))) (pw_or1 (pt_not (pt_chain op_le op_le pe_int (pv 0) (pe_callB (call_lenA K) rfl T.n_len PySem.boot_len (pa_cons (pe_gl T.g_KINDS) pa_nil))))))) (pss_one ps_never) pss_nil)),?_⟩
 walk_at "go"
 refine whole_int ?_
 walk_at "go"
 refine ifq rfl ?_
 walk_at "go"
 refine ifp (decide_eq_true h1) ?_
 walk_at "go"
 refine s_lenL (.inr (T.t_KINDS H)) ?_
 walk_at "go"
 refine ifq (by simp; omega) ?_
 walk_at "go"
 exact q
theorem sc_is_line:FnScope ["k","thing","signs"] ["k","thing"] (defScope d_is_line):=⟨rfl,rfl,rfl,by decide +kernel,rfl,by decide +kernel,by decide +kernel⟩
theorem ok_is_line (F:Fun K "is_line" "is_line" d_is_line f fd) (T:Txt K mg aK aC) (U_check_kinds:FnU P w K mg base k "check_kinds" ["k"] (spKinds)):FnOk P w K mg base CX0 (k + 1) f fd ["k","thing"] (spLine K):=by
 refine F.ok sc_is_line (fun vs H Q E h=>?_) (fun cdv A outer s H vs Q E hr h=>?_)
 ·obtain ⟨kk,x,rfl,_⟩:=h; rfl
 obtain ⟨kk,x,rfl,h1,h2,hx⟩:=h
 refine ⟨_,(pss_cons (ps_expr (pe_fn U_check_kinds hr (pa_cons (pv 0) pa_nil)))  (pss_cons (ps_if (PW.pt (pw_or (pt_not (pt_tru K (pe_callB (call_isiA K) rfl T.n_isinstance PyProof.Rows.boot_isinstance (pa_cons (pv 1) (pa_cons (pe_ty T.n_str PyProof.Rows.boot_str) pa_nil))))) (pw_or1 (pt_cmpR op_gt (pe_callB (call_lenA K) rfl T.n_len PySem.boot_len (pa_cons (pv 1) pa_nil)) (pe_gl T.g_MOST_SIGNS) (nomark _)))))   (pss_one (ps_ret pe_bl))   pss_nil)  (pss_cons (ps_set (i:=2) sc_is_line.nd rfl (Or.inr rfl) (pe_op op_plus (pe_op op_plus (pe_slice (sl_A K) (pe_gl T.g_OPENING) po_none (po_some (pv 0))) (pe_slice (sl_A K) (pe_gl T.g_CLOSING) po_none (po_some (pv 0)))) (pe_gl T.g_UNKNOWN)))  (pss_one (ps_ret (pe_callB (call_allA K rfl) rfl T.n_all PyProof.Rows.boot_all (pa_cons (pe_comp (own:=["sign"]) (sel:=[2]) (compOk_of (osc:=(defScope d_is_line)) (N:=["k","thing","signs"]) (by decide +kernel)) rfl (pi_str (pv 1)) (fun _ _ _ _ _=>(pg_name (i:=0) (show (["sign","signs"]:List Str).Nodup from by decide +kernel) rfl (Or.inl rfl))) (gk_name (by decide)) (fun _ _ _ _ _=>pif_nil) (fun _ _ _ _ _=>(pe_cmpR (op_inA K) (pv 0) (pv 1) (by with_unfolding_all rfl)))) pa_nil))))))),?_⟩
 walk_at "go"
 refine kinds_use h1 h2 ?_
 walk_at "go"
 rcases hx with ⟨a,rfl,ha,q⟩ | ⟨ty,hT,hp,hs,q⟩
 ·refine s_isi (b:=true) (TyOf.str _) (by with_unfolding_all rfl) ?_
  walk_at "go"
  refine ifq rfl ?_
  walk_at "go"
  refine ifd (fun hc=>?_) (fun hc=>?_)
  ·walk_at "go"
   have e:isRow kk a = false:=by unfold isRow; rw [decide_eq_false (by omega),Bool.false_and]
   have:=q H (Same.refl H)
   rw [e] at this
   exact this
  ·walk_at "go"
   rw [cut_to _ (by omega),cut_to _ (by omega)]
   have l1:((([40,91,123,60]:List Nat)).take kk.toNat).length <= 4:=by rw [List.length_take]; exact Nat.min_le_right _ _
   have l2:((([41,93,125,62]:List Nat)).take kk.toNat).length <= 4:=by rw [List.length_take]; exact Nat.min_le_right _ _
   first | refine s_addT (small (by omega)) ?_ | skip
   walk_at "go"
   first | refine s_addT (small (by rw [List.length_append,List.length_singleton]; omega)) ?_ | skip
   walk_at "go"
   refine comp_of (n:=a.length) (fun D i ys H'=>ys = ((a.take i).map fun c=>V.bl (decide (c ∈ sgn kk)))/\SameBut1 D H H') (fun D hD=>⟨rfl,SameBut1.of (same_new hD _)⟩) (fun D i ys H' _ hi _ _=>by simpa [Its] using hi) (fun D ys H' hD hD' hl ⟨e,sH⟩=>⟨by simp [Its],?_⟩) ?_
   ·rw [List.take_length] at e
    subst e
    have hS:SqL K H' D ((a.map fun c=>decide (c ∈ sgn kk)).map V.bl):=by
     rw [List.map_map]; exact SqL.of hD'
    refine s_all hS ?_
    have e2:((a.map fun c=>decide (c ∈ sgn kk)).all id) = isRow kk a:=by
     unfold isRow
     rw [decide_eq_true (by omega),Bool.true_and,List.all_map]
     rfl
    rw [e2]
    exact q H' fun b o z=>sH b o z (ne_of_none z hD)
   ·rintro D i ys H' x H3 hD hi hD' hl ⟨e,sH⟩ ⟨rfl,c,ec,rfl⟩
    have ec':a[i]? = some c:=by simpa using ec
    show gName 0 (tx [c]) _ _ _
    walk_at "go"
    refine iteT ?_
    walk_at "go"
    refine comp_next hi (small (by omega)) hD' hl ⟨?_,sH.trans SameBut1.upd⟩
    rw [e,List.take_add_one,ec']
    simp only [Option.toList_some,List.map_append,List.map_cons,List.map_nil]
    rfl
 ·have hp':ty = "NoneType"\/ty = "bool"\/ty = "int"\/ty = "list"\/ty = "tuple"\/ty = "dict":=by
   have:ty = "NoneType"\/ty = "bool"\/ty = "int"\/ty = "str"\/ty = "list"\/ty = "tuple"\/ty = "dict":=by simpa [plainTy] using hp
   rcases this with z | z | z | z | z | z | z
   ·exact .inl z
   ·exact .inr (.inl z)
   ·exact .inr (.inr (.inl z))
   ·exact absurd z hs
   ·exact .inr (.inr (.inr (.inl z)))
   ·exact .inr (.inr (.inr (.inr (.inl z))))
   ·exact .inr (.inr (.inr (.inr (.inr z))))
  have fin:PySem.W.kitOne K (.type ty) (.type "str") = some false:=by
   rcases hp' with rfl | rfl | rfl | rfl | rfl | rfl <;> with_unfolding_all rfl
  refine s_isi (b:=false) hT fin ?_
  walk_at "go"
  refine ifp rfl ?_
  walk_at "go"
  refine ifp rfl ?_
  walk_at "go"
  exact q
theorem sc_check_line:FnScope ["k","row"] ["k","row"] (defScope d_check_line):=⟨rfl,rfl,rfl,by decide +kernel,rfl,by decide +kernel,by decide +kernel⟩
theorem ok_check_line (F:Fun K "check_line" "check_line" d_check_line f fd) (T:Txt K mg aK aC) (U_is_line:FnU P w K mg base k "is_line" ["k","thing"] (spLine K)):FnOk P w K mg base CX0 (k + 1) f fd ["k","row"] (spCheckLine):=by
 refine F.ok sc_check_line (fun vs H Q E h=>?_) (fun cdv A outer s H vs Q E hr h=>?_)
 ·obtain ⟨kk,a,rfl,_⟩:=h; rfl
 obtain ⟨kk,a,rfl,h1,h2,ha,q⟩:=h
 refine ⟨_,(pss_one (ps_if (pt_not (pt_tru K (pe_fn U_is_line hr (pa_cons (pv 0) (pa_cons (pv 1) pa_nil))))) (pss_one ps_never) pss_nil)),?_⟩
 have hl:=isRow_len ha
 walk_at "go"
 refine line_use h1 h2 (by omega) (fun H' sH=>?_)
 walk_at "go"
 refine ifq (by rw [ha]; rfl) ?_
 walk_at "go"
 exact q H' sH
theorem sc_matched:FnScope ["row","found","waiting","at","sign","start"] ["row"] (defScope d_matched):=⟨rfl,rfl,rfl,by decide +kernel,rfl,by decide +kernel,by decide +kernel⟩
theorem ok_matched (F : Fun K "matched" "matched" d_matched f fd) (T : Txt K mg aK aC)  : FnOk P w K mg base CX0 (k + 1) f fd ["row"] (spMatched) := by
  refine F.ok sc_matched (fun vs H Q E h => ?_) (fun cdv A outer s H vs Q E hr h => ?_)
  · obtain ⟨a, rfl, _⟩ := h; rfl
  obtain ⟨a, rfl, ha, q, q'⟩ := h
  have hu := hr.units0
  refine ⟨_, (pss_cons (ps_set (i := 1) sc_matched.nd rfl (Or.inl rfl) (pe_op op_times (pe_lst (pa_cons pe_int pa_nil)) (pe_callB (call_lenA K) rfl T.n_len PySem.boot_len (pa_cons (pv 0) pa_nil))))  (pss_cons (ps_set (i := 2) sc_matched.nd rfl (Or.inl rfl) (pe_lst pa_nil))  (pss_cons (ps_for PassesOwn.never rfl (pi_enumS rfl T.n_enumerate (pa_cons (pv 0) pa_nil)) (pg_tupK (n := 2) K rfl (pgs_cons (pg_name (i := 3) sc_matched.nd rfl (Or.inl rfl)) (pgs_cons (pg_name (i := 4) sc_matched.nd rfl (Or.inl rfl)) pgs_nil)))   (pss_cons (ps_if (pt_cmpR (op_inA K) (pv 4) (pe_gl T.g_OPENING) (by with_unfolding_all rfl))   (pss_cons (ps_expr (pe_bmK K PySem.F.plainAttrs_list PySem.F.slot_list_append PySem.F.type_list_append mt_append (pv 2) (pa_cons (pv 3) pa_nil)))  (pss_one ps_continue))   pss_nil)  (pss_cons (ps_if (PW.pt (pw_or (pt_not (pt_tru K (pv 2))) (pw_or1 (pt_cmpR (op_notinA K) (pe_op op_plus (pe_ix (ix_A K) (pv 0) (pe_ix (ix_A K) (pv 2) (pe_un un_neg pe_int) (fun _ _ => rfl)) (fun _ _ => rfl)) (pv 4)) (pe_gl T.g_KINDS) (by with_unfolding_all rfl)))))   (pss_one (ps_ret pe_non))   pss_nil)  (pss_cons (ps_set (i := 5) sc_matched.nd rfl (Or.inl rfl) (pe_bm0K K PySem.F.plainAttrs_list PySem.F.slot_list_pop PySem.F.type_list_pop mt_pop (pv 2)))  (pss_cons (ps_asg (pv 3) (pg_sub (pv 1) (pv 5) set_list))  (pss_one (ps_asg (pv 5) (pg_sub (pv 1) (pv 3) set_list))))))))  (pss_one (ps_ret (pe_ifExp (pt_tru K (pv 2)) pe_non (pv 1))))))), ?_⟩
  walk_at "go"
  refine ⟨small (show 1 <= 1000 by decide), fun p0 hp0 => ?_⟩
  walk_at "go"
  refine s_rep upd_same (by omega) (by omega) (small (by simp; omega)) (fun fo hfo => ?_)
  rw [Int.toNat_natCast, flat1]
  walk_at "go"
  refine ⟨small (show 0 <= 1000 by decide), fun wa hwa => ?_⟩
  walk_at "go"
  have sH : Same H (upd (upd (upd H p0 (.lst [.int 0])) fo (.lst (List.replicate a.length (V.int 0)))) wa (.lst [])) := (same_new hp0 _).trans ((same_new hfo _).trans (same_new hwa _))
  have hfw : fo ≠ wa := ne_of_none upd_same hwa
  have hHf : H fo = none := (same_new hp0 _).free hfo
  have hHw : H wa = none := (same_new hp0 _).free ((same_new hfo _).free hwa)
  refine for_enS (fun i σ H' => ∃ (st ws : List Nat) (xs : List V) (o3 o4 o5 : Option V), σ = [some (tx a), some (.ref fo), some (.ref wa), o3, o4, o5] /\ MI a i st ws xs /\ H' fo = some (.lst xs) /\ H' wa = some (.lst (ws.reverse.map fun (w : Nat) => V.int w)) /\ Same H H') ⟨[], [], List.replicate a.length (V.int 0), _, _, _, rfl, MI.start a (by simp), ?_, upd_same, sH⟩ ?_ ?_
  · rw [upd_ne hfw, upd_same]
  · rintro i c σ H1 tt hc ht ⟨st, ws, xs, o3, o4, o5, rfl, m, hf1, hw1, s1⟩
    have hi : i < a.length := (List.getElem?_eq_some_iff.mp hc).1
    have s2 : Same H1 (upd H1 tt (.tup [.int i, tx [c]])) := same_new ht _
    have hf2 := s2 _ _ hf1
    have hw2 := s2 _ _ hw1
    have hwl : ws.length <= 40 := by
      have e1 := m.wk.len
      have e2 := ht_of m.rn
      have : ∀ l : List Nat, hg l <= l.length := by
        intro l
        induction l with
        | nil => simp [hg]
        | cons d r ih => rw [hg, List.length_cons]; unfold sg; split <;> omega
      have e3 := this (a.take i)
      unfold BrM.ht at e2
      rw [List.length_take] at e3
      omega
    refine s_gtup (SqT.of upd_same) rfl ?_
    walk_at "go"
    refine ifd (fun ho => ?_) (fun ho => ?_)
    · walk_at "go"
      refine ⟨.inl ⟨rfl, _, SqL.of hw2⟩, ?_⟩
      walk_at "go"
      refine ⟨wa, _, .int i, rfl, rfl, hw2, small1000 (by simp; omega), ?_⟩
      walk_at "go"
      refine ⟨_, i :: ws, xs, _, _, _, rfl, m.opens hc ho, ?_, ?_, ?_⟩
      · rw [upd_ne hfw]; exact hf2
      · rw [upd_same]; simp
      · intro b o z
        rw [upd_ne (ne_of_none z hHw)]
        exact s2 b o (s1 b o z)
    · walk_at "go"
      refine s_truL (SqL.of hw2) ?_
      have ho : c ∉ opn := ho
      have hne : ∀ (hn : ¬ (∃ w wr r, ws = w :: wr /\ st = c :: r)), ¬ Rt a := by
        intro hn hR
        obtain ⟨s', e⟩ := run_take hR (i + 1)
        rw [run_next m.rn hc] at e
        unfold BrM.stp at e
        rw [if_neg ho] at e
        cases st with
        | nil => cases e
        | cons d r =>
          simp only at e
          split at e
          · rename_i hd
            cases ws with
            | nil => have := m.wk.len; simp at this
            | cons w wr => exact hn ⟨w, wr, r, rfl, by rw [hd]⟩
          · cases e
      cases ws with
      | nil =>
        refine ifp rfl ?_
        walk_at "go"
        exact q' (hne (by rintro ⟨_, _, _, z, _⟩; cases z)) _ (s1.trans s2)
      | cons w wr =>
        refine ifq (by simp) ?_
        obtain ⟨cw, r, hcw, hcwo, rfl, hwi⟩ := m.top
        have hwa' : w < a.length := by omega
        have elast : ((w :: wr).reverse.map fun (w : Nat) => V.int w) = (wr.reverse.map fun (w : Nat) => V.int w) ++ [V.int w] := by simp
        have hl2 : atI ((w :: wr).reverse.map fun (w : Nat) => V.int w) (-1) = some (.int w) := by rw [elast]; exact atI_last _ _
        walk_at "st"
        walk_at "st"
        walk_at "st"
        walk_at "st"
        walk_at "st"
        walk_at "st"
        walk_at "go"
        refine s_ixL (SqL.of hw2) hl2 ?_
        refine s_ixT (small (by omega)) (atI_nat hcw) ?_
        walk_at "go"
        refine s_notinS (.inr (T.t_KINDS _)) rfl rfl ?_
        have ek : inV (tx ([cw] ++ [c])) [tx [40, 41], tx [91, 93], tx [123, 125], tx [60, 62]] = decide (c = clo cw) := kinds_in hcwo
        rw [ek]
        walk_at "go"
        refine ifn (fun hcc => ?_) (fun hcc => ?_)
        · walk_at "go"
          exact q' (hne (by rintro ⟨_, _, _, _, z⟩; injection z with z _; exact hcc z.symm)) _ (s1.trans s2)
        · walk_at "go"
          refine ⟨.inl ⟨rfl, _, SqL.of hw2⟩, ?_⟩
          refine ⟨wa, _, .int w, rfl, rfl, hw2, ?_, ?_⟩
          · rw [elast]; simp
          · walk_at "go"
            have hf3 : (upd (upd H1 tt (.tup [.int i, tx [c]])) wa (.lst ((w :: wr).reverse.map fun (w : Nat) => V.int w).dropLast)) fo = some (.lst xs) := by rw [upd_ne hfw]; exact hf2
            have hxl := m.len
            refine s_setL (j := w) hf3 (by simp [ixN]; omega) ?_
            walk_at "go"
            refine s_setL (j := i) upd_same (by simp [ixN]; omega) ?_
            walk_at "go"
            refine ⟨r, wr, _, _, _, _, rfl, MI.closes (c := c) (by rw [hcc]; exact m) hc ho, upd_same, ?_, ?_⟩
            · rw [upd_ne hfw.symm, upd_ne hfw.symm, upd_same, elast]; simp
            · intro b o z
              rw [upd_ne (ne_of_none z hHf), upd_ne (ne_of_none z hHf), upd_ne (ne_of_none z hHw)]
              exact s2 b o (s1 b o z)
  · rintro σ H1 ⟨st, ws, xs, o3, o4, o5, rfl, m, hf1, hw1, s1⟩
    have hrun := m.rn
    rw [List.take_length] at hrun
    walk_at "go"
    refine s_truL (SqL.of hw1) ?_
    have hl := m.wk.len
    cases ws with
    | nil =>
      refine ifq rfl ?_
      walk_at "go"
      cases st with
      | nil => exact q hrun fo xs H1 hHf s1 hf1 m.fin
      | cons d r => simp at hl
    | cons w wr =>
      refine ifp (by simp) ?_
      walk_at "go"
      refine q' (fun hR => ?_) H1 s1
      have hR' : run [] a = some [] := hR
      rw [hrun] at hR'
      cases hR'
      simp at hl
theorem sc_is_right:FnScope ["k","row"] ["k","row"] (defScope d_is_right):=⟨rfl,rfl,rfl,by decide +kernel,rfl,by decide +kernel,by decide +kernel⟩
theorem ok_is_right (F:Fun K "is_right" "is_right" d_is_right f fd) (T:Txt K mg aK aC) (U_check_line:FnU P w K mg base k "check_line" ["k","row"] (spCheckLine)) (U_matched:FnU P w K mg base k "matched" ["row"] (spMatched)):FnOk P w K mg base CX0 (k + 1) f fd ["k","row"] (spRightP):=by
 refine F.ok sc_is_right (fun vs H Q E h=>?_) (fun cdv A outer s H vs Q E hr h=>?_)
 ·obtain ⟨kk,a,rfl,_⟩:=h; rfl
 obtain ⟨kk,a,rfl,h1,h2,ha,q⟩:=h
 have hu:=hr.units0
 refine ⟨_,(pss_cons (ps_expr (pe_fn U_check_line hr (pa_cons (pv 0) (pa_cons (pv 1) pa_nil)))) (pss_one (ps_ret (pe_cmpR op_isnotA (pe_fn U_matched hr (pa_cons (pv 1) pa_nil)) pe_non (nomark _))))),?_⟩
 have hl:=isRow_len ha
 walk_at "go"
 refine checkLine_use h1 h2 ha (fun H1 s1=>?_)
 walk_at "go"
 refine matched_use hl (fun hR r xs H2 hr2 s2 hx hP=>?_) (fun hn H2 s2=>?_)
 ·walk_at "go"
  have:=q H2 (s1.trans s2)
  rw [decide_eq_true hR] at this
  exact this
 ·walk_at "go"
  have:=q H2 (s1.trans s2)
  rw [decide_eq_false hn] at this
  exact this
theorem sc_partners:FnScope ["k","row","found"] ["k","row"] (defScope d_partners):=⟨rfl,rfl,rfl,by decide +kernel,rfl,by decide +kernel,by decide +kernel⟩
theorem ok_partners (F:Fun K "partners" "partners" d_partners f fd) (T:Txt K mg aK aC) (U_check_line:FnU P w K mg base k "check_line" ["k","row"] (spCheckLine)) (U_matched:FnU P w K mg base k "matched" ["row"] (spMatched)):FnOk P w K mg base CX0 (k + 1) f fd ["k","row"] (spPartners):=by
 refine F.ok sc_partners (fun vs H Q E h=>?_) (fun cdv A outer s H vs Q E hr h=>?_)
 ·obtain ⟨kk,a,rfl,_⟩:=h; rfl
 obtain ⟨kk,a,rfl,h1,h2,ha,hR,q⟩:=h
 have hu:=hr.units0
 refine ⟨_,(pss_cons (ps_expr (pe_fn U_check_line hr (pa_cons (pv 0) (pa_cons (pv 1) pa_nil)))) (pss_cons (ps_set (i:=2) sc_partners.nd rfl (Or.inl rfl) (pe_fn U_matched hr (pa_cons (pv 1) pa_nil))) (pss_cons (ps_if (pt_cmpR op_isA (pv 2) pe_non (nomark _)) (pss_one ps_never) pss_nil) (pss_one (ps_ret (pv 2)))))),?_⟩
 have hl:=isRow_len ha
 walk_at "go"
 refine checkLine_use h1 h2 ha (fun H1 s1=>?_)
 walk_at "go"
 refine matched_use hl (fun _ r xs H2 hr2 s2 hx hP=>?_) (fun hn=>absurd hR hn)
 walk_at "go"
 refine ifq (by simp) ?_
 walk_at "go"
 exact q r xs H2 (s1.free hr2) (s1.trans s2) hx hP
theorem sc_weighed_places:FnScope ["row","weights"] ["row","weights"] (defScope d_weighed_places):=⟨rfl,rfl,rfl,by decide +kernel,rfl,by decide +kernel,by decide +kernel⟩
theorem ok_weighed_places (F:Fun K "weighed_places" "weighed_places" d_weighed_places f fd) (T:Txt K mg aK aC)  : FnOk P w K mg base CX0 (k + 1) f fd ["row","weights"] (spWeighed K):=by
 refine F.ok sc_weighed_places (fun vs H Q E h=>?_) (fun cdv A outer s H vs Q E hr h=>?_)
 ·obtain ⟨a,p,w',rfl,_⟩:=h; rfl
 obtain ⟨a,p,w',rfl,ha,hp,hw,q⟩:=h
 have hu:=hr.units0
 refine ⟨_,(pss_one (ps_ret (pe_compC (own:=["sign"]) (sel:=[1]) (compOkC_of (osc:=(defScope d_weighed_places)) (N:=["row","weights"]) (by decide +kernel)) rfl (pi_str (pv 0)) (fun _ _ _ _ _=>(pg_name (i:=0) (show (["sign","weights"]:List Str).Nodup from by decide +kernel) rfl (Or.inr rfl))) (gk_name (by decide)) (fun _ _ _ _ _=>pif_nil) (fun _ _ _ _ _=>(pe_ifExp (pt_cmpR (op_eqA K hu) (pv 0) (pe_gl T.g_UNKNOWN) (nomark _)) (pe_callTy (call_listA K) rfl T.n_list PyProof.Rows.boot_list (pa_cons (pv 1) pa_nil)) (pe_comp (own:=["bracket"]) (sel:=[0]) (compOkIn (osc:=(defScope d_weighed_places)) (N:=["sign","weights"]) rfl rfl (by decide +kernel)) rfl (pi_str (pe_slice (sl_A K) (pe_gl T.g_BRACKETS) po_none (po_some (pe_callB (call_lenA K) rfl T.n_len PySem.boot_len (pa_cons (pv 1) pa_nil))))) (fun _ _ _ _ _=>(pg_name (i:=0) (show (["bracket","sign"]:List Str).Nodup from by decide +kernel) rfl (Or.inl rfl))) (gk_name (by decide)) (fun _ _ _ _ _=>pif_nil) (fun _ _ _ _ _=>(pe_callTy call_intA rfl T.n_int PyProof.Rows.boot_int (pa_cons (pe_cmpR (op_eqA K hu) (pv 1) (pv 0) (nomark _)) pa_nil))))))))),?_⟩
 walk_at "go"
 refine yes_str (small (by omega)) (fun D i ys H'=>∃ ad:Nat->Addr,ys = (List.range i).map (fun j=>V.ref (ad j))/\∀ j,j < i->H' (ad j) = some (iL (plw w' (a.getD j 0)))/\ad j ≠ D)
  (fun D _=>⟨fun _=>D,rfl,fun j hj=>absurd hj (by omega)⟩) (fun D i ys H1 H2 _ ⟨ad,e,h1⟩ s12=>⟨ad,e,fun j hj=>⟨s12 _ _ (h1 j hj).1 (h1 j hj).2,(h1 j hj).2⟩⟩)
  (fun D ys H' hD hy _ sH ⟨ad,e,h1⟩=>?_) ?_
 ·subst e
  refine q D H' hD sH ⟨ad,by rw [List.length_map]; exact hy,fun i hi=>?_⟩
  rw [List.length_map] at hi
  have eg:(a.map (plw w')).getD i [] = plw w' (a.getD i 0):=by
   simp only [List.getD_eq_getElem?_getD,List.getElem?_map,List.getElem?_eq_getElem hi]; rfl
  rw [eg]; exact (h1 i hi).1
 ·rintro D i ys H' R hD hi hy hl sH ⟨ad,e,h1⟩ r
  have fin:∀ l H6,H' l = none->Same H' H6->H6 l = some (iL (plw w' (a.getD i 0)))->R (.ref l) H6:=by
   intro l H6 hl' s6 h6
   have hlD:l ≠ D:=fun z=>by rw [z,hy] at hl'; cases hl'
   refine r _ _ s6 ⟨fun j=>if j = i then l else ad j,?_,fun j hj=>?_⟩
   ·subst e
    rw [List.range_succ,List.map_append]
    congr 1
    ·refine List.map_congr_left fun j hj=>?_
     have:=List.mem_range.mp hj
     show V.ref (ad j) = V.ref (if j = i then l else ad j)
     rw [if_neg (by omega)]
    ·simp
   ·by_cases ej:j = i
    ·subst ej; simp only [if_true]; exact ⟨h6,hlD⟩
    ·simp only [if_neg ej]
     obtain ⟨a1,a2⟩:=h1 j (by omega)
     exact ⟨s6 _ _ a1,a2⟩
  walk_at "go"
  refine ifd (fun hc=>?_) (fun hc=>?_)
  ·walk_at "go"
   refine s_listL (sH.seq hp) (fun l hl'=>?_)
   refine fin l _ hl' (same_new hl' _) ?_
   have e63:a.getD i 0 = 63:=by simpa using hc
   rw [upd_same]
   unfold plw
   rw [if_pos e63]
  ·have n63:¬ (a.getD i 0 = 63):=by simpa using hc
   walk_at "go"
   refine s_lenL (.inl (sH.seq hp)) ?_
   walk_at "go"
   have el:(((w'.map V.int).length:Nat):Int) = (w'.length:Int):=by rw [List.length_map]
   rw [el,cut_to _ (by omega),Int.toNat_natCast]
   walk_at "go"
   refine vals_str (fun b=>.int (if a.getD i 0 = b then 1 else 0)) (small (by rw [List.length_take]; exact Nat.le_trans (Nat.min_le_right _ _) (by decide))) (fun D2 H2 hD2 s2 h2=>?_) (fun i2 c H2 R2 hc2 s2 r2=>?_)
   ·refine fin D2 H2 hD2 s2 ?_
    rw [h2]
    unfold plw
    rw [if_neg n63]
    show some (HO.lst _) = some (HO.lst (List.map V.int (List.map _ _)))
    rw [List.map_map]
    rfl
   ·walk_at "go"
    have eb:(if (decide ([a.getD i 0] = [c])) = true then (1:Int) else 0) = if a.getD i 0 = c then 1 else 0:=by
     by_cases z:a.getD i 0 = c <;> simp [z]
    rw [eb]
    exact r2 H2 (Same.refl _)
theorem sc_counted_places:FnScope ["k","row"] ["k","row"] (defScope d_counted_places):=⟨rfl,rfl,rfl,by decide +kernel,rfl,by decide +kernel,by decide +kernel⟩
theorem ok_counted_places (F:Fun K "counted_places" "counted_places" d_counted_places f fd) (T:Txt K mg aK aC) (U_weighed_places:FnU P w K mg base k "weighed_places" ["row","weights"] (spWeighed K)):FnOk P w K mg base CX0 (k + 1) f fd ["k","row"] (spCounted):=by
 refine F.ok sc_counted_places (fun vs H Q E h=>?_) (fun cdv A outer s H vs Q E hr h=>?_)
 ·obtain ⟨kk,a,rfl,_⟩:=h; rfl
 obtain ⟨kk,a,rfl,h1,h2,ha,q⟩:=h
 refine ⟨_,(pss_one (ps_ret (pe_fn U_weighed_places hr (pa_cons (pv 1) (pa_cons (pe_op op_times (pe_lst (pa_cons pe_int pa_nil)) (pe_op op_times pe_int (pv 0))) pa_nil))))),?_⟩
 walk_at "go"
 refine ⟨small (show 1 <= 1000 by decide),fun z hz=>?_⟩
 walk_at "go"
 have e2:(2 * kk).toNat = 2 * kk.toNat:=by omega
 refine s_rep (xs:=[.int 1]) upd_same (by omega) (by omega) (small (by rw [List.length_singleton,e2]; omega)) (fun p hp=>?_)
 walk_at "go"
 have ew:(List.replicate (2 * kk).toNat [V.int 1]).flatten = (ones kk.toNat).map V.int:=by rw [e2,rep_ones]
 rw [ew] at *
 have sp:Same H (upd (upd H z (.lst [.int 1])) p (.lst ((ones kk.toNat).map V.int))):=(same_new hz _).trans (same_new hp _)
 refine weighed_use ha (SqL.of upd_same) (by rw [List.length_replicate]; omega) (fun r H' hr' sH hP=>?_)
 exact q r H' (sp.free hr') (sp.trans sH) hP
theorem sc_pair_sum:FnScope ["first","last"] ["first","last"] (defScope d_pair_sum):=⟨rfl,rfl,rfl,by decide +kernel,rfl,by decide +kernel,by decide +kernel⟩
theorem ok_pair_sum (F:Fun K "pair_sum" "pair_sum" d_pair_sum f fd) (T:Txt K mg aK aC)  : FnOk P w K mg base CX0 (k + 1) f fd ["first","last"] (spPair):=by
 refine F.ok sc_pair_sum (fun vs H Q E h=>?_) (fun cdv A outer s H vs Q E hr h=>?_)
 ·obtain ⟨p,q,x,y,kk,rfl,_⟩:=h; rfl
 obtain ⟨p,q,x,y,kk,rfl,hp,hq,lx,ly,hk,sx,sy,r⟩:=h
 have hu:=hr.units0
 refine ⟨_,(pss_one (ps_ret (pe_callB (call_sumA K rfl) rfl T.n_sum PyProof.Rows.boot_sum (pa_cons (pe_comp (own:=["opening"]) (sel:=[0,1]) (compOk_of (osc:=(defScope d_pair_sum)) (N:=["first","last"]) (by decide +kernel)) rfl (pi_range3 rfl T.n_range (pa_cons pe_int (pa_cons (pe_callB (call_lenA K) rfl T.n_len PySem.boot_len (pa_cons (pv 0) pa_nil)) (pa_cons pe_int pa_nil)))) (fun _ _ _ _ _=>(pg_name (i:=0) (show (["opening","first","last"]:List Str).Nodup from by decide +kernel) rfl (Or.inl rfl))) (gk_name (by decide)) (fun _ _ _ _ _=>pif_nil) (fun _ _ _ _ _=>(pe_op op_timesW (pe_ix (ix_A K) (pv 1) (pv 0) (fun _ _=>rfl)) (pe_ix (ix_A K) (pv 2) (pe_op op_plus (pv 0) pe_int) (fun _ _=>rfl))))) pa_nil)))),?_⟩
 walk_at "go"
 refine s_lenL (.inl (SqL.of hp)) ?_
 walk_at "go"
 have el:(((x.map V.int).length:Nat):Int) = ((2 * kk:Nat):Int):=by rw [List.length_map,lx]
 rw [el]
 refine ⟨0,((2 * kk:Nat):Int),2,rfl,⟨by decide,by decide,small_two (by decide) (by decide) (by omega) (by omega)⟩,?_⟩
 have er:rN 0 ((2 * kk:Nat):Int) 2 = kk:=by rw [rN_two]; omega
 rw [er]
 refine vals_rng3 (fun i=>.int (x.getD (2 * i) 0 * y.getD (2 * i + 1) 0)) (small (by omega)) (fun D H' hD sH hy=>?_) (fun i H' R hi sH r'=>?_)
 ·have ns:SqL K H' D (((List.range kk).map fun i=>x.getD (2 * i) 0 * y.getD (2 * i + 1) 0).map V.int):=by rw [List.map_map]; exact SqL.of hy
  refine s_sum ns ?_
  rw [sum_range]
  exact r H' sH
 ·walk_at "go"
  have e1:(0 + ((i:Nat):Int) * 2) = ((2 * i:Nat):Int):=by omega
  rw [e1]
  refine s_ixL (SqL.of (sH _ _ hp)) (v:=.int (x.getD (2 * i) 0)) (atI_nat (int_at (by omega))) ?_
  walk_at "go"
  have e2:(((2 * i:Nat):Int) + 1) = ((2 * i + 1:Nat):Int):=by omega
  rw [e2]
  refine s_ixL (SqL.of (sH _ _ hq)) (v:=.int (y.getD (2 * i + 1) 0)) (atI_nat (int_at (by omega))) ?_
  refine s_mulW (big_of (sx.at _).1 (sx.at _).2 top_big) (big_of (sy.at _).1 (sy.at _).2 top_big) ?_
  exact r' H' (Same.refl _)
theorem sc_no_sums:FnScope ["many"] ["many"] (defScope d_no_sums):=⟨rfl,rfl,rfl,by decide +kernel,rfl,by decide +kernel,by decide +kernel⟩
theorem ok_no_sums (F:Fun K "no_sums" "no_sums" d_no_sums f fd) (T:Txt K mg aK aC)  : FnOk P w K mg base CX0 (k + 1) f fd ["many"] (spNoSums):=by
 refine F.ok sc_no_sums (fun vs H Q E h=>?_) (fun cdv A outer s H vs Q E hr h=>?_)
 ·obtain ⟨n,rfl,_⟩:=h; rfl
 obtain ⟨n,rfl,hn,q⟩:=h
 have hu:=hr.units0
 refine ⟨_,(pss_one (ps_ret (pe_comp (own:=["start"]) (sel:=[0]) (compOk_of (osc:=(defScope d_no_sums)) (N:=["many"]) (by decide +kernel)) rfl (pi_range1 rfl T.n_range (pa_cons (pe_op op_plus (pv 0) pe_int) pa_nil)) (fun _ _ _ _ _=>(pg_name (i:=0) (show (["start","many"]:List Str).Nodup from by decide +kernel) rfl (Or.inl rfl))) (gk_name (by decide)) (fun _ _ _ _ _=>pif_nil) (fun _ _ _ _ _=>(pe_op op_times (pe_lst (pa_cons pe_int pa_nil)) (pe_op op_plus (pv 1) pe_int)))))),?_⟩
 walk_at "go"
 refine ⟨_,rfl,by omega,by omega,?_⟩
 have en:((n:Int) + 1).toNat = n + 1:=by omega
 rw [en]
 refine yes_rng (small (by omega)) (fun D i ys H'=>∃ ad:Nat->Addr,ys = (List.range i).map (fun j=>V.ref (ad j))/\(∀ j,j < i->H' (ad j) = some (.lst (rwl n fun _=>0))/\H (ad j) = none/\ad j ≠ D)/\∀ j j',j < i->j' < i->ad j = ad j'->j = j')
  (fun D _=>⟨fun _=>D,rfl,fun j hj=>absurd hj (by omega),fun j _ hj=>absurd hj (by omega)⟩) (fun D i ys H1 H2 _ ⟨ad,e,h1,h2⟩ s12=>⟨ad,e,fun j hj=>⟨s12 _ _ (h1 j hj).1 (h1 j hj).2.2,(h1 j hj).2⟩,h2⟩)
  (fun D ys H' hD hy _ sH ⟨ad,e,h1,h2⟩=>?_) ?_
 ·subst e
  exact q D ad H' ⟨hD,fun i hi=>(h1 i (by omega)).2.1,fun i hi=>(h1 i (by omega)).2.2,fun i j hi hj=>h2 i j (by omega) (by omega),hy,fun i hi=>(h1 i (by omega)).1,sH⟩
 ·rintro D i ys H' R hD hi hy hl sH ⟨ad,e,h1,h2⟩ r
  walk_at "go"
  refine ⟨small (show 1 <= 1000 by decide),fun z hz=>?_⟩
  walk_at "go"
  refine s_rep (xs:=[.int 0]) upd_same (by omega) (by omega) (small (by rw [List.length_singleton,en]; omega)) (fun p hp=>?_)
  have hpz:p ≠ z:=fun w=>by rw [w,upd_same] at hp; cases hp
  have hp':H' p = none:=by rw [upd_ne hpz] at hp; exact hp
  have hpD:p ≠ D:=fun w=>by rw [w,hy] at hp'; cases hp'
  have sp:Same H' (upd (upd H' z (.lst [.int 0])) p (.lst (List.replicate ((n:Int) + 1).toNat [V.int 0]).flatten)):=(same_new hz _).trans (same_new hp _)
  refine r _ _ sp ⟨fun j=>if j = i then p else ad j,?_,?_,?_⟩
  ·subst e
   rw [List.range_succ,List.map_append]
   congr 1
   ·refine List.map_congr_left fun j hj=>?_
    have:=List.mem_range.mp hj
    show V.ref (ad j) = V.ref (if j = i then p else ad j)
    rw [if_neg (by omega)]
   ·simp
  ·intro j hj
   by_cases ej:j = i
   ·subst ej
    simp only [if_true]
    refine ⟨?_,?_,hpD⟩
    ·rw [upd_same,en,rep_zero]
    ·exact sH.free hp'
   ·simp only [if_neg ej]
    obtain ⟨a1,a2,a3⟩:=h1 j (by omega)
    exact ⟨sp _ _ a1,a2,a3⟩
  ·intro j j' hj hj' ee
   have nq:∀ j,j < i->ad j ≠ p:=fun j hj w=>by have:=(h1 j hj).1; rw [w,hp'] at this; cases this
   by_cases e1:j = i <;> by_cases e2:j' = i
   ·omega
   ·simp only [if_pos e1,if_neg e2] at ee; exact absurd ee.symm (nq j' (by omega))
   ·simp only [if_neg e1,if_pos e2] at ee; exact absurd ee (nq j (by omega))
   ·simp only [if_neg e1,if_neg e2] at ee; exact h2 j j' (by omega) (by omega) ee
theorem sc_span_sums:FnScope ["places","many","sums","start","end","first_part","stop"] ["places"] (defScope d_span_sums):=⟨rfl,rfl,rfl,by decide +kernel,rfl,by decide +kernel,by decide +kernel⟩
theorem ok_span_sums (F:Fun K "span_sums" "span_sums" d_span_sums f fd) (T:Txt K mg aK aC) (U_no_sums:FnU P w K mg base k "no_sums" ["many"] (spNoSums)) (U_pair_sum:FnU P w K mg base k "pair_sum" ["first","last"] (spPair)):FnOk P w K mg base CX0 (k + 1) f fd ["places"] (spSpans):=by
 refine F.ok sc_span_sums (fun vs H Q E h=>?_) (fun cdv A outer s H vs Q E hr h=>?_)
 ·obtain ⟨p,ps,kk,rfl,_⟩:=h; rfl
 obtain ⟨p,ps,kk,rfl,hP,hn,hk,hl,q⟩:=h
 have hu:=hr.units0
 have hsm:∀ l ∈ ps,Sm l:=fun l z=>(hl l z).2
 obtain ⟨pa,hp0,hpa⟩:=id hP
 refine ⟨_,(pss_cons (ps_set (i:=1) sc_span_sums.nd rfl (Or.inl rfl) (pe_callB (call_lenA K) rfl T.n_len PySem.boot_len (pa_cons (pv 0) pa_nil))) (pss_cons (ps_set (i:=2) sc_span_sums.nd rfl (Or.inl rfl) (pe_fn U_no_sums hr (pa_cons (pv 1) pa_nil))) (pss_cons (ps_for PassesOwn.never rfl (pi_range3 rfl T.n_range (pa_cons (pv 1) (pa_cons (pe_un un_neg pe_int) (pa_cons (pe_un un_neg pe_int) pa_nil)))) (pg_name (i:=3) sc_span_sums.nd rfl (Or.inl rfl)) (pss_cons (ps_asg pe_int (pg_sub (pe_ix (ix_A K) (pv 2) (pv 3) (fun _ _=>rfl)) (pv 3) set_list)) (pss_one (ps_for PassesOwn.never rfl (pi_range3 rfl T.n_range (pa_cons (pe_op op_plus (pv 3) pe_int) (pa_cons (pv 1) (pa_cons pe_int pa_nil)))) (pg_name (i:=4) sc_span_sums.nd rfl (Or.inl rfl)) (pss_cons (ps_set (i:=5) sc_span_sums.nd rfl (Or.inl rfl) (pe_op op_timesW (pe_fn U_pair_sum hr (pa_cons (pe_ix (ix_A K) (pv 0) (pv 3) (fun _ _=>rfl)) (pa_cons (pe_ix (ix_A K) (pv 0) (pv 4) (fun _ _=>rfl)) pa_nil))) (pe_ix (ix_A K) (pe_ix (ix_A K) (pv 2) (pe_op op_plus (pv 3) pe_int) (fun _ _=>rfl)) (pv 4) (fun _ _=>rfl)))) (pss_one (ps_for PassesOwn.never rfl (pi_range3 rfl T.n_range (pa_cons (pe_op op_plus (pv 4) pe_int) (pa_cons (pe_op op_plus (pv 1) pe_int) (pa_cons pe_int pa_nil)))) (pg_name (i:=6) sc_span_sums.nd rfl (Or.inl rfl)) (pss_one (ps_augS (pe_ix (ix_A K) (pv 2) (pv 3) (fun _ _=>rfl)) (pv 6) (get_listA K) (pe_op op_timesW (pv 5) (pe_ix (ix_A K) (pe_ix (ix_A K) (pv 2) (pe_op op_plus (pv 4) pe_int) (fun _ _=>rfl)) (pv 6) (fun _ _=>rfl))) ip_add set_list))))))))) (pss_one (ps_ret (pv 2)))))),?_⟩
 walk_at "go"
 refine s_lenL (.inl (SqL.of hp0)) ?_
 have en:((((List.range ps.length).map fun i=>V.ref (pa i)).length:Nat):Int) = (ps.length:Int):=by rw [List.length_map,List.length_range]
 rw [en]
 generalize hN:ps.length = n at *
 walk_at "go"
 refine noSums_use hn (fun s' ad H1 tb1=>?_)
 walk_at "go"
 refine ⟨n,-1,-1,rfl,⟨by decide,by decide,small_down (.inl rfl) (by omega) (by omega) (by decide) (by decide)⟩,?_⟩
 have er:rN (n:Int) (-1) (-1) = n + 1:=by rw [rN_down]; omega
 rw [er]
 have place:∀ {H':Hp} {i:Nat},Same H H'->i < n->∃ l,H' (pa i) = some (iL l)/\l.length = 2 * kk/\Sm l/\∀ b,PP ps i b = l.getD b 0:=by
  intro H' i sH hi
  have e:ps[i]? = some ps[i]:=List.getElem?_eq_getElem (by omega)
  have eg:ps.getD i [] = ps[i]:=by rw [List.getD_eq_getElem?_getD,e]; rfl
  refine ⟨ps[i],?_,(hl _ (List.getElem_mem _)).1,(hl _ (List.getElem_mem _)).2,fun b=>by show (ps.getD i []).getD b 0 = _; rw [eg]⟩
  have:=sH _ _ (hpa i (by omega))
  rw [eg] at this
  exact this
 have pix:∀ {i:Nat},i < n->((List.range n).map fun i=>V.ref (pa i))[i]? = some (.ref (pa i)):=fun {i} hi=>by rw [List.getElem?_map,List.getElem?_range hi]; rfl
 refine for_rng3 (fun t σ H'=>∃ o3 o4 o5 o6,σ = [some (.ref p),some (.int n),some (.ref s'),o3,o4,o5,o6]/\Tb H H' s' ad n (fun i j=>if n < i + t then tbl (PP ps) kk i j else 0)) ?_ ?_ ?_
 ·exact ⟨_,_,_,_,rfl,tb1.congr fun i j hi hj=>by rw [if_neg (by omega)]⟩
 rotate_left
 ·rintro σ H' ⟨o3,o4,o5,o6,rfl,tb⟩
  walk_at "go"
  exact q s' ad H' (tb.congr fun i j hi hj=>by rw [if_pos (by omega)])
 rintro t σ H2 ht ⟨o3,o4,o5,o6,rfl,tb2⟩
 obtain ⟨st,est⟩:∃ st:Nat,st + t = n:=⟨n - t,by omega⟩
 have e1:((n:Int) + (t:Int) * -1) = (st:Int):=by omega
 rw [e1]
 walk_at "go"
 refine s_ixL (SqL.of tb2.top) (atI_nat (tb2.at (i:=st) (by omega))) ?_
 walk_at "go"
 refine s_setL (tb2.row st (by omega)) (j:=st) (by rw [rwl_len]; unfold ixN; rw [if_pos (by omega),if_pos (by omega)]; simp) ?_
 have tb3:=(tb2.set (i:=st) (j:=st) (v:=1) (by omega)).congr (T':=fun i j=>if st < i then tbl (PP ps) kk i j else if i = st then part (PP ps) kk st 0 j else 0) (fun i j hi hj=>by
  by_cases h1:i = st
  ·subst h1
   rw [if_neg (Nat.lt_irrefl _),if_pos rfl,part_zero]
   by_cases h2:j = i
   ·rw [if_pos ⟨rfl,h2⟩,if_pos h2]
   ·rw [if_neg (fun z=>h2 z.2),if_neg h2,if_neg (by omega)]
  ·rw [if_neg (fun z=>h1 z.1)]
   by_cases h2:st < i
   ·rw [if_pos (by omega),if_pos h2]
   ·rw [if_neg (by omega),if_neg h2,if_neg h1])
 generalize upd H2 (ad st) _ = H3 at tb3
 clear tb2
 walk_at "go"
 refine ⟨_,_,2,rfl,⟨by decide,by decide,small_two (by omega) (by omega) (by omega) (by omega)⟩,?_⟩
 have er2:rN ((st:Int) + 1) n 2 = (n - st) / 2:=by rw [rN_two]; omega
 rw [er2]
 refine for_rng3 (fun q' σ H'=>∃ o4 o5 o6,σ = [some (.ref p),some (.int n),some (.ref s'),some (.int st),o4,o5,o6]/\Tb H H' s' ad n (fun i j=>if st < i then tbl (PP ps) kk i j else if i = st then part (PP ps) kk st q' j else 0)) ?_ ?_ ?_
 ·exact ⟨_,_,_,rfl,tb3⟩
 rotate_left
 ·rintro σ H' ⟨o4,o5,o6,rfl,tb⟩
  walk_at "go"
  refine ⟨_,_,_,_,rfl,tb.congr fun i j hi hj=>?_⟩
  by_cases h2:st < i
  ·rw [if_pos h2,if_pos (by omega)]
  ·by_cases h1:i = st
   ·subst h1
    rw [if_neg h2,if_pos rfl,if_pos (by omega)]
    exact part_all hj
   ·rw [if_neg h2,if_neg h1,if_neg (by omega)]
 rintro q' σ H4 hq' ⟨o4,o5,o6,rfl,tb4⟩
 obtain ⟨en',hen⟩:∃ e:Nat,e = st + 1 + 2 * q':=⟨_,rfl⟩
 have e2:((st:Int) + 1 + (q':Int) * 2) = (en':Int):=by omega
 have hen2:en' < n:=by omega
 rw [e2]
 walk_at "go"
 obtain ⟨x,hx,lx,sx,ex⟩:=place tb4.sm (show st < n by omega)
 obtain ⟨y,hy,ly,sy,ey⟩:=place tb4.sm (show en' < n by omega)
 refine s_ixL (SqL.of (tb4.sm _ _ hp0)) (atI_nat (pix (i:=st) (by omega))) ?_
 walk_at "go"
 refine s_ixL (SqL.of (tb4.sm _ _ hp0)) (atI_nat (pix (i:=en') (by omega))) ?_
 walk_at "go"
 refine pair_use hx hy lx ly hk sx sy (fun H5 s5=>?_)
 have epr:sm kk (fun o=>x.getD (2 * o) 0 * y.getD (2 * o + 1) 0) = pr (PP ps) kk st en':=by
  unfold pr
  exact sm_congr kk fun o _=>by rw [ex,ey]
 rw [epr]
 have tb5:=tb4.same s5
 clear tb4
 have e3:((st:Int) + 1) = ((st + 1:Nat):Int):=by omega
 walk_at "go"
 rw [e3]
 refine s_ixL (SqL.of tb5.top) (atI_nat (tb5.at (i:=st + 1) (by omega))) ?_
 walk_at "go"
 refine s_ixL (SqL.of (tb5.row (st + 1) (by omega))) (atI_nat (rwl_get (j:=en') (by omega))) ?_
 have ev:(if st < st + 1 then tbl (PP ps) kk (st + 1) en' else if st + 1 = st then part (PP ps) kk st q' en' else 0) = cv (PP ps) kk (2 * q') (st + 1) []:=by
  rw [if_pos (by omega)]
  unfold tbl
  rw [if_pos (by omega),show en' - (st + 1) = 2 * q' by omega]
 rw [ev]
 have b1:=pr_cap hk hsm st en'
 have b2:=cv_cap hk hsm (n:=2 * q') (by omega) (st + 1) []
 refine s_mulW (big_of b1.1 b1.2 pt_big) (big_of b2.1 b2.2 cap_big) ?_
 have b3:0 <= pr (PP ps) kk st en' * cv (PP ps) kk (2 * q') (st + 1) []:=Int.mul_nonneg b1.1 b2.1
 have b4:pr (PP ps) kk st en' * cv (PP ps) kk (2 * q') (st + 1) [] <= 4 * (top30 * top30) * cap:=Int.mul_le_mul b1.2 b2.2 b2.1 (by decide)
 walk_at "go"
 refine ⟨_,_,2,rfl,⟨by decide,by decide,small_two (by omega) (by omega) (by omega) (by omega)⟩,?_⟩
 have er3:rN ((en':Int) + 1) ((n:Int) + 1) 2 = (n + 1 - en') / 2:=by rw [rN_two]; omega
 rw [er3]
 refine for_rng3 (fun r σ H'=>∃ o6,σ = [some (.ref p),some (.int n),some (.ref s'),some (.int st),some (.int en'),some (.int (pr (PP ps) kk st en' * cv (PP ps) kk (2 * q') (st + 1) [])),o6]/\Tb H H' s' ad n (fun i j=>if st < i then tbl (PP ps) kk i j else if i = st then (if j < en' + 1 + 2 * r then part (PP ps) kk st (q' + 1) j else part (PP ps) kk st q' j) else 0)) ?_ ?_ ?_
 ·refine ⟨_,rfl,tb5.congr fun i j hi hj=>?_⟩
  by_cases h2:st < i
  ·rw [if_pos h2,if_pos h2]
  ·rw [if_neg h2,if_neg h2]
   by_cases h1:i = st
   ·rw [if_pos h1,if_pos h1]
    by_cases h3:j < en' + 1 + 2 * 0
    ·rw [if_pos h3,part_same (by omega)]
    ·rw [if_neg h3]
   ·rw [if_neg h1,if_neg h1]
 rotate_left
 ·rintro σ H' ⟨o6,rfl,tb⟩
  refine ⟨_,_,_,rfl,tb.congr fun i j hi hj=>?_⟩
  by_cases h2:st < i
  ·rw [if_pos h2,if_pos h2]
  ·rw [if_neg h2,if_neg h2]
   by_cases h1:i = st
   ·rw [if_pos h1,if_pos h1,if_pos (by omega)]
   ·rw [if_neg h1,if_neg h1]
 rintro r σ H6 hr6 ⟨o6,rfl,tb6⟩
 obtain ⟨sp,hsp⟩:∃ e:Nat,e = en' + 1 + 2 * r:=⟨_,rfl⟩
 have e4:((en':Int) + 1 + (r:Int) * 2) = (sp:Int):=by omega
 have hsp2:sp <= n:=by omega
 rw [e4]
 walk_at "go"
 refine s_ixL (SqL.of tb6.top) (atI_nat (tb6.at (i:=st) (by omega))) ?_
 walk_at "go"
 refine s_getL (SqL.of (tb6.row st (by omega))) (rwl_get (j:=sp) hsp2) ?_
 have ev2:(if st < st then tbl (PP ps) kk st sp else if st = st then (if sp < en' + 1 + 2 * r then part (PP ps) kk st (q' + 1) sp else part (PP ps) kk st q' sp) else 0) = part (PP ps) kk st q' sp:=by
  rw [if_neg (by omega),if_pos rfl,if_neg (by omega)]
 rw [ev2]
 have e5:((en':Int) + 1) = ((en' + 1:Nat):Int):=by omega
 walk_at "go"
 rw [e5]
 refine s_ixL (SqL.of tb6.top) (atI_nat (tb6.at (i:=en' + 1) (by omega))) ?_
 walk_at "go"
 refine s_ixL (SqL.of (tb6.row (en' + 1) (by omega))) (atI_nat (rwl_get (j:=sp) hsp2)) ?_
 have ev3:(if st < en' + 1 then tbl (PP ps) kk (en' + 1) sp else if en' + 1 = st then (if sp < en' + 1 + 2 * r then part (PP ps) kk st (q' + 1) sp else part (PP ps) kk st q' sp) else 0) = cv (PP ps) kk (sp - (en' + 1)) (en' + 1) []:=by
  rw [if_pos (by omega)]
  unfold tbl
  rw [if_pos (by omega)]
 rw [ev3]
 have b5:=cv_cap hk hsm (n:=sp - (en' + 1)) (by omega) (en' + 1) []
 refine s_mulW (big_of b3 b4 cap2_big) (big_of b5.1 b5.2 cap_big) ?_
 refine s_ipI ?_
 refine s_setL (tb6.row st (by omega)) (j:=sp) (by rw [rwl_len]; unfold ixN; rw [if_pos (by omega),if_pos (by omega)]; simp) ?_
 refine ⟨_,rfl,(tb6.set (i:=st) (j:=sp) (by omega)).congr fun i j hi hj=>?_⟩
 by_cases h1:i = st
 ·subst h1
  simp only [Nat.lt_irrefl,if_false,if_true,true_and]
  by_cases h2:j = sp
  ·subst h2
   rw [if_pos rfl,if_pos (by omega)]
   exact part_next hen (by omega) (by omega)
  ·rw [if_neg h2]
   by_cases h3:j < en' + 1 + 2 * r
   ·rw [if_pos h3,if_pos (by omega)]
   ·rw [if_neg h3]
    by_cases h4:j < en' + 1 + 2 * (r + 1)
    ·rw [if_pos h4,part_odd (by omega),part_odd (by omega)]
    ·rw [if_neg h4]
 ·rw [if_neg (fun z=>h1 z.1)]
  by_cases h2:st < i
  ·rw [if_pos h2,if_pos h2]
  ·rw [if_neg h2,if_neg h2,if_neg h1,if_neg h1]
theorem sc_whole_sum:FnScope ["sums"] ["sums"] (defScope d_whole_sum):=⟨rfl,rfl,rfl,by decide +kernel,rfl,by decide +kernel,by decide +kernel⟩
theorem ok_whole_sum (F:Fun K "whole_sum" "whole_sum" d_whole_sum f fd) (T:Txt K mg aK aC)  : FnOk P w K mg base CX0 (k + 1) f fd ["sums"] (spWholeSum):=by
 refine F.ok sc_whole_sum (fun vs H Q E h=>?_) (fun cdv A outer s H vs Q E hr h=>?_)
 ·obtain ⟨H0,s',ad,n,T',rfl,_⟩:=h; rfl
 obtain ⟨H0,s',ad,n,T',rfl,tb,q⟩:=h
 refine ⟨_,(pss_one (ps_ret (pe_ix (ix_A K) (pe_ix (ix_A K) (pv 0) pe_int (fun _ _=>rfl)) (pe_un un_neg pe_int) (fun _ _=>rfl)))),?_⟩
 walk_at "go"
 refine s_ixL (SqL.of tb.top) (atI_nat (j:=0) (tb.at (Nat.zero_le _))) ?_
 walk_at "go"
 refine s_ixL (SqL.of (tb.row 0 (Nat.zero_le _))) (v:=.int (T' 0 n)) (atI_end ?_ ?_) ?_
 ·rw [rwl_len]; omega
 ·rw [rwl_len]; exact rwl_get (Nat.le_refl _)
 exact q
theorem sc_likelier:FnScope ["one","other"] ["one","other"] (defScope d_likelier):=⟨rfl,rfl,rfl,by decide +kernel,rfl,by decide +kernel,by decide +kernel⟩
theorem ok_likelier (F : Fun K "likelier" "likelier" d_likelier f fd) (T : Txt K mg aK aC)  : FnOk P w K mg base CX0 (k + 1) f fd ["one", "other"] (spLikelier) := by
  refine F.ok sc_likelier (fun vs H Q E h => ?_) (fun cdv A outer s H vs Q E hr h => ?_)
  · obtain ⟨v1, v2, o1, o2, rfl, _⟩ := h; rfl
  obtain ⟨v1, v2, o1, o2, rfl, h1, h2, hd, q⟩ := h
  have hu := hr.units0
  refine ⟨_, (pss_cons (ps_if (PW.pt (pw_or (pt_cmpR op_isA (pv 0) pe_non (nomark _)) (pw_or1 (pt_cmpR op_isA (pv 1) pe_non (nomark _)))))   (pss_one (ps_ret (pe_ifExp (pt_cmpR op_isA (pv 1) pe_non (nomark _)) (pv 0) (pv 1))))   pss_nil)  (pss_cons (ps_if (pt_cmpR (op_eqA K hu) (pe_ix (ix_A K) (pv 0) pe_int (fun _ _ => rfl)) (pe_ix (ix_A K) (pv 1) pe_int (fun _ _ => rfl)) (nomark _))   (pss_one (ps_ret (pe_ifExp (pt_cmpR (op_ltL K hu) (pe_ix (ix_A K) (pv 0) pe_int (fun _ _ => rfl)) (pe_ix (ix_A K) (pv 1) pe_int (fun _ _ => rfl)) (nomark _)) (pv 0) (pv 1))))   pss_nil)  (pss_one (ps_ret (pe_ifExp (pt_cmpR op_gt (pe_ix (ix_A K) (pv 0) pe_int (fun _ _ => rfl)) (pe_ix (ix_A K) (pv 1) pe_int (fun _ _ => rfl)) (nomark _)) (pv 0) (pv 1)))))), ?_⟩
  match o1, o2, h1, h2, hd, q with
  | none, none, h1, h2, hd, q =>
    cases (show v1 = .non from h1)
    cases (show v2 = .non from h2)
    walk_at "go"
    refine ifp rfl ?_
    first | refine ifp rfl ?_ | skip
    walk_at "go"
    refine ifp rfl ?_
    walk_at "go"
    exact q _ _ (Same.refl H) (.inl ⟨rfl, rfl⟩)
  | none, some (x, m), h1, ⟨T2, a2, e2, _, _, g1, g2⟩, hd, q =>
    cases (show v1 = .non from h1)
    subst e2
    walk_at "go"
    refine ifp rfl ?_
    first | refine ifp rfl ?_ | skip
    walk_at "go"
    refine ifq rfl ?_
    walk_at "go"
    exact q _ _ (Same.refl H) (.inr ⟨rfl, rfl⟩)
  | some (w, l), none, ⟨T1, a1, e1, _, _, f1, f2⟩, h2, hd, q =>
    cases (show v2 = .non from h2)
    subst e1
    walk_at "go"
    refine ifq rfl ?_
    walk_at "go"
    refine ifp rfl ?_
    first | refine ifp rfl ?_ | skip
    walk_at "go"
    refine ifp rfl ?_
    walk_at "go"
    exact q _ _ (Same.refl H) (.inl ⟨rfl, rfl⟩)
  | some (w, l), some (x, m), ⟨T1, a1, e1, _, _, f1, f2⟩, ⟨T2, a2, e2, _, _, g1, g2⟩, hd, q =>
    subst e1 e2
    obtain ⟨hlen, hne⟩ := hd w l x m rfl rfl
    have q : ∀ v H', Same H H' -> ((v = .ref T1 /\ (if w = x then (if l < m then some (w, l) else some (x, m)) else if w > x then some (w, l) else some (x, m)) = some (w, l)) \/ (v = .ref T2 /\ (if w = x then (if l < m then some (w, l) else some (x, m)) else if w > x then some (w, l) else some (x, m)) = some (x, m))) -> Q v H' := q
    walk_at "go"
    refine ifq rfl ?_
    walk_at "go"
    refine ifq rfl ?_
    first | refine ifq rfl ?_ | skip
    walk_at "go"
    refine s_ixU (SqT.of f1) (v := .int w) rfl ?_
    walk_at "go"
    refine s_ixU (SqT.of g1) (v := .int x) rfl ?_
    walk_at "go"
    refine ifd (fun h3 => ?_) (fun h3 => ?_)
    · walk_at "go"
      refine s_ixU (SqT.of f1) (v := .ref a1) rfl ?_
      walk_at "go"
      refine s_ixU (SqT.of g1) (v := .ref a2) rfl ?_
      refine ⟨a1, a2, l, m, rfl, rfl, SqL.of f2, SqL.of g2, hlen, hne, ?_⟩
      walk_at "go"
      rw [if_pos h3] at q
      refine ifd (fun h4 => ?_) (fun h4 => ?_)
      · walk_at "go"
        exact q _ _ (Same.refl H) (.inl ⟨rfl, if_pos h4⟩)
      · walk_at "go"
        exact q _ _ (Same.refl H) (.inr ⟨rfl, if_neg h4⟩)
    · walk_at "go"
      refine s_ixU (SqT.of f1) (v := .int w) rfl ?_
      walk_at "go"
      refine s_ixU (SqT.of g1) (v := .int x) rfl ?_
      walk_at "go"
      rw [if_neg h3] at q
      refine ifd (fun h4 => ?_) (fun h4 => ?_)
      · walk_at "go"
        exact q _ _ (Same.refl H) (.inl ⟨rfl, if_pos h4⟩)
      · walk_at "go"
        exact q _ _ (Same.refl H) (.inr ⟨rfl, if_neg h4⟩)
theorem sc_likeliest_pair:FnScope ["first","last","best","opening","weight"] ["first","last"] (defScope d_likeliest_pair):=⟨rfl,rfl,rfl,by decide +kernel,rfl,by decide +kernel,by decide +kernel⟩
theorem ok_likeliest_pair (F:Fun K "likeliest_pair" "likeliest_pair" d_likeliest_pair f fd) (T:Txt K mg aK aC) (U_likelier:FnU P w K mg base k "likelier" ["one","other"] (spLikelier)):FnOk P w K mg base CX0 (k + 1) f fd ["first","last"] (spLPair):=by
 refine F.ok sc_likeliest_pair (fun vs H Q E h=>?_) (fun cdv A outer s H vs Q E hr h=>?_)
 ·obtain ⟨p1,p2,x,y,k,rfl,_⟩:=h; rfl
 obtain ⟨p1,p2,x,y,kk,rfl,h1,h2,lx,ly,hk,sx,sy,q⟩:=h
 have hu:=hr.units0
 refine ⟨_,(pss_cons (ps_set (i:=2) sc_likeliest_pair.nd rfl (Or.inl rfl) pe_non) (pss_cons (ps_for PassesOwn.never rfl (pi_range3 rfl T.n_range (pa_cons pe_int (pa_cons (pe_callB (call_lenA K) rfl T.n_len PySem.boot_len (pa_cons (pv 0) pa_nil)) (pa_cons pe_int pa_nil)))) (pg_name (i:=3) sc_likeliest_pair.nd rfl (Or.inl rfl)) (pss_cons (ps_set (i:=4) sc_likeliest_pair.nd rfl (Or.inl rfl) (pe_op op_timesW (pe_ix (ix_A K) (pv 0) (pv 3) (fun _ _=>rfl)) (pe_ix (ix_A K) (pv 1) (pe_op op_plus (pv 3) pe_int) (fun _ _=>rfl)))) (pss_one (ps_if (pt_cmpR op_gt (pv 4) pe_int (nomark _)) (pss_one (ps_set (i:=2) sc_likeliest_pair.nd rfl (Or.inl rfl) (pe_fn U_likelier hr (pa_cons (pv 2) (pa_cons (pe_tup (pa_cons (pv 4) (pa_cons (pe_lst (pa_cons (pv 3) (pa_cons (pe_op op_plus (pv 3) pe_int) pa_nil))) pa_nil))) pa_nil))))) pss_nil)))) (pss_one (ps_ret (pv 2))))),?_⟩
 walk_at "go"
 refine s_lenL (.inl (SqL.of h1)) ?_
 rw [List.length_map,lx]
 walk_at "go"
 refine ⟨0,_,2,rfl,⟨by decide,by decide,small_two (by omega) (by omega) (by omega) (by omega)⟩,?_⟩
 have er:rN 0 ((2 * kk:Nat):Int) 2 = kk:=by rw [rN_two]; omega
 rw [er]
 refine for_rng3 (fun t σ H'=>∃ (v:V) (o:O) (o3 o4:Option V),σ = [some (.ref p1),some (.ref p2),some v,o3,o4]/\Same H H'/\Bt (fun b=>H b = none) H' v o/\Best (Pk t) (fun l=>x.getD (l.getD 0 0) 0 * y.getD (l.getD 1 0) 0) o) ⟨.non,none,_,_,rfl,Same.refl H,rfl,fun l hl=>by obtain ⟨p,hp,_⟩:=hl; omega⟩ ?_ ?_
 rotate_left
 ·rintro σ H1 ⟨v,o,o3,o4,rfl,s1,b1,c1⟩
  walk_at "go"
  exact q v o H1 s1 b1 c1
 rintro t σ H1 ht ⟨v,o,o3,o4,rfl,s1,b1,c1⟩
 have e0:(0:Int) + (t:Int) * 2 = ((2 * t:Nat):Int):=by omega
 have e1:((2 * t:Nat):Int) + 1 = ((2 * t + 1:Nat):Int):=by omega
 rw [e0]
 walk_at "go"
 have gx:x[2 * t]? = some (x.getD (2 * t) 0):=by rw [List.getD_eq_getElem?_getD,List.getElem?_eq_getElem (by omega)]; rfl
 have gy:y[2 * t + 1]? = some (y.getD (2 * t + 1) 0):=by rw [List.getD_eq_getElem?_getD,List.getElem?_eq_getElem (by omega)]; rfl
 refine s_ixL (SqL.of (s1 _ _ h1)) (atI_nat (by rw [List.getElem?_map,gx]; rfl)) ?_
 walk_at "go"
 first | rw [e1] | skip
 refine s_ixL (SqL.of (s1 _ _ h2)) (atI_nat (by rw [List.getElem?_map,gy]; rfl)) ?_
 have bx:=sx.at (2 * t)
 have by':=sy.at (2 * t + 1)
 refine s_mulW (big_of bx.1 bx.2 top_big) (big_of by'.1 by'.2 top_big) ?_
 have hw:(fun l:List Nat=>x.getD (l.getD 0 0) 0 * y.getD (l.getD 1 0) 0) [2 * t,2 * t + 1] = x.getD (2 * t) 0 * y.getD (2 * t + 1) 0:=rfl
 generalize x.getD (2 * t) 0 * y.getD (2 * t + 1) 0 = wt at hw ⊢
 have un:∀ o',Best (fun l=>l = [2 * t,2 * t + 1]) (fun l=>x.getD (l.getD 0 0) 0 * y.getD (l.getD 1 0) 0) o'->Best (Pk (t + 1)) (fun l=>x.getD (l.getD 0 0) 0 * y.getD (l.getD 1 0) 0) (lik o o'):=fun o' ho=>(Best.un c1 ho).iff fun l=>by
  constructor
  ·rintro (⟨p,hp,e⟩ | e)
   ·exact ⟨p,by omega,e⟩
   ·exact ⟨t,by omega,e⟩
  ·rintro ⟨p,hp,e⟩
   by_cases z:p = t
   ·subst z; exact .inr e
   ·exact .inl ⟨p,by omega,e⟩
 walk_at "go"
 refine ifd (fun h3=>?_) (fun h3=>?_)
 ·have h3:0 < wt:=h3
  walk_at "go"
  rw [e1]
  refine ⟨small (show 2 <= 1000 by decide),fun a ha=>?_⟩
  have t1:=same_new ha (.lst [.int ((2 * t:Nat):Int),.int ((2 * t + 1:Nat):Int)])
  have k1:(upd H1 a (.lst [.int ((2 * t:Nat):Int),.int ((2 * t + 1:Nat):Int)])) a = _:=upd_same
  generalize upd H1 a _ = H2 at *
  walk_at "go"
  refine ⟨small (show 2 <= 1000 by decide),fun T hT=>?_⟩
  have t2:=same_new hT (.tup [.int wt,.ref a])
  have k2:(upd H2 T (.tup [.int wt,.ref a])) T = _:=upd_same
  have k12:=t2 _ _ k1
  have s3:=t1.trans t2
  have fT:H1 T = none:=t1.free hT
  generalize upd H2 T _ = H3 at *
  refine ⟨v,.ref T,o,some (wt,[2 * t,2 * t + 1]),rfl,(b1.same s3).imp (fun _ _ _ _=>trivial),⟨T,a,rfl,trivial,trivial,k2,k12⟩,?_,fun v' H4 s4 hv=>?_⟩
  ·rintro w l x' m rfl e
   cases e
   obtain ⟨p,hp,rfl⟩:=c1.1
   exact ⟨rfl,fun z=>by have:=(List.cons.inj z).1; omega⟩
  have B:Best (fun l=>l = [2 * t,2 * t + 1]) (fun l=>x.getD (l.getD 0 0) 0 * y.getD (l.getD 1 0) 0) (some (wt,[2 * t,2 * t + 1])):=⟨rfl,hw,h3,fun m hm=>by rw [hm]; exact .inr ⟨hw,List.lt_irrefl _⟩⟩
  have:=un _ B
  refine ⟨v',_,_,_,rfl,(s1.trans s3).trans s4,?_,this⟩
  rcases hv with ⟨rfl,e⟩ | ⟨rfl,e⟩
  ·rw [e]; exact b1.same (s3.trans s4)
  ·rw [e]; exact ⟨T,a,rfl,s1.free fT,s1.free ha,s4 _ _ k2,s4 _ _ k12⟩
 ·walk_at "go"
  have e:lik o none = o:=by cases o <;> rfl
  have:=un none (fun l hl=>by rw [hl,hw]; omega)
  rw [e] at this
  exact ⟨v,o,_,_,rfl,s1,b1,this⟩
theorem sc_round_about:FnScope ["pair","within","opening","closing"] ["pair","within"] (defScope d_round_about):=⟨rfl,rfl,rfl,by decide +kernel,rfl,by decide +kernel,by decide +kernel⟩
theorem ok_round_about (F : Fun K "round_about" "round_about" d_round_about f fd) (T : Txt K mg aK aC)  : FnOk P w K mg base CX0 (k + 1) f fd ["pair", "within"] (spRound) := by
  refine F.ok sc_round_about (fun vs H Q E h => ?_) (fun cdv A outer s H vs Q E hr h => ?_)
  · obtain ⟨v1, v2, o1, o2, rfl, _⟩ := h; rfl
  obtain ⟨v1, v2, o1, o2, rfl, h1, h2, h22, z1, z2, q⟩ := h
  have hu := hr.units0
  refine ⟨_, (pss_cons (ps_if (PW.pt (pw_or (pt_cmpR op_isA (pv 0) pe_non (nomark _)) (pw_or1 (pt_cmpR op_isA (pv 1) pe_non (nomark _)))))   (pss_one (ps_ret pe_non))   pss_nil)  (pss_cons (ps_asg (pe_ix (ix_A K) (pv 0) pe_int (fun _ _ => rfl)) (pg_tupL (n := 2) K rfl (pgs_cons (pg_name (i := 2) sc_round_about.nd rfl (Or.inl rfl)) (pgs_cons (pg_name (i := 3) sc_round_about.nd rfl (Or.inl rfl)) pgs_nil))))  (pss_one (ps_ret (pe_tup (pa_cons (pe_op op_timesW (pe_ix (ix_A K) (pv 0) pe_int (fun _ _ => rfl)) (pe_ix (ix_A K) (pv 1) pe_int (fun _ _ => rfl))) (pa_cons (pe_op op_plus (pe_op op_plus (pe_lst (pa_cons (pv 2) pa_nil)) (pe_ix (ix_A K) (pv 1) pe_int (fun _ _ => rfl))) (pe_lst (pa_cons (pv 3) pa_nil))) pa_nil))))))), ?_⟩
  match o1, o2, h1, h2, h22, z1, z2, q with
  | none, o2, h1, h2, h22, z1, z2, q =>
    cases (show v1 = .non from h1)
    walk_at "go"
    refine ifp rfl ?_
    first | refine ifp rfl ?_ | skip
    walk_at "go"
    exact q _ _ (Same.refl H) rfl
  | some (w, l), none, ⟨T1, a1, e1, _, _, f1, f2⟩, h2, h22, z1, z2, q =>
    cases (show v2 = .non from h2)
    subst e1
    walk_at "go"
    refine ifq rfl ?_
    walk_at "go"
    refine ifp rfl ?_
    first | refine ifp rfl ?_ | skip
    walk_at "go"
    exact q _ _ (Same.refl H) rfl
  | some (w, l), some (x, m), ⟨T1, a1, e1, _, _, f1, f2⟩, ⟨T2, a2, e2, _, _, g1, g2⟩, h22, z1, z2, q =>
    subst e1 e2
    obtain ⟨b1, l1⟩ := z1 w l rfl
    obtain ⟨b2, l2⟩ := z2 x m rfl
    obtain ⟨c1, c2, rfl⟩ : ∃ c1 c2, l = [c1, c2] := by
      match l, h22 w l rfl with
      | [c1, c2], _ => exact ⟨c1, c2, rfl⟩
    walk_at "go"
    refine ifq rfl ?_
    walk_at "go"
    refine ifq rfl ?_
    first | refine ifq rfl ?_ | skip
    walk_at "go"
    refine s_ixU (SqT.of f1) (v := .ref a1) rfl ?_
    refine ⟨a1, [.int (c1 : Int), .int (c2 : Int)], rfl, SqL.of f2, rfl, ?_⟩
    walk_at "go"
    refine s_ixU (SqT.of f1) (v := .int w) rfl ?_
    walk_at "go"
    refine s_ixU (SqT.of g1) (v := .int x) rfl ?_
    refine s_mulW b1 b2 ?_
    walk_at "go"
    refine ⟨small (show 1 <= 1000 by decide), fun d1 hd1 => ?_⟩
    have t1 := same_new hd1 (.lst [.int (c1 : Int)])
    have k1 : (upd H d1 (.lst [.int (c1 : Int)])) d1 = _ := upd_same
    generalize upd H d1 _ = H1 at *
    walk_at "go"
    refine s_ixU (SqT.of (t1 _ _ g1)) (v := .ref a2) rfl ?_
    refine s_addL k1 (t1 _ _ g2) (small (by rw [List.length_map]; simp; omega)) (fun d2 hd2 => ?_)
    have t2 := same_new hd2 (.lst ([.int (c1 : Int)] ++ nL m))
    have k2 : (upd H1 d2 (.lst ([.int (c1 : Int)] ++ nL m))) d2 = _ := upd_same
    generalize upd H1 d2 _ = H2 at *
    walk_at "go"
    refine ⟨small (show 1 <= 1000 by decide), fun d3 hd3 => ?_⟩
    have t3 := same_new hd3 (.lst [.int (c2 : Int)])
    have k3 : (upd H2 d3 (.lst [.int (c2 : Int)])) d3 = _ := upd_same
    generalize upd H2 d3 _ = H3 at *
    refine s_addL (t3 _ _ k2) k3 (small (by simp; omega)) (fun d4 hd4 => ?_)
    have t4 := same_new hd4 (.lst (([.int (c1 : Int)] ++ nL m) ++ [.int (c2 : Int)]))
    have k4 : (upd H3 d4 (.lst (([.int (c1 : Int)] ++ nL m) ++ [.int (c2 : Int)]))) d4 = _ := upd_same
    generalize upd H3 d4 _ = H4 at *
    walk_at "go"
    have t34 := (t1.trans t2).trans (t3.trans t4)
    refine ⟨small (show 2 <= 1000 by decide), fun T hT => ?_⟩
    have t5 := same_new hT (.tup [.int (w * x), .ref d4])
    refine q _ _ (t34.trans t5) ⟨T, d4, rfl, t34.free hT, ((t1.trans t2).trans t3).free hd4, upd_same, ?_⟩
    rw [t5 _ _ k4]
    show some (HO.lst _) = some (HO.lst (nL ([c1] ++ m ++ [c2])))
    simp [nL]
theorem sc_one_behind_the_other:FnScope ["first","second"] ["first","second"] (defScope d_one_behind_the_other):=⟨rfl,rfl,rfl,by decide +kernel,rfl,by decide +kernel,by decide +kernel⟩
theorem ok_one_behind_the_other (F : Fun K "one_behind_the_other" "one_behind_the_other" d_one_behind_the_other f fd) (T : Txt K mg aK aC)  : FnOk P w K mg base CX0 (k + 1) f fd ["first", "second"] (spBehindO) := by
  refine F.ok sc_one_behind_the_other (fun vs H Q E h => ?_) (fun cdv A outer s H vs Q E hr h => ?_)
  · obtain ⟨v1, v2, o1, o2, rfl, _⟩ := h; rfl
  obtain ⟨v1, v2, o1, o2, rfl, h1, h2, z1, z2, q⟩ := h
  have hu := hr.units0
  refine ⟨_, (pss_cons (ps_if (PW.pt (pw_or (pt_cmpR op_isA (pv 0) pe_non (nomark _)) (pw_or1 (pt_cmpR op_isA (pv 1) pe_non (nomark _)))))   (pss_one (ps_ret pe_non))   pss_nil)  (pss_one (ps_ret (pe_tup (pa_cons (pe_op op_timesW (pe_ix (ix_A K) (pv 0) pe_int (fun _ _ => rfl)) (pe_ix (ix_A K) (pv 1) pe_int (fun _ _ => rfl))) (pa_cons (pe_op op_plus (pe_ix (ix_A K) (pv 0) pe_int (fun _ _ => rfl)) (pe_ix (ix_A K) (pv 1) pe_int (fun _ _ => rfl))) pa_nil)))))), ?_⟩
  match o1, o2, h1, h2, z1, z2, q with
  | none, o2, h1, h2, z1, z2, q =>
    cases (show v1 = .non from h1)
    walk_at "go"
    refine ifp rfl ?_
    first | refine ifp rfl ?_ | skip
    walk_at "go"
    exact q _ _ (Same.refl H) rfl
  | some (w, l), none, ⟨T1, a1, e1, _, _, f1, f2⟩, h2, z1, z2, q =>
    cases (show v2 = .non from h2)
    subst e1
    walk_at "go"
    refine ifq rfl ?_
    walk_at "go"
    refine ifp rfl ?_
    first | refine ifp rfl ?_ | skip
    walk_at "go"
    exact q _ _ (Same.refl H) rfl
  | some (w, l), some (x, m), ⟨T1, a1, e1, _, _, f1, f2⟩, ⟨T2, a2, e2, _, _, g1, g2⟩, z1, z2, q =>
    subst e1 e2
    obtain ⟨b1, l1⟩ := z1 w l rfl
    obtain ⟨b2, l2⟩ := z2 x m rfl
    walk_at "go"
    refine ifq rfl ?_
    walk_at "go"
    refine ifq rfl ?_
    first | refine ifq rfl ?_ | skip
    walk_at "go"
    refine s_ixU (SqT.of f1) (v := .int w) rfl ?_
    walk_at "go"
    refine s_ixU (SqT.of g1) (v := .int x) rfl ?_
    refine s_mulW b1 b2 ?_
    walk_at "go"
    refine s_ixU (SqT.of f1) (v := .ref a1) rfl ?_
    walk_at "go"
    refine s_ixU (SqT.of g1) (v := .ref a2) rfl ?_
    refine s_addL f2 g2 (small (by rw [List.length_map, List.length_map]; omega)) (fun c hc => ?_)
    have t1 := same_new hc (.lst (nL l ++ nL m))
    walk_at "go"
    refine ⟨small (show 2 <= 1000 by decide), fun T hT => ?_⟩
    have t2 := same_new hT (.tup [.int (w * x), .ref c])
    refine q _ _ (t1.trans t2) ⟨T, c, rfl, t1.free hT, hc, upd_same, ?_⟩
    rw [t2 _ _ upd_same, <- List.map_append]
theorem sc_likeliest_spans:FnScope ["places","many","best","start","end","part","stop","found"] ["places"] (defScope d_likeliest_spans):=⟨rfl,rfl,rfl,by decide +kernel,rfl,by decide +kernel,by decide +kernel⟩
theorem ok_likeliest_spans (F : Fun K "likeliest_spans" "likeliest_spans" d_likeliest_spans f fd) (T : Txt K mg aK aC) (U_round_about : FnU P w K mg base k "round_about" ["pair", "within"] (spRound)) (U_likeliest_pair : FnU P w K mg base k "likeliest_pair" ["first", "last"] (spLPair)) (U_one_behind_the_other : FnU P w K mg base k "one_behind_the_other" ["first", "second"] (spBehindO)) (U_likelier : FnU P w K mg base k "likelier" ["one", "other"] (spLikelier)) : FnOk P w K mg base CX0 (k + 1) f fd ["places"] (spSpansL) := by
  refine F.ok sc_likeliest_spans (fun vs H Q E h => ?_) (fun cdv A outer s H vs Q E hr h => ?_)
  · obtain ⟨p, ps, kk, rfl, _⟩ := h; rfl
  obtain ⟨p, ps, kk, rfl, hP, hn, hk, hl, q⟩ := h
  have hu := hr.units0
  have hsm : ∀ l ∈ ps, Sm l := fun l z => (hl l z).2
  have hPP : ∀ i b, 0 <= PP ps i b := fun i b => (PP_bound hsm i b).1
  obtain ⟨pa, hp0, hpa⟩ := id hP
  refine ⟨_, (pss_cons (ps_set (i := 1) sc_likeliest_spans.nd rfl (Or.inr rfl) (pe_callB (call_lenA K) rfl T.n_len PySem.boot_len (pa_cons (pv 0) pa_nil)))  (pss_cons (ps_setComp (i := 2) sc_likeliest_spans.nd rfl (Or.inl rfl) (own := ["start"]) (sel := [1]) (compOk_of (osc := (defScope d_likeliest_spans)) (N := ["places", "many", "best", "start", "end", "part", "stop", "found"]) (by decide +kernel)) rfl (pi_range1 rfl T.n_range (pa_cons (pe_op op_plus (pv 1) pe_int) pa_nil)) (fun _ _ _ _ _ => (pg_name (i := 0) (show (["start", "many"] : List Str).Nodup from by decide +kernel) rfl (Or.inl rfl))) (gk_name (by decide)) (fun _ _ _ _ _ => pif_nil) (fun _ _ _ _ _ => (pe_op op_times (pe_lst (pa_cons pe_non pa_nil)) (pe_op op_plus (pv 1) pe_int))))  (pss_cons (ps_for PassesOwn.never rfl (pi_range3 rfl T.n_range (pa_cons (pv 1) (pa_cons (pe_un un_neg pe_int) (pa_cons (pe_un un_neg pe_int) pa_nil)))) (pg_name (i := 3) sc_likeliest_spans.nd rfl (Or.inl rfl))   (pss_cons (ps_asg (pe_tup (pa_cons pe_int (pa_cons (pe_lst pa_nil) pa_nil))) (pg_sub (pe_ix (ix_A K) (pv 2) (pv 3) (fun _ _ => rfl)) (pv 3) set_list))  (pss_one (ps_for PassesOwn.never rfl (pi_range3 rfl T.n_range (pa_cons (pe_op op_plus (pv 3) pe_int) (pa_cons (pv 1) (pa_cons pe_int pa_nil)))) (pg_name (i := 4) sc_likeliest_spans.nd rfl (Or.inl rfl))   (pss_cons (ps_set (i := 5) sc_likeliest_spans.nd rfl (Or.inl rfl) (pe_fn U_round_about hr (pa_cons (pe_fn U_likeliest_pair hr (pa_cons (pe_ix (ix_A K) (pv 0) (pv 3) (fun _ _ => rfl)) (pa_cons (pe_ix (ix_A K) (pv 0) (pv 4) (fun _ _ => rfl)) pa_nil))) (pa_cons (pe_ix (ix_A K) (pe_ix (ix_A K) (pv 2) (pe_op op_plus (pv 3) pe_int) (fun _ _ => rfl)) (pv 4) (fun _ _ => rfl)) pa_nil))))  (pss_one (ps_for PassesOwn.never rfl (pi_range3 rfl T.n_range (pa_cons (pe_op op_plus (pv 4) pe_int) (pa_cons (pe_op op_plus (pv 1) pe_int) (pa_cons pe_int pa_nil)))) (pg_name (i := 6) sc_likeliest_spans.nd rfl (Or.inl rfl))   (pss_cons (ps_set (i := 7) sc_likeliest_spans.nd rfl (Or.inl rfl) (pe_fn U_one_behind_the_other hr (pa_cons (pv 5) (pa_cons (pe_ix (ix_A K) (pe_ix (ix_A K) (pv 2) (pe_op op_plus (pv 4) pe_int) (fun _ _ => rfl)) (pv 6) (fun _ _ => rfl)) pa_nil))))  (pss_one (ps_asg (pe_fn U_likelier hr (pa_cons (pe_ix (ix_A K) (pe_ix (ix_A K) (pv 2) (pv 3) (fun _ _ => rfl)) (pv 6) (fun _ _ => rfl)) (pa_cons (pv 7) pa_nil))) (pg_sub (pe_ix (ix_A K) (pv 2) (pv 3) (fun _ _ => rfl)) (pv 6) set_list)))))))))))  (pss_one (ps_ret (pv 2)))))), ?_⟩
  walk_at "go"
  refine s_lenL (.inl (SqL.of hp0)) ?_
  have en : ((((List.range ps.length).map fun i => V.ref (pa i)).length : Nat) : Int) = (ps.length : Int) := by rw [List.length_map, List.length_range]
  rw [en]
  generalize hN : ps.length = n at *
  walk_at "go"
  refine ⟨_, rfl, by omega, by omega, ?_⟩
  have en : ((n : Int) + 1).toNat = n + 1 := by omega
  rw [en]
  refine yes_rng (small (by omega)) (fun D i ys H' => ∃ ad : Nat -> Addr, ys = (List.range i).map (fun j => V.ref (ad j)) /\ (∀ j, j < i -> H' (ad j) = some (.lst (rwv n fun _ => .non)) /\ H (ad j) = none /\ ad j ≠ D) /\ ∀ j j', j < i -> j' < i -> ad j = ad j' -> j = j')
    (fun D _ => ⟨fun _ => D, rfl, fun j hj => absurd hj (by omega), fun j _ hj => absurd hj (by omega)⟩) (fun D i ys H1 H2 _ ⟨ad, e, h1, h2⟩ s12 => ⟨ad, e, fun j hj => ⟨s12 _ _ (h1 j hj).1 (h1 j hj).2.2, (h1 j hj).2⟩, h2⟩)
    (fun s' ys H1 hD hy _ sH ⟨ad, e, h1, h2⟩ => ?_) ?_
  rotate_left
  · rintro D i ys H' R hD hi hy hl sH ⟨ad, e, h1, h2⟩ r
    walk_at "go"
    refine ⟨small (show 1 <= 1000 by decide), fun z hz => ?_⟩
    walk_at "go"
    refine s_rep (xs := [.non]) upd_same (by omega) (by omega) (small (by rw [List.length_singleton, en]; omega)) (fun p hp => ?_)
    have hpz : p ≠ z := fun w => by rw [w, upd_same] at hp; cases hp
    have hp' : H' p = none := by rw [upd_ne hpz] at hp; exact hp
    have hpD : p ≠ D := fun w => by rw [w, hy] at hp'; cases hp'
    have sp : Same H' (upd (upd H' z (.lst [.non])) p (.lst (List.replicate ((n : Int) + 1).toNat [V.non]).flatten)) := (same_new hz _).trans (same_new hp _)
    refine r _ _ sp ⟨fun j => if j = i then p else ad j, ?_, ?_, ?_⟩
    · subst e
      rw [List.range_succ, List.map_append]
      congr 1
      · refine List.map_congr_left fun j hj => ?_
        have := List.mem_range.mp hj
        show V.ref (ad j) = V.ref (if j = i then p else ad j)
        rw [if_neg (by omega)]
      · simp
    · intro j hj
      by_cases ej : j = i
      · subst ej
        simp only [if_true]
        refine ⟨?_, ?_, hpD⟩
        · rw [upd_same, en]
          congr 2
          unfold rwv
          have : ∀ m : Nat, (List.replicate m [V.non]).flatten = (List.range m).map fun _ => V.non := by
            intro m
            induction m with
            | zero => rfl
            | succ m ih => rw [List.replicate_succ', List.flatten_append, ih, List.range_succ, List.map_append]; rfl
          exact this (n + 1)
        · exact sH.free hp'
      · simp only [if_neg ej]
        obtain ⟨a1, a2, a3⟩ := h1 j (by omega)
        exact ⟨sp _ _ a1, a2, a3⟩
    · intro j j' hj hj' he
      by_cases ej : j = i <;> by_cases ej' : j' = i
      · omega
      · simp only [if_pos ej, if_neg ej'] at he
        have := (h1 j' (by omega)).1
        rw [<- he, hp'] at this; cases this
      · simp only [if_neg ej, if_pos ej'] at he
        have := (h1 j (by omega)).1
        rw [he, hp'] at this; cases this
      · simp only [if_neg ej, if_neg ej'] at he
        exact h2 j j' (by omega) (by omega) he
  subst e
  have tb1 : Tv H H1 H1 s' ad n (fun _ _ => .non) := ⟨hD, fun i hi => (h1 i (by omega)).2.1, fun i hi => (h1 i (by omega)).2.2, fun i j hi hj => h2 i j (by omega) (by omega), fun i hi => by rw [(h1 i (by omega)).1]; simp, hy, fun i hi => (h1 i (by omega)).1, sH, fun b z => z⟩
  clear h1 h2 hy hD
  walk_at "go"
  refine ⟨n, -1, -1, rfl, ⟨by decide, by decide, small_down (.inl rfl) (by omega) (by omega) (by decide) (by decide)⟩, ?_⟩
  have er : rN (n : Int) (-1) (-1) = n + 1 := by rw [rN_down]; omega
  rw [er]
  have place : ∀ {H' : Hp} {i : Nat}, Same H H' -> i < n -> ∃ l, H' (pa i) = some (iL l) /\ l.length = 2 * kk /\ Sm l /\ ∀ b, PP ps i b = l.getD b 0 := by
    intro H' i sH hi
    have e : ps[i]? = some ps[i] := List.getElem?_eq_getElem (by omega)
    have eg : ps.getD i [] = ps[i] := by rw [List.getD_eq_getElem?_getD, e]; rfl
    refine ⟨ps[i], ?_, (hl _ (List.getElem_mem _)).1, (hl _ (List.getElem_mem _)).2, fun b => by show (ps.getD i []).getD b 0 = _; rw [eg]⟩
    have := sH _ _ (hpa i (by omega))
    rw [eg] at this
    exact this
  have pix : ∀ {i : Nat}, i < n -> ((List.range n).map fun i => V.ref (pa i))[i]? = some (.ref (pa i)) := fun {i} hi => by rw [List.getElem?_map, List.getElem?_range hi]; rfl
  obtain ⟨Gd, eGd⟩ : ∃ Gd : (Nat -> Nat -> V) -> Hp -> Nat -> Prop, Gd = fun T H' i0 => ∀ i j, i0 <= i -> i <= j -> j <= n -> ∃ o, Bt (fun b => H1 b = none) H' (T i j) o /\ Best (Dn kk i j) (wtl (PP ps) i) o := ⟨_, rfl⟩
  refine for_rng3 (fun t σ H' => ∃ (T : Nat -> Nat -> V) (o3 o4 o5 o6 o7 : Option V), σ = [some (.ref p), some (.int n), some (.ref s'), o3, o4, o5, o6, o7] /\ Tv H H1 H' s' ad n T /\ Gd T H' (n + 1 - t) /\ ∀ i j, i < n + 1 - t -> T i j = .non) ?_ ?_ ?_
  · exact ⟨_, _, _, _, _, _, rfl, tb1, by rw [eGd]; intro i j h1 h2 h3; omega, fun _ _ _ => rfl⟩
  rotate_left
  · rintro σ H' ⟨T, o3, o4, o5, o6, o7, rfl, tb, gd, _⟩
    walk_at "go"
    rw [eGd] at gd
    obtain ⟨o, b1, b2⟩ := gd 0 n (by omega) (by omega) (Nat.le_refl _)
    refine q s' (ad 0) ((List.range n).map fun i => V.ref (ad (i + 1))) ((List.range n).map (T 0)) (T 0 n) o H' tb.sm ?_ ?_ (b1.imp fun _ _ _ _ => trivial) b2
    · rw [tb.top, List.range_succ_eq_map, List.map_cons, List.map_map]; rfl
    · rw [tb.row 0 (Nat.zero_le _)]
      unfold rwv
      rw [List.range_succ, List.map_append]; rfl
  rintro t σ H2 ht ⟨T, o3, o4, o5, o6, o7, rfl, tb2, gd2, no2⟩
  obtain ⟨st, est⟩ : ∃ st : Nat, st + t = n := ⟨n - t, by omega⟩
  have e1 : ((n : Int) + (t : Int) * -1) = (st : Int) := by omega
  rw [show n + 1 - t = st + 1 by omega] at gd2 no2
  rw [show n + 1 - (t + 1) = st by omega]
  rw [e1]
  walk_at "go"
  refine ⟨small (show 0 <= 1000 by decide), fun z hz => ?_⟩
  have t3 := same_new hz (.lst [])
  have k3 : (upd H2 z (.lst [])) z = _ := upd_same
  generalize upd H2 z _ = H3 at *
  walk_at "go"
  refine ⟨small (show 2 <= 1000 by decide), fun T1 hT1 => ?_⟩
  have t4 := same_new hT1 (.tup [.int 1, .ref z])
  have k4 : (upd H3 T1 (.tup [.int 1, .ref z])) T1 = _ := upd_same
  have k34 := t4 _ _ k3
  have fz : H1 z = none := tb2.gr z hz
  have fT1 : H1 T1 = none := tb2.gr T1 (t3.free hT1)
  have tb4 := tb2.same (t3.trans t4)
  have gd4 : Gd T (upd H3 T1 (.tup [.int 1, .ref z])) (st + 1) := by
    rw [eGd] at gd2 ⊢
    exact fun i j a b c => let ⟨o, x, y⟩ := gd2 i j a b c; ⟨o, x.same (t3.trans t4), y⟩
  generalize upd H3 T1 _ = H4 at *
  walk_at "go"
  refine s_ixL (SqL.of tb4.top) (atI_nat (tb4.at (i := st) (by omega))) ?_
  walk_at "go"
  refine s_setL (tb4.row st (by omega)) (j := st) (by rw [rwv_len]; unfold ixN; rw [if_pos (by omega), if_pos (by omega)]; simp) ?_
  obtain ⟨RO, eRO⟩ : ∃ RO : (Nat -> Nat -> V) -> Hp -> (Nat -> Nat) -> Prop, RO = fun T H' f => ∀ j, st <= j -> j <= n -> ∃ o, Bt (fun b => H1 b = none) H' (T st j) o /\ Best (fun l => (j = st /\ l = []) \/ Sq kk st (f j) j l) (wtl (PP ps) st) o := ⟨_, rfl⟩
  have keepG : ∀ {T T' : Nat -> Nat -> V} {G G' : Hp}, (∀ i j, st + 1 <= i -> T' i j = T i j) -> (∀ b x, H1 b = none -> G b = some x -> G' b = some x) -> Gd T G (st + 1) -> Gd T' G' (st + 1) := by
    intro T T' G G' e k g
    rw [eGd] at g ⊢
    intro i j a b c
    obtain ⟨o, x, y⟩ := g i j a b c
    exact ⟨o, by rw [e i j a]; exact x.keep k, y⟩
  have tb5 := tb4.set (i := st) (j := st) (v := .ref T1) (by omega)
  have kp5 := fun b x f z => tb4.keep (i := st) (by omega) (o := .lst ((rwv n (T st)).set st (.ref T1))) b x f z
  have gd5 := keepG (T' := fun a b => if a = st then (if b = st then .ref T1 else T a b) else T a b) (fun i j h => if_neg (by omega)) kp5 gd4
  have ro5 : RO (fun a b => if a = st then (if b = st then .ref T1 else T a b) else T a b) (upd H4 (ad st) (.lst ((rwv n (T st)).set st (.ref T1)))) (fun _ => 0) := by
    rw [eRO]
    intro j h1 h2
    (try dsimp only)
    by_cases e : j = st
    · subst e
      refine ⟨some (1, []), ?_, ?_⟩
      · rw [if_pos rfl, if_pos rfl]
        exact ⟨T1, z, rfl, fT1, fz, kp5 _ _ fT1 k4, kp5 _ _ fz k34⟩
      · refine (best_one (P := PP ps) j kk).iff fun l => ?_
        rw [Dn.nil]
        exact ⟨fun h => .inl ⟨rfl, h⟩, fun h => h.elim (·.2) fun w => absurd w (Sq.zero _ _ _ _)⟩
    · refine ⟨none, ?_, fun l hl => ?_⟩
      · rw [if_pos rfl, if_neg e]; exact no2 st j (by omega)
      · rcases hl with ⟨w, _⟩ | w
        · exact absurd w e
        · exact absurd w (Sq.zero _ _ _ _)
  have no5 : ∀ i j, i < st -> (fun a b => if a = st then (if b = st then V.ref T1 else T a b) else T a b) i j = V.non := fun i j h => (if_neg (by omega)).trans (no2 i j (by omega))
  generalize (fun a b => if a = st then (if b = st then V.ref T1 else T a b) else T a b) = T5 at *
  generalize upd H4 (ad st) _ = H5 at *
  clear tb4 gd4 kp5 k4 k34 fz fT1 tb2 gd2 no2 t3 t4 k3 hz hT1
  walk_at "go"
  refine ⟨_, _, 2, rfl, ⟨by decide, by decide, small_two (by omega) (by omega) (by omega) (by omega)⟩, ?_⟩
  have er2 : rN ((st : Int) + 1) n 2 = (n - st) / 2 := by rw [rN_two]; omega
  rw [er2]
  refine for_rng3 (fun q' σ H' => ∃ (T : Nat -> Nat -> V) (o4 o5 o6 o7 : Option V), σ = [some (.ref p), some (.int n), some (.ref s'), some (.int st), o4, o5, o6, o7] /\ Tv H H1 H' s' ad n T /\ Gd T H' (st + 1) /\ RO T H' (fun _ => q') /\ ∀ i j, i < st -> T i j = .non) ⟨T5, _, _, _, _, rfl, tb5, gd5, ro5, no5⟩ ?_ ?_
  rotate_left
  · rintro σ H' ⟨T, o4, o5, o6, o7, rfl, tb, gd, ro, no⟩
    walk_at "go"
    refine ⟨T, _, _, _, _, _, rfl, tb, ?_, no⟩
    rw [eGd] at gd ⊢
    rw [eRO] at ro
    intro i j h1 h2 h3
    by_cases e : i = st
    · subst e
      obtain ⟨o, x, y⟩ := ro j h2 h3
      refine ⟨o, x, y.iff fun l => ?_⟩
      by_cases e2 : j = i
      · subst e2
        rw [Dn.nil]
        refine ⟨fun h => h.elim (·.2) fun w => ?_, fun h => .inl ⟨rfl, h⟩⟩
        exact List.eq_nil_of_length_eq_zero (by have := w.len; omega)
      · rw [<- Dn.iff (q := (n - i) / 2) (by omega) (by omega)]
        exact ⟨fun h => h.elim (fun w => absurd w.1 e2) id, .inr⟩
    · exact gd i j (by omega) h2 h3
  clear tb5 gd5 ro5 no5
  rintro q' σ H6 hq' ⟨T, o4, o5, o6, o7, rfl, tb6, gd6, ro6, no6⟩
  obtain ⟨en', hen⟩ : ∃ e : Nat, e = st + 1 + 2 * q' := ⟨_, rfl⟩
  have e2 : ((st : Int) + 1 + (q' : Int) * 2) = (en' : Int) := by omega
  have hen2 : en' < n := by omega
  rw [e2]
  walk_at "go"
  obtain ⟨x, hx, lx, sx, ex⟩ := place tb6.sm (show st < n by omega)
  obtain ⟨y, hy, ly, sy, ey⟩ := place tb6.sm (show en' < n by omega)
  refine s_ixL (SqL.of (tb6.sm _ _ hp0)) (atI_nat (pix (i := st) (by omega))) ?_
  walk_at "go"
  refine s_ixL (SqL.of (tb6.sm _ _ hp0)) (atI_nat (pix (i := en') (by omega))) ?_
  walk_at "go"
  refine ⟨pa st, pa en', x, y, kk, rfl, hx, hy, lx, ly, hk, sx, sy, fun vp op H7 s7 bp cp => ?_⟩
  have cp : Best (Pk kk) (pf (PP ps) st en') op := cp.cong fun l _ => by unfold pf; rw [ex, ey]
  have tb7 := tb6.same s7
  have e3 : ((st : Int) + 1) = ((st + 1 : Nat) : Int) := by omega
  walk_at "go"
  rw [e3]
  refine s_ixL (SqL.of tb7.top) (atI_nat (tb7.at (i := st + 1) (by omega))) ?_
  walk_at "go"
  refine s_ixL (SqL.of (tb7.row (st + 1) (by omega))) (atI_nat (rwv_get (j := en') (by omega))) ?_
  obtain ⟨ob, bb, cb⟩ : ∃ o, Bt (fun b => H1 b = none) H6 (T (st + 1) en') o /\ Best (Dn kk (st + 1) en') (wtl (PP ps) (st + 1)) o := by rw [eGd] at gd6; exact gd6 (st + 1) en' (Nat.le_refl _) (by omega) (by omega)
  have szp : Sz op := fun w l e => by
    subst e
    obtain ⟨⟨p', hp', rfl⟩, e5, _⟩ := cp
    have b1 := PP_bound hsm st (2 * p')
    have b2 := PP_bound hsm en' (2 * p' + 1)
    have e6 : PP ps st (2 * p') * PP ps en' (2 * p' + 1) = w := e5
    rw [<- e6]
    refine ⟨big_of (Int.mul_nonneg b1.1 b2.1) (c := 4 * (top30 * top30)) ?_ pt_big, by show 2 <= 40; decide⟩
    have := Int.mul_le_mul b1.2 b2.2 b2.1 (show (0 : Int) <= top30 by decide)
    have h0 : (0 : Int) <= top30 * top30 := by decide
    omega
  have szb : Sz ob := best_sz hsm (fun l hl => by have := hl.2; omega) cb
  walk_at "go"
  refine ⟨vp, T (st + 1) en', op, ob, rfl, bp.imp (fun _ _ _ _ => trivial), (bb.same s7).imp (fun _ _ _ _ => trivial), fun w l e => by subst e; obtain ⟨⟨p', _, rfl⟩, _⟩ := cp; rfl, szp, szb, fun vr H8 s8 br => ?_⟩
  have br : Bt (fun b => H1 b = none) H8 vr (rnd op ob) := br.imp fun b x f _ => tb7.gr b f
  have tb8 := tb7.same s8
  have gd8 := keepG (fun _ _ _ => rfl) (fun b x _ z => (s7.trans s8) b x z) gd6
  have ro8 : RO T H8 (fun j => if j < en' + 1 + 2 * 0 then q' + 1 else q') := by
    rw [eRO] at ro6 ⊢
    intro j h1 h2
    obtain ⟨o, a, b⟩ := ro6 j h1 h2
    refine ⟨o, a.same (s7.trans s8), ?_⟩
    (try dsimp only at b); (try dsimp only)
    by_cases e : j < en' + 1 + 2 * 0
    · rw [if_pos e]
      exact b.iff fun l => or_congr Iff.rfl (Sq.same (fun r => by omega) l)
    · rw [if_neg e]; exact b
  clear tb6 tb7 ro6 gd6 hx hy bp bb s7 s8
  walk_at "go"
  refine ⟨_, _, 2, rfl, ⟨by decide, by decide, small_two (by omega) (by omega) (by omega) (by omega)⟩, ?_⟩
  have er3 : rN ((en' : Int) + 1) ((n : Int) + 1) 2 = (n + 1 - en') / 2 := by rw [rN_two]; omega
  rw [er3]
  refine for_rng3 (fun r σ H' => ∃ (T : Nat -> Nat -> V) (o6 o7 : Option V), σ = [some (.ref p), some (.int n), some (.ref s'), some (.int st), some (.int en'), some vr, o6, o7] /\ Tv H H1 H' s' ad n T /\ Gd T H' (st + 1) /\ RO T H' (fun j => if j < en' + 1 + 2 * r then q' + 1 else q') /\ (∀ i j, i < st -> T i j = .non) /\ Bt (fun b => H1 b = none) H' vr (rnd op ob)) ⟨T, _, _, rfl, tb8, gd8, ro8, no6, br⟩ ?_ ?_
  rotate_left
  · rintro σ H' ⟨T, o6, o7, rfl, tb, gd, ro, no, _⟩
    refine ⟨T, _, _, _, _, rfl, tb, gd, ?_, no⟩
    rw [eRO] at ro ⊢
    intro j h1 h2
    obtain ⟨o, a, b⟩ := ro j h1 h2
    refine ⟨o, a, ?_⟩
    (try dsimp only at b)
    rw [if_pos (by omega)] at b
    exact b
  clear tb8 gd8 ro8 no6 br
  rintro r σ H9 hr9 ⟨T, o6, o7, rfl, tb9, gd9, ro9, no9, br9⟩
  obtain ⟨sp, hsp⟩ : ∃ e : Nat, e = en' + 1 + 2 * r := ⟨_, rfl⟩
  have e4 : ((en' : Int) + 1 + (r : Int) * 2) = (sp : Int) := by omega
  have hsp2 : sp <= n := by omega
  rw [e4]
  have e5 : ((en' : Int) + 1) = ((en' + 1 : Nat) : Int) := by omega
  walk_at "go"
  rw [e5]
  refine s_ixL (SqL.of tb9.top) (atI_nat (tb9.at (i := en' + 1) (by omega))) ?_
  walk_at "go"
  refine s_ixL (SqL.of (tb9.row (en' + 1) (by omega))) (atI_nat (rwv_get (j := sp) hsp2)) ?_
  obtain ⟨oc, bc, cc⟩ : ∃ o, Bt (fun b => H1 b = none) H9 (T (en' + 1) sp) o /\ Best (Dn kk (en' + 1) sp) (wtl (PP ps) (en' + 1)) o := by rw [eGd] at gd9; exact gd9 (en' + 1) sp (by omega) (by omega) (by omega)
  obtain ⟨od, bd, cd⟩ : ∃ o, Bt (fun b => H1 b = none) H9 (T st sp) o /\ Best (fun l => (sp = st /\ l = []) \/ Sq kk st q' sp l) (wtl (PP ps) st) o := by
    rw [eRO] at ro9
    obtain ⟨o, a, b⟩ := ro9 sp (by omega) hsp2
    (try dsimp only at b)
    rw [if_neg (by omega)] at b
    exact ⟨o, a, b⟩
  have cd : Best (Sq kk st q' sp) (wtl (PP ps) st) od := cd.iff fun l => ⟨fun h => h.elim (fun w => by omega) id, .inr⟩
  have cn := best_new hPP (show sp = st + 2 + 2 * q' + 2 * r by omega) (k := kk) (a := op) (b := ob) (c := oc) (by rw [<- hen]; exact cp) (by rw [<- hen]; exact cb) (by rw [show st + 2 + 2 * q' = en' + 1 by omega]; exact cc)
  have szc : Sz oc := best_sz hsm (fun l hl => by have := hl.2; omega) cc
  have szr : Sz (rnd op ob) := fun w l e => by
    match op, ob, e, szp, szb, cp, cb with
    | some (w1, l1), some (w2, l2), e, szp, szb, cp, cb =>
      cases e
      have h2 := (cb.1).2
      obtain ⟨⟨p', hp', e7⟩, e8, _⟩ := cp
      have c1 := wtl_cap hsm l2 (st + 1)
      rw [cb.2.1] at c1
      have b1 := PP_bound hsm st (2 * p')
      have b2 := PP_bound hsm en' (2 * p' + 1)
      have e6 : PP ps st (2 * p') * PP ps en' (2 * p' + 1) = w1 := by rw [<- e8, e7]; rfl
      constructor
      · rw [<- e6]
        refine big_of (Int.mul_nonneg (Int.mul_nonneg b1.1 b2.1) c1.1) (c := top30 * top30 * top30 ^ 40) ?_ topp2_big
        exact Int.mul_le_mul (Int.mul_le_mul b1.2 b2.2 b2.1 (by decide)) (Int.le_trans c1.2 (top_pow (by omega))) c1.1 (by decide)
      · simp only [List.length_append, List.length_singleton]; omega
  walk_at "go"
  refine ⟨vr, T (en' + 1) sp, rnd op ob, oc, rfl, br9.imp (fun _ _ _ _ => trivial), bc.imp (fun _ _ _ _ => trivial), szr, szc, fun vf H10 s10 bf => ?_⟩
  have bf : Bt (fun b => H1 b = none) H10 vf (beh (rnd op ob) oc) := bf.imp fun b x f _ => tb9.gr b f
  have tb10 := tb9.same s10
  walk_at "go"
  refine s_ixL (SqL.of tb10.top) (atI_nat (tb10.at (i := st) (by omega))) ?_
  walk_at "go"
  refine s_ixL (SqL.of (tb10.row st (by omega))) (atI_nat (rwv_get (j := sp) hsp2)) ?_
  walk_at "go"
  refine ⟨T st sp, vf, od, beh (rnd op ob) oc, rfl, (bd.same s10).imp (fun _ _ _ _ => trivial), bf.imp (fun _ _ _ _ => trivial), ?_, fun vn H11 s11 hv => ?_⟩
  · intro w l x' m e1 e2
    rw [e1] at cd
    rw [e2] at cn
    exact ⟨by have := cd.1.len; have := cn.1.len; omega, cd.1.apart cn.1⟩
  have s911 := s10.trans s11
  have tb11 := tb9.same s911
  have bn : Bt (fun b => H1 b = none) H11 vn (lik od (beh (rnd op ob) oc)) := by
    rcases hv with ⟨rfl, e⟩ | ⟨rfl, e⟩
    · rw [e]; exact bd.same s911
    · rw [e]; exact bf.same s11
  walk_at "go"
  refine s_ixL (SqL.of tb11.top) (atI_nat (tb11.at (i := st) (by omega))) ?_
  walk_at "go"
  refine s_setL (tb11.row st (by omega)) (j := sp) (by rw [rwv_len]; unfold ixN; rw [if_pos (by omega), if_pos (by omega)]; simp) ?_
  have tb12 := tb11.set (i := st) (j := sp) (v := vn) (by omega)
  have kp12 := fun b x f z => tb11.keep (i := st) (by omega) (o := .lst ((rwv n (T st)).set sp vn)) b x f z
  refine ⟨_, _, _, rfl, tb12, keepG (T := T) (fun i j h => if_neg (by omega)) (fun b x f z => kp12 b x f (s911 b x z)) gd9, ?_, fun i j h => (if_neg (by omega)).trans (no9 i j h), (br9.same s911).keep kp12⟩
  rw [eRO] at ro9 ⊢
  intro j h1 h2
  (try dsimp only)
  rw [if_pos rfl]
  by_cases e : j = sp
  · subst e
    refine ⟨_, by rw [if_pos rfl]; exact bn.keep kp12, ?_⟩
    rw [if_pos (by omega)]
    exact (best_more cd cn).iff fun l => ⟨.inr, fun h => h.elim (fun w => by omega) id⟩
  · obtain ⟨o, a, b⟩ := ro9 j h1 h2
    (try dsimp only at b)
    refine ⟨o, by rw [if_neg e]; exact (a.same s911).keep kp12, ?_⟩
    by_cases h3 : j < en' + 1 + 2 * r
    · rw [if_pos h3] at b
      rw [if_pos (by omega)]; exact b
    · rw [if_neg h3] at b
      by_cases h4 : j < en' + 1 + 2 * (r + 1)
      · rw [if_pos h4]
        exact b.iff fun l => or_congr Iff.rfl (Sq.same (fun r' => by omega) l)
      · rw [if_neg h4]; exact b
theorem sc_first_likeliest:FnScope ["places","best"] ["places"] (defScope d_first_likeliest):=⟨rfl,rfl,rfl,by decide +kernel,rfl,by decide +kernel,by decide +kernel⟩
theorem ok_first_likeliest (F : Fun K "first_likeliest" "first_likeliest" d_first_likeliest f fd) (T : Txt K mg aK aC) (U_likeliest_spans : FnU P w K mg base k "likeliest_spans" ["places"] (spSpansL)) : FnOk P w K mg base CX0 (k + 1) f fd ["places"] (spFirstL) := by
  refine F.ok sc_first_likeliest (fun vs H Q E h => ?_) (fun cdv A outer s H vs Q E hr h => ?_)
  · obtain ⟨p, ps, kk, rfl, _⟩ := h; rfl
  obtain ⟨p, ps, kk, rfl, hP, hn, hk, hl, q⟩ := h
  have hu := hr.units0
  refine ⟨_, (pss_cons (ps_set (i := 1) sc_first_likeliest.nd rfl (Or.inl rfl) (pe_ix (ix_A K) (pe_ix (ix_A K) (pe_fn U_likeliest_spans hr (pa_cons (pv 0) pa_nil)) pe_int (fun _ _ => rfl)) (pe_un un_neg pe_int) (fun _ _ => rfl)))  (pss_cons (ps_if (pt_cmpR op_isA (pv 1) pe_non (nomark _))   (pss_one (ps_ret pe_non))   pss_nil)  (pss_one (ps_ret (pe_tup (pa_cons (pe_ix (ix_A K) (pv 1) pe_int (fun _ _ => rfl)) (pa_cons (pe_bmK K PySem.F.plainAttrs_str PySem.F.slot_str_join PySem.F.type_str_join (mt_join K) (pe_tx (l := []) (by decide +kernel)) (pa_cons (pe_comp (own := ["bracket"]) (sel := []) (compOk_of (osc := (defScope d_first_likeliest)) (N := ["places", "best"]) (by decide +kernel)) rfl (pi_listK K (pe_ix (ix_A K) (pv 1) pe_int (fun _ _ => rfl))) (fun _ _ _ _ _ => (pg_name (i := 0) (show (["bracket"] : List Str).Nodup from by decide +kernel) rfl (Or.inl rfl))) (gk_name (by decide)) (fun _ _ _ _ _ => pif_nil) (fun _ _ _ _ _ => (pe_ix (ix_A K) (pe_gl T.g_BRACKETS) (pv 0) (fun _ _ => rfl)))) pa_nil)) pa_nil))))))), ?_⟩
  walk_at "go"
  refine spansL_use hP hn hk hl (fun s' r rs xs v o H1 s1 e1 e2 bt be => ?_)
  walk_at "go"
  refine s_ixL (SqL.of e1) (v := .ref r) (atI_0 _ _) ?_
  walk_at "go"
  refine s_ixL (SqL.of e2) (last_atx xs v) ?_
  match o, bt, be with
  | none, bt, be =>
    cases (show v = .non from bt)
    walk_at "go"
    refine ifp rfl ?_
    walk_at "go"
    exact q _ none H1 s1 rfl be
  | some (w, l), ⟨T1, a1, ev, _, _, f1, f2⟩, be =>
    subst ev
    have hlen : l.length <= 40 := by have := be.1.2; omega
    have hbd : ∀ b ∈ l, b < 8 := fun b hb => by have := go_bd l [] [] be.1.1 b hb; omega
    walk_at "go"
    refine ifq rfl ?_
    walk_at "go"
    refine s_ixU (SqT.of f1) (v := .int w) rfl ?_
    walk_at "go"
    refine s_ixU (SqT.of f1) (v := .ref a1) rfl ?_
    walk_at "go"
    refine ⟨a1, rfl, ⟨_, SqL.of f2⟩, ?_⟩
    refine comp_map (fun x => match x with | .int i => tx [brs.getD i.toNat 0] | y => y) (small (by rw [List.length_map]; omega)) f2 (fun D H2 hD s2 h2 => ?_) (fun D i x H2 R hD hx s2 hR => ?_)
    · have e : ((nL l).map fun x => match x with | .int i => tx [brs.getD i.toNat 0] | y => y) = (l.map fun b => [brs.getD b 0]).map tx := by
        unfold nL
        rw [List.map_map, List.map_map]
        rfl
      rw [e] at h2
      walk_at "go"
      have ef : (l.map fun b => [brs.getD b 0]).flatten = brx l := by
        unfold brx
        rw [<- flat_one (l.map fun b => brs.getD b 0), List.map_map]; rfl
      refine s_join (xss := l.map fun b => [brs.getD b 0]) (SqL.of h2) (by rw [ef, List.length_map]; unfold brx; rw [List.length_map]; omega) ?_
      rw [ef]
      walk_at "go"
      refine ⟨small (show 2 <= 1000 by decide), fun T' hT => ?_⟩
      exact q _ (some (w, l)) _ ((s1.trans s2).trans (same_new hT _)) ⟨T', rfl, upd_same⟩ be
    · rw [List.getElem?_map] at hx
      obtain ⟨b, hb, rfl⟩ := Option.map_eq_some_iff.mp hx
      have hb8 := hbd b (List.mem_of_getElem? hb)
      walk_at "go"
      refine s_ixT (small (by decide)) (atI_nat (brs_get hb8)) ?_
      exact hR H2 (Same.refl _)
theorem sc_needs_change:FnScope ["sign","bracket"] ["sign","bracket"] (defScope d_needs_change):=⟨rfl,rfl,rfl,by decide +kernel,rfl,by decide +kernel,by decide +kernel⟩
theorem ok_needs_change (F:Fun K "needs_change" "needs_change" d_needs_change f fd) (T:Txt K mg aK aC)  : FnOk P w K mg base CX0 (k + 1) f fd ["sign","bracket"] (spNeeds):=by
 refine F.ok sc_needs_change (fun vs H Q E h=>?_) (fun cdv A outer s H vs Q E hr h=>?_)
 ·obtain ⟨c,b,rfl,_⟩:=h; rfl
 obtain ⟨c,b,rfl,q⟩:=h
 have hu:=hr.units0
 refine ⟨_,(pss_one (ps_ret (pe_cmpR (op_notinA K) (pv 0) (pe_tup (pa_cons (pe_gl T.g_UNKNOWN) (pa_cons (pv 1) pa_nil))) (by with_unfolding_all rfl)))),?_⟩
 walk_at "go"
 refine ⟨small (show 2 <= 1000 by decide),fun T' hT=>?_⟩
 have t1:=same_new hT (.tup [tx [63],tx [b]])
 refine .inr ⟨T',_,rfl,.inr (SqT.of upd_same),rfl,rfl,?_⟩
 rw [in_2x]
 exact q _ t1
theorem sc_places_to_change:FnScope ["k","row"] ["k","row"] (defScope d_places_to_change):=⟨rfl,rfl,rfl,by decide +kernel,rfl,by decide +kernel,by decide +kernel⟩
theorem ok_places_to_change (F:Fun K "places_to_change" "places_to_change" d_places_to_change f fd) (T:Txt K mg aK aC) (U_needs_change:FnU P w K mg base k "needs_change" ["sign","bracket"] (spNeeds)):FnOk P w K mg base CX0 (k + 1) f fd ["k","row"] (spPlacesC):=by
 refine F.ok sc_places_to_change (fun vs H Q E h=>?_) (fun cdv A outer s H vs Q E hr h=>?_)
 ·obtain ⟨k,a,rfl,_⟩:=h; rfl
 obtain ⟨kk,a,rfl,k1,k4,ha,q⟩:=h
 have hu:=hr.units0
 refine ⟨_,(pss_one (ps_ret (pe_compC (own:=["sign"]) (sel:=[0]) (compOkC_of (osc:=(defScope d_places_to_change)) (N:=["k","row"]) (by decide +kernel)) rfl (pi_str (pv 1)) (fun _ _ _ _ _=>(pg_name (i:=0) (show (["sign","k"]:List Str).Nodup from by decide +kernel) rfl (Or.inr rfl))) (gk_name (by decide)) (fun _ _ _ _ _=>pif_nil) (fun _ _ _ _ _=>(pe_comp (own:=["bracket"]) (sel:=[0]) (compOkIn (osc:=(defScope d_places_to_change)) (N:=["sign","k"]) rfl rfl (by decide +kernel)) rfl (pi_str (pe_slice (sl_A K) (pe_gl T.g_BRACKETS) po_none (po_some (pe_op op_times pe_int (pv 1))))) (fun _ _ _ _ _=>(pg_name (i:=0) (show (["bracket","sign"]:List Str).Nodup from by decide +kernel) rfl (Or.inl rfl))) (gk_name (by decide)) (fun _ _ _ _ _=>pif_nil) (fun _ _ _ _ _=>(pe_ifExp (pt_tru K (pe_fn U_needs_change hr (pa_cons (pv 1) (pa_cons (pv 0) pa_nil)))) (pe_gl T.g_CHANGED) (pe_gl T.g_KEPT)))))))),?_⟩
 walk_at "go"
 refine yes_str (small (by omega)) (fun D i ys H'=>∃ ad:Nat->Addr,ys = (List.range i).map (fun j=>V.ref (ad j))/\∀ j,j < i->H' (ad j) = some (iL (plc kk.toNat (a.getD j 0)))/\ad j ≠ D)
  (fun D _=>⟨fun _=>D,rfl,fun j hj=>absurd hj (by omega)⟩) (fun D i ys H1 H2 _ ⟨ad,e,h1⟩ s12=>⟨ad,e,fun j hj=>⟨s12 _ _ (h1 j hj).1 (h1 j hj).2,(h1 j hj).2⟩⟩)
  (fun D ys H' hD hy _ sH ⟨ad,e,h1⟩=>?_) ?_
 ·subst e
  refine q D H' hD sH ⟨ad,by rw [List.length_map]; exact hy,fun i hi=>?_⟩
  rw [List.length_map] at hi
  have eg:(a.map (plc kk.toNat)).getD i [] = plc kk.toNat (a.getD i 0):=by
   simp only [List.getD_eq_getElem?_getD,List.getElem?_map,List.getElem?_eq_getElem hi]; rfl
  rw [eg]; exact (h1 i hi).1
 ·rintro D i ys H' R hD hi hy hl sH ⟨ad,e,h1⟩ r
  have fin:∀ l H6,H' l = none->Same H' H6->H6 l = some (iL (plc kk.toNat (a.getD i 0)))->R (.ref l) H6:=by
   intro l H6 hl' s6 h6
   have hlD:l ≠ D:=fun z=>by rw [z,hy] at hl'; cases hl'
   refine r _ _ s6 ⟨fun j=>if j = i then l else ad j,?_,fun j hj=>?_⟩
   ·subst e
    rw [List.range_succ,List.map_append]
    congr 1
    ·refine List.map_congr_left fun j hj=>?_
     have:=List.mem_range.mp hj
     show V.ref (ad j) = V.ref (if j = i then l else ad j)
     rw [if_neg (by omega)]
    ·simp
   ·by_cases ej:j = i
    ·subst ej; simp only [if_true]; exact ⟨h6,hlD⟩
    ·simp only [if_neg ej]
     obtain ⟨a1,a2⟩:=h1 j (by omega)
     exact ⟨s6 _ _ a1,a2⟩
  walk_at "go"
  rw [cut_to _ (by omega),show (2 * kk).toNat = 2 * kk.toNat by omega]
  walk_at "go"
  refine vals_str (fun b=>.int (if a.getD i 0 = 63\/a.getD i 0 = b then 2 else 1)) (small (by rw [List.length_take]; exact Nat.le_trans (Nat.min_le_right _ _) (by decide))) (fun D2 H2 hD2 s2 h2=>?_) (fun i2 c H2 R2 hc2 s2 r2=>?_)
  ·refine fin D2 H2 hD2 s2 ?_
   rw [h2]
   unfold plc
   show some (HO.lst _) = some (HO.lst (List.map V.int (List.map _ _)))
   rw [List.map_map]
   rfl
  ·walk_at "go"
   refine ⟨a.getD i 0,c,rfl,fun H3 s3=>?_⟩
   walk_at "go"
   by_cases z:a.getD i 0 = 63\/a.getD i 0 = c
   ·rw [if_pos z] at r2
    refine ifq (by rw [decide_eq_true z]; rfl) ?_
    walk_at "go"
    exact r2 H3 s3
   ·rw [if_neg z] at r2
    refine ifp (by rw [decide_eq_false z]; rfl) ?_
    walk_at "go"
    exact r2 H3 s3
theorem sc_fewest_changes:FnScope ["k","row","best","right"] ["k","row"] (defScope d_fewest_changes):=⟨rfl,rfl,rfl,by decide +kernel,rfl,by decide +kernel,by decide +kernel⟩
theorem ok_fewest_changes (F : Fun K "fewest_changes" "fewest_changes" d_fewest_changes f fd) (T : Txt K mg aK aC) (U_check_line : FnU P w K mg base k "check_line" ["k", "row"] (spCheckLine)) (U_first_likeliest : FnU P w K mg base k "first_likeliest" ["places"] (spFirstL)) (U_places_to_change : FnU P w K mg base k "places_to_change" ["k", "row"] (spPlacesC)) (U_needs_change : FnU P w K mg base k "needs_change" ["sign", "bracket"] (spNeeds)) : FnOk P w K mg base CX0 (k + 1) f fd ["k", "row"] (spFewest32) := by
  refine F.ok sc_fewest_changes (fun vs H Q E h => ?_) (fun cdv A outer s H vs Q E hr h => ?_)
  · obtain ⟨k, a, rfl, _⟩ := h; rfl
  obtain ⟨kk, a, rfl, k1, k4, hro, q⟩ := h
  have hu := hr.units0
  have hl := isRow_len hro
  have hk4 : kk.toNat <= 4 := by omega
  refine ⟨_, (pss_cons (ps_expr (pe_fn U_check_line hr (pa_cons (pv 0) (pa_cons (pv 1) pa_nil))))  (pss_cons (ps_set (i := 2) sc_fewest_changes.nd rfl (Or.inl rfl) (pe_fn U_first_likeliest hr (pa_cons (pe_fn U_places_to_change hr (pa_cons (pv 0) (pa_cons (pv 1) pa_nil))) pa_nil)))  (pss_cons (ps_if (pt_cmpR op_isA (pv 2) pe_non (nomark _))   (pss_one (ps_ret pe_non))   pss_nil)  (pss_cons (ps_set (i := 3) sc_fewest_changes.nd rfl (Or.inl rfl) (pe_ix (ix_A K) (pv 2) pe_int (fun _ _ => rfl)))  (pss_one (ps_ret (pe_tup (pa_cons (pe_callB (call_sumA K rfl) rfl T.n_sum PyProof.Rows.boot_sum (pa_cons (pe_comp (own := ["sign", "bracket"]) (sel := []) (compOk_of (osc := (defScope d_fewest_changes)) (N := ["k", "row", "best", "right"]) (by decide +kernel)) rfl (pi_zipS rfl T.n_zip (pa_cons (pv 1) (pa_cons (pv 3) pa_nil))) (fun _ _ _ _ _ => (pg_tupK (n := 2) K rfl (pgs_cons (pg_name (i := 0) (show (["sign", "bracket"] : List Str).Nodup from by decide +kernel) rfl (Or.inl rfl)) (pgs_cons (pg_name (i := 1) (show (["sign", "bracket"] : List Str).Nodup from by decide +kernel) rfl (Or.inl rfl)) pgs_nil)))) (gk_tup (gk_cons gm_name (gm_cons gm_name gm_nil) (gk_name (by decide)) (gk_cons gm_name gm_nil (gk_name (by decide)) gk_nil))) (fun _ _ _ _ _ => pif_nil) (fun _ _ _ _ _ => (pe_callTy call_intA rfl T.n_int PyProof.Rows.boot_int (pa_cons (pe_fn U_needs_change hr (pa_cons (pv 0) (pa_cons (pv 1) pa_nil))) pa_nil)))) pa_nil)) (pa_cons (pv 3) pa_nil))))))))), ?_⟩
  walk_at "go"
  refine checkLine_use k1 k4 hro (fun H1 s1 => ?_)
  walk_at "go"
  refine ⟨kk, a, rfl, k1, k4, hl, fun r H2 _ s2 hP => ?_⟩
  walk_at "go"
  refine ⟨r, _, kk.toNat, rfl, hP, by rw [List.length_map]; exact hl, hk4, fun l h => ?_, fun v o H3 s3 ft be => ?_⟩
  · obtain ⟨c, _, rfl⟩ := List.mem_map.mp h
    exact ⟨plc_len hk4, plc_sm _ _⟩
  rw [List.length_map] at be
  have u3 := (s1.trans s2).trans s3
  match o, ft, be with
  | none, ft, be =>
    cases (show v = .non from ft)
    walk_at "go"
    refine ifp rfl ?_
    walk_at "go"
    exact q _ H3 u3 (res_of hk4 (by omega) (o := none) rfl be)
  | some (w, l), ⟨T1, ev, f1⟩, be =>
    subst ev
    have hlen : l.length = a.length := by have := be.1.2; omega
    have hbd : ∀ b ∈ l, b < 8 := fun b hb => by have := go_bd l [] [] be.1.1 b hb; omega
    have hbl : (brx l).length = a.length := by unfold brx; rw [List.length_map]; exact hlen
    walk_at "go"
    refine ifq rfl ?_
    walk_at "go"
    refine s_ixU (SqT.of f1) (v := tx (brx l)) rfl ?_
    walk_at "go"
    refine vals_zip (fun c d => .int (if c = 63 \/ c = d then 0 else 1)) hbl (small (by omega)) (fun D H4 hD s4 h4 => ?_) (fun i c d T' H4 R hc hd s4 hT hR => ?_)
    · have e : ((List.range a.length).map fun i => V.int (if a.getD i 0 = 63 \/ a.getD i 0 = (brx l).getD i 0 then 0 else 1)) = ((List.range a.length).map fun i => (if okc (a.getD i 0) (l.getD i 0) = true then (0 : Int) else 1)).map V.int := by
        rw [List.map_map]
        refine List.map_congr_left fun i hi => ?_
        have hi := List.mem_range.mp hi
        have eg : (brx l).getD i 0 = brs.getD (l.getD i 0) 0 := by
          unfold brx
          rw [List.getD_eq_getElem?_getD, List.getElem?_map, List.getElem?_eq_getElem (by omega), List.getD_eq_getElem?_getD (l := l), List.getElem?_eq_getElem (by omega)]; rfl
        show V.int (if a.getD i 0 = 63 \/ a.getD i 0 = (brx l).getD i 0 then 0 else 1) = V.int (if okc (a.getD i 0) (l.getD i 0) = true then (0 : Int) else 1)
        rw [eg]
        unfold okc
        by_cases z : a.getD i 0 = 63 \/ a.getD i 0 = brs.getD (l.getD i 0) 0
        · rw [if_pos z, if_pos (decide_eq_true z)]
        · rw [if_neg z, if_neg (by rw [decide_eq_false z]; decide)]
      rw [e] at h4
      walk_at "go"
      refine s_sum (SqL.of h4) ?_
      rw [chg_sum a l hlen.symm]
      walk_at "go"
      refine ⟨small (show 2 <= 1000 by decide), fun T' hT => ?_⟩
      exact q _ _ ((u3.trans s4).trans (same_new hT _)) (res_of hk4 (by omega) (o := some (w, l)) ⟨T', rfl, upd_same⟩ be)
    · walk_at "go"
      refine ⟨T', _, rfl, SqT.of hT, rfl, ?_⟩
      walk_at "go"
      refine ⟨c, d, rfl, fun H5 s5 => ?_⟩
      walk_at "go"
      have eb : (if (!decide (c = 63 \/ c = d)) = true then (1 : Int) else 0) = if c = 63 \/ c = d then 0 else 1 := by
        by_cases z : c = 63 \/ c = d
        · rw [decide_eq_true z, if_pos z]; rfl
        · rw [decide_eq_false z, if_neg z]; rfl
      rw [eb]
      exact hR H5 s5
theorem sc_opens:FnScope ["bracket"] ["bracket"] (defScope d_opens):=⟨rfl,rfl,rfl,by decide +kernel,rfl,by decide +kernel,by decide +kernel⟩
theorem ok_opens (F:Fun K "opens" "opens" d_opens f fd) (T:Txt K mg aK aC)  : FnOk P w K mg base CX0 (k + 1) f fd ["bracket"] (spOpens):=by
 refine F.ok sc_opens (fun vs H Q E h=>?_) (fun cdv A outer s H vs Q E hr h=>?_)
 ·obtain ⟨b,rfl,_⟩:=h; rfl
 obtain ⟨b,rfl,q⟩:=h
 have hu:=hr.units0
 refine ⟨_,(pss_one (ps_ret (pe_cmpR (op_eqA K hu) (pe_op op_mod (pv 0) pe_int) pe_int (nomark _)))),?_⟩
 walk_at "go"
 have e:decide ((b:Int) % 2 = 0) = decide (b % 2 = 0):=decide_eq_decide.mpr (by omega)
 rw [e]
 exact q
theorem sc_Course___init__:FnScope ["self","k","row"] ["self","k","row"] (defScope d_Course___init__):=⟨rfl,rfl,rfl,by decide +kernel,rfl,by decide +kernel,by decide +kernel⟩
theorem ok_Course___init__ (F : Fun K "__init__" "Course.__init__" d_Course___init__ f fd) (T : Txt K mg aK aC) (U_counted_places : FnU P w K mg base k "counted_places" ["k", "row"] (spCounted)) (U_span_sums : FnU P w K mg base k "span_sums" ["places"] (spSpans)) : FnOk P w K mg base CX0 (k + 1) f fd ["self", "k", "row"] (spCInit aC) := by
  refine F.ok sc_Course___init__ (fun vs H Q E h => ?_) (fun cdv A outer s H vs Q E hr h => ?_)
  · obtain ⟨co, dx, k, a, H0, rfl, _⟩ := h; rfl
  obtain ⟨co, dx, kk, a, H0, rfl, k1, k4, hro, hco, h0co, s0, q⟩ := h
  have hu := hr.units0
  have hl := isRow_len hro
  refine ⟨_, (pss_cons (ps_fldK K (pv 0) (pe_fn U_counted_places hr (pa_cons (pv 1) (pa_cons (pv 2) pa_nil))))  (pss_cons (ps_fldK K (pv 0) (pe_fn U_span_sums hr (pa_cons (pe_fldK K (pv 0)) pa_nil)))  (pss_cons (ps_fldK K (pv 0) pe_int)  (pss_cons (ps_fldK K (pv 0) (pe_lst pa_nil))  (pss_one (ps_fldK K (pv 0) (pe_lst (pa_cons (pe_comp (own := ["row_sums"]) (sel := []) (compOk_of (osc := (defScope d_Course___init__)) (N := ["self", "k", "row"]) (by decide +kernel)) rfl (pi_listK K (pe_fldK K (pv 0))) (fun _ _ _ _ _ => (pg_name (i := 0) (show (["row_sums"] : List Str).Nodup from by decide +kernel) rfl (Or.inl rfl))) (gk_name (by decide)) (fun _ _ _ _ _ => pif_nil) (fun _ _ _ _ _ => (pe_ix (ix_A K) (pv 0) (pe_un un_neg pe_int) (fun _ _ => rfl)))) pa_nil)))))))), ?_⟩
  walk_at "go"
  refine counted_use k1 k4 hl (fun pl H1 hpl s1 hP1 => ?_)
  walk_at "go"
  have hco1 := s1 _ _ hco
  refine ⟨co, aC, dx, [], rfl, hco1, T.cl_Course, T.no_places, by show 0 < 1000; decide, ?_⟩
  have g2 : (upd H1 co (.ins aC dx (putF "places" (.ref pl) []))) co = some (.ins aC dx [("places", .ref pl)]) := upd_same
  have sb2 : SameBut1 co H1 (upd H1 co (.ins aC dx (putF "places" (.ref pl) []))) := SameBut1.upd
  generalize upd H1 co _ = G2 at *
  have npl : pl ≠ co := fun z => by rw [z, hco] at hpl; cases hpl
  have lst2 : ∀ b xs, H1 b = some (.lst xs) -> G2 b = some (.lst xs) := fun b xs z => sb2 _ _ z fun e => by rw [e, hco1] at z; cases z
  have hP2 : Pls G2 pl (a.map (plw (ones kk.toNat))) := by
    obtain ⟨pd, h1, h2⟩ := hP1
    exact ⟨pd, lst2 _ _ h1, fun i hi => lst2 _ _ (h2 i hi)⟩
  walk_at "go"
  refine ⟨co, aC, dx, _, _, rfl, g2, T.cl_Course, T.no_places, rfl, ?_⟩
  walk_at "go"
  refine spans_use (k := kk.toNat) hP2 (by rw [List.length_map]; exact hl) (by omega) (fun l hll => many_places (by omega) l hll) (fun sm ad H3 tb3 => ?_)
  rw [List.length_map] at tb3
  have g3 := tb3.sm _ _ g2
  have hP3 := hP2.same tb3.sm
  walk_at "go"
  refine ⟨co, aC, dx, _, rfl, g3, T.cl_Course, T.no_sums, by show 1 < 1000; decide, ?_⟩
  have g4 : (upd H3 co (.ins aC dx (putF "sums" (.ref sm) [("places", .ref pl)]))) co = some (.ins aC dx [("places", .ref pl), ("sums", .ref sm)]) := upd_same
  have sb4 : SameBut1 co H3 (upd H3 co (.ins aC dx (putF "sums" (.ref sm) [("places", .ref pl)]))) := SameBut1.upd
  generalize upd H3 co _ = G4 at *
  walk_at "go"
  refine ⟨co, aC, dx, _, rfl, g4, T.cl_Course, T.no_at, by show 2 < 1000; decide, ?_⟩
  have g5 : (upd G4 co (.ins aC dx (putF "at" (.int 0) [("places", .ref pl), ("sums", .ref sm)]))) co = some (.ins aC dx [("places", .ref pl), ("sums", .ref sm), ("at", .int 0)]) := upd_same
  have sb5 := sb4.trans (SameBut1.upd (p := co) (H := G4) (o := .ins aC dx (putF "at" (.int 0) [("places", .ref pl), ("sums", .ref sm)])))
  generalize upd G4 co _ = G5 at *
  walk_at "go"
  refine ⟨small (show 0 <= 1000 by decide), fun cl hcl => ?_⟩
  have ncc : cl ≠ co := fun z => by rw [z, g5] at hcl; cases hcl
  have t6 := same_new hcl (.lst [])
  have gc6 : (upd G5 cl (.lst [])) cl = some (.lst []) := upd_same
  have g6 := t6 _ _ g5
  have sb6 := sb5.trans (SameBut1.of (p := co) t6)
  have hcl3 : H3 cl = none := by
    cases e : H3 cl with
    | none => rfl
    | some o => rw [sb5 _ _ e ncc] at hcl; cases hcl
  generalize upd G5 cl _ = G6 at *
  walk_at "go"
  refine ⟨co, aC, dx, _, rfl, g6, T.cl_Course, T.no_closings, by show 3 < 1000; decide, ?_⟩
  have g7 : (upd G6 co (.ins aC dx (putF "closings" (.ref cl) [("places", .ref pl), ("sums", .ref sm), ("at", .int 0)]))) co = some (.ins aC dx [("places", .ref pl), ("sums", .ref sm), ("at", .int 0), ("closings", .ref cl)]) := upd_same
  have sb7 := sb6.trans (SameBut1.upd (p := co) (H := G6) (o := .ins aC dx (putF "closings" (.ref cl) [("places", .ref pl), ("sums", .ref sm), ("at", .int 0)])))
  have gc7 : (upd G6 co (.ins aC dx (putF "closings" (.ref cl) [("places", .ref pl), ("sums", .ref sm), ("at", .int 0)]))) cl = some (.lst []) := by rw [upd_ne ncc]; exact gc6
  generalize upd G6 co _ = G7 at *
  have nsm : sm ≠ co := fun z => by have := tb3.fs; rw [z, g2] at this; cases this
  walk_at "go"
  refine ⟨co, aC, dx, _, _, rfl, g7, T.cl_Course, T.no_sums, rfl, ?_⟩
  walk_at "go"
  have top7 := sb7 _ _ tb3.top nsm
  have nad : ∀ i, i <= a.length -> ad i ≠ co := fun i hi z => by have := tb3.fa i hi; rw [z, g2] at this; cases this
  refine ⟨sm, rfl, ⟨_, SqL.of top7⟩, ?_⟩
  refine vals_lst (fun i => V.ref (ad i)) (fun i => V.int (W kk.toNat a i [])) (small (by omega)) top7 (fun D H8 hD s8 hy => ?_) (fun i H8 R hi s8 r => ?_)
  rotate_left
  · have row8 := s8 _ _ (sb7 _ _ (tb3.row i (by omega)) (nad i (by omega)))
    walk_at "go"
    refine s_ixL (SqL.of row8) (atI_end (by rw [rwl_len]; omega) (by rw [rwl_len, Nat.add_sub_cancel]; exact rwl_get (Nat.le_refl _))) ?_
    have e : tbl (pa_ kk.toNat a) kk.toNat i a.length = W kk.toNat a i [] := by unfold tbl W; rw [if_pos (by omega)]
    have := r H8 (Same.refl _)
    rw [<- e] at this
    exact this
  have hy : H8 D = some (iL (rowW kk.toNat a [])) := by rw [hy]; unfold iL rowW; rw [List.map_map]; rfl
  have g8 := s8 _ _ g7
  have gc8 := s8 _ _ gc7
  have sb8 := sb7.trans (SameBut1.of (p := co) s8)
  walk_at "go"
  refine ⟨small (show 1 <= 1000 by decide), fun rs hrs => ?_⟩
  have nrc : rs ≠ co := (ne_of_none g8 hrs).symm
  have nrl : cl ≠ rs := ne_of_none gc8 hrs
  have nrD : D ≠ rs := ne_of_none hy hrs
  have nDc : D ≠ co := (ne_of_none g7 hD).symm
  have nDl : D ≠ cl := (ne_of_none gc7 hD).symm
  have hrs3 : H3 rs = none := by
    cases e : H3 rs with
    | none => rfl
    | some o => rw [sb8 _ _ e nrc] at hrs; cases hrs
  have t9 := same_new hrs (.lst [.ref D])
  walk_at "go"
  refine ⟨co, aC, dx, _, rfl, by rw [upd_ne nrc.symm]; exact g8, T.cl_Course, T.no_rests, by show 4 < 1000; decide, ?_⟩
  have low : ∀ b o, H0 b = some o -> H3 b = some o /\ b ≠ co := fun b o z => by
    have hb : b ≠ co := ne_of_none z h0co
    exact ⟨tb3.sm _ _ (sb2 _ _ (s1 _ _ (s0 _ _ z)) hb), hb⟩
  have lowN : ∀ {b : Addr}, H3 b = none -> H0 b = none := fun {b} z => by
    cases e : H0 b with
    | none => rfl
    | some o => rw [(low b o e).1] at z; cases z
  refine q _ ⟨dx, pl, sm, cl, rs, G2, H3, ad, [D], ?_⟩
  refine { ob := (by rw [upd_same]; rfl), pls := hP3, tb := tb3, keep := fun b o z hb => ?_, nco := fun xs z => (by rw [g3] at z; cases z), ncl := hcl3, nrs := hrs3, ne := nrl, clo := ?_, res := ?_, ral := rfl, rows := fun j x hx => ?_, h0 := fun b o z => ?_, h0co := h0co, h0cl := lowN hcl3, h0rs := lowN hrs3, len := hl, hk := (by omega) }
  · rw [upd_ne hb]; exact t9 _ _ (sb8 _ _ z hb)
  · rw [upd_ne ncc, upd_ne nrl]; exact gc8
  · rw [upd_ne nrc, upd_same]; rfl
  · cases j with
    | zero =>
      have hx : D = x := Option.some.inj hx
      subst hx
      exact ⟨by rw [upd_ne nDc, upd_ne nrD]; exact hy, nDl, nrD⟩
    | succ j => simp at hx
  · obtain ⟨z1, z2⟩ := low b o z
    rw [upd_ne z2]
    exact t9 _ _ (sb8 _ _ z1 z2)
theorem sc_Course_many_in_all:FnScope ["self"] ["self"] (defScope d_Course_many_in_all):=⟨rfl,rfl,rfl,by decide +kernel,rfl,by decide +kernel,by decide +kernel⟩
theorem ok_Course_many_in_all (F:Fun K "many_in_all" "Course.many_in_all" d_Course_many_in_all f fd) (T:Txt K mg aK aC) (U_whole_sum:FnU P w K mg base k "whole_sum" ["sums"] (spWholeSum)):FnOk P w K mg base CX0 (k + 1) f fd ["self"] (spCAll aC):=by
 refine F.ok sc_Course_many_in_all (fun vs H Q E h=>?_) (fun cdv A outer s H vs Q E hr h=>?_)
 ·obtain ⟨co,k,a,i,st,H0,rfl,_⟩:=h; rfl
 obtain ⟨co,kk,a,i,st,H0,rfl,⟨dx,pl,sm,cl,rs,Hz,Hb,ad,ra,c⟩,q⟩:=h
 have hu:=hr.units0
 refine ⟨_,(pss_one (ps_ret (pe_fn U_whole_sum hr (pa_cons (pe_fldK K (pv 0)) pa_nil)))),?_⟩
 walk_at "go"
 refine ⟨co,aC,dx,_,_,rfl,c.ob,T.cl_Course,T.no_sums,rfl,?_⟩
 walk_at "go"
 refine wholeSum_use c.tbH ?_
 exact q
theorem sc_Course_many_closing:FnScope ["self","start","closing","rest"] ["self","start","closing"] (defScope d_Course_many_closing):=⟨rfl,rfl,rfl,by decide +kernel,rfl,by decide +kernel,by decide +kernel⟩
theorem ok_Course_many_closing (F:Fun K "many_closing" "Course.many_closing" d_Course_many_closing f fd) (T:Txt K mg aK aC)  : FnOk P w K mg base CX0 (k + 1) f fd ["self","start","closing"] (spCClosing aC):=by
 refine F.ok sc_Course_many_closing (fun vs H Q E h=>?_) (fun cdv A outer s H vs Q E hr h=>?_)
 ·obtain ⟨co,k,a,i,st,H0,s,p,rfl,_⟩:=h; rfl
 obtain ⟨co,kk,a,i,st,H0,sv,p,rfl,⟨dx,pl,sm,cl,rs,Hz,Hb,ad,ra,c⟩,hs,hp,q⟩:=h
 have hu:=hr.units0
 have hl:=c.len
 have hk:=c.hk
 obtain ⟨x0,hx0,gx0⟩:=c.top
 refine ⟨_,(pss_cons (ps_set (i:=3) sc_Course_many_closing.nd rfl (Or.inr rfl) (pe_ix (ix_A K) (pe_fldK K (pv 0)) (pe_un un_neg pe_int) (fun _ _=>rfl)))  (pss_one (ps_ret (pe_callB (call_sumA K rfl) rfl T.n_sum PyProof.Rows.boot_sum (pa_cons (pe_comp (own:=["end"]) (sel:=[3,2,1,0]) (compOk_of (osc:=(defScope d_Course_many_closing)) (N:=["self","start","closing","rest"]) (by decide +kernel)) rfl (pi_range3 rfl T.n_range (pa_cons (pv 1) (pa_cons (pe_callB (call_lenA K) rfl T.n_len PySem.boot_len (pa_cons (pe_fldK K (pv 0)) pa_nil)) (pa_cons pe_int pa_nil)))) (fun _ _ _ _ _=>(pg_name (i:=0) (show (["end","rest","closing","start","self"]:List Str).Nodup from by decide +kernel) rfl (Or.inl rfl))) (gk_name (by decide)) (fun _ _ _ _ _=>pif_nil) (fun _ _ _ _ _=>(pe_op op_timesW (pe_op op_timesW (pe_ix (ix_A K) (pe_ix (ix_A K) (pe_fldK K (pv 4)) (pv 3) (fun _ _=>rfl)) (pv 0) (fun _ _=>rfl)) (pe_ix (ix_A K) (pe_ix (ix_A K) (pe_fldK K (pv 4)) (pv 0) (fun _ _=>rfl)) (pv 2) (fun _ _=>rfl))) (pe_ix (ix_A K) (pv 1) (pe_op op_plus (pv 0) pe_int) (fun _ _=>rfl))))) pa_nil))))),?_⟩
 walk_at "go"
 refine ⟨co,aC,dx,_,_,rfl,c.ob,T.cl_Course,T.no_rests,rfl,?_⟩
 walk_at "go"
 refine s_ixL (SqL.of c.res) hx0 ?_
 walk_at "go"
 refine ⟨co,aC,dx,_,_,rfl,c.ob,T.cl_Course,T.no_places,rfl,?_⟩
 obtain ⟨px,gpl,lpl⟩:=pls_len c.plH
 rw [List.length_map] at lpl
 walk_at "go"
 refine s_lenL (.inl (SqL.of gpl)) ?_
 rw [lpl]
 walk_at "go"
 refine ⟨_,_,_,rfl,⟨by decide,by decide,small_two (by omega) (by omega) (by omega) (by omega)⟩,?_⟩
 rw [show rN (sv:Int) (a.length:Int) 2 = (a.length - sv + 1) / 2 by rw [rN_two]; omega]
 refine vals_rng3 (fun e=>V.int (tbl (pa_ kk a) kk sv (sv + 2 * e) * pa_ kk a (sv + 2 * e) (2 * p + 1) * W kk a (sv + 2 * e + 1) st)) (small (by omega)) (fun D H5 hD s5 hy=>?_) (fun e H5 R he s5 r=>?_)
 ·have em:((List.range ((a.length - sv + 1) / 2)).map fun e=>V.int (tbl (pa_ kk a) kk sv (sv + 2 * e) * pa_ kk a (sv + 2 * e) (2 * p + 1) * W kk a (sv + 2 * e + 1) st)) = ((List.range ((a.length - sv + 1) / 2)).map fun e=>tbl (pa_ kk a) kk sv (sv + 2 * e) * pa_ kk a (sv + 2 * e) (2 * p + 1) * W kk a (sv + 2 * e + 1) st).map V.int:=by rw [List.map_map]; rfl
  rw [em] at hy
  walk_at "go"
  refine s_sum (SqL.of hy) ?_
  rw [sum_range,<- W_split kk a sv p st hs]
  exact q H5 s5
 obtain ⟨E1,eE⟩:∃ E1:Nat,E1 = sv + 2 * e:=⟨_,rfl⟩
 have e2:((sv:Int) + (e:Int) * 2) = (E1:Int):=by omega
 have hE:E1 < a.length:=by omega
 rw [<- eE] at r
 rw [e2]
 have ob5:=s5 _ _ c.ob
 have tb5:=c.tbH
 obtain ⟨ps,px1,gps,hpx,lps,gpx⟩:=pls_at c.plH (i:=E1) (by rw [List.length_map]; exact hE)
 have hml:(a.map (plw (ones kk))).getD E1 [] ∈ a.map (plw (ones kk)):=by
  rw [List.getD_eq_getElem?_getD,List.getElem?_eq_getElem (by rw [List.length_map]; exact hE)]
  exact List.getElem_mem _
 have hll:=(many_places hk _ hml).1
 walk_at "go"
 refine ⟨co,aC,dx,_,_,rfl,ob5,T.cl_Course,T.no_sums,rfl,?_⟩
 walk_at "go"
 refine s_ixL (SqL.of (s5 _ _ tb5.top)) (atI_nat (tb5.at (i:=sv) hs)) ?_
 walk_at "go"
 refine s_ixL (SqL.of (s5 _ _ (tb5.row sv hs))) (atI_nat (rwl_get (by omega))) ?_
 walk_at "go"
 refine ⟨co,aC,dx,_,_,rfl,ob5,T.cl_Course,T.no_places,rfl,?_⟩
 walk_at "go"
 refine s_ixL (SqL.of (s5 _ _ gps)) (atI_nat hpx) ?_
 walk_at "go"
 have ecl:(2 * (p:Int) + 1) = ((2 * p + 1:Nat):Int):=by omega
 have epa:(((a.map (plw (ones kk))).getD E1 []).map V.int)[2 * p + 1]? = some (.int (pa_ kk a E1 (2 * p + 1))):=by
  rw [List.getElem?_map,List.getElem?_eq_getElem (show 2 * p + 1 < ((a.map (plw (ones kk))).getD E1 []).length by omega)]
  show some (V.int _) = some (V.int (((a.map (plw (ones kk))).getD E1 []).getD (2 * p + 1) 0))
  rw [List.getD_eq_getElem?_getD (l:=(a.map (plw (ones kk))).getD E1 []),List.getElem?_eq_getElem (show 2 * p + 1 < ((a.map (plw (ones kk))).getD E1 []).length by omega)]
  rfl
 rw [ecl]
 refine s_ixL (SqL.of (s5 _ _ gpx)) (atI_nat epa) ?_
 walk_at "go"
 refine s_mulW (nab (tbl_cap hk (by omega)).1 (tbl_cap hk (by omega)).2 cap_big) (nab (pa_top hk _ _).1 (pa_top hk _ _).2 top_big) ?_
 walk_at "go"
 have e3:((E1:Int) + 1) = ((E1 + 1:Nat):Int):=by omega
 rw [e3]
 refine s_ixL (SqL.of (s5 _ _ gx0)) (atI_nat (rowW_at (by omega))) ?_
 walk_at "go"
 refine s_mulW (tp_big hk (by omega)) (nab (W_cap hk hl _ _).1 (W_cap hk hl _ _).2 cap_big) ?_
 exact r H5 (Same.refl _)
theorem sc_Course_many_with:FnScope ["self","bracket"] ["self","bracket"] (defScope d_Course_many_with):=⟨rfl,rfl,rfl,by decide +kernel,rfl,by decide +kernel,by decide +kernel⟩
theorem ok_Course_many_with (F : Fun K "many_with" "Course.many_with" d_Course_many_with f fd) (T : Txt K mg aK aC) (U_opens : FnU P w K mg base k "opens" ["bracket"] (spOpens)) (U_Course_many_closing : MeU P w K mg base k aC "many_closing" ["self", "start", "closing"] (spCClosing aC)) : FnOk P w K mg base CX0 (k + 1) f fd ["self", "bracket"] (spCWith aC) := by
  refine F.ok sc_Course_many_with (fun vs H Q E h => ?_) (fun cdv A outer s H vs Q E hr h => ?_)
  · obtain ⟨co, k, a, i, st, H0, b, rfl, _⟩ := h; rfl
  obtain ⟨co, kk, a, i, st, H0, b, rfl, hC, hi, hb, q⟩ := h
  obtain ⟨dx, pl, sm, cl, rs, Hz, Hb, ad, ra, c⟩ := id hC
  have hu := hr.units0
  have hl := c.len
  have hk := c.hk
  obtain ⟨ps, px1, gps, hpx, lps, gpx⟩ := pls_at c.plH (i := i) (by rw [List.length_map]; exact hi)
  have hml : (a.map (plw (ones kk))).getD i [] ∈ a.map (plw (ones kk)) := by
    rw [List.getD_eq_getElem?_getD, List.getElem?_eq_getElem (by rw [List.length_map]; exact hi)]
    exact List.getElem_mem _
  have hll := (many_places hk _ hml).1
  have epa : (((a.map (plw (ones kk))).getD i []).map V.int)[b]? = some (.int (pa_ kk a i b)) := by
    rw [List.getElem?_map, List.getElem?_eq_getElem (show b < ((a.map (plw (ones kk))).getD i []).length by omega)]
    show some (V.int _) = some (V.int (((a.map (plw (ones kk))).getD i []).getD b 0))
    rw [List.getD_eq_getElem?_getD (l := (a.map (plw (ones kk))).getD i []), List.getElem?_eq_getElem (show b < ((a.map (plw (ones kk))).getD i []).length by omega)]
    rfl
  refine ⟨_, (pss_cons (ps_if (pt_cmpR (op_eqA K hu) (pe_ix (ix_A K) (pe_ix (ix_A K) (pe_fldK K (pv 0)) (pe_fldK K (pv 0)) (fun _ _ => rfl)) (pv 1) (fun _ _ => rfl)) pe_int (nomark _))   (pss_one (ps_ret pe_int))   pss_nil)  (pss_cons (ps_if (pt_tru K (pe_fn U_opens hr (pa_cons (pv 1) pa_nil)))   (pss_one (ps_ret (pe_mth T.cl_Course U_Course_many_closing hr (pv 0) (pa_cons (pe_op op_plus (pe_fldK K (pv 0)) pe_int) (pa_cons (pe_op op_plus (pv 1) pe_int) pa_nil)))))   pss_nil)  (pss_cons (ps_if (PW.pt (pw_or (pt_not (pt_tru K (pe_fldK K (pv 0)))) (pw_or1 (pt_cmpR (op_neA K hu) (pe_ix (ix_A K) (pe_fldK K (pv 0)) (pe_un un_neg pe_int) (fun _ _ => rfl)) (pv 1) (nomark _)))))   (pss_one (ps_ret pe_int))   pss_nil)  (pss_one (ps_ret (pe_ix (ix_A K) (pe_ix (ix_A K) (pe_fldK K (pv 0)) (pe_un un_neg pe_int) (fun _ _ => rfl)) (pe_op op_plus (pe_fldK K (pv 0)) pe_int) (fun _ _ => rfl))))))), ?_⟩
  walk_at "go"
  refine ⟨co, aC, dx, _, _, rfl, c.ob, T.cl_Course, T.no_places, rfl, ?_⟩
  walk_at "go"
  refine ⟨co, aC, dx, _, _, rfl, c.ob, T.cl_Course, T.no_at, rfl, ?_⟩
  walk_at "go"
  refine s_ixL (SqL.of gps) (atI_nat hpx) ?_
  walk_at "go"
  refine s_ixL (SqL.of gpx) (atI_nat epa) ?_
  walk_at "go"
  by_cases hz : pa_ kk a i b = 0
  · refine ifp (decide_eq_true hz) ?_
    walk_at "go"
    have e : mw kk a i st b = 0 := by
      unfold mw
      split
      · rw [hz, Int.zero_mul]
      · cases st with
        | nil => rfl
        | cons o s' =>
          show (if 2 * o + 1 = b then pa_ kk a i b * W kk a (i + 1) s' else 0) = 0
          split
          · rw [hz, Int.zero_mul]
          · rfl
    have := q H (Same.refl H)
    rw [e] at this
    exact this
  have h1 : pa_ kk a i b = 1 := (pa_01 hk hi).resolve_left hz
  refine ifq (decide_eq_false hz) ?_
  walk_at "go"
  refine opens_use ?_
  walk_at "go"
  have e1 : ((i : Int) + 1) = ((i + 1 : Nat) : Int) := by omega
  by_cases hev : b % 2 = 0
  · refine ifp (decide_eq_true hev) ?_
    walk_at "go"
    refine ⟨co, dx, _, rfl, c.ob, rfl, ?_⟩
    walk_at "go"
    refine ⟨co, aC, dx, _, _, rfl, c.ob, T.cl_Course, T.no_at, rfl, ?_⟩
    walk_at "go"
    have e2 : ((b : Int) + 1) = 2 * ((b / 2 : Nat) : Int) + 1 := by omega
    rw [e1, e2]
    refine ⟨co, kk, a, i, st, H0, i + 1, b / 2, rfl, hC, by omega, by omega, fun H' s' => ?_⟩
    have := q H' s'
    unfold mw at this
    rw [if_pos hev, h1, Int.one_mul] at this
    exact this
  refine ifq (decide_eq_false hev) ?_
  walk_at "go"
  refine ⟨co, aC, dx, _, _, rfl, c.ob, T.cl_Course, T.no_closings, rfl, ?_⟩
  refine s_truL (SqL.of c.clo) ?_
  cases st with
  | nil =>
    walk_at "go"
    refine ifp rfl ?_
    refine ifp rfl ?_
    walk_at "go"
    have := q H (Same.refl H)
    unfold mw at this
    rw [if_neg hev] at this
    exact this
  | cons o s' =>
    have ee : (clsV (o :: s')).isEmpty = false := by rw [clsV_cons]; simp
    rw [ee]
    walk_at "go"
    refine ifq rfl ?_
    walk_at "go"
    refine ⟨co, aC, dx, _, _, rfl, c.ob, T.cl_Course, T.no_closings, rfl, ?_⟩
    walk_at "go"
    refine s_ixL (SqL.of c.clo) (clsV_last o s') ?_
    walk_at "go"
    by_cases hob : 2 * o + 1 = b
    · refine ifq (by rw [show (2 * (o : Int) + 1) = (b : Int) by omega]; simp) ?_
      walk_at "go"
      refine ⟨co, aC, dx, _, _, rfl, c.ob, T.cl_Course, T.no_rests, rfl, ?_⟩
      walk_at "go"
      obtain ⟨x1, hx1⟩ : ∃ x, ra[s'.length]? = some x := ⟨_, List.getElem?_eq_getElem (by rw [c.ral, List.length_cons]; omega)⟩
      have hrow := (c.rows _ x1 hx1).1
      rw [List.length_cons, show s'.length + 1 - s'.length = 1 by omega, List.drop_one, List.tail_cons] at hrow
      refine s_ixL (SqL.of c.res) (atI_end2 (by rw [List.length_map, c.ral, List.length_cons]; omega) (by rw [List.length_map, c.ral, List.length_cons, List.getElem?_map, show s'.length + 1 + 1 - 2 = s'.length by omega, hx1]; rfl)) ?_
      walk_at "go"
      refine ⟨co, aC, dx, _, _, rfl, c.ob, T.cl_Course, T.no_at, rfl, ?_⟩
      walk_at "go"
      rw [e1]
      refine s_ixL (SqL.of hrow) (atI_nat (rowW_at (by omega))) ?_
      have := q H (Same.refl H)
      unfold mw at this
      rw [if_neg hev] at this
      simp only [if_pos hob, h1, Int.one_mul] at this
      exact this
    · refine ifp (by rw [Bool.not_eq_true', decide_eq_false_iff_not]; omega) ?_
      walk_at "go"
      have := q H (Same.refl H)
      unfold mw at this
      rw [if_neg hev] at this
      simp only [if_neg hob] at this
      exact this
theorem sc_Course_take:FnScope ["self","bracket","rest"] ["self","bracket"] (defScope d_Course_take):=⟨rfl,rfl,rfl,by decide +kernel,rfl,by decide +kernel,by decide +kernel⟩
theorem ok_Course_take (F : Fun K "take" "Course.take" d_Course_take f fd) (T : Txt K mg aK aC) (U_opens : FnU P w K mg base k "opens" ["bracket"] (spOpens)) (U_Course_many_closing : MeU P w K mg base k aC "many_closing" ["self", "start", "closing"] (spCClosing aC)) : FnOk P w K mg base CX0 (k + 1) f fd ["self", "bracket"] (spCTake aC) := by
  refine F.ok sc_Course_take (fun vs H Q E h => ?_) (fun cdv A outer s H vs Q E hr h => ?_)
  · obtain ⟨co, k, a, i, st, H0, b, rfl, _⟩ := h; rfl
  obtain ⟨co, kk, a, i, st, H0, b, rfl, hC, hi, hb, hst, hne, q⟩ := h
  obtain ⟨dx, pl, sm, cl, rs, Hz, Hb, ad, ra, c⟩ := id hC
  have hu := hr.units0
  have hl := c.len
  have hk := c.hk
  refine ⟨_, (pss_cons (ps_fldaugK K in_addA (pv 0) pe_int)  (pss_one (ps_if (pt_tru K (pe_fn U_opens hr (pa_cons (pv 1) pa_nil)))   (pss_cons (ps_setComp (i := 2) sc_Course_take.nd rfl (Or.inl rfl) (own := ["start"]) (sel := [0, 1]) (compOk_of (osc := (defScope d_Course_take)) (N := ["self", "bracket", "rest"]) (by decide +kernel)) rfl (pi_range1 rfl T.n_range (pa_cons (pe_op op_plus (pe_callB (call_lenA K) rfl T.n_len PySem.boot_len (pa_cons (pe_fldK K (pv 0)) pa_nil)) pe_int) pa_nil)) (fun _ _ _ _ _ => (pg_name (i := 0) (show (["start", "self", "bracket"] : List Str).Nodup from by decide +kernel) rfl (Or.inl rfl))) (gk_name (by decide)) (fun _ _ _ _ _ => pif_nil) (fun _ _ _ _ _ => (pe_mth T.cl_Course U_Course_many_closing hr (pv 1) (pa_cons (pv 0) (pa_cons (pe_op op_plus (pv 2) pe_int) pa_nil)))))  (pss_cons (ps_expr (pe_bmK K PySem.F.plainAttrs_list PySem.F.slot_list_append PySem.F.type_list_append mt_append (pe_fldK K (pv 0)) (pa_cons (pv 2) pa_nil)))  (pss_one (ps_expr (pe_bmK K PySem.F.plainAttrs_list PySem.F.slot_list_append PySem.F.type_list_append mt_append (pe_fldK K (pv 0)) (pa_cons (pe_op op_plus (pv 1) pe_int) pa_nil))))))   (pss_cons (ps_expr (pe_bm0K K PySem.F.plainAttrs_list PySem.F.slot_list_pop PySem.F.type_list_pop mt_pop (pe_fldK K (pv 0))))  (pss_one (ps_expr (pe_bm0K K PySem.F.plainAttrs_list PySem.F.slot_list_pop PySem.F.type_list_pop mt_pop (pe_fldK K (pv 0))))))))), ?_⟩
  walk_at "go"
  refine ⟨co, aC, dx, _, _, rfl, c.ob, T.cl_Course, T.no_at, rfl, ?_⟩
  walk_at "go"
  refine .inl ⟨_, _, rfl, rfl, ?_⟩
  refine ⟨dx, _, c.ob, by show 5 < 1000; decide, ?_⟩
  have e1 : (((i + 1 : Nat) : Int)) = (i : Int) + 1 := by omega
  have c1 : CoS aC H0 (upd H co (.ins aC dx (putF "at" (.int ((i : Int) + 1)) (cf pl sm cl rs i)))) co kk a (i + 1) st dx pl sm cl rs Hz Hb ad ra := by
    have c0 := c.at (i + 1)
    have e0 : cf pl sm cl rs (((i + 1 : Nat) : Int)) = putF "at" (.int ((i : Int) + 1)) (cf pl sm cl rs i) := by rw [e1]; rfl
    rw [e0] at c0
    exact c0
  generalize upd H co _ = G1 at *
  have hC1 : Co aC H0 G1 co kk a (i + 1) st := ⟨dx, pl, sm, cl, rs, Hz, Hb, ad, ra, c1⟩
  walk_at "go"
  refine opens_use ?_
  walk_at "go"
  by_cases hev : b % 2 = 0
  · have est : stb st b = b / 2 :: st := by unfold stb; rw [if_pos hev]
    rw [est] at q
    have e2 : ((b : Int) + 1) = 2 * ((b / 2 : Nat) : Int) + 1 := by omega
    refine ifp (decide_eq_true hev) ?_
    walk_at "go"
    refine ⟨co, aC, dx, _, _, rfl, c1.ob, T.cl_Course, T.no_places, rfl, ?_⟩
    obtain ⟨px, gpl, lpl⟩ := pls_len c1.plH
    rw [List.length_map] at lpl
    walk_at "go"
    refine s_lenL (.inl (SqL.of gpl)) ?_
    rw [lpl]
    walk_at "go"
    refine ⟨_, rfl, by omega, by omega, ?_⟩
    rw [show ((a.length : Int) + 1).toNat = a.length + 1 by omega]
    refine vals_rng (fun s => V.int (W kk a s (b / 2 :: st))) (small (by omega)) (fun D H2 hD s2 hy => ?_) (fun j H2 R hj s2 r => ?_)
    rotate_left
    · have ej : (0 : Int) + (j : Int) = (j : Int) := by omega
      rw [ej]
      walk_at "go"
      refine ⟨co, dx, _, rfl, s2 _ _ c1.ob, rfl, ?_⟩
      walk_at "go"
      rw [e2]
      exact ⟨co, kk, a, i + 1, st, H0, j, b / 2, rfl, hC1.same s2, by omega, by omega, fun H3 s3 => r H3 s3⟩
    have hy : H2 D = some (iL (rowW kk a (b / 2 :: st))) := by rw [hy]; unfold iL rowW; rw [List.map_map]; rfl
    have nDc : D ≠ cl := (ne_of_none c1.clo hD).symm
    have nDr : D ≠ rs := (ne_of_none c1.res hD).symm
    have ob2 := s2 _ _ c1.ob
    have res2 := s2 _ _ c1.res
    have clo2 := s2 _ _ c1.clo
    walk_at "go"
    refine ⟨co, aC, dx, _, _, rfl, ob2, T.cl_Course, T.no_rests, rfl, ?_⟩
    refine ⟨.inl ⟨rfl, _, SqL.of res2⟩, ?_⟩
    walk_at "go"
    refine ⟨rs, _, .ref D, rfl, rfl, res2, by rw [List.length_map, c1.ral, sizeLine_eq]; omega, ?_⟩
    have c2 : CoS aC H0 H2 co kk a (i + 1) st dx pl sm cl rs Hz Hb ad ra := by
      exact { ob := ob2, pls := c1.pls, tb := c1.tb, keep := fun b o z n => s2 _ _ (c1.keep b o z n), nco := c1.nco, ncl := c1.ncl, nrs := c1.nrs, ne := c1.ne, clo := clo2, res := res2, ral := c1.ral, rows := fun j x hx => ⟨s2 _ _ (c1.rows j x hx).1, (c1.rows j x hx).2⟩, h0 := c1.h0.trans s2, h0co := c1.h0co, h0cl := c1.h0cl, h0rs := c1.h0rs, len := c1.len, hk := c1.hk }
    have c3 := c2.push hy nDc nDr
    have nrc := c2.nl res2
    walk_at "go"
    refine ⟨co, aC, dx, _, _, rfl, by rw [upd_ne nrc.symm]; exact ob2, T.cl_Course, T.no_closings, rfl, ?_⟩
    have clo3 : (upd H2 rs (.lst (ra.map V.ref ++ [.ref D]))) cl = some (.lst (clsV st)) := by rw [upd_ne c1.ne]; exact clo2
    refine ⟨.inl ⟨rfl, _, SqL.of clo3⟩, ?_⟩
    walk_at "go"
    rw [e2]
    refine ⟨cl, _, _, rfl, rfl, clo3, by unfold clsV; rw [List.length_map, List.length_reverse, sizeLine_eq]; omega, ?_⟩
    walk_at "go"
    refine q _ ⟨dx, pl, sm, cl, rs, Hz, Hb, ad, ra ++ [D], ?_⟩
    have ea : (ra ++ [D]).map V.ref = ra.map V.ref ++ [.ref D] := by rw [List.map_append]; rfl
    rw [ea, clsV_cons] at c3
    exact c3
  have est : stb st b = st.tail := by unfold stb; rw [if_neg hev]
  rw [est] at q
  refine ifq (decide_eq_false hev) ?_
  cases st with
  | nil => exact absurd rfl (hne (by omega))
  | cons o s' =>
    have c3 := c1.pop
    have nrc := c1.nl c1.res
    have hral := c1.ral
    rw [List.length_cons] at hral
    obtain ⟨xl, hxl⟩ : ∃ x, (ra.map V.ref)[(ra.map V.ref).length - 1]? = some x := ⟨_, List.getElem?_eq_getElem (by rw [List.length_map]; omega)⟩
    walk_at "go"
    refine ⟨co, aC, dx, _, _, rfl, c1.ob, T.cl_Course, T.no_rests, rfl, ?_⟩
    refine ⟨.inl ⟨rfl, _, SqL.of c1.res⟩, ?_⟩
    refine ⟨rs, _, xl, rfl, rfl, c1.res, hxl, ?_⟩
    have edl : (ra.map V.ref).dropLast = ra.dropLast.map V.ref := by rw [List.map_dropLast]
    rw [edl]
    walk_at "go"
    refine ⟨co, aC, dx, _, _, rfl, by rw [upd_ne nrc.symm]; exact c1.ob, T.cl_Course, T.no_closings, rfl, ?_⟩
    have clo3 : (upd G1 rs (.lst (ra.dropLast.map V.ref))) cl = some (.lst (clsV (o :: s'))) := by rw [upd_ne c1.ne]; exact c1.clo
    refine ⟨.inl ⟨rfl, _, SqL.of clo3⟩, ?_⟩
    refine ⟨cl, _, .int (2 * (o : Int) + 1), rfl, rfl, clo3, by rw [clsV_cons]; simp, ?_⟩
    have ecl : (clsV (o :: s')).dropLast = clsV s' := by rw [clsV_cons, List.dropLast_concat]
    rw [ecl]
    walk_at "go"
    exact q _ ⟨dx, pl, sm, cl, rs, Hz, Hb, ad, ra.dropLast, c3⟩
theorem sc_nth_filling:FnScope ["k","row","i","course","left","found","bracket"] ["k","row","i"] (defScope d_nth_filling):=⟨rfl,rfl,rfl,by decide +kernel,rfl,by decide +kernel,by decide +kernel⟩
theorem ok_nth_filling (F:Fun K "nth_filling" "nth_filling" d_nth_filling f fd) (T:Txt K mg aK aC) (U_check_line:FnU P w K mg base k "check_line" ["k","row"] (spCheckLine)) (U_Course___init__:MkU P w K mg base k aC ["self","k","row"] (spCInit aC)) (U_Course_take:MeU P w K mg base k aC "take" ["self","bracket"] (spCTake aC)) (U_is_whole:FnU P w K mg base k "is_whole" ["thing"] (spWhole K)) (U_Course_many_with:MeU P w K mg base k aC "many_with" ["self","bracket"] (spCWith aC)) (U_Course_many_in_all:MeU P w K mg base k aC "many_in_all" ["self"] (spCAll aC)):FnOk P w K mg base CX0 (k + 1) f fd ["k","row","i"] (spNth):=by
 refine F.ok sc_nth_filling (fun vs H Q E h=>?_) (fun cdv A outer s H vs Q E hr h=>?_)
 ·obtain ⟨kk,a,n,rfl,_⟩:=h; rfl
 obtain ⟨kk,a,n,rfl,k1,k4,hro,n0,n1,q⟩:=h
 have hu:=hr.units0
 have hl:=isRow_len hro
 refine ⟨_,(pss_cons (ps_expr (pe_fn U_check_line hr (pa_cons (pv 0) (pa_cons (pv 1) pa_nil)))) (pss_cons (ps_set (i:=3) sc_nth_filling.nd rfl (Or.inl rfl) (pe_mke U_Course___init__ hr T.c_Course (pa_cons (pv 0) (pa_cons (pv 1) pa_nil)))) (pss_cons (ps_if (PW.pt (pw_or (pt_not (pt_tru K (pe_fn U_is_whole hr (pa_cons (pv 2) pa_nil)))) (pw_or1 (pt_not (pt_chain op_le op_lt pe_int (pv 2) (pe_mth0 T.cl_Course U_Course_many_in_all hr (pv 3))))))) (pss_one ps_never) pss_nil) (pss_cons (ps_set (i:=4) sc_nth_filling.nd rfl (Or.inl rfl) (pv 2)) (pss_cons (ps_set (i:=5) sc_nth_filling.nd rfl (Or.inl rfl) (pe_tx (l:=[]) (by decide +kernel))) (pss_cons (ps_while PassesOwn.never (pt_cmpR op_lt (pe_callB (call_lenA K) rfl T.n_len PySem.boot_len (pa_cons (pv 5) pa_nil)) (pe_callB (call_lenA K) rfl T.n_len PySem.boot_len (pa_cons (pv 1) pa_nil)) (nomark _)) (pss_cons (ps_set (i:=6) sc_nth_filling.nd rfl (Or.inl rfl) pe_int) (pss_cons (ps_while PassesOwn.never (pt_cmpR op_ge (pv 4) (pe_mth T.cl_Course U_Course_many_with hr (pv 3) (pa_cons (pv 6) pa_nil)) (nomark _)) (pss_cons (ps_aug (i:=4) sc_nth_filling.nd rfl (Or.inl rfl) (pe_mth T.cl_Course U_Course_many_with hr (pv 3) (pa_cons (pv 6) pa_nil)) ip_sub) (pss_one (ps_aug (i:=6) sc_nth_filling.nd rfl (Or.inl rfl) pe_int ip_add)))) (pss_cons (ps_expr (pe_mth T.cl_Course U_Course_take hr (pv 3) (pa_cons (pv 6) pa_nil))) (pss_one (ps_aug (i:=5) sc_nth_filling.nd rfl (Or.inl rfl) (pe_ix (ix_A K) (pe_gl T.g_BRACKETS) (pv 6) (fun _ _=>rfl)) in_addA)))))) (pss_one (ps_ret (pv 5))))))))),?_⟩
 walk_at "go"
 have hk4:kk.toNat <= 4:=by omega
 refine checkLine_use k1 k4 hro (fun H1 s1=>?_)
 walk_at "go"
 intro co dx hco hdx hne
 have s2:Same H1 (upd (upd H1 dx (.own co)) co (.ins aC dx [])):=fun x o z=>by rw [upd_ne (ne_of_none z hco),upd_ne (ne_of_none z hdx)]; exact z
 refine ⟨co,dx,kk,a,H1,rfl,k1,k4,hro,upd_same,hco,s2,fun H2 C2=>?_⟩
 refine ⟨rfl,?_⟩
 have same:∀ {H':Hp} {i st},Co aC H1 H' co kk.toNat a i st->Same H H':=fun {H' i st} C=>by
  obtain ⟨_,_,_,_,_,_,_,_,_,c⟩:=C
  exact s1.trans c.h0
 have obj:∀ {H':Hp} {i st},Co aC H1 H' co kk.toNat a i st->∃ dx pl sm cl rs,H' co = some (.ins aC dx (cf pl sm cl rs i)):=fun {H' i st} C=>by
  obtain ⟨dx,pl,sm,cl,rs,_,_,_,_,c⟩:=C
  exact ⟨dx,pl,sm,cl,rs,c.ob⟩
 walk_at "go"
 refine whole_int ?_
 walk_at "go"
 refine ifq rfl ?_
 walk_at "go"
 refine ifp (decide_eq_true n0) ?_
 walk_at "go"
 obtain ⟨dx2,pl2,sm2,cl2,rs2,ob2⟩:=obj C2
 refine ⟨co,dx2,_,rfl,ob2,rfl,?_⟩
 walk_at "go"
 refine ⟨co,kk.toNat,a,0,[],H1,rfl,C2,?_⟩
 have hW:W kk.toNat a 0 [] = cnt kk.toNat a:=rfl
 rw [hW]
 walk_at "go"
 refine ifq (by rw [decide_eq_true n1]; rfl) ?_
 walk_at "go"
 refine while_of (fun σ H'=>∃ (bs st:List Nat) (lf:Int) (o6:Option V),σ = [some (.int kk),some (tx a),some (.int n),some (.ref co),some (.int lf),some (tx (brt bs)),o6]/\Co aC H1 H' co kk.toNat a bs.length st/\bs.length <= a.length/\(∀ o ∈ st,o < kk.toNat)/\st.length <= bs.length/\0 <= lf/\lf < W kk.toNat a bs.length st/\∀ rest,NF kk.toNat a bs.length st lf rest->NF kk.toNat a 0 [] n (bs ++ rest))
  (fun σ _=>match σ with | [_,_,_,_,_,some (.str x),_]=>a.length - x.cps.toList.length | _=>0) ⟨[],[],n,_,rfl,C2,Nat.zero_le _,(fun _ h=>nomatch h),Nat.le_refl _,n0,n1,fun rest h=>h⟩ ?_
 rintro σ H3 ⟨bs,st,lf,o6,rfl,C3,hbl,hst,hsl,l0,l1,hnf⟩
 have hbt:(brt bs).length = bs.length:=by unfold brt; rw [List.length_map]
 walk_at "go"
 refine ifd (fun hc=>?_) (fun hc=>?_)
 rotate_left
 ·have he:bs.length = a.length:=by omega
  walk_at "go"
  rw [he,W_end] at l1
  have hst0:st = []:=by
   by_cases z:st = []
   ·exact z
   ·rw [if_neg z] at l1; omega
  rw [if_pos hst0] at l1
  refine q bs H3 (same C3) ?_ he
  have:=hnf [] ⟨he,by omega⟩
  rw [List.append_nil] at this
  exact this
 refine wh_body ?_
 have hbi:bs.length < a.length:=by omega
 have htot:=mw_all hbi hst
 walk_at "go"
 refine while_of (fun σ H'=>∃ (b:Nat) (l2:Int),σ = [some (.int kk),some (tx a),some (.int n),some (.ref co),some (.int l2),some (tx (brt bs)),some (.int (b:Int))]/\Co aC H1 H' co kk.toNat a bs.length st/\b < 2 * kk.toNat/\l2 = lf - sm b (mw kk.toNat a bs.length st)/\0 <= l2)
  (fun σ _=>match σ with | [_,_,_,_,_,_,some (.int b)]=>10 - b.toNat | _=>0) ⟨0,lf,rfl,C3,by omega,by show lf = lf - 0; omega,l0⟩ ?_
 rintro σ H4 ⟨b,l2,rfl,C4,hb,el,hl2⟩
 obtain ⟨dx4,pl4,sm4,cl4,rs4,ob4⟩:=obj C4
 walk_at "go"
 refine ⟨co,dx4,_,rfl,ob4,rfl,?_⟩
 walk_at "go"
 refine ⟨co,kk.toNat,a,bs.length,st,H1,b,rfl,C4,hbi,hb,fun H5 s5=>?_⟩
 have C5:=C4.same s5
 have hsucc:sm (b + 1) (mw kk.toNat a bs.length st) = sm b (mw kk.toNat a bs.length st) + mw kk.toNat a bs.length st b:=rfl
 walk_at "go"
 refine ifd (fun hc2=>?_) (fun hc2=>?_)
 ·refine wh_body ?_
  obtain ⟨dx5,pl5,sm5,cl5,rs5,ob5⟩:=obj C5
  have hb2:b + 1 < 2 * kk.toNat:=by
   by_cases z:b + 1 < 2 * kk.toNat
   ·exact z
   ·rw [show b + 1 = 2 * kk.toNat by omega,htot] at hsucc
    omega
  walk_at "go"
  refine ⟨co,dx5,_,rfl,ob5,rfl,?_⟩
  walk_at "go"
  refine ⟨co,kk.toNat,a,bs.length,st,H1,b,rfl,C5,hbi,hb,fun H6 s6=>?_⟩
  walk_at "go"
  have eb:((b:Int) + 1) = ((b + 1:Nat):Int):=by omega
  rw [eb]
  refine ⟨⟨b + 1,_,rfl,C5.same s6,hb2,by rw [hsucc]; omega,by omega⟩,?_⟩
  show 10 - ((b + 1:Nat):Int).toNat < 10 - ((b:Nat):Int).toNat
  omega
 ·obtain ⟨dx5,pl5,sm5,cl5,rs5,ob5⟩:=obj C5
  obtain ⟨ew,hodd,hst',hlen'⟩:=mw_pos hk4 hl hbi hst hb (by omega)
  walk_at "go"
  refine ⟨co,dx5,_,rfl,ob5,rfl,?_⟩
  walk_at "go"
  refine ⟨co,kk.toNat,a,bs.length,st,H1,b,rfl,C5,hbi,hb,hsl,hodd,fun H6 C6=>?_⟩
  walk_at "go"
  have hbr:brs[b]? = some (brs.getD b 0):=by
   have:b < 8:=by omega
   match b,this with
   | 0,_=>rfl
   | 1,_=>rfl
   | 2,_=>rfl
   | 3,_=>rfl
   | 4,_=>rfl
   | 5,_=>rfl
   | 6,_=>rfl
   | 7,_=>rfl
  refine s_ixT (a:=brs) (small (show 8 <= 1000 by decide)) (atI_nat hbr) ?_
  walk_at "go"
  refine .inr ⟨brt bs,[brs.getD b 0],rfl,rfl,small (by rw [hbt,List.length_singleton]; omega),?_⟩
  have ebt:brt bs ++ [brs.getD b 0] = brt (bs ++ [b]):=by unfold brt; rw [List.map_append]; rfl
  have hbl':(bs ++ [b]).length = bs.length + 1:=by rw [List.length_append,List.length_singleton]
  rw [ebt]
  refine ⟨⟨bs ++ [b],stb st b,l2,_,rfl,by rw [hbl']; exact C6,by omega,hst',by omega,hl2,?_,fun rest hr2=>?_⟩,?_⟩
  ·rw [hbl',<- ew]; omega
  ·rw [List.append_assoc]
   refine hnf ([b] ++ rest) ⟨hb,by omega,by rw [hsucc]; omega,?_⟩
   rw [hbl',el] at hr2
   exact hr2
  ·show a.length - (brt (bs ++ [b])).toArray.toList.length < a.length - (brt bs).toArray.toList.length
   have h2:(brt (bs ++ [b])).length = bs.length + 1:=by unfold brt; rw [List.length_map,hbl']
   simp only [List.toList_toArray]
   omega
theorem sc_how_many:FnScope ["k","row"] ["k","row"] (defScope d_how_many):=⟨rfl,rfl,rfl,by decide +kernel,rfl,by decide +kernel,by decide +kernel⟩
theorem ok_how_many (F:Fun K "how_many" "how_many" d_how_many f fd) (T:Txt K mg aK aC) (U_check_line:FnU P w K mg base k "check_line" ["k","row"] (spCheckLine)) (U_whole_sum:FnU P w K mg base k "whole_sum" ["sums"] (spWholeSum)) (U_span_sums:FnU P w K mg base k "span_sums" ["places"] (spSpans)) (U_counted_places:FnU P w K mg base k "counted_places" ["k","row"] (spCounted)):FnOk P w K mg base CX0 (k + 1) f fd ["k","row"] (spMany):=by
 refine F.ok sc_how_many (fun vs H Q E h=>?_) (fun cdv A outer s H vs Q E hr h=>?_)
 ·obtain ⟨kk,a,rfl,_⟩:=h; rfl
 obtain ⟨kk,a,rfl,h1,h2,ha,q⟩:=h
 refine ⟨_,(pss_cons (ps_expr (pe_fn U_check_line hr (pa_cons (pv 0) (pa_cons (pv 1) pa_nil)))) (pss_one (ps_ret (pe_fn U_whole_sum hr (pa_cons (pe_fn U_span_sums hr (pa_cons (pe_fn U_counted_places hr (pa_cons (pv 0) (pa_cons (pv 1) pa_nil))) pa_nil)) pa_nil))))),?_⟩
 have hl:=isRow_len ha
 walk_at "go"
 refine checkLine_use h1 h2 ha (fun H1 s1=>?_)
 walk_at "go"
 refine counted_use h1 h2 hl (fun r H2 hr2 s2 hP=>?_)
 walk_at "go"
 refine spans_use (k:=kk.toNat) hP (by rw [List.length_map]; exact hl) (by omega) (many_places (by omega)) (fun s3 ad H3 tb=>?_)
 walk_at "go"
 refine wholeSum_use tb ?_
 have e:tbl (PP (a.map (plw (ones kk.toNat)))) kk.toNat 0 (a.map (plw (ones kk.toNat))).length = cnt kk.toNat a:=by
  unfold tbl cnt
  rw [if_pos (Nat.zero_le _),Nat.sub_zero,List.length_map]
 rw [e]
 exact q H3 ((s1.trans s2).trans tb.sm)
theorem sc_can_be_right:FnScope ["k","row"] ["k","row"] (defScope d_can_be_right):=⟨rfl,rfl,rfl,by decide +kernel,rfl,by decide +kernel,by decide +kernel⟩
theorem ok_can_be_right (F:Fun K "can_be_right" "can_be_right" d_can_be_right f fd) (T:Txt K mg aK aC) (U_how_many:FnU P w K mg base k "how_many" ["k","row"] (spMany)):FnOk P w K mg base CX0 (k + 1) f fd ["k","row"] (spCan):=by
 refine F.ok sc_can_be_right (fun vs H Q E h=>?_) (fun cdv A outer s H vs Q E hr h=>?_)
 ·obtain ⟨kk,a,rfl,_⟩:=h; rfl
 obtain ⟨kk,a,rfl,h1,h2,ha,q⟩:=h
 refine ⟨_,(pss_one (ps_ret (pe_cmpR op_gt (pe_fn U_how_many hr (pa_cons (pv 0) (pa_cons (pv 1) pa_nil))) pe_int (nomark _)))),?_⟩
 walk_at "go"
 refine many_use h1 h2 ha (fun H1 s1=>?_)
 walk_at "go"
 exact q H1 s1
theorem sc_law_pool:FnScope ["script","k","cell"] ["script","k"] (defScope d_law_pool):=⟨rfl,rfl,rfl,by decide +kernel,rfl,by decide +kernel,by decide +kernel⟩
theorem ok_law_pool (F:Fun K "_law_pool" "_law_pool" d_law_pool f fd) (T:Txt K mg aK aC)  : FnOk P w K mg base CX0 (k + 1) f fd ["script","k"] (spPoolD K):=by
 refine F.ok sc_law_pool (fun vs H Q E h=>?_) (fun cdv A outer s H vs Q E hr h=>?_)
 ·obtain ⟨a,ns,k,rfl,_⟩:=h; rfl
 obtain ⟨a,ns,k,rfl,hS,h0,h1,q⟩:=h
 have hu:=hr.units0
 have big:∀ (cell:Int),CPow 10 18:=fun _=>⟨by decide,by decide,by decide⟩
 refine ⟨_,(pss_cons (ps_set (i:=2) sc_law_pool.nd rfl (Or.inl rfl) pe_int) (pss_cons (ps_if (pt_cmpR op_lt (pv 1) (pe_callB (call_lenA K) rfl T.n_len PySem.boot_len (pa_cons (pv 0) pa_nil)) (nomark _)) (pss_one (ps_set (i:=2) sc_law_pool.nd rfl (Or.inl rfl) (pe_ix (ix_A K) (pv 0) (pv 1) (fun _ _=>rfl)))) pss_nil) (pss_one (ps_ret (pe_lst (pa_cons (pv 2) (pa_cons (pe_callTy call_intA rfl T.n_int PyProof.Rows.boot_int (pa_cons (pe_cmpR op_ge (pv 2) (pe_op op_pow pe_int pe_int) (nomark _)) pa_nil)) (pa_cons (pe_op op_times pe_int (pv 1)) pa_nil)))))))),?_⟩
 walk_at "go"
 refine s_lenL (.inl hS) ?_
 walk_at "go"
 refine ifd (fun c=>?_) (fun c=>?_)
 ·rw [List.length_map] at c
  obtain ⟨v,hv⟩:=atI_ints (ns:=ns) h0 c
  walk_at "go"
  refine s_ixL hS hv ?_
  walk_at "go"
  refine ⟨small (show 3 <= 1000 by decide),fun p hp=>?_⟩
  exact q p _ hp (same_new hp _) Po.new
 ·walk_at "go"
  refine ⟨small (show 3 <= 1000 by decide),fun p hp=>?_⟩
  exact q p _ hp (same_new hp _) Po.new
theorem sc_law_draw:FnScope ["pool","many","found","x"] ["pool","many"] (defScope d_law_draw):=⟨rfl,rfl,rfl,by decide +kernel,rfl,by decide +kernel,by decide +kernel⟩
theorem ok_law_draw (F:Fun K "_law_draw" "_law_draw" d_law_draw f fd) (T:Txt K mg aK aC)  : FnOk P w K mg base CX0 (k + 1) f fd ["pool","many"] (spDraw):=by
 refine F.ok sc_law_draw (fun vs H Q E h=>?_) (fun cdv A outer s H vs Q E hr h=>?_)
 ·obtain ⟨p,m,rfl,_⟩:=h; rfl
 obtain ⟨p,m,rfl,⟨a,b,c,hp⟩,hm0,hm1,q⟩:=h
 have hu:=hr.units0
 have hS:SqL K H p [.int a,.int b,.int c]:=SqL.of hp
 refine ⟨_,(pss_cons (ps_if (pt_cmpR (op_eqA K hu) (pe_ix (ix_A K) (pv 0) pe_int (fun _ _=>rfl)) pe_int (nomark _)) (pss_cons (ps_set (i:=2) sc_law_draw.nd rfl (Or.inl rfl) (pe_op op_mod (pe_ix (ix_A K) (pv 0) pe_int (fun _ _=>rfl)) (pv 1))) (pss_cons (ps_asg (pe_op op_fdivB (pe_ix (ix_A K) (pv 0) pe_int (fun _ _=>rfl)) (pv 1)) (pg_sub (pv 0) pe_int set_list)) (pss_one (ps_ret (pv 2))))) pss_nil) (pss_cons (ps_asg (pe_op op_plus (pe_ix (ix_A K) (pv 0) pe_int (fun _ _=>rfl)) pe_int) (pg_sub (pv 0) pe_int set_list)) (pss_cons (ps_set (i:=3) sc_law_draw.nd rfl (Or.inl rfl) (pe_op op_mod (pe_op op_plus (pe_op op_mod (pe_ix (ix_A K) (pv 0) pe_int (fun _ _=>rfl)) pe_int) (pe_op op_times pe_int (pe_ix (ix_A K) (pv 0) pe_int (fun _ _=>rfl)))) pe_int)) (pss_cons (ps_set (i:=3) sc_law_draw.nd rfl (Or.inl rfl) (pe_op op_mod (pe_op op_times (pv 3) (pv 3)) pe_int)) (pss_cons (ps_set (i:=3) sc_law_draw.nd rfl (Or.inl rfl) (pe_op op_mod (pe_op op_times (pe_op op_plus (pv 3) pe_int) (pv 3)) pe_int)) (pss_one (ps_ret (pe_op op_mod (pe_op op_fdiv (pv 3) pe_int) (pv 1))))))))),?_⟩
 walk_at "go"
 refine ifd (fun hb=>?_) (fun hb=>?_)
 ·walk_at "go"
  refine s_setL hp (j:=0) rfl ?_
  walk_at "go"
  exact q _ _ (Int.emod_nonneg _ (by omega)) (Int.emod_lt_of_pos _ hm0) Po.new SameBut1.upd
 ·walk_at "go"
  refine s_setL hp (j:=2) rfl ?_
  have hS2:SqL K (upd H p (.lst [.int a,.int b,.int (c + 1)])) p [.int a,.int b,.int (c + 1)]:=SqL.of upd_same
  walk_at "go"
  exact q _ _ (Int.emod_nonneg _ (by omega)) (Int.emod_lt_of_pos _ hm0) Po.new SameBut1.upd
theorem sc_law_right:FnScope ["pool","kinds","many","found","stack","k","left","kind"] ["pool","kinds","many"] (defScope d_law_right):=⟨rfl,rfl,rfl,by decide +kernel,rfl,by decide +kernel,by decide +kernel⟩
theorem ok_law_right (F : Fun K "_law_right" "_law_right" d_law_right f fd) (T : Txt K mg aK aC) (U_law_draw : FnU P w K mg base k "_law_draw" ["pool", "many"] (spDraw)) : FnOk P w K mg base CX0 (k + 1) f fd ["pool", "kinds", "many"] (spRightD) := by
 refine F.ok sc_law_right (fun vs H Q E h => ?_) (fun cdv A outer s H vs Q E hr h => ?_)
 ·obtain ⟨p, k, hf, rfl, _⟩ := h; rfl
 obtain ⟨p, kk, hf, rfl, hd, hk1, hk4, hm0, hm1, q⟩ := h
 have hu := hr.units0
 refine ⟨_, (pss_cons (ps_set (i := 3) sc_law_right.nd rfl (Or.inl rfl) (pe_lst pa_nil)) (pss_cons (ps_set (i := 4) sc_law_right.nd rfl (Or.inl rfl) (pe_lst pa_nil)) (pss_cons (ps_for PassesOwn.never rfl (pi_range1 rfl T.n_range (pa_cons (pe_op op_times pe_int (pv 2)) pa_nil)) (pg_name (i := 5) sc_law_right.nd rfl (Or.inl rfl)) (pss_cons (ps_set (i := 6) sc_law_right.nd rfl (Or.inl rfl) (pe_op op_sub (pe_op op_times pe_int (pv 2)) (pv 5))) (pss_one (ps_if (PW.pt (pw_or (pt_cmpR (op_eqA K hu) (pv 4) (pe_lst pa_nil) (nomark _)) (pw_or1 (PW.pt (pw_and (pt_cmpR op_lt (pe_callB (call_lenA K) rfl T.n_len PySem.boot_len (pa_cons (pv 4) pa_nil)) (pv 6) (nomark _)) (pw_and1 (pt_cmpR (op_eqA K hu) (pe_fn U_law_draw hr (pa_cons (pv 0) (pa_cons pe_int pa_nil))) pe_int (nomark _)))))))) (pss_cons (ps_set (i := 7) sc_law_right.nd rfl (Or.inl rfl) (pe_fn U_law_draw hr (pa_cons (pv 0) (pa_cons (pv 1) pa_nil)))) (pss_cons (ps_expr (pe_bmK K PySem.F.plainAttrs_list PySem.F.slot_list_append PySem.F.type_list_append mt_append (pv 4) (pa_cons (pv 7) pa_nil))) (pss_one (ps_expr (pe_bmK K PySem.F.plainAttrs_list PySem.F.slot_list_append PySem.F.type_list_append mt_append (pv 3) (pa_cons (pe_ix (ix_A K) (pe_tx (l := [40, 91, 123, 60]) (by decide +kernel)) (pv 7) (fun _ _ => rfl)) pa_nil)))))) (pss_one (ps_expr (pe_bmK K PySem.F.plainAttrs_list PySem.F.slot_list_append PySem.F.type_list_append mt_append (pv 3) (pa_cons (pe_ix (ix_A K) (pe_tx (l := [41, 93, 125, 62]) (by decide +kernel)) (pe_bm0K K PySem.F.plainAttrs_list PySem.F.slot_list_pop PySem.F.type_list_pop mt_pop (pv 4)) (fun _ _ => rfl)) pa_nil)))))))) (pss_one (ps_ret (pe_bmK K PySem.F.plainAttrs_str PySem.F.slot_str_join PySem.F.type_str_join (mt_join K) (pe_tx (l := []) (by decide +kernel)) (pa_cons (pv 3) pa_nil))))))), ?_⟩
 walk_at "go"
 refine ⟨small (show 0 <= 1000 by decide), fun fa hfa => ?_⟩
 walk_at "go"
 refine ⟨small (show 0 <= 1000 by decide), fun sa hsa => ?_⟩
 have nfp := hd.ne hfa
 have hd1 := hd.same (same_new hfa (.lst []))
 have nsp := hd1.ne hsa
 have hF1 := same_new hsa (.lst []) _ _ (upd_same (H := H) (a := fa) (o := .lst []))
 have nsf : sa ≠ fa := (ne_of_none (upd_same (H := H) (a := fa) (o := .lst [])) hsa).symm
 have hd2 := hd1.same (same_new hsa (.lst []))
 have hS1 := upd_same (H := upd H fa (.lst [])) (a := sa) (o := .lst [])
 have u2 := (same_new hfa (.lst [])).trans (same_new hsa (.lst []))
 have hHs : H sa = none := (same_new hfa (.lst [])).free hsa
 generalize upd (upd H fa _) sa _ = G at *
 walk_at "go"
 refine ⟨_, rfl, by omega, by omega, ?_⟩
 have e2 : ((2 * hf).toNat : Int) = 2 * hf := by omega
 refine for_rng (fun i σ H' => ∃ (row : List Nat) (st : List Int) (o5 o6 o7 : Option V), σ = [some (.ref p), some (.int kk), some (.int hf), some (.ref fa), some (.ref sa), o5, o6, o7] /\ H' fa = some (.lst ((row.map fun c => [c]).map tx)) /\
   H' sa = some (.lst (st.map V.int)) /\ run [] row = some (st.reverse.map ckd) /\ (∀ c ∈ row, kin kk c) /\ (∀ x ∈ st, 0 <= x /\ x < kk) /\ row.length = i /\ st.length + i <= (2 * hf).toNat /\ (st.length + i) % 2 = 0 /\ Po H' p /\ SameBut1 p H H')
  ⟨[], [], _, _, _, rfl, hF1, hS1, rfl, (fun _ z => nomatch z), (fun _ z => nomatch z), rfl, by simp, by simp, hd2, SameBut1.of u2⟩ ?_ ?_
 rotate_left
 ·rintro σ H1 ⟨row, st, o5, o6, o7, rfl, hF, hS, hrun, hkin, hst, hrl, hle, hpar, hp1, s1⟩
  have e0 : st = [] := List.length_eq_zero_iff.mp (by omega)
  subst e0
  walk_at "go"
  refine s_join (SqL.of hF) (by rw [List.length_map, flat_one]; omega) ?_
  rw [flat_one]
  exact q row H1 hrun (by omega) hkin hp1 s1
 rintro i σ H1 hi ⟨row, st, o5, o6, o7, rfl, hF, hS, hrun, hkin, hst, hrl, hle, hpar, hp1, s1⟩
 have ei : (0 : Int) + (i : Int) = (i : Int) := by omega
 rw [ei]
 have hsl : st.length <= 40 := by omega
 have opens : ∀ {H2 : Hp} (o6 : Option V) {D : Ends}, H2 fa = some (.lst ((row.map fun c => [c]).map tx)) -> H2 sa = some (.lst (st.map V.int)) -> Po H2 p -> SameBut1 p H H2 -> st.length + 2 + i <= (2 * hf).toNat ->
   (∀ σ' H', (∃ (row : List Nat) (st : List Int) (o5 o6 o7 : Option V), σ' = [some (.ref p), some (.int kk), some (.int hf), some (.ref fa), some (.ref sa), o5, o6, o7] /\ H' fa = some (.lst ((row.map fun c => [c]).map tx)) /\
   H' sa = some (.lst (st.map V.int)) /\ run [] row = some (st.reverse.map ckd) /\ (∀ c ∈ row, kin kk c) /\ (∀ x ∈ st, 0 <= x /\ x < kk) /\ row.length = i + 1 /\ st.length + (i + 1) <= (2 * hf).toNat /\ (st.length + (i + 1)) % 2 = 0 /\ Po H' p /\ SameBut1 p H H') -> D.nx σ' H') ->
   (tSeq (tAsg (tCall spDraw [] E0 (tCons (tVar 0) (tCons (tVar 1) tNil))) (gName 7))
     (tSeq (tDrop (tBM K "list" rAppend (tVar 4) (tCons (tVar 7) tNil)))
      (tDrop (tBM K "list" rAppend (tVar 3) (tCons (tOp (rIxA K) (tC (tx [40, 91, 123, 60])) (tVar 7)) tNil))))) D [some (.ref p), some (.int kk), some (.int hf), some (.ref fa), some (.ref sa), some (.int i), o6, o7] H2 := by
  intro H2 o6 D f2 g2 p2 s2 hl2 k2
  walk_at "go"
  refine draw_use p2 (by omega) (by omega) (fun r H3 r0 r1 p3 s3 => ?_)
  obtain ⟨oc, ho1, ho2, ho3, ho4, ho5, ho6⟩ := opn_at r0 r1 hk4
  have g3 := s3 _ _ g2 nsp
  have f3 := s3 _ _ f2 nfp
  walk_at "go"
  refine ⟨SqL.ty (SqL.of g3), ?_⟩
  walk_at "go"
  refine ⟨sa, _, _, rfl, rfl, g3, small1000 (by rw [List.length_map]; omega), ?_⟩
  walk_at "go"
  have f4 : (upd H3 sa (.lst (st.map V.int ++ [.int r]))) fa = some (.lst ((row.map fun c => [c]).map tx)) := by rw [upd_ne (Ne.symm nsf)]; exact f3
  refine ⟨SqL.ty (SqL.of f4), ?_⟩
  walk_at "go"
  refine s_ixT (small (show 4 <= 1000 by decide)) ho1 ?_
  walk_at "go"
  refine ⟨fa, _, _, rfl, rfl, f4, small1000 (by rw [List.length_map, List.length_map]; omega), ?_⟩
  walk_at "go"
  refine k2 _ _ ⟨row ++ [oc], st ++ [r], _, _, _, rfl, ?_, ?_, ?_, ?_, ?_, by simp [hrl], by simp; omega, by simp; omega, ?_, ?_⟩
  ·rw [upd_same, List.map_append, List.map_append]; rfl
  ·rw [upd_ne nsf, upd_same, List.map_append]; rfl
  ·rw [run_snoc hrun, stp_open ho2, List.reverse_append, List.map_append]
   show some (clo oc :: _) = some (ckd r :: _)
   rw [show ckd r = clo oc from by unfold ckd; rw [ho4]; rfl]
   rfl
  ·intro c hc
   rcases List.mem_append.mp hc with z | z
   ·exact hkin c z
   ·rw [List.mem_singleton.mp z]; exact .inl ho3
  ·intro x hx
   rcases List.mem_append.mp hx with z | z
   ·exact hst x z
   ·rw [List.mem_singleton.mp z]; exact ⟨r0, r1⟩
  ·exact (p3.keep SameBut1.upd (Ne.symm nsp)).keep SameBut1.upd (Ne.symm nfp)
  ·exact put1 (put1 (s2.trans s3) hHs) hfa
 have closes : ∀ {H2 : Hp} (o6 : Option V) {D : Ends}, H2 fa = some (.lst ((row.map fun c => [c]).map tx)) -> H2 sa = some (.lst (st.map V.int)) -> Po H2 p -> SameBut1 p H H2 -> st ≠ [] ->
   (∀ σ' H', (∃ (row : List Nat) (st : List Int) (o5 o6 o7 : Option V), σ' = [some (.ref p), some (.int kk), some (.int hf), some (.ref fa), some (.ref sa), o5, o6, o7] /\ H' fa = some (.lst ((row.map fun c => [c]).map tx)) /\
   H' sa = some (.lst (st.map V.int)) /\ run [] row = some (st.reverse.map ckd) /\ (∀ c ∈ row, kin kk c) /\ (∀ x ∈ st, 0 <= x /\ x < kk) /\ row.length = i + 1 /\ st.length + (i + 1) <= (2 * hf).toNat /\ (st.length + (i + 1)) % 2 = 0 /\ Po H' p /\ SameBut1 p H H') -> D.nx σ' H') ->
   (tDrop (tBM K "list" rAppend (tVar 3) (tCons (tOp (rIxA K) (tC (tx [41, 93, 125, 62])) (tBM0 K "list" rPop (tVar 4))) tNil))) D [some (.ref p), some (.int kk), some (.int hf), some (.ref fa), some (.ref sa), some (.int i), o6, o7] H2 := by
  intro H2 o6 D f2 g2 p2 s2 hne k2
  obtain ⟨sr, x, rfl⟩ : ∃ sr x, st = sr ++ [x] := ⟨st.dropLast, st.getLast hne, (List.dropLast_concat_getLast hne).symm⟩
  obtain ⟨x0, x1⟩ := hst x (List.mem_append_right _ List.mem_cons_self)
  obtain ⟨oc, ho1, ho2, ho3, ho4, ho5, ho6⟩ := opn_at x0 x1 hk4
  walk_at "go"
  refine ⟨SqL.ty (SqL.of f2), ?_⟩
  walk_at "go"
  refine ⟨SqL.ty (SqL.of g2), ?_⟩
  refine ⟨sa, _, .int x, rfl, rfl, g2, by simp, ?_⟩
  walk_at "go"
  refine s_ixT (small (show 4 <= 1000 by decide)) ho4 ?_
  walk_at "go"
  refine ⟨fa, _, _, rfl, rfl, (upd_ne (Ne.symm nsf)).trans f2, small1000 (by rw [List.length_map, List.length_map]; omega), ?_⟩
  walk_at "go"
  refine k2 _ _ ⟨row ++ [clo oc], sr, _, _, _, rfl, ?_, ?_, ?_, ?_, fun y hy => hst y (List.mem_append_left _ hy), by simp [hrl], by simp at hle; omega, by simp at hpar; omega, ?_, ?_⟩
  ·rw [upd_same, List.map_append, List.map_append]; rfl
  ·rw [upd_ne nsf, upd_same]; simp
  ·rw [List.reverse_append, List.map_append] at hrun
   rw [run_snoc hrun]
   have e : ckd x = clo oc := by unfold ckd; rw [ho4]; rfl
   show stp (ckd x :: _) _ = _
   rw [e]; exact stp_close ho6 _
  ·intro c hc
   rcases List.mem_append.mp hc with z | z
   ·exact hkin c z
   ·rw [List.mem_singleton.mp z]; exact .inr ho5
  ·exact (p2.keep SameBut1.upd (Ne.symm nsp)).keep SameBut1.upd (Ne.symm nfp)
  ·exact put1 (put1 s2 hHs) hfa
 walk_at "go"
 refine ⟨small (show 0 <= 1000 by decide), fun l hl => ?_⟩
 have t1 := same_new hl (.lst [])
 walk_at "go"
 refine s_eqL (SqL.of (t1 _ _ hS)) (SqL.of upd_same) (by simp [flatV]) rfl ?_
 rw [eqVs_nil]
 walk_at "go"
 refine ifd (fun hc => ?_) (fun hc => ?_)
 ·refine ifp rfl ?_
  exact opens _ (t1 _ _ hF) (t1 _ _ hS) (hp1.same t1) (s1.trans (SameBut1.of t1)) (by subst hc; simp at hpar hle ⊢; omega) (fun _ _ z => z)
 ·walk_at "go"
  refine s_lenL (.inl (SqL.of (t1 _ _ hS))) ?_
  walk_at "go"
  refine ifd (fun hc2 => ?_) (fun hc2 => ?_)
  ·walk_at "go"
   refine draw_use (hp1.same t1) (by omega) (by omega) (fun r H3 r0 r1 p3 s3 => ?_)
   walk_at "go"
   have f3 := s3 _ _ (t1 _ _ hF) nfp
   have g3 := s3 _ _ (t1 _ _ hS) nsp
   refine ifd (fun hc3 => ?_) (fun hc3 => ?_)
   ·exact opens _ f3 g3 p3 ((s1.trans (SameBut1.of t1)).trans s3) (by rw [List.length_map] at hc2; omega) (fun _ _ z => z)
   ·exact closes _ f3 g3 p3 ((s1.trans (SameBut1.of t1)).trans s3) hc (fun _ _ z => z)
  ·refine ifq rfl ?_
   exact closes _ (t1 _ _ hF) (t1 _ _ hS) (hp1.same t1) (s1.trans (SameBut1.of t1)) hc (fun _ _ z => z)
theorem sc_law_row:FnScope ["pool","kinds","many","signs","found","part","i","turn"] ["pool","kinds","many"] (defScope d_law_row):=⟨rfl,rfl,rfl,by decide +kernel,rfl,by decide +kernel,by decide +kernel⟩
theorem ok_law_row (F : Fun K "_law_row" "_law_row" d_law_row f fd) (T : Txt K mg aK aC) (U_law_right : FnU P w K mg base k "_law_right" ["pool", "kinds", "many"] (spRightD)) (U_law_draw : FnU P w K mg base k "_law_draw" ["pool", "many"] (spDraw)) : FnOk P w K mg base CX0 (k + 1) f fd ["pool", "kinds", "many"] (spRowD) := by
 refine F.ok sc_law_row (fun vs H Q E h => ?_) (fun cdv A outer s H vs Q E hr h => ?_)
 ·obtain ⟨p, k, hf, rfl, _⟩ := h; rfl
 obtain ⟨p, kk, hf, rfl, hd, hk1, hk4, hm0, hm1, q⟩ := h
 have hu := hr.units0
 have hsg0 : ∀ c ∈ ([40, 41, 91, 93, 123, 125, 60, 62] : List Nat).take (2 * kk).toNat, c ∈ sgn kk := fun c hc => (sgs_iff hk1 hk4).mp (List.mem_append_left _ hc)
 have hsl0 : (([40, 41, 91, 93, 123, 125, 60, 62] : List Nat).take (2 * kk).toNat).length = (2 * kk).toNat := by rw [List.length_take]; simp; omega
 have unk : 63 ∈ sgn kk := by unfold sgn; simp
 have tail : ∀ (sg : List Nat) (fa : Addr) (row : List Nat) (H2 : Hp), (∀ c ∈ sg, c ∈ sgn kk) -> sg.length = (2 * kk).toNat -> H2 fa = some (.lst ((row.map fun c => [c]).map tx)) -> (∀ c ∈ row, c ∈ sgn kk) -> (row.length : Int) <= 2 * hf + 1 -> Po H2 p -> SameBut1 p H H2 -> H fa = none -> fa ≠ p ->
   (tSeq (tAsg (tOp (rIxA K) (tLst (tCons (tC (V.int 2)) (tCons (tC (V.int 1)) (tCons (tC (V.int 3)) (tCons (tC (V.int 8)) tNil))))) (tCall spDraw [] E0 (tCons (tVar 0) (tCons (tC (V.int 4)) tNil)))) (gName 5))
   (tSeq (tFor (iRng1 (tCons (tCB (rLen K) (tCons (tVar 4) tNil)) tNil)) (gName 6) (tIfS (tTest (tOp (rEqA K) (tCall spDraw [] E0 (tCons (tVar 0) (tCons (tVar 5) tNil))) (tC (V.int 0)))) (tAsg (tC (tx [63])) (gSub (tVar 4) (tVar 6) rSetL)) tNext))
    (tSeq (tFor (iRng1 (tCons (tOp rTimes (tOp (rIxA K) (tLst (tCons (tC (V.int 0)) (tCons (tC (V.int 0)) (tCons (tC (V.int 1)) (tCons (tC (V.int 2)) tNil))))) (tCall spDraw [] E0 (tCons (tVar 0) (tCons (tC (V.int 4)) tNil)))) (tCB rInt (tCons (tOp (rNeA K) (tVar 4) (tLst tNil)) tNil))) tNil)) (gName 7)
      (tAsg (tOp (rIxA K) (tVar 3) (tCall spDraw [] E0 (tCons (tVar 0) (tCons (tOp rTimes (tC (V.int 2)) (tVar 1)) tNil)))) (gSub (tVar 4) (tCall spDraw [] E0 (tCons (tVar 0) (tCons (tCB (rLen K) (tCons (tVar 4) tNil)) tNil))) rSetL)))
     (tRet (tBM K "str" (rJoin K) (tC (tx [])) (tCons (tVar 4) tNil)))))) { nx := fun _ H' => Q .non H', rt := Q } [some (.ref p), some (.int kk), some (.int hf), some (tx sg), some (.ref fa), none, none, none] H2 := by
  intro sg fa row H2 hsg hsl f2 hrow hrl p2 s2 hfa nfp
  walk_at "go"
  refine ⟨small (show 4 <= 1000 by decide), fun l1 hl1 => ?_⟩
  have t1 := same_new hl1 (.lst [.int 2, .int 1, .int 3, .int 8])
  walk_at "go"
  refine draw_use (p2.same t1) (by omega) (by omega) (fun r1 H3 r10 r11 p3 s3 => ?_)
  obtain ⟨vp, eix, hvp⟩ := at4 (V.int 2) (V.int 1) (V.int 3) (V.int 8) r10 r11
  obtain ⟨pt, rfl, hp0, hp9⟩ : ∃ pt : Int, vp = .int pt /\ 0 < pt /\ pt < 10 := by rcases hvp with rfl | rfl | rfl | rfl <;> exact ⟨_, rfl, by decide, by decide⟩
  have f3 := s3 _ _ (t1 _ _ f2) nfp
  walk_at "go"
  refine s_ixL (SqL.of (s3 _ _ upd_same (p2.ne hl1))) eix ?_
  have u3 : SameBut1 p H H3 := (s2.trans (SameBut1.of t1)).trans s3
  clear hvp eix
  walk_at "go"
  refine s_lenL (.inl (SqL.of f3)) ?_
  walk_at "go"
  rw [List.length_map, List.length_map]
  obtain ⟨n1, en1⟩ : ∃ n1, row.length = n1 := ⟨_, rfl⟩
  rw [en1]
  refine ⟨_, rfl, by omega, by omega, ?_⟩
  refine for_rng (fun i σ H' => ∃ (row : List Nat) (o6 : Option V), σ = [some (.ref p), some (.int kk), some (.int hf), some (tx sg), some (.ref fa), some (.int pt), o6, none] /\ H' fa = some (.lst ((row.map fun c => [c]).map tx)) /\ (∀ c ∈ row, c ∈ sgn kk) /\ row.length = n1 /\ Po H' p /\ SameBut1 p H H')
   ⟨row, none, rfl, f3, hrow, en1, p3, u3⟩ ?_ ?_
  ·rintro i σ H4 hi ⟨row', o6, rfl, f4, hrow', hrl', p4, s4⟩
   have ei : (0 : Int) + (i : Int) = (i : Int) := by omega
   rw [ei]
   walk_at "go"
   refine draw_use p4 hp0 (by omega) (fun r5 H5 r50 r51 p5 s5 => ?_)
   have f5 := s5 _ _ f4 nfp
   walk_at "go"
   refine ifd (fun hc => ?_) (fun hc => ?_)
   ·walk_at "go"
    refine s_setL f5 (j := i) (ixN_nat (by rw [List.length_map, List.length_map]; omega)) ?_
    walk_at "go"
    refine ⟨row'.set i 63, _, rfl, ?_, fun c hc => ?_, by rw [List.length_set]; exact hrl', p5.keep SameBut1.upd (Ne.symm nfp), put1 (s4.trans s5) hfa⟩
    ·rw [upd_same, List.map_set, List.map_set]
    ·rcases List.mem_or_eq_of_mem_set hc with z | z
     ·exact hrow' c z
     ·rw [z]; exact unk
   ·walk_at "go"
    exact ⟨row', _, rfl, f5, hrow', hrl', p5, s4.trans s5⟩
  ·rintro σ H4 ⟨row', o6, rfl, f4, hrow', hrl', p4, s4⟩
   walk_at "go"
   refine ⟨small (show 4 <= 1000 by decide), fun l2 hl2 => ?_⟩
   have t2 := same_new hl2 (.lst [.int 0, .int 0, .int 1, .int 2])
   walk_at "go"
   refine draw_use (p4.same t2) (by omega) (by omega) (fun r6 H6 r60 r61 p6 s6 => ?_)
   obtain ⟨vp, eix, hvp⟩ := at4 (V.int 0) (V.int 0) (V.int 1) (V.int 2) r60 r61
   obtain ⟨tn, rfl, ht0, ht9⟩ : ∃ tn : Int, vp = .int tn /\ 0 <= tn /\ tn < 3 := by rcases hvp with rfl | rfl | rfl | rfl <;> exact ⟨_, rfl, by decide, by decide⟩
   have f6 := s6 _ _ (t2 _ _ f4) nfp
   walk_at "go"
   refine s_ixL (SqL.of (s6 _ _ upd_same (p4.ne hl2))) eix ?_
   have u6 : SameBut1 p H H6 := (s4.trans (SameBut1.of t2)).trans s6
   clear hvp eix
   walk_at "go"
   refine ⟨small (show 0 <= 1000 by decide), fun l3 hl3 => ?_⟩
   have t3 := same_new hl3 (.lst [])
   walk_at "go"
   refine s_neL (SqL.of (t3 _ _ f6)) (SqL.of upd_same) (flat_txl _) rfl ?_
   walk_at "go"
   have hev : eqVs ((row'.map fun c => [c]).map tx) [] = decide (row' = []) := by cases row' <;> rfl
   rw [hev]
   refine ⟨_, rfl, by split <;> omega, by split <;> omega, ?_⟩
   refine for_rng (fun i σ H' => ∃ (row : List Nat) (o6 o7 : Option V), σ = [some (.ref p), some (.int kk), some (.int hf), some (tx sg), some (.ref fa), some (.int pt), o6, o7] /\ H' fa = some (.lst ((row.map fun c => [c]).map tx)) /\ (∀ c ∈ row, c ∈ sgn kk) /\ row.length = n1 /\ Po H' p /\ SameBut1 p H H')
    ⟨row', _, _, rfl, t3 _ _ f6, hrow', hrl', p6.same t3, u6.trans (SameBut1.of t3)⟩ ?_ ?_
   ·rintro i σ H7 hi ⟨row7, o6, o7, rfl, f7, hrow7, hrl7, p7, s7⟩
    have hne : row' ≠ [] := fun z => by subst z; simp at hi
    have hn0 : 0 < n1 := by rw [<- hrl']; exact List.length_pos_iff.mpr hne
    walk_at "go"
    refine draw_use p7 (by omega) (by omega) (fun r8 H8 r80 r81 p8 s8 => ?_)
    obtain ⟨c, hc8, hcm⟩ := at_mem (l := sg) r80 (by rw [hsl]; omega)
    walk_at "go"
    refine s_ixT (small (by omega)) hc8 ?_
    have f8 := s8 _ _ f7 nfp
    walk_at "go"
    refine s_lenL (.inl (SqL.of f8)) ?_
    walk_at "go"
    rw [List.length_map, List.length_map]
    refine draw_use p8 (by omega) (by omega) (fun r9 H9 r90 r91 p9 s9 => ?_)
    obtain ⟨j, rfl⟩ : ∃ j : Nat, r9 = j := ⟨r9.toNat, by omega⟩
    have f9 := s9 _ _ f8 nfp
    walk_at "go"
    refine s_setL f9 (j := j) (ixN_nat (by rw [List.length_map, List.length_map]; omega)) ?_
    walk_at "go"
    refine ⟨row7.set j c, _, _, rfl, ?_, fun d hd => ?_, by rw [List.length_set]; exact hrl7, p9.keep SameBut1.upd (Ne.symm nfp), put1 ((s7.trans s8).trans s9) hfa⟩
    ·rw [upd_same, List.map_set, List.map_set]
    ·rcases List.mem_or_eq_of_mem_set hd with z | z
     ·exact hrow7 d z
     ·rw [z]; exact hsg c hcm
   ·rintro σ H7 ⟨row7, o6, o7, rfl, f7, hrow7, hrl7, p7, s7⟩
    walk_at "go"
    refine s_join (SqL.of f7) (by rw [List.length_map, flat_one]; omega) ?_
    rw [flat_one]
    exact q row7 H7 (by omega) hrow7 p7 s7
 refine ⟨_, (pss_cons (ps_set (i := 3) sc_law_row.nd rfl (Or.inr rfl) (pe_slice (sl_A K) (pe_tx (l := [40, 41, 91, 93, 123, 125, 60, 62]) (by decide +kernel)) po_none (po_some (pe_op op_times pe_int (pv 1)))))  (pss_cons (ps_set (i := 4) sc_law_row.nd rfl (Or.inl rfl) (pe_callTy (call_listS K rfl) rfl T.n_list PyProof.Rows.boot_list (pa_cons (pe_fn U_law_right hr (pa_cons (pv 0) (pa_cons (pv 1) (pa_cons (pv 2) pa_nil)))) pa_nil)))  (pss_cons (ps_if (pt_cmpR (op_eqA K hu) (pe_fn U_law_draw hr (pa_cons (pv 0) (pa_cons pe_int pa_nil))) pe_int (nomark _))   (pss_one (ps_setComp (i := 4) sc_law_row.nd rfl (Or.inl rfl) (own := ["k"]) (sel := [3, 0, 1]) (compOk_of (osc := (defScope d_law_row)) (N := ["pool", "kinds", "many", "signs", "found", "part", "i", "turn"]) (by decide +kernel)) rfl (pi_range1 rfl T.n_range (pa_cons (pe_op op_plus (pe_op op_times pe_int (pv 2)) (pe_fn U_law_draw hr (pa_cons (pv 0) (pa_cons pe_int pa_nil)))) pa_nil)) (fun _ _ _ _ _ => (pg_name (i := 0) (show (["k", "signs", "pool", "kinds"] : List Str).Nodup from by decide +kernel) rfl (Or.inl rfl))) (gk_name (by decide)) (fun _ _ _ _ _ => pif_nil) (fun _ _ _ _ _ => (pe_ix (ix_A K) (pe_op op_plus (pv 1) (pe_tx (l := [63, 63]) (by decide +kernel))) (pe_fn U_law_draw hr (pa_cons (pv 2) (pa_cons (pe_op op_plus (pe_op op_times pe_int (pv 3)) pe_int) pa_nil))) (fun _ _ => rfl)))))   pss_nil)  (pss_cons (ps_set (i := 5) sc_law_row.nd rfl (Or.inl rfl) (pe_ix (ix_A K) (pe_lst (pa_cons pe_int (pa_cons pe_int (pa_cons pe_int (pa_cons pe_int pa_nil))))) (pe_fn U_law_draw hr (pa_cons (pv 0) (pa_cons pe_int pa_nil))) (fun _ _ => rfl)))  (pss_cons (ps_for PassesOwn.never rfl (pi_range1 rfl T.n_range (pa_cons (pe_callB (call_lenA K) rfl T.n_len PySem.boot_len (pa_cons (pv 4) pa_nil)) pa_nil)) (pg_name (i := 6) sc_law_row.nd rfl (Or.inl rfl))   (pss_one (ps_if (pt_cmpR (op_eqA K hu) (pe_fn U_law_draw hr (pa_cons (pv 0) (pa_cons (pv 5) pa_nil))) pe_int (nomark _))   (pss_one (ps_asg (pe_tx (l := [63]) (by decide +kernel)) (pg_sub (pv 4) (pv 6) set_list)))   pss_nil)))  (pss_cons (ps_for PassesOwn.never rfl (pi_range1 rfl T.n_range (pa_cons (pe_op op_times (pe_ix (ix_A K) (pe_lst (pa_cons pe_int (pa_cons pe_int (pa_cons pe_int (pa_cons pe_int pa_nil))))) (pe_fn U_law_draw hr (pa_cons (pv 0) (pa_cons pe_int pa_nil))) (fun _ _ => rfl)) (pe_callTy call_intA rfl T.n_int PyProof.Rows.boot_int (pa_cons (pe_cmpR (op_neA K hu) (pv 4) (pe_lst pa_nil) (nomark _)) pa_nil))) pa_nil)) (pg_name (i := 7) sc_law_row.nd rfl (Or.inl rfl))   (pss_one (ps_asg (pe_ix (ix_A K) (pv 3) (pe_fn U_law_draw hr (pa_cons (pv 0) (pa_cons (pe_op op_times pe_int (pv 1)) pa_nil))) (fun _ _ => rfl)) (pg_sub (pv 4) (pe_fn U_law_draw hr (pa_cons (pv 0) (pa_cons (pe_callB (call_lenA K) rfl T.n_len PySem.boot_len (pa_cons (pv 4) pa_nil)) pa_nil))) set_list))))  (pss_one (ps_ret (pe_bmK K PySem.F.plainAttrs_str PySem.F.slot_str_join PySem.F.type_str_join (mt_join K) (pe_tx (l := []) (by decide +kernel)) (pa_cons (pv 4) pa_nil)))))))))), ?_⟩
 walk_at "go"
 rw [cut_to _ (by omega)]
 generalize ([40, 41, 91, 93, 123, 125, 60, 62] : List Nat).take (2 * kk).toNat = sg at hsg0 hsl0 ⊢
 walk_at "go"
 refine rightD_use hd hk1 hk4 hm0 hm1 (fun row0 H1 _ hl0 hkin p1 s1 => ?_)
 walk_at "go"
 refine s_listS (by omega) (fun fa hfa => ?_)
 have t1 := same_new hfa (.lst ((row0.map fun c => [c]).map tx))
 have f1 := upd_same (H := H1) (a := fa) (o := .lst ((row0.map fun c => [c]).map tx))
 have nfp := p1.ne hfa
 have hHf : H fa = none := by
  cases z : H fa with
  | none => rfl
  | some o => rw [s1 _ _ z nfp] at hfa; cases hfa
 walk_at "go"
 refine draw_use (p1.same t1) (by omega) (by omega) (fun r2 H2 r20 r21 p2 s2 => ?_)
 have u2 : SameBut1 p H H2 := (s1.trans (SameBut1.of t1)).trans s2
 walk_at "go"
 refine ifd (fun hc => ?_) (fun hc => ?_)
 ·walk_at "go"
  refine draw_use p2 (by omega) (by omega) (fun r3 H3 r30 r31 p3 s3 => ?_)
  walk_at "go"
  refine ⟨_, rfl, by omega, by omega, ?_⟩
  have hn : (2 * hf + r3).toNat <= 41 := by omega
  refine comp_of (n := (2 * hf + r3).toNat) (fun D i ys H' => ∃ row : List Nat, ys = (row.map fun c => [c]).map tx /\ row.length = i /\ (∀ c ∈ row, c ∈ sgn kk) /\ Po H' p /\ ∀ b o, H3 b = some o -> b ≠ p -> H' b = some o) (fun D hD => ⟨[], rfl, rfl, (fun _ z => nomatch z), p3.same (same_new hD _), fun b o z _ => by rw [upd_ne (ne_of_none z hD)]; exact z⟩) (fun D i ys H' _ hi _ _ => hi) (fun D ys H' hD hD' hl ⟨row, e, hrl, hrow, p4, s4⟩ => ⟨Nat.le_refl _, ?_⟩) ?_
  ·subst e
   walk_at "go"
   exact tail sg D row H' hsg0 hsl0 hD' hrow (by omega) p4 (fun b o z n => s4 b o (s3 b o (u2 b o z n) n) n) (by
    cases z : H D with
    | none => rfl
    | some o => rw [s3 _ _ (u2 _ _ z ((p3.ne hD))) (p3.ne hD)] at hD; cases hD) (p3.ne hD)
  ·rintro D i ys H' x H5 hD hi hD' hl ⟨row, e, hrl, hrow, p4, s4⟩ ⟨rfl, rfl⟩
   have nDp := p3.ne hD
   show gName 0 _ _ _ _
   walk_at "go"
   refine iteT ?_
   walk_at "go"
   first | refine s_addT (small (by rw [hsl0]; simp; omega)) ?_ | skip
   walk_at "go"
   refine draw_use p4 (by omega) (by omega) (fun r4 H6 r40 r41 p6 s6 => ?_)
   obtain ⟨c, hc4, hcm⟩ := at_mem (l := sg ++ [63, 63]) r40 (by rw [List.length_append, hsl0]; simp; omega)
   walk_at "go"
   refine s_ixT (small (by rw [List.length_append, hsl0]; simp; omega)) hc4 ?_
   refine comp_next hi (small (by omega)) (s6 _ _ hD' nDp) hl ⟨row ++ [c], ?_, by simp [hrl], ?_, p6.keep SameBut1.upd (Ne.symm nDp), ?_⟩
   ·rw [e, List.map_append, List.map_append]; rfl
   ·intro d hd
    rcases List.mem_append.mp hd with z | z
    ·exact hrow d z
    ·rw [List.mem_singleton.mp z]
     rcases List.mem_append.mp hcm with y | y
     ·exact hsg0 c y
     ·have : c = 63 := by simpa using y
      rw [this]; exact unk
   ·intro b o z n
    rw [upd_ne (ne_of_none z hD)]
    exact s6 b o (s4 b o z n) n
 ·walk_at "go"
  exact tail sg fa row0 H2 hsg0 hsl0 (s2 _ _ f1 nfp) (fun c hc => kin_sgn (hkin c hc)) (by omega) p2 u2 hHf nfp
theorem sc_law_unlike:FnScope ["row","other"] ["row","other"] (defScope d_law_unlike):=⟨rfl,rfl,rfl,by decide +kernel,rfl,by decide +kernel,by decide +kernel⟩
theorem ok_law_unlike (F:Fun K "_law_unlike" "_law_unlike" d_law_unlike f fd) (T:Txt K mg aK aC)  : FnOk P w K mg base CX0 (k + 1) f fd ["row","other"] (spUnlike):=by
 refine F.ok sc_law_unlike (fun vs H Q E h=>?_) (fun cdv A outer s H vs Q E hr h=>?_)
 ·obtain ⟨a,l,rfl,_⟩:=h; rfl
 obtain ⟨a,l,rfl,hl,ha,q⟩:=h
 have hu:=hr.units0
 have hbl:(brx l).length = a.length:=by unfold brx; rw [List.length_map]; exact hl
 refine ⟨_,(pss_one (ps_ret (pe_comp (own:=["i"]) (sel:=[0,1]) (compOk_of (osc:=(defScope d_law_unlike)) (N:=["row","other"]) (by decide +kernel)) rfl (pi_range1 rfl T.n_range (pa_cons (pe_callB (call_lenA K) rfl T.n_len PySem.boot_len (pa_cons (pv 0) pa_nil)) pa_nil)) (fun _ _ _ _ _=>(pg_name (i:=0) (show (["i","row","other"]:List Str).Nodup from by decide +kernel) rfl (Or.inl rfl))) (gk_name (by decide)) (fun _ _ _ _ _=>pif_one (pt_cmpR (op_notinA K) (pe_ix (ix_A K) (pv 1) (pv 0) (fun _ _=>rfl)) (pe_tup (pa_cons (pe_tx (l:=[63]) (by decide +kernel)) (pa_cons (pe_ix (ix_A K) (pv 2) (pv 0) (fun _ _=>rfl)) pa_nil))) (by with_unfolding_all rfl))) (fun _ _ _ _ _=>(pv 0))))),?_⟩
 walk_at "go"
 refine ⟨_,rfl,by omega,by omega,?_⟩
 rw [Int.toNat_natCast]
 refine comp_fR (fun i=>!okc (a.getD i 0) (l.getD i 0)) (fun i=>V.int (i:Int)) (small (by omega)) (fun D H1 hD s1 g1=>?_) (fun D i H1 R0 R1 hD hi s1 r0 r1=>?_)
 ·exact q D H1 hD s1 g1
 have ei:(0:Int) + (i:Int) = (i:Int):=by omega
 rw [ei]
 obtain ⟨c,hc⟩:∃ c,a[i]? = some c:=⟨_,List.getElem?_eq_getElem hi⟩
 obtain ⟨b,hb⟩:∃ b,l[i]? = some b:=⟨_,List.getElem?_eq_getElem (by omega)⟩
 have hd:(brx l)[i]? = some (brs.getD b 0):=by unfold brx; rw [List.getElem?_map,hb]; rfl
 have ec:a.getD i 0 = c:=by rw [List.getD_eq_getElem?_getD,hc]; rfl
 have eb:l.getD i 0 = b:=by rw [List.getD_eq_getElem?_getD,hb]; rfl
 rw [ec,eb] at r0 r1
 walk_at "go"
 refine s_ixT (small (by omega)) (atI_nat hc) ?_
 walk_at "go"
 refine s_ixT (small (by omega)) (atI_nat hd) ?_
 walk_at "go"
 refine ⟨small (show 2 <= 1000 by decide),fun T hT=>?_⟩
 have t2:=same_new hT (.tup [tx [63],tx [brs.getD b 0]])
 refine .inr ⟨T,_,rfl,.inr (SqT.of upd_same),rfl,rfl,?_⟩
 rw [in_2x]
 walk_at "go"
 have eo:okc c b = decide (c = 63\/c = brs.getD b 0):=rfl
 rw [eo] at r0 r1
 by_cases z:c = 63\/c = brs.getD b 0
 ·rw [decide_eq_true z] at r0 ⊢
  refine ifq rfl ?_
  exact r0 rfl _ t2
 ·rw [decide_eq_false z] at r1 ⊢
  refine ifp rfl ?_
  walk_at "go"
  exact r1 rfl _ t2
theorem sc_law_told_right:FnScope ["kinds","row","told","number","other","unlike","at"] ["kinds","row","told"] (defScope d_law_told_right):=⟨rfl,rfl,rfl,by decide +kernel,rfl,by decide +kernel,by decide +kernel⟩
theorem ok_law_told_right (F:Fun K "_law_told_right" "_law_told_right" d_law_told_right f fd) (T:Txt K mg aK aC) (U_law_unlike:FnU P w K mg base k "_law_unlike" ["row","other"] (spUnlike)) (U_fewest_changes:FnU P w K mg base k "fewest_changes" ["k","row"] (spFewest32)) (U_is_right:FnU P w K mg base k "is_right" ["k","row"] (spRightP)) (U_can_be_right:FnU P w K mg base k "can_be_right" ["k","row"] (spCan)) (U_nth_filling:FnU P w K mg base k "nth_filling" ["k","row","i"] (spNth)) (U_partners:FnU P w K mg base k "partners" ["k","row"] (spPartners)):FnOk P w K mg base CX0 (k + 1) f fd ["kinds","row","told"] (spTold32):=by
 refine F.ok sc_law_told_right (fun vs H Q E h=>?_) (fun cdv A outer s H vs Q E hr h=>?_)
 ·obtain ⟨kk,a,l,Tu,rfl,_⟩:=h; rfl
 obtain ⟨kk,a,l,Tu,rfl,k1,k4,hro,gT,mn,q⟩:=h
 have hu:=hr.units0
 have hal:=isRow_len hro
 have hk4:kk.toNat <= 4:=by omega
 have hrg:=mn.is.1
 have hl:l.length = a.length:=by simpa using mn.is.2.1
 have hbd:∀ b ∈ l,b < 2 * kk.toNat:=go_bd l [] [] hrg
 have hbl:(brx l).length = a.length:=by unfold brx; rw [List.length_map]; exact hl
 have hrt:=rt_brx hk4 hrg
 have ekk:kk = ((kk.toNat:Nat):Int):=by omega
 have hrb:isRow kk (brx l) = true:=by rw [ekk]; exact isRow_brt hk4 (by omega) hbd
 refine ⟨_,(pss_cons (ps_asg (pv 2) (pg_tupK (n:=2) K rfl (pgs_cons (pg_name (i:=3) sc_law_told_right.nd rfl (Or.inl rfl)) (pgs_cons (pg_name (i:=4) sc_law_told_right.nd rfl (Or.inl rfl)) pgs_nil)))) (pss_cons (ps_set (i:=5) sc_law_told_right.nd rfl (Or.inl rfl) (pe_fn U_law_unlike hr (pa_cons (pv 1) (pa_cons (pv 4) pa_nil)))) (pss_cons (ps_if (PW.pt (pw_or (pt_cmpR (op_neA K hu) (pe_callB (call_lenA K) rfl T.n_len PySem.boot_len (pa_cons (pv 4) pa_nil)) (pe_callB (call_lenA K) rfl T.n_len PySem.boot_len (pa_cons (pv 1) pa_nil)) (nomark _)) (pw_or (pt_not (pt_tru K (pe_fn U_is_right hr (pa_cons (pv 0) (pa_cons (pv 4) pa_nil))))) (pw_or1 (pt_cmpR (op_neA K hu) (pe_callB (call_lenA K) rfl T.n_len PySem.boot_len (pa_cons (pv 5) pa_nil)) (pv 3) (nomark _)))))) (pss_one (ps_ret pe_bl)) pss_nil) (pss_cons (ps_if (PW.pt (pw_or (pt_cmpR (op_neA K hu) (pe_callB (call_lenA K) rfl T.n_len PySem.boot_len (pa_cons (pe_fn U_partners hr (pa_cons (pv 0) (pa_cons (pv 4) pa_nil))) pa_nil)) (pe_callB (call_lenA K) rfl T.n_len PySem.boot_len (pa_cons (pv 1) pa_nil)) (nomark _)) (pw_or1 (pt_cmpR (op_neA K hu) (pe_cmpR (op_eqA K hu) (pv 3) pe_int (nomark _)) (pe_fn U_can_be_right hr (pa_cons (pv 0) (pa_cons (pv 1) pa_nil))) (nomark _))))) (pss_one (ps_ret pe_bl)) pss_nil) (pss_cons (ps_if (pt_cmpR (op_eqA K hu) (pv 3) pe_int (nomark _)) (pss_one (ps_ret (pe_cmpR (op_eqA K hu) (pe_fn U_nth_filling hr (pa_cons (pv 0) (pa_cons (pv 1) (pa_cons pe_int pa_nil)))) (pv 4) (nomark _)))) pss_nil) (pss_cons (ps_set (i:=6) sc_law_told_right.nd rfl (Or.inl rfl) (pe_ix (ix_A K) (pv 5) pe_int (fun _ _=>rfl))) (pss_one (ps_ret (pe_cmpR (op_eqU K hu) (pe_fn U_fewest_changes hr (pa_cons (pv 0) (pa_cons (pe_op op_plus (pe_op op_plus (pe_slice (sl_A K) (pv 1) po_none (po_some (pv 6))) (pe_ix (ix_A K) (pv 4) (pv 6) (fun _ _=>rfl))) (pe_slice (sl_A K) (pv 1) (po_some (pe_op op_plus (pv 6) pe_int)) po_none)) pa_nil))) (pe_tup (pa_cons (pe_op op_sub (pv 3) pe_int) (pa_cons (pv 4) pa_nil))) (nomark _)))))))))),?_⟩
 walk_at "go"
 refine ⟨Tu,_,rfl,SqT.of gT,rfl,?_⟩
 walk_at "go"
 refine ⟨a,l,rfl,hl,hal,fun r H1 hr1 s1 g1=>?_⟩
 have ebl:((brx l).length:Int) = (a.length:Int):=by omega
 walk_at "go"
 rw [ebl,decide_eq_true rfl]
 refine ifq rfl ?_
 walk_at "go"
 refine rightP_use k1 k4 hrb (fun H2 s2=>?_)
 rw [decide_eq_true hrt]
 walk_at "go"
 refine ifq rfl ?_
 have g2:=s2 _ _ g1
 walk_at "go"
 have eul:(unl a l).length = chg a l:=unl_len hl.symm
 refine s_lenL (.inl (SqL.of g2)) ?_
 rw [List.length_map,eul]
 walk_at "go"
 rw [decide_eq_true rfl]
 refine ifq rfl ?_
 walk_at "go"
 refine partners_use k1 k4 hrb hrt (fun r3 xs H3 _ s3 g3 isp=>?_)
 walk_at "go"
 refine s_lenL (.inl (SqL.of g3)) ?_
 rw [show xs.length = a.length from isp.1.trans hbl]
 walk_at "go"
 rw [decide_eq_true rfl]
 refine ifq rfl ?_
 walk_at "go"
 refine can_use k1 k4 hro (fun H4 s4=>?_)
 rw [<- cnt_zero hk4 hal mn]
 walk_at "go"
 rw [decide_eq_true rfl]
 refine ifq rfl ?_
 have s14:=((s1.trans s2).trans s3).trans s4
 have g4:=s4 _ _ (s3 _ _ g2)
 walk_at "go"
 refine ifd (fun h0=>?_) (fun h0=>?_)
 ·have h00:chg a l = 0:=by omega
  have hcp:cnt kk.toNat a > 0:=of_decide_eq_true (by rw [<- cnt_zero hk4 hal mn]; exact decide_eq_true h0)
  walk_at "go"
  refine nth_use k1 k4 hro (by decide) hcp (fun bs H5 s5 hnf hbs=>?_)
  have e5:bs = l:=nth_first hk4 hal mn h00 hnf hbs
  subst e5
  walk_at "go"
  rw [show decide (brt bs = brx bs) = true from decide_eq_true rfl]
  exact q _ (s14.trans s5)
 ·have hpos:0 < (unl a l).length:=by omega
  obtain ⟨i,hi⟩:∃ i,(unl a l)[0]? = some i:=⟨_,List.getElem?_eq_getElem hpos⟩
  obtain ⟨hi1,hi2⟩:=List.mem_filter.mp (List.mem_of_getElem? hi)
  have hi1:i < a.length:=List.mem_range.mp hi1
  have hi2:okc (a.getD i 0) (l.getD i 0) = false:=by simpa using hi2
  walk_at "go"
  refine s_ixL (SqL.of g4) (v:=.int (i:Int)) (show atI (nL (unl a l)) ((0:Nat):Int) = _ from atI_nat (by rw [List.getElem?_map,hi]; rfl)) ?_
  obtain ⟨b,hb⟩:∃ b,l[i]? = some b:=⟨_,List.getElem?_eq_getElem (by omega)⟩
  have hd:(brx l)[i]? = some (brs.getD b 0):=by unfold brx; rw [List.getElem?_map,hb]; rfl
  have eb:l.getD i 0 = b:=by rw [List.getD_eq_getElem?_getD,hb]; rfl
  walk_at "go"
  refine s_ixT (small (by omega)) (atI_nat hd) ?_
  rw [cut_to a (k:=(i:Int)) (by omega),Int.toNat_natCast]
  refine s_addT (small (by rw [List.length_take,List.length_singleton]; omega)) ?_
  walk_at "go"
  rw [show ((i:Int) + 1) = ((i + 1:Nat):Int) by omega]
  rw [cut_from]
  refine s_addT (small (by rw [List.length_append,List.length_take,List.length_drop,List.length_singleton]; omega)) ?_
  rw [set_cut hi1]
  have hbk:b < 2 * kk.toNat:=hbd b (List.mem_of_getElem? hb)
  walk_at "go"
  refine few32_use k1 k4 (isRow_set hro (sgn_bk k1 k4 hbk)) (fun v H5 s5 res=>?_)
  have mb:=mn.back hk4 hi1 hi2
  rw [eb] at mb
  rcases res with ⟨z,_⟩ | ⟨_,T2,l2,rfl,g2',mn2⟩
  ·exfalso
   rw [List.length_set] at z
   have:=rg_even hrg
   simp only at this
   omega
  have eu:=mn2.uniq mb
  have e2:l2 = l:=congrArg Prod.snd eu
  have e1:((chg (a.set i (brs.getD b 0)) l2:Nat):Int) = ((chg a l:Nat):Int) - 1:=congrArg Prod.fst eu
  subst e2
  rw [e1] at g2'
  walk_at "go"
  refine ⟨small (show 2 <= 1000 by decide),fun T3 hT3=>?_⟩
  have t6:=same_new hT3 (.tup [.int (((chg a l2:Nat):Int) - 1),tx (brx l2)])
  refine s_smU (t6 _ _ g2') upd_same rfl ?_
  exact q _ ((s14.trans s5).trans t6)
theorem sc_law_of_one_kind:FnScope ["row","early","open_ones","sign"] ["row"] (defScope d_law_of_one_kind):=⟨rfl,rfl,rfl,by decide +kernel,rfl,by decide +kernel,by decide +kernel⟩
theorem ok_law_of_one_kind (F:Fun K "_law_of_one_kind" "_law_of_one_kind" d_law_of_one_kind f fd) (T:Txt K mg aK aC)  : FnOk P w K mg base CX0 (k + 1) f fd ["row"] (spOne32):=by
 refine F.ok sc_law_of_one_kind (fun vs H Q E h=>?_) (fun cdv A outer s H vs Q E hr h=>?_)
 ·obtain ⟨a,rfl,_⟩:=h; rfl
 obtain ⟨a,rfl,ha,hc,q⟩:=h
 have hu:=hr.units0
 refine ⟨_,(pss_cons (ps_set (i:=1) sc_law_of_one_kind.nd rfl (Or.inl rfl) pe_int) (pss_cons (ps_set (i:=2) sc_law_of_one_kind.nd rfl (Or.inl rfl) pe_int) (pss_cons (ps_for PassesOwn.never rfl (pi_str (pv 0)) (pg_name (i:=3) sc_law_of_one_kind.nd rfl (Or.inl rfl)) (pss_one (ps_if (pt_cmpR (op_eqA K hu) (pv 3) (pe_tx (l:=[40]) (by decide +kernel)) (nomark _)) (pss_one (ps_set (i:=2) sc_law_of_one_kind.nd rfl (Or.inl rfl) (pe_op op_plus (pv 2) pe_int))) (pss_one (ps_if (pt_cmpR op_gt (pv 2) pe_int (nomark _)) (pss_one (ps_set (i:=2) sc_law_of_one_kind.nd rfl (Or.inl rfl) (pe_op op_sub (pv 2) pe_int))) (pss_one (ps_set (i:=1) sc_law_of_one_kind.nd rfl (Or.inl rfl) (pe_op op_plus (pv 1) pe_int)))))))) (pss_one (ps_ret (pe_op op_plus (pe_op op_fdiv (pe_op op_plus (pv 1) pe_int) pe_int) (pe_op op_fdiv (pe_op op_plus (pv 2) pe_int) pe_int))))))),?_⟩
 walk_at "go"
 refine for_str (fun i σ H'=>∃ (o3:Option V),σ = [some (tx a),some (.int ((eo (a.take i)).1:Nat)),some (.int ((eo (a.take i)).2:Nat)),o3]/\Same H H') ⟨_,rfl,Same.refl _⟩ ?_ ?_
 ·rintro i c σ H1 hx ⟨o3,rfl,s1⟩
  have hi:i < a.length:=(List.getElem?_eq_some_iff.mp hx).1
  have ea:a.take (i + 1) = a.take i ++ [c]:=by rw [List.take_add_one,hx]; rfl
  rw [ea,eo_snoc]
  generalize eo (a.take i) = eo0
  obtain ⟨e,o⟩:=eo0
  walk_at "go"
  rcases hc c (List.mem_of_getElem? hx) with rfl | rfl
  ·refine ifp rfl ?_
   walk_at "go"
   exact ⟨_,rfl,s1⟩
  ·refine ifq rfl ?_
   walk_at "go"
   refine ifd (fun h2=>?_) (fun h2=>?_)
   ·have h3:0 < o:=by have:(0:Int) < (o:Int):=h2; omega
    have e1:sx (e,o) 41 = (e,o - 1):=by unfold sx; rw [if_neg (by decide),if_pos h3]
    walk_at "go"
    refine ⟨some (tx [41]),?_,s1⟩
    rw [e1,show ((o - 1:Nat):Int) = (o:Int) - 1 by omega]
    rfl
   ·have h3:¬ 0 < o:=fun z=>h2 (show (0:Int) < (o:Int) by omega)
    have e1:sx (e,o) 41 = (e + 1,o):=by unfold sx; rw [if_neg (by decide),if_neg h3]
    walk_at "go"
    refine ⟨some (tx [41]),?_,s1⟩
    rw [e1]
    rfl
 ·rintro σ H1 ⟨o3,rfl,s1⟩
  rw [List.take_length]
  generalize hx:eo a = eo0 at *
  obtain ⟨e,o⟩:=eo0
  walk_at "go"
  exact q _ s1
theorem sc_law_fewest:FnScope ["kinds","row","many","least","i","size","last","some","m","ahead","within","place","pair","number","places"] ["kinds","row"] (defScope d_law_fewest):=⟨rfl,rfl,rfl,by decide +kernel,rfl,by decide +kernel,by decide +kernel⟩
theorem ok_law_fewest (F:Fun K "_law_fewest" "_law_fewest" d_law_fewest f fd) (T:Txt K mg aK aC)  : FnOk P w K mg base CX0 (k + 1) f fd ["kinds","row"] (spLeast32):=by
 refine F.ok sc_law_fewest (fun vs H Q E h=>?_) (fun cdv A outer s H vs Q E hr h=>?_)
 ·obtain ⟨kk,a,rfl,_⟩:=h; rfl
 obtain ⟨kk,a,rfl,k1,k4,hro,hev,q⟩:=h
 have hu:=hr.units0
 have hu2:=units1 hr
 have hu5:=units5 hr
 have hal:=isRow_len hro
 have hk4:kk.toNat <= 4:=by omega
 refine ⟨_,(pss_cons (ps_set (i:=2) sc_law_fewest.nd rfl (Or.inl rfl) (pe_callB (call_lenA K) rfl T.n_len PySem.boot_len (pa_cons (pv 1) pa_nil)))  (pss_cons (ps_set (i:=3) sc_law_fewest.nd rfl (Or.inl rfl) pe_dnewT)  (pss_cons (ps_for PassesOwn.never rfl (pi_range1 rfl T.n_range (pa_cons (pe_op op_plus (pv 2) pe_int) pa_nil)) (pg_name (i:=4) sc_law_fewest.nd rfl (Or.inl rfl))   (pss_one (ps_dput hu2 (pv 3) (pe_tup (pa_cons (pv 4) (pa_cons (pv 4) pa_nil))) (pe_tup (pa_cons pe_int (pa_cons (pe_lst pa_nil) pa_nil))) rfl)))  (pss_cons (ps_for PassesOwn.never rfl (pi_range3 rfl T.n_range (pa_cons pe_int (pa_cons (pe_op op_plus (pv 2) pe_int) (pa_cons pe_int pa_nil)))) (pg_name (i:=5) sc_law_fewest.nd rfl (Or.inl rfl))   (pss_one (ps_for PassesOwn.never rfl (pi_range1 rfl T.n_range (pa_cons (pe_op op_plus (pe_op op_sub (pv 2) (pv 5)) pe_int) pa_nil)) (pg_name (i:=4) sc_law_fewest.nd rfl (Or.inl rfl))   (pss_cons (ps_set (i:=6) sc_law_fewest.nd rfl (Or.inl rfl) (pe_op op_sub (pe_op op_plus (pv 4) (pv 5)) pe_int))  (pss_cons (ps_set (i:=7) sc_law_fewest.nd rfl (Or.inl rfl) (pe_lst pa_nil))  (pss_cons (ps_for PassesOwn.never rfl (pi_range3 rfl T.n_range (pa_cons (pv 4) (pa_cons (pv 6) (pa_cons pe_int pa_nil)))) (pg_name (i:=8) sc_law_fewest.nd rfl (Or.inl rfl))   (pss_cons (ps_set (i:=9) sc_law_fewest.nd rfl (Or.inl rfl) (pe_dget hu2 (pv 3) (pe_tup (pa_cons (pv 4) (pa_cons (pv 8) pa_nil))) (fun _ _=>rfl)))  (pss_cons (ps_set (i:=10) sc_law_fewest.nd rfl (Or.inl rfl) (pe_dget hu2 (pv 3) (pe_tup (pa_cons (pe_op op_plus (pv 8) pe_int) (pa_cons (pv 6) pa_nil))) (fun _ _=>rfl)))  (pss_one (ps_for PassesOwn.never rfl (pi_range3 rfl T.n_range (pa_cons pe_int (pa_cons (pe_op op_times pe_int (pv 0)) (pa_cons pe_int pa_nil)))) (pg_name (i:=11) sc_law_fewest.nd rfl (Or.inl rfl))   (pss_cons (ps_set (i:=12) sc_law_fewest.nd rfl (Or.inl rfl) (pe_slice (sl_A K) (pe_tx (l:=[40,41,91,93,123,125,60,62]) (by decide +kernel)) (po_some (pv 11)) (po_some (pe_op op_plus (pv 11) pe_int))))  (pss_cons (ps_set (i:=13) sc_law_fewest.nd rfl (Or.inl rfl) (pe_op op_plus (pe_callTy call_intA rfl T.n_int PyProof.Rows.boot_int (pa_cons (pe_cmpR (op_notinA K) (pe_ix (ix_A K) (pv 1) (pv 8) (fun _ _=>rfl)) (pe_tup (pa_cons (pe_tx (l:=[63]) (by decide +kernel)) (pa_cons (pe_ix (ix_A K) (pv 12) pe_int (fun _ _=>rfl)) pa_nil))) (by with_unfolding_all rfl)) pa_nil)) (pe_callTy call_intA rfl T.n_int PyProof.Rows.boot_int (pa_cons (pe_cmpR (op_notinA K) (pe_ix (ix_A K) (pv 1) (pv 6) (fun _ _=>rfl)) (pe_tup (pa_cons (pe_tx (l:=[63]) (by decide +kernel)) (pa_cons (pe_ix (ix_A K) (pv 12) pe_int (fun _ _=>rfl)) pa_nil))) (by with_unfolding_all rfl)) pa_nil))))  (pss_cons (ps_set (i:=14) sc_law_fewest.nd rfl (Or.inl rfl) (pe_op op_plus (pe_op op_plus (pe_op op_plus (pe_ix (ix_A K) (pv 9) pe_int (fun _ _=>rfl)) (pe_lst (pa_cons (pv 11) pa_nil))) (pe_ix (ix_A K) (pv 10) pe_int (fun _ _=>rfl))) (pe_lst (pa_cons (pe_op op_plus (pv 11) pe_int) pa_nil))))  (pss_one (ps_expr (pe_bmK K PySem.F.plainAttrs_list PySem.F.slot_list_append PySem.F.type_list_append mt_append (pv 7) (pa_cons (pe_tup (pa_cons (pe_op op_plus (pe_op op_plus (pv 13) (pe_ix (ix_A K) (pv 9) pe_int (fun _ _=>rfl))) (pe_ix (ix_A K) (pv 10) pe_int (fun _ _=>rfl))) (pa_cons (pv 14) pa_nil))) pa_nil))))))))))))  (pss_one (ps_dput hu2 (pv 3) (pe_tup (pa_cons (pv 4) (pa_cons (pe_op op_plus (pv 6) pe_int) pa_nil))) (pe_callB (call_minT K rfl hu5) rfl T.n_min PyProof.Rows.boot_min (pa_cons (pv 7) pa_nil)) rfl))))))))  (pss_cons (ps_asg (pe_dget hu2 (pv 3) (pe_tup (pa_cons pe_int (pa_cons (pv 2) pa_nil))) (fun _ _=>rfl)) (pg_tupK (n:=2) K rfl (pgs_cons (pg_name (i:=13) sc_law_fewest.nd rfl (Or.inl rfl)) (pgs_cons (pg_name (i:=14) sc_law_fewest.nd rfl (Or.inl rfl)) pgs_nil))))  (pss_one (ps_ret (pe_tup (pa_cons (pv 13) (pa_cons (pe_bmK K PySem.F.plainAttrs_str PySem.F.slot_str_join PySem.F.type_str_join (mt_join K) (pe_tx (l:=[]) (by decide +kernel)) (pa_cons (pe_comp (own:=["place"]) (sel:=[]) (compOk_of (osc:=(defScope d_law_fewest)) (N:=["kinds","row","many","least","i","size","last","some","m","ahead","within","place","pair","number","places"]) (by decide +kernel)) rfl (pi_listK K (pv 14)) (fun _ _ _ _ _=>(pg_name (i:=0) (show (["place"]:List Str).Nodup from by decide +kernel) rfl (Or.inl rfl))) (gk_name (by decide)) (fun _ _ _ _ _=>pif_nil) (fun _ _ _ _ _=>(pe_ix (ix_A K) (pe_tx (l:=[40,41,91,93,123,125,60,62]) (by decide +kernel)) (pv 0) (fun _ _=>rfl)))) pa_nil)) pa_nil)))))))))),?_⟩
 walk_at "go"
 intro d hd
 walk_at "go"
 refine ⟨_,rfl,by omega,by omega,?_⟩
 have etn:((a.length:Int) + 1).toNat = a.length + 1:=by omega
 rw [etn]
 refine for_rng (fun i σ H'=>∃ (kvs:List (List Key × V)) (o4 o5 o6 o7 o8 o9 o10 o11 o12 o13 o14:Option V),σ = [some (.int kk),some (tx a),some (.int (a.length:Int)),some (.ref d),o4,o5,o6,o7,o8,o9,o10,o11,o12,o13,o14]/\Same H H'/\H' d = some (.dT kvs)/\TD kk.toNat a d H' kvs (fun x y=>x = y/\x < i)/\kvs.length <= i)
  ⟨[],_,_,_,_,_,_,_,_,_,_,_,rfl,same_new hd _,upd_same,fun x y h=>absurd h.2 (Nat.not_lt_zero _),Nat.le_refl _⟩ ?_ ?_
 ·rintro i σ H1 hi ⟨kvs,o4,o5,o6,o7,o8,o9,o10,o11,o12,o13,o14,rfl,s1,gd,td,kl⟩
  have ei:(0:Int) + (i:Int) = (i:Int):=by omega
  rw [ei]
  walk_at "go"
  refine ⟨small (show 0 <= 1000 by decide),fun p hp=>?_⟩
  have t2:=same_new hp (.lst [])
  have g2:(upd H1 p (.lst [])) p = some (.lst (nL [])):=upd_same
  have npd:p ≠ d:=(ne_of_none gd hp).symm
  have gd2:=t2 _ _ gd
  generalize upd H1 p _ = H2 at *
  walk_at "go"
  refine ⟨small (show 2 <= 1000 by decide),fun T1 hT1=>?_⟩
  have t3:=same_new hT1 (.tup [.int 0,.ref p])
  have g3:(upd H2 T1 (.tup [.int 0,.ref p])) T1 = _:=upd_same
  have ntd:T1 ≠ d:=(ne_of_none gd2 hT1).symm
  have gd3:=t3 _ _ gd2
  generalize upd H2 T1 _ = H3 at *
  walk_at "go"
  refine ⟨small (show 2 <= 1000 by decide),fun T2 hT2=>?_⟩
  have t4:=same_new hT2 (.tup [.int (i:Int),.int (i:Int)])
  have g4:(upd H3 T2 (.tup [.int (i:Int),.int (i:Int)])) T2 = _:=upd_same
  have gd4:=t4 _ _ gd3
  have t24:=(t2.trans t3).trans t4
  generalize upd H3 T2 _ = H4 at *
  have lk:kvs.length < sizeLine:=by rw [sizeLine_eq]; omega
  refine ⟨d,_,rfl,DPut.t (k:=ky i i) gd4 g4 lk,?_⟩
  refine ⟨_,some (.int (i:Int)),o5,o6,o7,o8,o9,o10,o11,o12,o13,o14,rfl,?_,upd_same,?_,Nat.le_trans (length_putK _ _ _) (by omega)⟩
  ·exact fun b o z=>by rw [upd_ne (ne_of_none z hd)]; exact t24 _ _ (s1 _ _ z)
  ·exact (td.keep (SameBut1.of t24)).put (i:=i) (j:=i) (x:=(0,[])) (fun x y h=>(Nat.lt_or_ge x i).elim (fun z=>.inl ⟨h.1,z⟩) (fun z=>.inr ⟨by omega,by omega⟩)) ntd npd (t4 _ _ g3) (t4 _ _ (t3 _ _ g2)) (mn_nil _ _ _)
 rintro σ H1 ⟨kvs,o4,o5,o6,o7,o8,o9,o10,o11,o12,o13,o14,rfl,s1,gd,td,kl⟩
 walk_at "go"
 refine ⟨_,_,2,rfl,⟨by decide,by decide,small_two (by omega) (by omega) (by omega) (by omega)⟩,?_⟩
 have er:rN (2:Int) ((a.length:Int) + 1) 2 = a.length / 2:=by rw [rN_two]; omega
 rw [er]
 refine for_rng3 (fun u σ H'=>∃ (kvs:List (List Key × V)) (o4 o5 o6 o7 o8 o9 o10 o11 o12 o13 o14:Option V),σ = [some (.int kk),some (tx a),some (.int (a.length:Int)),some (.ref d),o4,o5,o6,o7,o8,o9,o10,o11,o12,o13,o14]/\Same H H'/\H' d = some (.dT kvs)/\TD kk.toNat a d H' kvs (PSp a.length (u + 1) 0)/\kvs.length <= 41 + u * 41)
  ⟨kvs,_,_,_,_,_,_,_,_,_,_,_,rfl,s1,gd,td.imp (fun x y ⟨t,h1,h2,h3⟩=>⟨by omega,by omega⟩),by omega⟩ ?_ ?_
 rotate_left
 ·rintro σ H2 ⟨kvs,o4,o5,o6,o7,o8,o9,o10,o11,o12,o13,o14,rfl,s2,gd,td,kl⟩
  walk_at "go"
  refine ⟨small (show 2 <= 1000 by decide),fun T1 hT1=>?_⟩
  have t3:=same_new hT1 (.tup [.int 0,.int (a.length:Int)])
  obtain ⟨T',p,x,dg,f1,f2,mn⟩:=td.at (i:=0) (j:=a.length) ⟨a.length / 2,by omega,by omega,.inl (by omega)⟩ gd hT1
  refine ⟨d,_,rfl,dg,?_⟩
  have g1:=t3 _ _ f1
  have g2:=t3 _ _ f2
  have s3:=s2.trans t3
  clear dg
  generalize upd H2 T1 _ = H3 at *
  refine ⟨T',_,rfl,SqT.of g1,rfl,?_⟩
  obtain ⟨m1,m2,m3⟩:=mn.is
  rw [List.drop_zero] at m3
  have hlx:x.2.length = a.length:=by omega
  have hbx:∀ b ∈ x.2,b < 8:=fun b hb=>by have:=go_bd x.2 [] [] m1 b hb; omega
  walk_at "go"
  refine ⟨p,rfl,⟨_,SqL.of g2⟩,?_⟩
  refine comp_map (fun x=>match x with | .int i=>tx [brs.getD i.toNat 0] | y=>y) (small (by rw [List.length_map]; omega)) g2 (fun D H4 hD s4 h4=>?_) (fun D j y H4 R hD hy s4 hR=>?_)
  ·have e:((nL x.2).map fun x=>match x with | .int i=>tx [brs.getD i.toNat 0] | y=>y) = (x.2.map fun b=>[brs.getD b 0]).map tx:=by
    unfold nL
    rw [List.map_map,List.map_map]
    rfl
   rw [e] at h4
   walk_at "go"
   have ef:(x.2.map fun b=>[brs.getD b 0]).flatten = brx x.2:=by
    unfold brx
    rw [<- flat_one (x.2.map fun b=>brs.getD b 0),List.map_map]; rfl
   refine s_join (xss:=x.2.map fun b=>[brs.getD b 0]) (SqL.of h4) (by rw [ef,List.length_map]; unfold brx; rw [List.length_map]; omega) ?_
   rw [ef]
   walk_at "go"
   refine ⟨small (show 2 <= 1000 by decide),fun T5 hT5=>?_⟩
   refine q T5 x.2 _ ((s3.trans s4).trans (same_new hT5 _)) (by rw [upd_same,m3]) ?_
   rw [<- m3]
   exact mn
  ·rw [List.getElem?_map] at hy
   obtain ⟨b,hb,rfl⟩:=Option.map_eq_some_iff.mp hy
   have hb8:=hbx b (List.mem_of_getElem? hb)
   walk_at "go"
   refine s_ixT (small (by decide)) (atI_nat (brs_get hb8)) ?_
   exact hR H4 (Same.refl _)
 clear gd td kl
 rintro u σ H2 hu3 ⟨kvs,p4,p5,p6,p7,p8,p9,p10,p11,p12,p13,p14,rfl,s2,gd,td,kl⟩
 have es:(2:Int) + (u:Int) * 2 = ((2 * u + 2:Nat):Int):=by omega
 rw [es]
 walk_at "go"
 refine ⟨_,rfl,by omega,by omega,?_⟩
 have en:((a.length:Int) - ((2 * u + 2:Nat):Int) + 1).toNat = a.length - (2 * u + 2) + 1:=by omega
 rw [en]
 refine for_rng (fun i σ H'=>∃ (kvs:List (List Key × V)) (o4 o6 o7 o8 o9 o10 o11 o12 o13 o14:Option V),σ = [some (.int kk),some (tx a),some (.int (a.length:Int)),some (.ref d),o4,some (.int ((2 * u + 2:Nat):Int)),o6,o7,o8,o9,o10,o11,o12,o13,o14]/\Same H H'/\H' d = some (.dT kvs)/\TD kk.toNat a d H' kvs (PSp a.length (u + 1) i)/\kvs.length <= 41 + u * 41 + i)
  ⟨kvs,_,_,_,_,_,_,_,_,_,_,rfl,s2,gd,td,by omega⟩ ?_ ?_
 rotate_left
 ·rintro σ H3 ⟨kvs,o4,o6,o7,o8,o9,o10,o11,o12,o13,o14,rfl,s3,gd,td,kl⟩
  exact ⟨kvs,_,_,_,_,_,_,_,_,_,_,_,rfl,s3,gd,td.imp (fun x y ⟨t,h1,h2,h3⟩=>⟨t,h1,h2,by omega⟩),by omega⟩
 clear gd td kl
 rintro i σ H3 hi ⟨kvs,o4,o6,o7,o8,o9,o10,o11,o12,o13,o14,rfl,s3,gd,td,kl⟩
 have ei:(0:Int) + (i:Int) = (i:Int):=by omega
 rw [ei]
 walk_at "go"
 obtain ⟨last,elast⟩:∃ last:Nat,last = i + 2 * u + 1:=⟨_,rfl⟩
 have el:(i:Int) + ((2 * u + 2:Nat):Int) - 1 = (last:Int):=by omega
 rw [el]
 refine ⟨small (show 0 <= 1000 by decide),fun sm hsm=>?_⟩
 have t4:=same_new hsm (.lst [])
 have g4:(upd H3 sm (.lst [])) sm = some (.lst []):=upd_same
 generalize upd H3 sm _ = H4 at *
 walk_at "go"
 refine ⟨_,_,2,rfl,⟨by decide,by decide,small_two (by omega) (by omega) (by omega) (by omega)⟩,?_⟩
 have er2:rN (i:Int) (last:Int) 2 = u + 1:=by rw [rN_two]; omega
 rw [er2]
 refine for_rng3 (fun t σ H'=>∃ (vs:List V) (L:List (Int × List Nat)) (o8 o9 o10 o11 o12 o13 o14:Option V),σ = [some (.int kk),some (tx a),some (.int (a.length:Int)),some (.ref d),some (.int (i:Int)),some (.int ((2 * u + 2:Nat):Int)),some (.int (last:Int)),some (.ref sm),o8,o9,o10,o11,o12,o13,o14]/\Same H3 H'/\H' sm = some (.lst vs)/\Tq sm H' vs L/\Cov kk.toNat a i last t 0 L)
  ⟨[],[],_,_,_,_,_,_,_,rfl,t4,g4,Tq.nil _ _,Cov.nil _ _ _ _⟩ ?_ ?_
 rotate_left
 ·rintro σ H5 ⟨vs,L,o8,o9,o10,o11,o12,o13,o14,rfl,s5,g5,tq,cov⟩
  walk_at "go"
  have hpos:0 < (u + 1) * kk.toNat:=Nat.mul_pos (by omega) (by omega)
  refine ⟨sm,vs,L,last + 1 - i,rfl,g5,tq.tps,by rw [cov.len]; omega,fun x hx=>by have:=(cov.ok x hx).2.1; omega,fun j x v hj hv hmin=>?_⟩
  obtain ⟨T',p,e1,_,_,f1,f2⟩:=tq.2 j x hj
  rw [hv] at e1
  cases e1
  have mnx:=cov.least (by omega) (List.mem_of_getElem? hj) hmin
  have gd5:=s5 _ _ gd
  have ntd:T' ≠ d:=fun z=>by rw [z,gd5] at f1; cases f1
  have npd:p ≠ d:=fun z=>by rw [z,gd5] at f2; cases f2
  walk_at "go"
  rw [show ((last:Int) + 1) = ((last + 1:Nat):Int) by omega]
  refine ⟨small (show 2 <= 1000 by decide),fun T2 hT2=>?_⟩
  have t6:=same_new hT2 (.tup [.int (i:Int),.int ((last + 1:Nat):Int)])
  have g6:(upd H5 T2 (.tup [.int (i:Int),.int ((last + 1:Nat):Int)])) T2 = _:=upd_same
  have gd6:=t6 _ _ gd5
  have lk:kvs.length < sizeLine:=by rw [sizeLine_eq]; omega
  generalize upd H5 T2 _ = H6 at *
  refine ⟨d,_,rfl,DPut.t (k:=ky i (last + 1)) gd6 g6 lk,?_⟩
  refine ⟨_,some (.int (i:Int)),some (.int (last:Int)),some (.ref sm),o8,o9,o10,o11,o12,o13,o14,rfl,?_,upd_same,?_,Nat.le_trans (length_putK _ _ _) (by omega)⟩
  ·exact fun b o z=>by rw [upd_ne (ne_of_none z hd)]; exact t6 _ _ (s5 _ _ (s3 _ _ z))
  ·refine (td.keep (SameBut1.of (s5.trans t6))).put (i:=i) (j:=last + 1) (x:=x) (fun x' y' h=>?_) ntd npd (t6 _ _ f1) (t6 _ _ f2) mnx
   obtain ⟨t',h1,h2,h3⟩:=h
   by_cases c:t' = u + 1/\x' = i
   ·exact .inr ⟨c.2,by omega⟩
   ·exact .inl ⟨t',h1,h2,by omega⟩
 rintro t σ H5 ht ⟨vs,L,o8,o9,o10,o11,o12,o13,o14,rfl,s5,g5,tq,cov⟩
 obtain ⟨m,em⟩:∃ m:Nat,m = i + 2 * t:=⟨_,rfl⟩
 have em2:(i:Int) + (t:Int) * 2 = (m:Int):=by omega
 rw [em2]
 walk_at "go"
 refine ⟨small (show 2 <= 1000 by decide),fun T1 hT1=>?_⟩
 obtain ⟨Ta,pa',x,dg1,a1,a2,mnx⟩:=td.at (i:=i) (j:=m) ⟨t,by omega,by omega,.inl (by omega)⟩ (s5 _ _ gd) hT1
 have t6:=same_new hT1 (.tup [.int (i:Int),.int (m:Int)])
 refine ⟨d,_,rfl,dg1,?_⟩
 have s6:=s5.trans t6
 have g6:=t6 _ _ g5
 have tq6:=tq.keep (SameBut1.of t6)
 clear dg1
 generalize upd H5 T1 _ = H6 at *
 walk_at "go"
 rw [show ((m:Int) + 1) = ((m + 1:Nat):Int) by omega]
 refine ⟨small (show 2 <= 1000 by decide),fun T2 hT2=>?_⟩
 obtain ⟨Tb,pb,y,dg2,b1,b2,mny⟩:=td.at (i:=m + 1) (j:=last) ⟨u - t,by omega,by omega,.inl (by omega)⟩ (s6 _ _ gd) hT2
 have t7:=same_new hT2 (.tup [.int ((m + 1:Nat):Int),.int (last:Int)])
 refine ⟨d,_,rfl,dg2,?_⟩
 have s7:=s6.trans t7
 have g7:=t7 _ _ g6
 have tq7:=tq6.keep (SameBut1.of t7)
 clear dg2
 generalize upd H6 T2 _ = H7 at *
 walk_at "go"
 refine ⟨_,_,2,rfl,⟨by decide,by decide,small_two (by omega) (by omega) (by omega) (by omega)⟩,?_⟩
 have er3:rN (0:Int) (2 * kk) 2 = kk.toNat:=by rw [rN_two]; omega
 rw [er3]
 have hlx:x.2.length <= 40:=by have:=mnx.is.2.1; omega
 have hly:y.2.length <= 40:=by have:=mny.is.2.1; omega
 refine for_rng3 (fun w σ H'=>∃ (vs:List V) (L:List (Int × List Nat)) (o11 o12 o13 o14:Option V),σ = [some (.int kk),some (tx a),some (.int (a.length:Int)),some (.ref d),some (.int (i:Int)),some (.int ((2 * u + 2:Nat):Int)),some (.int (last:Int)),some (.ref sm),some (.int (m:Int)),some (.ref Ta),some (.ref Tb),o11,o12,o13,o14]/\Same H3 H'/\H' sm = some (.lst vs)/\Tq sm H' vs L/\Cov kk.toNat a i last t w L)
  ⟨vs,L,_,_,_,_,rfl,s7,g7,tq7,cov⟩ ?_ ?_
 rotate_left
 ·rintro σ H8 ⟨vs,L,o11,o12,o13,o14,rfl,s8,g8,tq8,cov8⟩
  exact ⟨vs,L,_,_,_,_,_,_,_,rfl,s8,g8,tq8,cov8.next⟩
 clear s5 g5 tq cov s6 g6 tq6 s7 g7 tq7 t6 t7 t4 g4
 rintro w σ H8 hw ⟨vs,L,o11,o12,o13,o14,rfl,s8,g8,tq8,cov8⟩
 have ew:(0:Int) + (w:Int) * 2 = ((2 * w:Nat):Int):=by omega
 rw [ew]
 walk_at "go"
 have ecut:cutL [40,41,91,93,123,125,60,62] (some ((2 * w:Nat):Int)) (some (((2 * w:Nat):Int) + 2)) = [brs.getD (2 * w) 0,brs.getD (2 * w + 1) 0]:=by
  rw [show (((2 * w:Nat):Int) + 2) = ((2 * w + 2:Nat):Int) by omega]
  exact pair_cut (by omega)
 rw [ecut]
 obtain ⟨c,hc⟩:∃ c,a[m]? = some c:=⟨_,List.getElem?_eq_getElem (by omega)⟩
 obtain ⟨e,he⟩:∃ e,a[last]? = some e:=⟨_,List.getElem?_eq_getElem (by omega)⟩
 have ec:a.getD m 0 = c:=by rw [List.getD_eq_getElem?_getD,hc]; rfl
 have ee:a.getD last 0 = e:=by rw [List.getD_eq_getElem?_getD,he]; rfl
 refine s_ixT (small (by omega)) (atI_nat hc) ?_
 walk_at "go"
 refine s_ixT (small (show 2 <= 1000 by decide)) (c:=brs.getD (2 * w) 0) rfl ?_
 walk_at "go"
 refine ⟨small (show 2 <= 1000 by decide),fun T3 hT3=>?_⟩
 have t9:=same_new hT3 (.tup [tx [63],tx [brs.getD (2 * w) 0]])
 refine .inr ⟨T3,_,rfl,.inr (SqT.of upd_same),rfl,rfl,?_⟩
 rw [in_2x]
 have s9:=s8.trans t9
 have g9:=t9 _ _ g8
 have tq9:=tq8.keep (SameBut1.of t9)
 generalize upd H8 T3 _ = H9 at *
 walk_at "go"
 refine s_ixT (small (by omega)) (atI_nat he) ?_
 walk_at "go"
 refine s_ixT (small (show 2 <= 1000 by decide)) (c:=brs.getD (2 * w + 1) 0) rfl ?_
 walk_at "go"
 refine ⟨small (show 2 <= 1000 by decide),fun T4 hT4=>?_⟩
 have t10:=same_new hT4 (.tup [tx [63],tx [brs.getD (2 * w + 1) 0]])
 refine .inr ⟨T4,_,rfl,.inr (SqT.of upd_same),rfl,rfl,?_⟩
 rw [in_2x]
 have s10:=s9.trans t10
 have g10:=t10 _ _ g9
 have tq10:=tq9.keep (SameBut1.of t10)
 generalize upd H9 T4 _ = H10 at *
 walk_at "go"
 have en1:(if (if true = true then !decide (c = 63\/c = brs.getD (2 * w) 0) else decide (c = 63\/c = brs.getD (2 * w) 0)) = true then (1:Int) else 0) = ((cs1 c (2 * w):Nat):Int):=cs1_int c (2 * w)
 have en2:(if (if true = true then !decide (e = 63\/e = brs.getD (2 * w + 1) 0) else decide (e = 63\/e = brs.getD (2 * w + 1) 0)) = true then (1:Int) else 0) = ((cs1 e (2 * w + 1):Nat):Int):=cs1_int e (2 * w + 1)
 rw [en1,en2]
 have A1:=s10 _ _ a1
 have A2:=s10 _ _ a2
 have B1:=s10 _ _ b1
 have B2:=s10 _ _ b2
 have hsm0:H3 sm = none:=hsm
 clear s8 g8 tq8 s9 g9 tq9 t9 t10 en1 en2
 refine s_ixU (SqT.of A1) (v:=.ref pa') rfl ?_
 walk_at "go"
 refine ⟨small (show 1 <= 1000 by decide),fun d1 hd1=>?_⟩
 have t1:=same_new hd1 (.lst [.int ((2 * w:Nat):Int)])
 have k1':(upd H10 d1 (.lst [.int ((2 * w:Nat):Int)])) d1 = _:=upd_same
 generalize upd H10 d1 _ = I1 at *
 refine s_addL (t1 _ _ A2) k1' (small (by rw [List.length_map]; simp; omega)) (fun d2 hd2=>?_)
 have t2:=same_new hd2 (.lst (nL x.2 ++ [.int ((2 * w:Nat):Int)]))
 have k2':(upd I1 d2 (.lst (nL x.2 ++ [.int ((2 * w:Nat):Int)]))) d2 = _:=upd_same
 generalize upd I1 d2 _ = I2 at *
 walk_at "go"
 refine s_ixU (SqT.of (t2 _ _ (t1 _ _ B1))) (v:=.ref pb) rfl ?_
 refine s_addL k2' (t2 _ _ (t1 _ _ B2)) (small (by simp; omega)) (fun d3 hd3=>?_)
 have t3:=same_new hd3 (.lst (nL x.2 ++ [.int ((2 * w:Nat):Int)] ++ nL y.2))
 have k3':(upd I2 d3 (.lst (nL x.2 ++ [.int ((2 * w:Nat):Int)] ++ nL y.2))) d3 = _:=upd_same
 generalize upd I2 d3 _ = I3 at *
 walk_at "go"
 rw [show (((2 * w:Nat):Int) + 1) = ((2 * w + 1:Nat):Int) by omega]
 refine ⟨small (show 1 <= 1000 by decide),fun d4 hd4=>?_⟩
 have t4:=same_new hd4 (.lst [.int ((2 * w + 1:Nat):Int)])
 have k4':(upd I3 d4 (.lst [.int ((2 * w + 1:Nat):Int)])) d4 = _:=upd_same
 generalize upd I3 d4 _ = I4 at *
 refine s_addL (t4 _ _ k3') k4' (small (by simp; omega)) (fun d5 hd5=>?_)
 have ej:nL x.2 ++ [.int ((2 * w:Nat):Int)] ++ nL y.2 ++ [.int ((2 * w + 1:Nat):Int)] = nL (jn w x.2 y.2):=by unfold jn nL; simp
 rw [ej]
 have t5:=same_new hd5 (.lst (nL (jn w x.2 y.2)))
 have k5':(upd I4 d5 (.lst (nL (jn w x.2 y.2)))) d5 = _:=upd_same
 have t15:=(((t1.trans t2).trans t3).trans t4).trans t5
 have n5:d5 ≠ sm:=(ne_of_none (((t1.trans t2).trans t3).trans t4 _ _ g10) hd5).symm
 generalize upd I4 d5 _ = I5 at *
 have s15:=s10.trans t15
 have g15:=t15 _ _ g10
 have tq15:=tq10.keep (SameBut1.of t15)
 have A1:=t15 _ _ A1
 have B1:=t15 _ _ B1
 clear t1 t2 t3 t4 t5 k1' k2' k3' k4' s10 g10 tq10 A2 B2
 walk_at "go"
 refine ⟨SqL.ty (SqL.of g15),?_⟩
 walk_at "go"
 refine s_ixU (SqT.of A1) (v:=.int x.1) rfl ?_
 walk_at "go"
 refine s_ixU (SqT.of B1) (v:=.int y.1) rfl ?_
 walk_at "go"
 refine ⟨small (show 2 <= 1000 by decide),fun T5 hT5=>?_⟩
 have t16:=same_new hT5 (.tup [.int ((cs1 c (2 * w):Nat) + (cs1 e (2 * w + 1):Nat) + x.1 + y.1),.ref d5])
 have k6':(upd I5 T5 (.tup [.int ((cs1 c (2 * w):Nat) + (cs1 e (2 * w + 1):Nat) + x.1 + y.1),.ref d5])) T5 = _:=upd_same
 have n6:T5 ≠ sm:=(ne_of_none g15 hT5).symm
 generalize upd I5 T5 _ = I6 at *
 have lv:vs.length < sizeLine:=by
  rw [sizeLine_eq]
  have h1:=tq15.1
  have h2:=cov8.len
  have h3:t * kk.toNat <= 40 * 4:=Nat.mul_le_mul (by omega) hk4
  omega
 walk_at "go"
 refine ⟨sm,vs,_,rfl,rfl,t16 _ _ g15,lv,?_⟩
 walk_at "go"
 have cov9:=cov8.add (m:=m) (x:=x) (y:=y) (by omega) hw (by omega) mnx mny
 rw [ec,ee] at cov9
 refine ⟨vs ++ [.ref T5],_,some (.int ((2 * w:Nat):Int)),_,_,_,rfl,?_,upd_same,?_,cov9⟩
 ·exact fun b o z=>by rw [upd_ne (ne_of_none z hsm0)]; exact t16 _ _ (s15 _ _ z)
 ·exact ((tq15.keep (SameBut1.of t16)).more (x:=(((cs1 c (2 * w):Nat):Int) + ((cs1 e (2 * w + 1):Nat):Int) + x.1 + y.1,jn w x.2 y.2)) n6 n5 k6' (t16 _ _ k5')).keep SameBut1.upd
theorem sc_law:FnScope ["script","pool","kinds","right","row","spoilt","turn","at","place","told","some","other","sign","again","plain"] ["script"] (defScope d_law):=⟨rfl,rfl,rfl,by decide +kernel,rfl,by decide +kernel,by decide +kernel⟩
theorem ok_law (F : Fun K "law" "law" d_law f fd) (T : Txt K mg aK aC) (U_law_pool : FnU P w K mg base k "_law_pool" ["script", "k"] (spPoolD K)) (U_law_right : FnU P w K mg base k "_law_right" ["pool", "kinds", "many"] (spRightD)) (U_law_draw : FnU P w K mg base k "_law_draw" ["pool", "many"] (spDraw)) (U_fewest_changes : FnU P w K mg base k "fewest_changes" ["k", "row"] (spFewest32)) (U_law_fewest : FnU P w K mg base k "_law_fewest" ["kinds", "row"] (spLeast32)) (U_law_row : FnU P w K mg base k "_law_row" ["pool", "kinds", "many"] (spRowD)) (U_law_of_one_kind : FnU P w K mg base k "_law_of_one_kind" ["row"] (spOne32)) (U_law_told_right : FnU P w K mg base k "_law_told_right" ["kinds", "row", "told"] (spTold32)) : FnOk P w K mg base CX0 (k + 1) f fd ["script"] (spLaw K) := by
 refine F.ok sc_law (fun vs H Q E h => ?_) (fun cdv A outer s H vs Q E hr h => ?_)
 ·obtain ⟨a, ns, rfl, _⟩ := h; rfl
 obtain ⟨sa, ns, rfl, hS, h63, q⟩ := h
 have hu := hr.units0
 refine ⟨_, (pss_cons (ps_set (i := 1) sc_law.nd rfl (Or.inr rfl) (pe_fn U_law_pool hr (pa_cons (pv 0) (pa_cons pe_int pa_nil))))  (pss_cons (ps_set (i := 2) sc_law.nd rfl (Or.inl rfl) (pe_op op_plus pe_int (pe_fn U_law_draw hr (pa_cons (pv 1) (pa_cons pe_int pa_nil)))))  (pss_cons (ps_set (i := 3) sc_law.nd rfl (Or.inl rfl) (pe_fn U_law_right hr (pa_cons (pe_fn U_law_pool hr (pa_cons (pv 0) (pa_cons pe_int pa_nil))) (pa_cons (pv 2) (pa_cons (pe_fn U_law_draw hr (pa_cons (pv 1) (pa_cons pe_int pa_nil))) pa_nil)))))  (pss_cons (ps_set (i := 4) sc_law.nd rfl (Or.inl rfl) (pe_callTy (call_listS K rfl) rfl T.n_list PyProof.Rows.boot_list (pa_cons (pv 3) pa_nil)))  (pss_cons (ps_set (i := 5) sc_law.nd rfl (Or.inl rfl) (pe_fn U_law_draw hr (pa_cons (pv 1) (pa_cons pe_int pa_nil))))  (pss_cons (ps_for PassesOwn.never rfl (pi_range1 rfl T.n_range (pa_cons (pe_op op_times (pv 5) (pe_callTy call_intA rfl T.n_int PyProof.Rows.boot_int (pa_cons (pe_cmpR (op_neA K hu) (pv 4) (pe_lst pa_nil) (nomark _)) pa_nil))) pa_nil)) (pg_name (i := 6) sc_law.nd rfl (Or.inl rfl))   (pss_cons (ps_set (i := 7) sc_law.nd rfl (Or.inl rfl) (pe_fn U_law_draw hr (pa_cons (pv 1) (pa_cons (pe_callB (call_lenA K) rfl T.n_len PySem.boot_len (pa_cons (pv 4) pa_nil)) pa_nil))))  (pss_cons (ps_set (i := 8) sc_law.nd rfl (Or.inl rfl) (pe_fn U_law_draw hr (pa_cons (pv 1) (pa_cons (pe_op op_times pe_int (pv 2)) pa_nil))))  (pss_one (ps_asg (pe_ix (ix_A K) (pe_tx (l := [40, 41, 91, 93, 123, 125, 60, 62, 63]) (by decide +kernel)) (pe_ix (ix_A K) (pe_lst (pa_cons (pv 8) (pa_cons pe_int pa_nil))) (pe_callTy call_intA rfl T.n_int PyProof.Rows.boot_int (pa_cons (pe_cmpR (op_eqA K hu) (pe_fn U_law_draw hr (pa_cons (pv 1) (pa_cons pe_int pa_nil))) pe_int (nomark _)) pa_nil)) (fun _ _ => rfl)) (fun _ _ => rfl)) (pg_sub (pv 4) (pv 7) set_list))))))  (pss_cons (ps_set (i := 4) sc_law.nd rfl (Or.inl rfl) (pe_bmK K PySem.F.plainAttrs_str PySem.F.slot_str_join PySem.F.type_str_join (mt_join K) (pe_tx (l := []) (by decide +kernel)) (pa_cons (pv 4) pa_nil)))  (pss_cons (ps_set (i := 9) sc_law.nd rfl (Or.inl rfl) (pe_fn U_fewest_changes hr (pa_cons (pv 2) (pa_cons (pv 4) pa_nil))))  (pss_cons (ps_if (PW.pt (pw_or (pt_not (pt_tru K (pe_callB (call_isiA K) rfl T.n_isinstance PyProof.Rows.boot_isinstance (pa_cons (pv 9) (pa_cons (pe_ty T.n_tuple PyProof.Rows.boot_tuple) pa_nil))))) (pw_or (pt_cmpR op_gt (pe_ix (ix_A K) (pv 9) pe_int (fun _ _ => rfl)) (pv 5) (nomark _)) (pw_or1 (pt_not (pt_tru K (pe_fn U_law_told_right hr (pa_cons (pv 2) (pa_cons (pv 4) (pa_cons (pv 9) pa_nil))))))))))   (pss_one (ps_ret pe_bl))   pss_nil)  (pss_cons (ps_if (pt_cmpR (op_neU2 K hu) (pv 9) (pe_fn U_law_fewest hr (pa_cons (pv 2) (pa_cons (pv 4) pa_nil))) (nomark _))   (pss_one (ps_ret pe_bl))   pss_nil)  (pss_cons (ps_set (i := 10) sc_law.nd rfl (Or.inl rfl) (pe_slice (sl_A K) (pe_fn U_law_row hr (pa_cons (pe_fn U_law_pool hr (pa_cons (pv 0) (pa_cons pe_int pa_nil))) (pa_cons (pv 2) (pa_cons (pe_fn U_law_draw hr (pa_cons (pv 1) (pa_cons pe_int pa_nil))) pa_nil)))) po_none (po_some pe_int)))  (pss_cons (ps_set (i := 11) sc_law.nd rfl (Or.inl rfl) (pe_fn U_fewest_changes hr (pa_cons (pv 2) (pa_cons (pv 10) pa_nil))))  (pss_cons (ps_if (pt_cmpR (op_neA K hu) (pe_cmpR op_isA (pv 11) pe_non (nomark _)) (pe_cmpR (op_eqA K hu) (pe_op op_mod (pe_callB (call_lenA K) rfl T.n_len PySem.boot_len (pa_cons (pv 10) pa_nil)) pe_int) pe_int (nomark _)) (nomark _))   (pss_one (ps_ret pe_bl))   pss_nil)  (pss_cons (ps_if (PW.pt (pw_and (pt_cmpR op_isnotA (pv 11) pe_non (nomark _)) (pw_and1 (pt_cmpR (op_neU2 K hu) (pv 11) (pe_fn U_law_fewest hr (pa_cons (pv 2) (pa_cons (pv 10) pa_nil))) (nomark _)))))   (pss_one (ps_ret pe_bl))   pss_nil)  (pss_cons (ps_if (PW.pt (pw_and (pt_cmpR op_isnotA (pv 11) pe_non (nomark _)) (pw_and1 (pt_not (pt_tru K (pe_fn U_law_told_right hr (pa_cons (pv 2) (pa_cons (pv 10) (pa_cons (pv 11) pa_nil)))))))))   (pss_one (ps_ret pe_bl))   pss_nil)  (pss_cons (ps_if (pt_cmpR (op_neA K hu) (pv 4) (pe_tx (l := []) (by decide +kernel)) (nomark _))   (pss_cons (ps_set (i := 7) sc_law.nd rfl (Or.inl rfl) (pe_fn U_law_draw hr (pa_cons (pv 1) (pa_cons (pe_callB (call_lenA K) rfl T.n_len PySem.boot_len (pa_cons (pv 4) pa_nil)) pa_nil))))  (pss_cons (ps_set (i := 12) sc_law.nd rfl (Or.inl rfl) (pe_ix (ix_A K) (pe_tx (l := [40, 41, 91, 93, 123, 125, 60, 62]) (by decide +kernel)) (pe_fn U_law_draw hr (pa_cons (pv 1) (pa_cons (pe_op op_times pe_int (pv 2)) pa_nil))) (fun _ _ => rfl)))  (pss_cons (ps_set (i := 13) sc_law.nd rfl (Or.inl rfl) (pe_fn U_fewest_changes hr (pa_cons (pv 2) (pa_cons (pe_op op_plus (pe_op op_plus (pe_slice (sl_A K) (pv 4) po_none (po_some (pv 7))) (pv 12)) (pe_slice (sl_A K) (pv 4) (po_some (pe_op op_plus (pv 7) pe_int)) po_none)) pa_nil))))  (pss_one (ps_if (pt_cmpR op_gt (pe_ix (ix_A K) (pv 13) pe_int (fun _ _ => rfl)) (pe_op op_plus (pe_ix (ix_A K) (pv 9) pe_int (fun _ _ => rfl)) pe_int) (nomark _))   (pss_one (ps_ret pe_bl))   pss_nil)))))   pss_nil)  (pss_cons (ps_set (i := 14) sc_law.nd rfl (Or.inl rfl) (pe_bmK K PySem.F.plainAttrs_str PySem.F.slot_str_join PySem.F.type_str_join (mt_join K) (pe_tx (l := []) (by decide +kernel)) (pa_cons (pe_comp (own := ["k"]) (sel := [1]) (compOk_of (osc := (defScope d_law)) (N := ["script", "pool", "kinds", "right", "row", "spoilt", "turn", "at", "place", "told", "some", "other", "sign", "again", "plain"]) (by decide +kernel)) rfl (pi_range1 rfl T.n_range (pa_cons (pe_op op_times pe_int (pe_fn U_law_draw hr (pa_cons (pv 1) (pa_cons pe_int pa_nil)))) pa_nil)) (fun _ _ _ _ _ => (pg_name (i := 0) (show (["k", "pool"] : List Str).Nodup from by decide +kernel) rfl (Or.inl rfl))) (gk_name (by decide)) (fun _ _ _ _ _ => pif_nil) (fun _ _ _ _ _ => (pe_ix (ix_A K) (pe_tx (l := [40, 41]) (by decide +kernel)) (pe_fn U_law_draw hr (pa_cons (pv 1) (pa_cons pe_int pa_nil))) (fun _ _ => rfl)))) pa_nil)))  (pss_one (ps_ret (pe_cmpR (op_eqA K hu) (pe_ix (ix_A K) (pe_fn U_fewest_changes hr (pa_cons pe_int (pa_cons (pv 14) pa_nil))) pe_int (fun _ _ => rfl)) (pe_fn U_law_of_one_kind hr (pa_cons (pv 14) pa_nil)) (nomark _))))))))))))))))))))), ?_⟩
 walk_at "go"
 refine poolD_use hS (by decide) (by decide) (fun p H1 hp s1 d1 => ?_)
 walk_at "go"
 refine draw_use d1 (by decide) (by decide) (fun r2 H2 r20 r21 d2 s2 => ?_)
 have u2 : Same H H2 := Same.but s1 s2 hp
 walk_at "go"
 obtain ⟨kk, ekk⟩ : ∃ kk : Int, kk = 1 + r2 := ⟨_, rfl⟩
 have k1 : 1 <= kk := by omega
 have k4 : kk <= 4 := by omega
 rw [<- ekk]
 clear ekk
 have hk4 : kk.toNat <= 4 := by omega
 refine poolD_use (u2.seq hS) (by decide) (by decide) (fun p2 H3 hp2 s3 e3 => ?_)
 have hHp2 : H p2 = none := u2.free hp2
 have np : p ≠ p2 := d2.ne hp2 |> Ne.symm
 have d3 := d2.same s3
 have u3 := u2.trans s3
 walk_at "go"
 refine draw_use d3 (by decide) (by decide) (fun r4 H4 r40 r41 d4 s4 => ?_)
 have u4 : Same H H4 := Same.but u3 s4 hp
 have e4 := e3.keep s4 (Ne.symm np)
 walk_at "go"
 refine rightD_use e4 k1 k4 r40 (by omega) (fun row0 H5 hrt hl0 hkin e5 s5 => ?_)
 have u5 : Same H H5 := Same.but u4 s5 hHp2
 have d5 := d4.keep s5 np
 obtain ⟨l, erow, hrg⟩ := brx_of hk4 hrt (fun c hc => by rw [show ((kk.toNat : Nat) : Int) = kk by omega]; exact kin_sgn (hkin c hc))
 have hal0 : row0.length <= 40 := by omega
 have hev0 : row0.length % 2 = 0 := by omega
 have hs0 : ∀ c ∈ row0, c ∈ sgn kk := fun c hc => kin_sgn (hkin c hc)
 have hc0 : chg row0 l = 0 := by rw [erow]; exact chg_own l
 have hll : l.length = row0.length := by rw [erow]; unfold brx; rw [List.length_map]
 clear e3 e4 e5 s1 s2 s3 s4 s5 u2 u3 u4 d1 d2 d3 d4 hrt hkin erow
 walk_at "go"
 refine s_listS (by omega) (fun ra hra => ?_)
 have t6 := same_new hra (.lst ((row0.map fun c => [c]).map tx))
 have f6 : (upd H5 ra (.lst ((row0.map fun c => [c]).map tx))) ra = _ := upd_same
 have hHr : H ra = none := u5.free hra
 have nrp : ra ≠ p := d5.ne hra
 have d6 := d5.same t6
 have u6 := u5.trans t6
 generalize upd H5 ra _ = H6 at *
 walk_at "go"
 refine draw_use d6 (by decide) (by decide) (fun r7 H7 r70 r71 d7 s7 => ?_)
 have u7 : Same H H7 := Same.but u6 s7 hp
 have f7 := s7 _ _ f6 nrp
 walk_at "go"
 refine ⟨small (show 0 <= 1000 by decide), fun l8 hl8 => ?_⟩
 have t8 := same_new hl8 (.lst [])
 walk_at "go"
 refine s_neL (SqL.of (t8 _ _ f7)) (SqL.of upd_same) (flat_txl _) rfl ?_
 have hev8 : eqVs ((row0.map fun c => [c]).map tx) [] = decide (row0 = []) := by cases row0 <;> rfl
 rw [hev8]
 have f8 := t8 _ _ f7
 have d8 := d7.same t8
 have u8 := u7.trans t8
 generalize upd H7 l8 _ = H8 at *
 walk_at "go"
 obtain ⟨cn, ecn⟩ : ∃ cn : Int, cn = r7 * (if (!decide (row0 = [])) = true then (1 : Int) else 0) := ⟨_, rfl⟩
 rw [<- ecn]
 have cn0 : 0 <= cn /\ cn <= r7 /\ (0 < cn -> 0 < row0.length) := by
  rw [ecn]
  by_cases z : row0 = []
  ·rw [decide_eq_true z]
   refine ⟨by simp, by simp; omega, fun z2 => ?_⟩
   simp at z2
  ·rw [decide_eq_false z]
   refine ⟨by simp; omega, by simp, fun _ => List.length_pos_iff.mpr z⟩
 clear ecn hev8
 obtain ⟨n1, en1⟩ : ∃ n1, row0.length = n1 := ⟨_, rfl⟩
 rw [en1] at cn0
 refine ⟨_, rfl, by omega, by omega, ?_⟩
 refine for_rng (fun i σ H' => ∃ (b : List Nat) (o6 o7 o8 : Option V), σ = [some (.ref sa), some (.ref p), some (.int kk), some (tx row0), some (.ref ra), some (.int r7), o6, o7, o8, none, none, none, none, none, none] /\ H' ra = some (.lst ((b.map fun c => [c]).map tx)) /\ (∀ c ∈ b, c ∈ sgn kk) /\ b.length = n1 /\ chg b l <= i /\ Po H' p /\ Same H H')
  ⟨row0, _, _, _, rfl, f8, hs0, en1, by omega, d8, u8⟩ ?_ ?_
 ·clear u5 u6 u7 u8 d5 d6 d7 d8 f6 f7 f8 s7 t6 t8
  rintro i σ H1 hi ⟨b, o6, o7, o8, rfl, f1, hb, hbl, hcb, d1, u1⟩
  have hn0 : 0 < n1 := cn0.2.2 (by omega)
  walk_at "go"
  refine s_lenL (.inl (SqL.of f1)) ?_
  rw [List.length_map, List.length_map]
  walk_at "go"
  refine draw_use d1 (by omega) (by omega) (fun r2 H2 r20 r21 d2 s2 => ?_)
  obtain ⟨j, rfl⟩ : ∃ j : Nat, r2 = j := ⟨r2.toNat, by omega⟩
  have f2 := s2 _ _ f1 nrp
  have u2 : Same H H2 := Same.but u1 s2 hp
  walk_at "go"
  refine draw_use d2 (by omega) (by omega) (fun r3 H3 r30 r31 d3 s3 => ?_)
  obtain ⟨pc, rfl⟩ : ∃ pc : Nat, r3 = pc := ⟨r3.toNat, by omega⟩
  have f3 := s3 _ _ f2 nrp
  have u3 : Same H H3 := Same.but u2 s3 hp
  walk_at "go"
  refine ⟨small (show 2 <= 1000 by decide), fun l4 hl4 => ?_⟩
  have t4 := same_new hl4 (.lst [.int (pc : Int), .int 8])
  have g4 : (upd H3 l4 (.lst [.int (pc : Int), .int 8])) l4 = _ := upd_same
  have f4 := t4 _ _ f3
  have d4 := d3.same t4
  have u4 := u3.trans t4
  have nlp : l4 ≠ p := d3.ne hl4
  generalize upd H3 l4 _ = H4 at *
  walk_at "go"
  refine draw_use d4 (by decide) (by decide) (fun r5 H5 r50 r51 d5 s5 => ?_)
  have f5 := s5 _ _ f4 nrp
  have g5 := s5 _ _ g4 nlp
  have u5 : Same H H5 := Same.but u4 s5 hp
  walk_at "go"
  obtain ⟨ix, hix, hix2⟩ : ∃ ix : Nat, atI [V.int (pc : Int), V.int 8] (if decide (r5 = 0) = true then 1 else 0) = some (.int (ix : Int)) /\ (ix = 8 \/ ix < 2 * kk.toNat) := by
   by_cases z : r5 = 0
   ·rw [decide_eq_true z]; exact ⟨8, rfl, .inl rfl⟩
   ·rw [decide_eq_false z]; exact ⟨pc, rfl, .inr (by omega)⟩
  refine s_ixL (SqL.of g5) hix ?_
  obtain ⟨c, hc1, hc2⟩ : ∃ c, atI [40, 41, 91, 93, 123, 125, 60, 62, 63] (ix : Int) = some c /\ c ∈ sgn kk := by
   rcases hix2 with rfl | z
   ·exact ⟨63, rfl, by unfold sgn; simp⟩
   ·refine ⟨brs.getD ix 0, ?_, sgn_bk k1 k4 z⟩
    have : ix = 0 \/ ix = 1 \/ ix = 2 \/ ix = 3 \/ ix = 4 \/ ix = 5 \/ ix = 6 \/ ix = 7 := by omega
    rcases this with rfl | rfl | rfl | rfl | rfl | rfl | rfl | rfl <;> rfl
  walk_at "go"
  refine s_ixT (small (show 9 <= 1000 by decide)) hc1 ?_
  walk_at "go"
  refine s_setL f5 (j := j) (ixN_nat (by rw [List.length_map, List.length_map]; omega)) ?_
  walk_at "go"
  have hcs := chg_set (a := b) (l := l) (i := j) (c := c) (by omega) (by omega)
  have hcl := cs1_le c (l.getD j 0)
  refine ⟨b.set j c, _, _, _, rfl, ?_, fun x hx => ?_, by rw [List.length_set]; exact hbl, by omega, d5.keep SameBut1.upd (Ne.symm nrp), ?_⟩
  ·rw [upd_same, List.map_set, List.map_set]
  ·rcases List.mem_or_eq_of_mem_set hx with z | z
   ·exact hb x z
   ·rw [z]; exact hc2
  ·exact fun x o z => by rw [upd_ne (ne_of_none z hHr)]; exact u5 _ _ z
 rintro σ H9 ⟨a, o6, o7, o8, rfl, f9, ha, hla, hca, d9, u9⟩
 clear u5 u6 u7 u8 d5 d6 d7 d8 f6 f7 f8 s7 t6 t8
 have hal : a.length <= 40 := by omega
 have hro : isRow kk a = true := isRow_mk hal ha
 have hev : a.length % 2 = 0 := by omega
 walk_at "go"
 refine s_join (SqL.of f9) (by rw [List.length_map, flat_one]; omega) ?_
 rw [flat_one]
 walk_at "go"
 refine few32_use k1 k4 hro (fun v H10 s10 res => ?_)
 rcases res with ⟨z, _⟩ | ⟨_, Tt, m, rfl, gT, mn⟩
 ·omega
 have u10 := u9.trans s10
 have d10 := d9.same s10
 walk_at "go"
 refine s_isi (b := true) (TyOf.tup gT) (by with_unfolding_all rfl) ?_
 have hmost : ((chg a m : Nat) : Int) <= ((chg a l : Nat) : Int) := mn.most hrg (by omega)
 have hsp : decide (r7 < ((chg a m : Nat) : Int)) = false := decide_eq_false (by omega)
 refine ⟨true, rfl, ifq rfl ?_⟩
 walk_at "go"
 refine s_ixU (SqT.of gT) (v := .int (chg a m : Nat)) rfl ?_
 walk_at "go"
 rw [hsp]
 refine ifq rfl ?_
 walk_at "go"
 refine ⟨kk, a, m, Tt, rfl, k1, k4, hro, gT, mn, fun H11 s11 => ?_⟩
 have gT11 := s11 _ _ gT
 have d11 := d10.same s11
 have u11 := u10.trans s11
 walk_at "go"
 first | refine ⟨true, rfl, ifq rfl ?_⟩ | refine ifq rfl ?_
 first | refine ifq rfl ?_ | skip
 walk_at "go"
 refine ⟨kk, a, rfl, k1, k4, hro, hev, fun T12 m2 H12 s12 gT2 mn2 => ?_⟩
 have em : m2 = m := congrArg Prod.snd (mn2.uniq mn)
 subst em
 have gT12 := s12 _ _ gT11
 walk_at "go"
 refine s_smU gT12 gT2 rfl ?_
 walk_at "go"
 refine ifq rfl ?_
 have u12 := u11.trans s12
 have d12 := d11.same s12
 clear s10 s11 s12 u9 u10 u11 d9 d10 d11 gT gT11 gT2 mn2 f9 hsp hmost
 walk_at "go"
 refine poolD_use (u12.seq hS) (by decide) (by decide) (fun p3 H13 hp3 s13 e13 => ?_)
 have hHp3 : H p3 = none := u12.free hp3
 have np3 : p ≠ p3 := (d12.ne hp3).symm
 have nt3 : Tt ≠ p3 := ne_of_none gT12 hp3
 have d13 := d12.same s13
 have u13 := u12.trans s13
 have g13 := s13 _ _ gT12
 have ntp : Tt ≠ p := fun z => by
  obtain ⟨x1, x2, x3, e⟩ := d12
  rw [z, e] at gT12; cases gT12
 walk_at "go"
 refine draw_use d13 (by decide) (by decide) (fun r14 H14 r140 r141 d14 s14 => ?_)
 have u14 : Same H H14 := Same.but u13 s14 hp
 have e14 := e13.keep s14 (Ne.symm np3)
 have g14 := s14 _ _ g13 ntp
 walk_at "go"
 refine rowD_use e14 k1 k4 r140 (by omega) (fun row1 H15 hr1 hs1 e15 s15 => ?_)
 have u15 : Same H H15 := Same.but u14 s15 hHp3
 have d15 := d14.keep s15 np3
 have g15 := s15 _ _ g14 nt3
 walk_at "go"
 have eb : cutL row1 none (some 40) = row1.take 40 := cut_to row1 (by decide)
 rw [eb]
 obtain ⟨b, ebb⟩ : ∃ b, b = row1.take 40 := ⟨_, rfl⟩
 have hbl : b.length <= 40 := by rw [ebb, List.length_take]; omega
 have hrb : isRow kk b = true := isRow_mk hbl (fun c hc => hs1 c (by rw [ebb] at hc; exact List.mem_of_mem_take hc))
 rw [<- ebb]
 clear ebb eb e13 e14 e15 s13 s14 s15 u12 u13 u14 d12 d13 d14 g13 g14 gT12 hr1 hs1
 have fin : ∀ (o7 o12 o13 : Option V) (v10 v11 : V) (H' : Hp), Same H H' -> Po H' p -> (tSeq
         (tAsg
          (tBM K "str" (rJoin K) (tC (tx []))
           (tCons
            (tComp [Str.ofString "k"] [1]
             (iRng1
              (tCons
               (tOp rTimes (tC (V.int 2))
                (tCall spDraw [] E0 (tCons (tVar 1) (tCons (tC (V.int 21)) tNil))))
               tNil))
             (gName 0) tYes
             (tOp (rIxA K) (tC (tx [40, 41]))
              (tCall spDraw [] E0 (tCons (tVar 1) (tCons (tC (V.int 2)) tNil)))))
            tNil))
          (gName 14))
         (tRet
          (tOp (rEqA K)
           (tOp (rIxA K) (tCall spFewest32 [] E0 (tCons (tC (V.int 1)) (tCons (tVar 14) tNil)))
            (tC (V.int 0)))
           (tCall spOne32 [] E0 (tCons (tVar 14) tNil)))))
   { nx := fun x H' => Q V.non H', rt := Q } [some (.ref sa), some (.ref p), some (.int kk), some (tx row0), some (tx a), some (.int r7), o6, o7, o8, some (.ref Tt), some v10, some v11, o12, o13, none] H' := by
  intro o7' o12 o13 v10 v11 H1 u1 d1
  walk_at "go"
  refine draw_use d1 (by decide) (by decide) (fun r2 H2 r20 r21 d2 s2 => ?_)
  have u2 : Same H H2 := Same.but u1 s2 hp
  walk_at "go"
  refine ⟨_, rfl, by omega, by omega, ?_⟩
  have hn : (2 * r2).toNat <= 40 := by omega
  have hn2 : (2 * r2).toNat % 2 = 0 := by omega
  refine comp_of (n := (2 * r2).toNat) (fun D i ys H' => ∃ row : List Nat, ys = (row.map fun c => [c]).map tx /\ row.length = i /\ (∀ c ∈ row, c = 40 \/ c = 41) /\ Po H' p /\ ∀ b o, H2 b = some o -> b ≠ p -> H' b = some o) (fun D hD => ⟨[], rfl, rfl, (fun _ z => nomatch z), d2.same (same_new hD _), fun b o z _ => by rw [upd_ne (ne_of_none z hD)]; exact z⟩) (fun D i ys H' _ hi _ _ => hi) (fun D ys H' hD hD' hl ⟨row, e, hrl, hrow, p4, s4⟩ => ⟨Nat.le_refl _, ?_⟩) ?_
  ·subst e
   walk_at "go"
   refine s_join (SqL.of hD') (by rw [List.length_map, flat_one]; omega) ?_
   rw [flat_one]
   have hr1 : isRow 1 row = true := isRow_mk (by omega) (fun c hc => by rcases hrow c hc with rfl | rfl <;> decide)
   walk_at "go"
   refine few32_use (k := 1) (by decide) (by decide) hr1 (fun v H5 s5 res => ?_)
   rcases res with ⟨z, _⟩ | ⟨hev2, T5, l5, rfl, g5, mn5⟩
   ·omega
   have e5 := one_all hrow hev2 mn5
   walk_at "go"
   refine s_ixU (SqT.of g5) (v := .int (chg row l5 : Nat)) rfl ?_
   walk_at "go"
   refine ⟨row, rfl, by omega, hrow, fun H6 s6 => ?_⟩
   rw [e5]
   walk_at "go"
   rw [decide_eq_true rfl]
   exact q _
  ·rintro D i ys H' x H5 hD hi hD' hl ⟨row, e, hrl, hrow, p4, s4⟩ ⟨rfl, rfl⟩
   have nDp := d2.ne hD
   show gName 0 _ _ _ _
   walk_at "go"
   refine iteT ?_
   walk_at "go"
   refine draw_use p4 (by decide) (by decide) (fun r4 H6 r40 r41 p6 s6 => ?_)
   obtain ⟨c, hc4, hcm⟩ := at_mem (l := [40, 41]) r40 (by simp; omega)
   walk_at "go"
   refine s_ixT (small (show 2 <= 1000 by decide)) hc4 ?_
   refine comp_next hi (small (by omega)) (s6 _ _ hD' nDp) hl ⟨row ++ [c], ?_, by simp [hrl], ?_, p6.keep SameBut1.upd (Ne.symm nDp), ?_⟩
   ·rw [e, List.map_append, List.map_append]; rfl
   ·intro d hd
    rcases List.mem_append.mp hd with z | z
    ·exact hrow d z
    ·rw [List.mem_singleton.mp z]
     simpa using hcm
   ·intro b o z n
    rw [upd_ne (ne_of_none z hD)]
    exact s6 b o (s4 b o z n) n
 have tail : ∀ (v10 v11 : V) (H' : Hp), Same H H' -> Po H' p -> H' Tt = some (.tup [.int (chg a m2 : Nat), tx (brx m2)]) -> (tSeq
        (tIfS (tTest (tOp (rNeA K) (tVar 4) (tC (tx []))))
         (tSeq
          (tAsg (tCall spDraw [] E0 (tCons (tVar 1) (tCons (tCB (rLen K) (tCons (tVar 4) tNil)) tNil)))
           (gName 7))
          (tSeq
           (tAsg
            (tOp (rIxA K) (tC (tx [40, 41, 91, 93, 123, 125, 60, 62]))
             (tCall spDraw [] E0 (tCons (tVar 1) (tCons (tOp rTimes (tC (V.int 2)) (tVar 2)) tNil))))
            (gName 12))
           (tSeq
            (tAsg
             (tCall spFewest32 [] E0
              (tCons (tVar 2)
               (tCons
                (tOp rPlus (tOp rPlus (tSl (rSlA K) (tVar 4) tNoPart (tPart (tVar 7))) (tVar 12))
                 (tSl (rSlA K) (tVar 4) (tPart (tOp rPlus (tVar 7) (tC (V.int 1)))) tNoPart))
                tNil)))
             (gName 13))
            (tIfS
             (tTest
              (tOp (rI0 fun i j => V.bl (decide (j < i))) (tOp (rIxA K) (tVar 13) (tC (V.int 0)))
               (tOp rPlus (tOp (rIxA K) (tVar 9) (tC (V.int 0))) (tC (V.int 1)))))
             (tRet (tC (V.bl false))) tNext))))
         tNext)
        (tSeq
         (tAsg
          (tBM K "str" (rJoin K) (tC (tx []))
           (tCons
            (tComp [Str.ofString "k"] [1]
             (iRng1
              (tCons
               (tOp rTimes (tC (V.int 2))
                (tCall spDraw [] E0 (tCons (tVar 1) (tCons (tC (V.int 21)) tNil))))
               tNil))
             (gName 0) tYes
             (tOp (rIxA K) (tC (tx [40, 41]))
              (tCall spDraw [] E0 (tCons (tVar 1) (tCons (tC (V.int 2)) tNil)))))
            tNil))
          (gName 14))
         (tRet
          (tOp (rEqA K)
           (tOp (rIxA K) (tCall spFewest32 [] E0 (tCons (tC (V.int 1)) (tCons (tVar 14) tNil)))
            (tC (V.int 0)))
           (tCall spOne32 [] E0 (tCons (tVar 14) tNil))))))
   { nx := fun x H' => Q V.non H', rt := Q } [some (.ref sa), some (.ref p), some (.int kk), some (tx row0), some (tx a), some (.int r7), o6, o7, o8, some (.ref Tt), some v10, some v11, none, none, none] H' := by
  intro v10 v11 H1 u1 d1 g1
  walk_at "go"
  by_cases z : a = []
  ·refine ifq (by rw [decide_eq_true z]; rfl) ?_
   exact fin _ _ _ v10 v11 H1 u1 d1
  ·refine ifp (by rw [decide_eq_false z]; rfl) ?_
   have hpos : 0 < a.length := List.length_pos_iff.mpr z
   walk_at "go"
   refine draw_use d1 (by omega) (by omega) (fun r2 H2 r20 r21 d2 s2 => ?_)
   obtain ⟨j, rfl⟩ : ∃ j : Nat, r2 = j := ⟨r2.toNat, by omega⟩
   have u2 : Same H H2 := Same.but u1 s2 hp
   have g2 := s2 _ _ g1 ntp
   have hj : j < a.length := by omega
   walk_at "go"
   refine draw_use d2 (by omega) (by omega) (fun r3 H3 r30 r31 d3 s3 => ?_)
   obtain ⟨pc, rfl⟩ : ∃ pc : Nat, r3 = pc := ⟨r3.toNat, by omega⟩
   have u3 : Same H H3 := Same.but u2 s3 hp
   have g3 := s3 _ _ g2 ntp
   have hpc : pc < 2 * kk.toNat := by omega
   walk_at "go"
   refine s_ixT (small (show 8 <= 1000 by decide)) (c := brs.getD pc 0) (atI_nat (brs_get (by omega))) ?_
   walk_at "go"
   rw [cut_to a (k := (j : Int)) (by omega), Int.toNat_natCast]
   refine s_addT (small (by rw [List.length_take, List.length_singleton]; omega)) ?_
   walk_at "go"
   rw [show ((j : Int) + 1) = ((j + 1 : Nat) : Int) by omega, cut_from]
   refine s_addT (small (by rw [List.length_append, List.length_take, List.length_drop, List.length_singleton]; omega)) ?_
   rw [set_cut hj]
   walk_at "go"
   refine few32_use k1 k4 (isRow_set hro (sgn_bk k1 k4 hpc)) (fun v H5 s5 res => ?_)
   rcases res with ⟨z, _⟩ | ⟨_, T2, l2, rfl, g5, mn5⟩
   ·exfalso
    rw [List.length_set] at z
    omega
   have hag := mn.again hj mn5
   have g5t := s5 _ _ g3
   walk_at "go"
   refine s_ixU (SqT.of g5) (v := .int (chg (a.set j (brs.getD pc 0)) l2 : Nat)) rfl ?_
   walk_at "go"
   refine s_ixU (SqT.of g5t) (v := .int (chg a m2 : Nat)) rfl ?_
   walk_at "go"
   rw [show decide (((chg a m2 : Nat) : Int) + 1 < ((chg (a.set j (brs.getD pc 0)) l2 : Nat) : Int)) = false from decide_eq_false (by omega)]
   refine ifq rfl ?_
   exact fin _ _ _ v10 v11 H5 (u3.trans s5) (d3.same s5)
 refine few32_use k1 k4 hrb (fun v H16 s16 res => ?_)
 have u16 := u15.trans s16
 have d16 := d15.same s16
 have g16 := s16 _ _ g15
 rcases res with ⟨hodd, rfl⟩ | ⟨hevb, To, mo, rfl, go', mno⟩
 ·walk_at "go"
  have ho : decide ((b.length : Int) % 2 = 1) = true := decide_eq_true (by omega)
  rw [ho, decide_eq_true rfl, decide_eq_true rfl]
  refine ifq rfl ?_
  walk_at "go"
  refine ifq rfl ?_
  walk_at "go"
  refine ifq rfl ?_
  walk_at "go"
  refine ifq rfl ?_
  first | refine ifq rfl ?_ | skip
  exact tail _ _ H16 u16 d16 g16
 ·walk_at "go"
  have ho : decide ((b.length : Int) % 2 = 1) = false := decide_eq_false (by omega)
  rw [ho, decide_eq_false (show ¬ V.ref To = V.non by simp), decide_eq_true rfl]
  refine ifq rfl ?_
  walk_at "go"
  refine ifp rfl ?_
  walk_at "go"
  refine ⟨kk, b, rfl, k1, k4, hrb, hevb, fun T17 m7 H17 s17 g17 mn7 => ?_⟩
  have em : m7 = mo := congrArg Prod.snd (mn7.uniq mno)
  subst em
  have go17 := s17 _ _ go'
  walk_at "go"
  refine s_smU go17 g17 rfl ?_
  walk_at "go"
  refine ifq rfl ?_
  walk_at "go"
  refine ifp rfl ?_
  walk_at "go"
  refine ⟨kk, b, m7, To, rfl, k1, k4, hrb, go17, mno, fun H18 s18 => ?_⟩
  walk_at "go"
  first | refine ⟨true, rfl, ifq rfl ?_⟩ | refine ifq rfl ?_
  first | refine ifq rfl ?_ | skip
  exact tail _ _ H18 ((u16.trans s17).trans s18) ((d16.same s17).same s18) (s18 _ _ (s17 _ _ g16))
end
theorem len1 {P:List Value->Prop} (h:∀ a,P [a]):∀ us,us.length = 1->P us | [_],_=>h _
theorem len2 {P:List Value->Prop} (h:∀ a b,P [a,b]):∀ us,us.length = 2->P us | [_,_],_=>h _ _
theorem len3 {P:List Value->Prop} (h:∀ a b c,P [a,b,c]):∀ us,us.length = 3->P us | [_,_,_],_=>h _ _ _
def FnAt (K:PySem.W.Frag) (x:Str) (st:Stmt):Prop:=∃ f fd,PySem.W.nsIn K mainGlobals x = some (some (.ref f))/\Fun K x x st f fd
theorem FnAt.mk {K:PySem.W.Frag} {x:Str} {st:Stmt} {f:Addr} {oc:Value} {od an:Option Addr} {osl:Array (Option Value)} {kV doc pm cdv ct:Value} (a:PySem.W.nsIn K mainGlobals x = some (some (.ref f))) (l:K.lookup f = some ⟨oc,od,.func (PySem.W.fnOf x x (defArgs st) (defBody st) (defScope st) .none kV doc pm an cdv ct),osl⟩) (c:PySem.W.codeIn K cdv x = true) (k:PySem.W.keepIn K (.ref f) = true):FnAt K x st:=⟨f,_,a,fun_mk l c k⟩
theorem FnAt.at {K:PySem.W.Frag} {h:Heap} {mg:Str->Option Value} {x:Str} {st:Stmt} {ps:List Str} (p:FnAt K x st) (X:K.In h) (G:h.Ns mainGlobals mg) (hb:∀ (kV doc pm:Value) (an:Option Addr) (cdv ct:Value) (us:List Value),us.length = ps.length->bindArgs (PySem.W.fnOf x x (defArgs st) (defBody st) (defScope st) .none kV doc pm an cdv ct) ⟨us,[]⟩ = pure (ps.zip us)):∃ f fd,DefAt K mg x st ps f fd:=let ⟨f,fd,a,F⟩:=p; ⟨f,fd,F,PySem.W.mg_of X G a,F.binds hb⟩
theorem all_mk {l:PySem.W.OpenLaw} {w:World} {K:PySem.W.Frag} {h:Heap} {mg:Str->Option Value} {fa:Addr} (X:K.In h) (G:h.Ns mainGlobals mg) (hfa:mg "law" = some (.ref fa)) {f23:Addr} {od23 an23:Option Addr} {sl23:Array (Option Value)} {oc23 kV23 dc23 pm23 cd23 ct23:Value} {f24:Addr} {od24 an24:Option Addr} {sl24:Array (Option Value)} {oc24 kV24 dc24 pm24 cd24 ct24:Value} {f25:Addr} {od25 an25:Option Addr} {sl25:Array (Option Value)} {oc25 kV25 dc25 pm25 cd25 ct25:Value} {f26:Addr} {od26 an26:Option Addr} {sl26:Array (Option Value)} {oc26 kV26 dc26 pm26 cd26 ct26:Value} {f27:Addr} {od27 an27:Option Addr} {sl27:Array (Option Value)} {oc27 kV27 dc27 pm27 cd27 ct27:Value} {aC:Addr} {x_OPENING:Str} {t_OPENING:Tok} {x_CLOSING:Str} {t_CLOSING:Tok} {aK:Addr} {oK:Obj} {itK:Array Value} {nK:Nat} {x_BRACKETS:Str} {t_BRACKETS:Tok} {x_UNKNOWN:Str} {t_UNKNOWN:Tok} {x_MOST_SIGNS:Int} {t_MOST_SIGNS:Tok} {x_KEPT:Int} {t_KEPT:Tok} {x_CHANGED:Int} {t_CHANGED:Tok}
  (p0:FnAt K "is_whole" d_is_whole)
  (p1:FnAt K "check_kinds" d_check_kinds)
  (p2:FnAt K "is_line" d_is_line)
  (p3:FnAt K "check_line" d_check_line)
  (p4:FnAt K "matched" d_matched)
  (p5:FnAt K "is_right" d_is_right)
  (p6:FnAt K "partners" d_partners)
  (p7:FnAt K "weighed_places" d_weighed_places)
  (p8:FnAt K "counted_places" d_counted_places)
  (p9:FnAt K "pair_sum" d_pair_sum)
  (p10:FnAt K "no_sums" d_no_sums)
  (p11:FnAt K "span_sums" d_span_sums)
  (p12:FnAt K "whole_sum" d_whole_sum)
  (p13:FnAt K "likelier" d_likelier)
  (p14:FnAt K "likeliest_pair" d_likeliest_pair)
  (p15:FnAt K "round_about" d_round_about)
  (p16:FnAt K "one_behind_the_other" d_one_behind_the_other)
  (p17:FnAt K "likeliest_spans" d_likeliest_spans)
  (p18:FnAt K "first_likeliest" d_first_likeliest)
  (p19:FnAt K "needs_change" d_needs_change)
  (p20:FnAt K "places_to_change" d_places_to_change)
  (p21:FnAt K "fewest_changes" d_fewest_changes)
  (p22:FnAt K "opens" d_opens)
  (a23:PySem.W.findIn K (.ref aC) "__init__" = some (some (.ref f23))) (n23:PySem.W.isFn K (.ref f23) = true) (l23:K.lookup f23 = some ⟨oc23,od23,.func (PySem.W.fnOf "__init__" "Course.__init__" (defArgs d_Course___init__) (defBody d_Course___init__) (defScope d_Course___init__) .none kV23 dc23 pm23 an23 cd23 ct23),sl23⟩) (c23:PySem.W.codeIn K cd23 "Course.__init__" = true) (k23:PySem.W.keepIn K (.ref f23) = true)
  (a24:PySem.W.findIn K (.ref aC) "many_in_all" = some (some (.ref f24))) (n24:PySem.W.isFn K (.ref f24) = true) (l24:K.lookup f24 = some ⟨oc24,od24,.func (PySem.W.fnOf "many_in_all" "Course.many_in_all" (defArgs d_Course_many_in_all) (defBody d_Course_many_in_all) (defScope d_Course_many_in_all) .none kV24 dc24 pm24 an24 cd24 ct24),sl24⟩) (c24:PySem.W.codeIn K cd24 "Course.many_in_all" = true) (k24:PySem.W.keepIn K (.ref f24) = true)
  (a25:PySem.W.findIn K (.ref aC) "many_closing" = some (some (.ref f25))) (n25:PySem.W.isFn K (.ref f25) = true) (l25:K.lookup f25 = some ⟨oc25,od25,.func (PySem.W.fnOf "many_closing" "Course.many_closing" (defArgs d_Course_many_closing) (defBody d_Course_many_closing) (defScope d_Course_many_closing) .none kV25 dc25 pm25 an25 cd25 ct25),sl25⟩) (c25:PySem.W.codeIn K cd25 "Course.many_closing" = true) (k25:PySem.W.keepIn K (.ref f25) = true)
  (a26:PySem.W.findIn K (.ref aC) "many_with" = some (some (.ref f26))) (n26:PySem.W.isFn K (.ref f26) = true) (l26:K.lookup f26 = some ⟨oc26,od26,.func (PySem.W.fnOf "many_with" "Course.many_with" (defArgs d_Course_many_with) (defBody d_Course_many_with) (defScope d_Course_many_with) .none kV26 dc26 pm26 an26 cd26 ct26),sl26⟩) (c26:PySem.W.codeIn K cd26 "Course.many_with" = true) (k26:PySem.W.keepIn K (.ref f26) = true)
  (a27:PySem.W.findIn K (.ref aC) "take" = some (some (.ref f27))) (n27:PySem.W.isFn K (.ref f27) = true) (l27:K.lookup f27 = some ⟨oc27,od27,.func (PySem.W.fnOf "take" "Course.take" (defArgs d_Course_take) (defBody d_Course_take) (defScope d_Course_take) .none kV27 dc27 pm27 an27 cd27 ct27),sl27⟩) (c27:PySem.W.codeIn K cd27 "Course.take" = true) (k27:PySem.W.keepIn K (.ref f27) = true)
  (p28:FnAt K "nth_filling" d_nth_filling)
  (p29:FnAt K "how_many" d_how_many)
  (p30:FnAt K "can_be_right" d_can_be_right)
  (p31:FnAt K "_law_pool" d_law_pool)
  (p32:FnAt K "_law_draw" d_law_draw)
  (p33:FnAt K "_law_right" d_law_right)
  (p34:FnAt K "_law_row" d_law_row)
  (p35:FnAt K "_law_unlike" d_law_unlike)
  (p36:FnAt K "_law_told_right" d_law_told_right)
  (p37:FnAt K "_law_of_one_kind" d_law_of_one_kind)
  (p38:FnAt K "_law_fewest" d_law_fewest)
  (p39:FnAt K "law" d_law)
  (yc:PySem.W.nsIn K mainGlobals "Course" = some (some (.ref aC))) (pg:PySem.W.plainGet K aC Str.empty = true) (hdi:PySem.W.hasDictIn K aC = true) (po:PySem.W.plainOver K aC = true) (sat:PySem.W.findIn K (.ref aC) "__setattr__" = some (some (.builtin "object.__setattr__"))) (mks:PySem.W.makesIn K aC = true) (kpc:PySem.W.keepIn K (.ref aC) = true)
  (nf_at:PySem.W.findIn K (.ref aC) "at" = some none)
  (nf_closings:PySem.W.findIn K (.ref aC) "closings" = some none)
  (nf_places:PySem.W.findIn K (.ref aC) "places" = some none)
  (nf_rests:PySem.W.findIn K (.ref aC) "rests" = some none)
  (nf_sums:PySem.W.findIn K (.ref aC) "sums" = some none)
  (z_all:PySem.W.nsIn K mainGlobals "all" = some none)
  (z_bool:PySem.W.nsIn K mainGlobals "bool" = some none)
  (z_enumerate:PySem.W.nsIn K mainGlobals "enumerate" = some none)
  (z_int:PySem.W.nsIn K mainGlobals "int" = some none)
  (z_isinstance:PySem.W.nsIn K mainGlobals "isinstance" = some none)
  (z_len:PySem.W.nsIn K mainGlobals "len" = some none)
  (z_list:PySem.W.nsIn K mainGlobals "list" = some none)
  (z_min:PySem.W.nsIn K mainGlobals "min" = some none)
  (z_range:PySem.W.nsIn K mainGlobals "range" = some none)
  (z_str:PySem.W.nsIn K mainGlobals "str" = some none)
  (z_sum:PySem.W.nsIn K mainGlobals "sum" = some none)
  (z_tuple:PySem.W.nsIn K mainGlobals "tuple" = some none)
  (z_zip:PySem.W.nsIn K mainGlobals "zip" = some none)
  (g_OPENING:PySem.W.nsIn K mainGlobals "OPENING" = some (some (.str x_OPENING t_OPENING))) (h_OPENING:x_OPENING = ⟨([40,91,123,60]:List Nat).toArray⟩)
  (g_CLOSING:PySem.W.nsIn K mainGlobals "CLOSING" = some (some (.str x_CLOSING t_CLOSING))) (h_CLOSING:x_CLOSING = ⟨([41,93,125,62]:List Nat).toArray⟩)
  (g_K:PySem.W.nsIn K mainGlobals "KINDS" = some (some (.ref aK))) (l_K:K.lookup aK = some oK) (c_K:oK.cls = .type "tuple") (s_K:oK.data = .seq itK nK) (r_K:tupIs itK [tx [40,41],tx [91,93],tx [123,125],tx [60,62]] = true)
  (g_BRACKETS:PySem.W.nsIn K mainGlobals "BRACKETS" = some (some (.str x_BRACKETS t_BRACKETS))) (h_BRACKETS:x_BRACKETS = ⟨([40,41,91,93,123,125,60,62]:List Nat).toArray⟩)
  (g_UNKNOWN:PySem.W.nsIn K mainGlobals "UNKNOWN" = some (some (.str x_UNKNOWN t_UNKNOWN))) (h_UNKNOWN:x_UNKNOWN = ⟨([63]:List Nat).toArray⟩)
  (g_MOST_SIGNS:PySem.W.nsIn K mainGlobals "MOST_SIGNS" = some (some (.int x_MOST_SIGNS t_MOST_SIGNS))) (h_MOST_SIGNS:x_MOST_SIGNS = 40)
  (g_KEPT:PySem.W.nsIn K mainGlobals "KEPT" = some (some (.int x_KEPT t_KEPT))) (h_KEPT:x_KEPT = 2)
  (g_CHANGED:PySem.W.nsIn K mainGlobals "CHANGED" = some (some (.int x_CHANGED t_CHANGED))) (h_CHANGED:x_CHANGED = 1) :
  ∃ fd:FuncData,(∀ (s:Shared) (v:Value),BindsTo s fd ⟨[v],[]⟩ [("script",v)])/\∀ base:Heap,K.In base->base.Ns mainGlobals mg->FnOk l.prog w K mg base CX0 8 fa fd ["script"] (spLaw K):=by
 have T:Txt K mg aK aC:=⟨PySem.W.mg_none_of X G z_all,PySem.W.mg_none_of X G z_bool,PySem.W.mg_none_of X G z_enumerate,PySem.W.mg_none_of X G z_int,PySem.W.mg_none_of X G z_isinstance,PySem.W.mg_none_of X G z_len,PySem.W.mg_none_of X G z_list,PySem.W.mg_none_of X G z_min,PySem.W.mg_none_of X G z_range,PySem.W.mg_none_of X G z_str,PySem.W.mg_none_of X G z_sum,PySem.W.mg_none_of X G z_tuple,PySem.W.mg_none_of X G z_zip,⟨_,PySem.W.mg_of X G g_OPENING,by rw [h_OPENING]; exact ⟨_,rfl⟩⟩,⟨_,PySem.W.mg_of X G g_CLOSING,by rw [h_CLOSING]; exact ⟨_,rfl⟩⟩,⟨_,PySem.W.mg_of X G g_K,rfl⟩,fun H=>.inr ⟨oK,itK,nK,l_K,c_K,s_K,tupIs_size r_K (by decide),tupIs_vals r_K⟩,⟨_,PySem.W.mg_of X G g_BRACKETS,by rw [h_BRACKETS]; exact ⟨_,rfl⟩⟩,⟨_,PySem.W.mg_of X G g_UNKNOWN,by rw [h_UNKNOWN]; exact ⟨_,rfl⟩⟩,⟨_,PySem.W.mg_of X G g_MOST_SIGNS,by rw [h_MOST_SIGNS]; exact ⟨_,rfl⟩⟩,⟨_,PySem.W.mg_of X G g_KEPT,by rw [h_KEPT]; exact ⟨_,rfl⟩⟩,⟨_,PySem.W.mg_of X G g_CHANGED,by rw [h_CHANGED]; exact ⟨_,rfl⟩⟩,PySem.W.mg_of X G yc,⟨pg,hdi,po,sat⟩,nf_at,nf_closings,nf_places,nf_rests,nf_sums⟩
 obtain ⟨f0,e0,D0⟩:=p0.at (ps:=["thing"]) X G fun _ _ _ _ _ _=>len1 fun _=>rfl
 obtain ⟨f1,e1,D1⟩:=p1.at (ps:=["k"]) X G fun _ _ _ _ _ _=>len1 fun _=>rfl
 obtain ⟨f2,e2,D2⟩:=p2.at (ps:=["k","thing"]) X G fun _ _ _ _ _ _=>len2 fun _ _=>rfl
 obtain ⟨f3,e3,D3⟩:=p3.at (ps:=["k","row"]) X G fun _ _ _ _ _ _=>len2 fun _ _=>rfl
 obtain ⟨f4,e4,D4⟩:=p4.at (ps:=["row"]) X G fun _ _ _ _ _ _=>len1 fun _=>rfl
 obtain ⟨f5,e5,D5⟩:=p5.at (ps:=["k","row"]) X G fun _ _ _ _ _ _=>len2 fun _ _=>rfl
 obtain ⟨f6,e6,D6⟩:=p6.at (ps:=["k","row"]) X G fun _ _ _ _ _ _=>len2 fun _ _=>rfl
 obtain ⟨f7,e7,D7⟩:=p7.at (ps:=["row","weights"]) X G fun _ _ _ _ _ _=>len2 fun _ _=>rfl
 obtain ⟨f8,e8,D8⟩:=p8.at (ps:=["k","row"]) X G fun _ _ _ _ _ _=>len2 fun _ _=>rfl
 obtain ⟨f9,e9,D9⟩:=p9.at (ps:=["first","last"]) X G fun _ _ _ _ _ _=>len2 fun _ _=>rfl
 obtain ⟨f10,e10,D10⟩:=p10.at (ps:=["many"]) X G fun _ _ _ _ _ _=>len1 fun _=>rfl
 obtain ⟨f11,e11,D11⟩:=p11.at (ps:=["places"]) X G fun _ _ _ _ _ _=>len1 fun _=>rfl
 obtain ⟨f12,e12,D12⟩:=p12.at (ps:=["sums"]) X G fun _ _ _ _ _ _=>len1 fun _=>rfl
 obtain ⟨f13,e13,D13⟩:=p13.at (ps:=["one","other"]) X G fun _ _ _ _ _ _=>len2 fun _ _=>rfl
 obtain ⟨f14,e14,D14⟩:=p14.at (ps:=["first","last"]) X G fun _ _ _ _ _ _=>len2 fun _ _=>rfl
 obtain ⟨f15,e15,D15⟩:=p15.at (ps:=["pair","within"]) X G fun _ _ _ _ _ _=>len2 fun _ _=>rfl
 obtain ⟨f16,e16,D16⟩:=p16.at (ps:=["first","second"]) X G fun _ _ _ _ _ _=>len2 fun _ _=>rfl
 obtain ⟨f17,e17,D17⟩:=p17.at (ps:=["places"]) X G fun _ _ _ _ _ _=>len1 fun _=>rfl
 obtain ⟨f18,e18,D18⟩:=p18.at (ps:=["places"]) X G fun _ _ _ _ _ _=>len1 fun _=>rfl
 obtain ⟨f19,e19,D19⟩:=p19.at (ps:=["sign","bracket"]) X G fun _ _ _ _ _ _=>len2 fun _ _=>rfl
 obtain ⟨f20,e20,D20⟩:=p20.at (ps:=["k","row"]) X G fun _ _ _ _ _ _=>len2 fun _ _=>rfl
 obtain ⟨f21,e21,D21⟩:=p21.at (ps:=["k","row"]) X G fun _ _ _ _ _ _=>len2 fun _ _=>rfl
 obtain ⟨f22,e22,D22⟩:=p22.at (ps:=["bracket"]) X G fun _ _ _ _ _ _=>len1 fun _=>rfl
 have F23:=fun_mk (st:=d_Course___init__) l23 c23 k23
 have B23:Binds K _ ["self","k","row"] []:=F23.binds (ps:=["self","k","row"]) fun _ _ _ _ _ _ us hl=>match us,hl with | [_,_,_],_=>rfl
 have F24:=fun_mk (st:=d_Course_many_in_all) l24 c24 k24
 have B24:Binds K _ ["self"] []:=F24.binds (ps:=["self"]) fun _ _ _ _ _ _ us hl=>match us,hl with | [_],_=>rfl
 have F25:=fun_mk (st:=d_Course_many_closing) l25 c25 k25
 have B25:Binds K _ ["self","start","closing"] []:=F25.binds (ps:=["self","start","closing"]) fun _ _ _ _ _ _ us hl=>match us,hl with | [_,_,_],_=>rfl
 have F26:=fun_mk (st:=d_Course_many_with) l26 c26 k26
 have B26:Binds K _ ["self","bracket"] []:=F26.binds (ps:=["self","bracket"]) fun _ _ _ _ _ _ us hl=>match us,hl with | [_,_],_=>rfl
 have F27:=fun_mk (st:=d_Course_take) l27 c27 k27
 have B27:Binds K _ ["self","bracket"] []:=F27.binds (ps:=["self","bracket"]) fun _ _ _ _ _ _ us hl=>match us,hl with | [_,_],_=>rfl
 obtain ⟨f28,e28,D28⟩:=p28.at (ps:=["k","row","i"]) X G fun _ _ _ _ _ _=>len3 fun _ _ _=>rfl
 obtain ⟨f29,e29,D29⟩:=p29.at (ps:=["k","row"]) X G fun _ _ _ _ _ _=>len2 fun _ _=>rfl
 obtain ⟨f30,e30,D30⟩:=p30.at (ps:=["k","row"]) X G fun _ _ _ _ _ _=>len2 fun _ _=>rfl
 obtain ⟨f31,e31,D31⟩:=p31.at (ps:=["script","k"]) X G fun _ _ _ _ _ _=>len2 fun _ _=>rfl
 obtain ⟨f32,e32,D32⟩:=p32.at (ps:=["pool","many"]) X G fun _ _ _ _ _ _=>len2 fun _ _=>rfl
 obtain ⟨f33,e33,D33⟩:=p33.at (ps:=["pool","kinds","many"]) X G fun _ _ _ _ _ _=>len3 fun _ _ _=>rfl
 obtain ⟨f34,e34,D34⟩:=p34.at (ps:=["pool","kinds","many"]) X G fun _ _ _ _ _ _=>len3 fun _ _ _=>rfl
 obtain ⟨f35,e35,D35⟩:=p35.at (ps:=["row","other"]) X G fun _ _ _ _ _ _=>len2 fun _ _=>rfl
 obtain ⟨f36,e36,D36⟩:=p36.at (ps:=["kinds","row","told"]) X G fun _ _ _ _ _ _=>len3 fun _ _ _=>rfl
 obtain ⟨f37,e37,D37⟩:=p37.at (ps:=["row"]) X G fun _ _ _ _ _ _=>len1 fun _=>rfl
 obtain ⟨f38,e38,D38⟩:=p38.at (ps:=["kinds","row"]) X G fun _ _ _ _ _ _=>len2 fun _ _=>rfl
 obtain ⟨f39,e39,D39⟩:=p39.at (ps:=["script"]) X G fun _ _ _ _ _ _=>len1 fun _=>rfl
 have e:=hfa.symm.trans D39.m
 cases e
 obtain ⟨_,_,kV39,dc39,pm39,an39,cd39,ct39,_,rfl,_,_⟩:=D39.F.ex
 refine ⟨PySem.W.fnOf "law" "law" (defArgs d_law) (defBody d_law) (defScope d_law) .none kV39 dc39 pm39 an39 cd39 ct39,fun s v=>.of_eq rfl,fun base _ _=>?_⟩
 have U_is_whole:FnU l.prog w K mg base 1 "is_whole" ["thing"] (spWhole K):=D0.fnU (ok_is_whole (k:=0) D0.F T )
 have U_check_kinds:FnU l.prog w K mg base 2 "check_kinds" ["k"] (spKinds):=D1.fnU (ok_check_kinds (k:=1) D1.F T (U_is_whole.mono (by decide)))
 have U_is_line:FnU l.prog w K mg base 3 "is_line" ["k","thing"] (spLine K):=D2.fnU (ok_is_line (k:=2) D2.F T (U_check_kinds.mono (by decide)))
 have U_check_line:FnU l.prog w K mg base 4 "check_line" ["k","row"] (spCheckLine):=D3.fnU (ok_check_line (k:=3) D3.F T (U_is_line.mono (by decide)))
 have U_matched:FnU l.prog w K mg base 1 "matched" ["row"] (spMatched):=D4.fnU (ok_matched (k:=0) D4.F T )
 have U_is_right:FnU l.prog w K mg base 5 "is_right" ["k","row"] (spRightP):=D5.fnU (ok_is_right (k:=4) D5.F T (U_check_line.mono (by decide)) (U_matched.mono (by decide)))
 have U_partners:FnU l.prog w K mg base 5 "partners" ["k","row"] (spPartners):=D6.fnU (ok_partners (k:=4) D6.F T (U_check_line.mono (by decide)) (U_matched.mono (by decide)))
 have U_weighed_places:FnU l.prog w K mg base 1 "weighed_places" ["row","weights"] (spWeighed K):=D7.fnU (ok_weighed_places (k:=0) D7.F T )
 have U_counted_places:FnU l.prog w K mg base 2 "counted_places" ["k","row"] (spCounted):=D8.fnU (ok_counted_places (k:=1) D8.F T (U_weighed_places.mono (by decide)))
 have U_pair_sum:FnU l.prog w K mg base 1 "pair_sum" ["first","last"] (spPair):=D9.fnU (ok_pair_sum (k:=0) D9.F T )
 have U_no_sums:FnU l.prog w K mg base 1 "no_sums" ["many"] (spNoSums):=D10.fnU (ok_no_sums (k:=0) D10.F T )
 have U_span_sums:FnU l.prog w K mg base 2 "span_sums" ["places"] (spSpans):=D11.fnU (ok_span_sums (k:=1) D11.F T (U_no_sums.mono (by decide)) (U_pair_sum.mono (by decide)))
 have U_whole_sum:FnU l.prog w K mg base 1 "whole_sum" ["sums"] (spWholeSum):=D12.fnU (ok_whole_sum (k:=0) D12.F T )
 have U_likelier:FnU l.prog w K mg base 1 "likelier" ["one","other"] (spLikelier):=D13.fnU (ok_likelier (k:=0) D13.F T )
 have U_likeliest_pair:FnU l.prog w K mg base 2 "likeliest_pair" ["first","last"] (spLPair):=D14.fnU (ok_likeliest_pair (k:=1) D14.F T (U_likelier.mono (by decide)))
 have U_round_about:FnU l.prog w K mg base 1 "round_about" ["pair","within"] (spRound):=D15.fnU (ok_round_about (k:=0) D15.F T )
 have U_one_behind_the_other:FnU l.prog w K mg base 1 "one_behind_the_other" ["first","second"] (spBehindO):=D16.fnU (ok_one_behind_the_other (k:=0) D16.F T )
 have U_likeliest_spans:FnU l.prog w K mg base 3 "likeliest_spans" ["places"] (spSpansL):=D17.fnU (ok_likeliest_spans (k:=2) D17.F T (U_round_about.mono (by decide)) (U_likeliest_pair.mono (by decide)) (U_one_behind_the_other.mono (by decide)) (U_likelier.mono (by decide)))
 have U_first_likeliest:FnU l.prog w K mg base 4 "first_likeliest" ["places"] (spFirstL):=D18.fnU (ok_first_likeliest (k:=3) D18.F T (U_likeliest_spans.mono (by decide)))
 have U_needs_change:FnU l.prog w K mg base 1 "needs_change" ["sign","bracket"] (spNeeds):=D19.fnU (ok_needs_change (k:=0) D19.F T )
 have U_places_to_change:FnU l.prog w K mg base 2 "places_to_change" ["k","row"] (spPlacesC):=D20.fnU (ok_places_to_change (k:=1) D20.F T (U_needs_change.mono (by decide)))
 have U_fewest_changes:FnU l.prog w K mg base 5 "fewest_changes" ["k","row"] (spFewest32):=D21.fnU (ok_fewest_changes (k:=4) D21.F T (U_check_line.mono (by decide)) (U_first_likeliest.mono (by decide)) (U_places_to_change.mono (by decide)) (U_needs_change.mono (by decide)))
 have U_opens:FnU l.prog w K mg base 1 "opens" ["bracket"] (spOpens):=D22.fnU (ok_opens (k:=0) D22.F T )
 have U_Course___init__:MkU l.prog w K mg base 4 aC ["self","k","row"] (spCInit aC):=⟨⟨3,_,_,Nat.le_refl _,ok_Course___init__ (k:=2) F23 T (U_counted_places.mono (by decide)) (U_span_sums.mono (by decide)),⟨mks,a23,n23,kpc⟩,B23⟩⟩
 have U_Course_many_in_all:MeU l.prog w K mg base 2 aC "many_in_all" ["self"] (spCAll aC):=⟨⟨_,_,ok_Course_many_in_all (k:=1) F24 T (U_whole_sum.mono (by decide)),⟨a24,n24,k24⟩,B24⟩⟩
 have U_Course_many_closing:MeU l.prog w K mg base 1 aC "many_closing" ["self","start","closing"] (spCClosing aC):=⟨⟨_,_,ok_Course_many_closing (k:=0) F25 T ,⟨a25,n25,k25⟩,B25⟩⟩
 have U_Course_many_with:MeU l.prog w K mg base 2 aC "many_with" ["self","bracket"] (spCWith aC):=⟨⟨_,_,ok_Course_many_with (k:=1) F26 T (U_opens.mono (by decide)) (U_Course_many_closing.mono (by decide)),⟨a26,n26,k26⟩,B26⟩⟩
 have U_Course_take:MeU l.prog w K mg base 2 aC "take" ["self","bracket"] (spCTake aC):=⟨⟨_,_,ok_Course_take (k:=1) F27 T (U_opens.mono (by decide)) (U_Course_many_closing.mono (by decide)),⟨a27,n27,k27⟩,B27⟩⟩
 have U_nth_filling:FnU l.prog w K mg base 5 "nth_filling" ["k","row","i"] (spNth):=D28.fnU (ok_nth_filling (k:=4) D28.F T (U_check_line.mono (by decide)) (U_Course___init__.mono (by decide)) (U_Course_take.mono (by decide)) (U_is_whole.mono (by decide)) (U_Course_many_with.mono (by decide)) (U_Course_many_in_all.mono (by decide)))
 have U_how_many:FnU l.prog w K mg base 5 "how_many" ["k","row"] (spMany):=D29.fnU (ok_how_many (k:=4) D29.F T (U_check_line.mono (by decide)) (U_whole_sum.mono (by decide)) (U_span_sums.mono (by decide)) (U_counted_places.mono (by decide)))
 have U_can_be_right:FnU l.prog w K mg base 6 "can_be_right" ["k","row"] (spCan):=D30.fnU (ok_can_be_right (k:=5) D30.F T (U_how_many.mono (by decide)))
 have U_law_pool:FnU l.prog w K mg base 1 "_law_pool" ["script","k"] (spPoolD K):=D31.fnU (ok_law_pool (k:=0) D31.F T )
 have U_law_draw:FnU l.prog w K mg base 1 "_law_draw" ["pool","many"] (spDraw):=D32.fnU (ok_law_draw (k:=0) D32.F T )
 have U_law_right:FnU l.prog w K mg base 2 "_law_right" ["pool","kinds","many"] (spRightD):=D33.fnU (ok_law_right (k:=1) D33.F T (U_law_draw.mono (by decide)))
 have U_law_row:FnU l.prog w K mg base 3 "_law_row" ["pool","kinds","many"] (spRowD):=D34.fnU (ok_law_row (k:=2) D34.F T (U_law_right.mono (by decide)) (U_law_draw.mono (by decide)))
 have U_law_unlike:FnU l.prog w K mg base 1 "_law_unlike" ["row","other"] (spUnlike):=D35.fnU (ok_law_unlike (k:=0) D35.F T )
 have U_law_told_right:FnU l.prog w K mg base 7 "_law_told_right" ["kinds","row","told"] (spTold32):=D36.fnU (ok_law_told_right (k:=6) D36.F T (U_law_unlike.mono (by decide)) (U_fewest_changes.mono (by decide)) (U_is_right.mono (by decide)) (U_can_be_right.mono (by decide)) (U_nth_filling.mono (by decide)) (U_partners.mono (by decide)))
 have U_law_of_one_kind:FnU l.prog w K mg base 1 "_law_of_one_kind" ["row"] (spOne32):=D37.fnU (ok_law_of_one_kind (k:=0) D37.F T )
 have U_law_fewest:FnU l.prog w K mg base 1 "_law_fewest" ["kinds","row"] (spLeast32):=D38.fnU (ok_law_fewest (k:=0) D38.F T )
 exact ok_law (k:=7) D39.F T (U_law_pool.mono (by decide)) (U_law_right.mono (by decide)) (U_law_draw.mono (by decide)) (U_fewest_changes.mono (by decide)) (U_law_fewest.mono (by decide)) (U_law_row.mono (by decide)) (U_law_of_one_kind.mono (by decide)) (U_law_told_right.mono (by decide))
theorem walk {l : PySem.W.OpenLaw} {q : Program} {loose : List Str} {XP : (Str -> Option Value) -> Heap -> Prop} {YP : World -> Heap -> Prop} {d : DefRec} {K : Params -> PySem.W.Frag} (hn : l.most = some 63) (hdf : d.params.defaults = [])
  (hY : ∀ (w : World) (h : Heap), YP w h -> (K w.params).In h)
  (F : ∀ (w : World) (mg : Str -> Option Value) (fa : Addr) (h : Heap), (K w.params).In h -> h.Ns mainGlobals mg -> mg d.name = some (.ref fa) ->
   ∃ fd : FuncData, (∀ (s : Shared) (u : Value), BindsTo s fd ⟨[u], []⟩ [("script", u)]) /\ ∀ base : Heap, (K w.params).In base -> base.Ns mainGlobals mg -> FnOk l.prog w (K w.params) mg base CX0 8 fa fd ["script"] (spLaw (K w.params))) :
  PySem.W.WalkO q loose XP YP l.row.toRowW d [] (fun f vs => PySem.call f vs) :=
 L2.walk_of (n := 63) (k := 8) (x := "script") (CX := fun _ => CX0) (sp := fun w => spLaw (K w.params)) hn (by decide) hdf ⟨rfl, by decide, by decide, rfl⟩ hY F (fun _ _ a ns hl _ hS => ⟨a, ns, rfl, hS, hl, fun _ => rfl⟩) fun _ _ _ _ _ z => z
end Bk
theorem PySem.W.Fast.tw10012787637132886908:True:=trivial
theorem PySem.W.Fast.tw10071373818872439104:True:=trivial
theorem PySem.W.Fast.tw10078192436375707656:True:=trivial
theorem PySem.W.Fast.tw10128742653529012097:True:=trivial
theorem PySem.W.Fast.tw10219121316081956632:True:=trivial
theorem PySem.W.Fast.tw10265124256403509196:True:=trivial
theorem PySem.W.Fast.tw10425919195868962234:True:=trivial
theorem PySem.W.Fast.tw10481517585495992398:True:=trivial
theorem PySem.W.Fast.tw10484557888193612725:True:=trivial
theorem PySem.W.Fast.tw10510600277092710510:True:=trivial
theorem PySem.W.Fast.tw10702038566333178898:True:=trivial
theorem PySem.W.Fast.tw10716804658527670757:True:=trivial
theorem PySem.W.Fast.tw10752746400907354783:True:=trivial
theorem PySem.W.Fast.tw10806771414543952950:True:=trivial
theorem PySem.W.Fast.tw1085684169991115633:True:=trivial
theorem PySem.W.Fast.tw11144410369354578657:True:=trivial
theorem PySem.W.Fast.tw11615438485379965390:True:=trivial
theorem PySem.W.Fast.tw11910919908955912590:True:=trivial
theorem PySem.W.Fast.tw12066038765534954707:True:=trivial
theorem PySem.W.Fast.tw12154272474828389244:True:=trivial
theorem PySem.W.Fast.tw12608198869025212377:True:=trivial
theorem PySem.W.Fast.tw12642934486440651322:True:=trivial
theorem PySem.W.Fast.tw12964452146699011311:True:=trivial
theorem PySem.W.Fast.tw13000399676334844049:True:=trivial
theorem PySem.W.Fast.tw13036811776277037524:True:=trivial
theorem PySem.W.Fast.tw13158246855150522318:True:=trivial
theorem PySem.W.Fast.tw13177028709757562171:True:=trivial
theorem PySem.W.Fast.tw13283358837142406209:True:=trivial
theorem PySem.W.Fast.tw13355643464320994166:True:=trivial
theorem PySem.W.Fast.tw13411418774564310642:True:=trivial
theorem PySem.W.Fast.tw13605791280467679852:True:=trivial
theorem PySem.W.Fast.tw13659167409031789598:True:=trivial
theorem PySem.W.Fast.tw13935473957696107521:True:=trivial
theorem PySem.W.Fast.tw13957526272114244131:True:=trivial
theorem PySem.W.Fast.tw14029108840089084065:True:=trivial
theorem PySem.W.Fast.tw1408777543787080754:True:=trivial
theorem PySem.W.Fast.tw1442774195786649685:True:=trivial
theorem PySem.W.Fast.tw14777622946669794530:True:=trivial
theorem PySem.W.Fast.tw14838693462309136066:True:=trivial
theorem PySem.W.Fast.tw14912395679850128353:True:=trivial
theorem PySem.W.Fast.tw15198187824762545672:True:=trivial
theorem PySem.W.Fast.tw1542939919542551649:True:=trivial
theorem PySem.W.Fast.tw15537447891337630571:True:=trivial
theorem PySem.W.Fast.tw15599251718249975824:True:=trivial
theorem PySem.W.Fast.tw1572875572266805256:True:=trivial
theorem PySem.W.Fast.tw15943128071845492273:True:=trivial
theorem PySem.W.Fast.tw16124243186783659820:True:=trivial
theorem PySem.W.Fast.tw16133489655092420902:True:=trivial
theorem PySem.W.Fast.tw16266242491748722231:True:=trivial
theorem PySem.W.Fast.tw16416401557226314042:True:=trivial
theorem PySem.W.Fast.tw17031082881566064815:True:=trivial
theorem PySem.W.Fast.tw17061669909058186634:True:=trivial
theorem PySem.W.Fast.tw174031394431495388:True:=trivial
theorem PySem.W.Fast.tw17709954603123409991:True:=trivial
theorem PySem.W.Fast.tw17828236407466317250:True:=trivial
theorem PySem.W.Fast.tw17872168684996012783:True:=trivial
theorem PySem.W.Fast.tw17942318522195904697:True:=trivial
theorem PySem.W.Fast.tw18079480597958582610:True:=trivial
theorem PySem.W.Fast.tw1828249170891021833:True:=trivial
theorem PySem.W.Fast.tw1962758631568559469:True:=trivial
theorem PySem.W.Fast.tw2037406151601590186:True:=trivial
theorem PySem.W.Fast.tw2079667457009179796:True:=trivial
theorem PySem.W.Fast.tw2152871218660869814:True:=trivial
theorem PySem.W.Fast.tw2289886121110014714:True:=trivial
theorem PySem.W.Fast.tw2332848103088501305:True:=trivial
theorem PySem.W.Fast.tw2613780934122895362:True:=trivial
theorem PySem.W.Fast.tw2659368268746407222:True:=trivial
theorem PySem.W.Fast.tw2765039477885728846:True:=trivial
theorem PySem.W.Fast.tw3096955099695145893:True:=trivial
theorem PySem.W.Fast.tw3122835919722856520:True:=trivial
theorem PySem.W.Fast.tw3334301945763104346:True:=trivial
theorem PySem.W.Fast.tw3362152218075846075:True:=trivial
theorem PySem.W.Fast.tw3471398751441471365:True:=trivial
theorem PySem.W.Fast.tw3477580626385077229:True:=trivial
theorem PySem.W.Fast.tw3750471703809714262:True:=trivial
theorem PySem.W.Fast.tw3893473616210934061:True:=trivial
theorem PySem.W.Fast.tw4168898643418980263:True:=trivial
theorem PySem.W.Fast.tw4203733994666799119:True:=trivial
theorem PySem.W.Fast.tw4323525506843927564:True:=trivial
theorem PySem.W.Fast.tw4545411924133630526:True:=trivial
theorem PySem.W.Fast.tw4560510766293969303:True:=trivial
theorem PySem.W.Fast.tw4680610586359347433:True:=trivial
theorem PySem.W.Fast.tw4790980066409747642:True:=trivial
theorem PySem.W.Fast.tw4859717922907583704:True:=trivial
theorem PySem.W.Fast.tw5159530676264087621:True:=trivial
theorem PySem.W.Fast.tw5261151357202125506:True:=trivial
theorem PySem.W.Fast.tw5278228890024522452:True:=trivial
theorem PySem.W.Fast.tw5286243995720973339:True:=trivial
theorem PySem.W.Fast.tw5394346989064724413:True:=trivial
theorem PySem.W.Fast.tw5459387991061144508:True:=trivial
theorem PySem.W.Fast.tw5583935813637249625:True:=trivial
theorem PySem.W.Fast.tw5796879390036622199:True:=trivial
theorem PySem.W.Fast.tw5810430577709286912:True:=trivial
theorem PySem.W.Fast.tw5818681305267093894:True:=trivial
theorem PySem.W.Fast.tw614869982893006899:True:=trivial
theorem PySem.W.Fast.tw6701178578732639945:True:=trivial
theorem PySem.W.Fast.tw673624213066860585:True:=trivial
theorem PySem.W.Fast.tw6799061100369966920:True:=trivial
theorem PySem.W.Fast.tw6914031874170949688:True:=trivial
theorem PySem.W.Fast.tw7098580162694638587:True:=trivial
theorem PySem.W.Fast.tw7119814299108182359:True:=trivial
theorem PySem.W.Fast.tw7200749349042134587:True:=trivial
theorem PySem.W.Fast.tw7411950047243306760:True:=trivial
theorem PySem.W.Fast.tw7542880499108497475:True:=trivial
theorem PySem.W.Fast.tw7730531898422848445:True:=trivial
theorem PySem.W.Fast.tw7814726464856657174:True:=trivial
theorem PySem.W.Fast.tw7940657108691461936:True:=trivial
theorem PySem.W.Fast.tw809632176039937954:True:=trivial
theorem PySem.W.Fast.tw8209031594306110428:True:=trivial
theorem PySem.W.Fast.tw8230455707553900470:True:=trivial
theorem PySem.W.Fast.tw8254776991511445389:True:=trivial
theorem PySem.W.Fast.tw845045470040596693:True:=trivial
theorem PySem.W.Fast.tw8589072703886919653:True:=trivial
theorem PySem.W.Fast.tw8629083448019544381:True:=trivial
theorem PySem.W.Fast.tw873443759010192512:True:=trivial
theorem PySem.W.Fast.tw8817302006478336792:True:=trivial
theorem PySem.W.Fast.tw8833454145254047105:True:=trivial
theorem PySem.W.Fast.tw8941492878002867646:True:=trivial
theorem PySem.W.Fast.tw8995221235661625572:True:=trivial
theorem PySem.W.Fast.tw9036382129964975830:True:=trivial
theorem PySem.W.Fast.tw9100354579095675737:True:=trivial
theorem PySem.W.Fast.tw9293552891635191987:True:=trivial
theorem PySem.W.Fast.tw9433432263882000190:True:=trivial
theorem PySem.W.Fast.tw9536136502077318728:True:=trivial
theorem PySem.W.Fast.tw9571751425266256680:True:=trivial
theorem PySem.W.Fast.tw9735161229305140846:True:=trivial
open PySem PySem.W PyProof.Rows
set_option maxRecDepth 100000 in
set_option maxHeartbeats 0 in
theorem PySem.Challenge.cw_bracketrows_k32_whole_changes_in_long_ro_holds : PySem.Challenge.rw_bracketrows_k32_whole_changes_in_long_ro.Holds := by
 w_on; o_law; k_head; (case hw => w_witness2)
 k_fill
 refine Bk.walk (l := PySem.Challenge.rw_bracketrows_k32_whole_changes_in_long_ro) rfl rfl (fun w h Y => PySem.W.kIn_of Y) ?F
 case F =>
  intro w mg fa h KX G hmg
  refine' Bk.all_mk KX G hmg ?p0 ?p1 ?p2 ?p3 ?p4 ?p5 ?p6 ?p7 ?p8 ?p9 ?p10 ?p11 ?p12 ?p13 ?p14 ?p15 ?p16 ?p17 ?p18 ?p19 ?p20 ?p21 ?p22 ?a23 ?n23 ?l23 ?c23 ?k23 ?a24 ?n24 ?l24 ?c24 ?k24 ?a25 ?n25 ?l25 ?c25 ?k25 ?a26 ?n26 ?l26 ?c26 ?k26 ?a27 ?n27 ?l27 ?c27 ?k27 ?p28 ?p29 ?p30 ?p31 ?p32 ?p33 ?p34 ?p35 ?p36 ?p37 ?p38 ?p39 ?yc ?pg ?hdi ?po ?sat ?mks ?kpc ?nf_at ?nf_closings ?nf_places ?nf_rests ?nf_sums ?z_all ?z_bool ?z_enumerate ?z_int ?z_isinstance ?z_len ?z_list ?z_min ?z_range ?z_str ?z_sum ?z_tuple ?z_zip ?g_OPENING ?h_OPENING ?g_CLOSING ?h_CLOSING ?g_K ?l_K ?c_K ?s_K ?r_K ?g_BRACKETS ?h_BRACKETS ?g_UNKNOWN ?h_UNKNOWN ?g_MOST_SIGNS ?h_MOST_SIGNS ?g_KEPT ?h_KEPT ?g_CHANGED ?h_CHANGED
  (case p0 | p1 | p2 | p3 | p4 | p5 | p6 | p7 | p8 | p9 | p10 | p11 | p12 | p13 | p14 | p15 | p16 | p17 | p18 | p19 | p20 | p21 | p22 | p28 | p29 | p30 | p31 | p32 | p33 | p34 | p35 | p36 | p37 | p38 | p39 => (apply Bk.FnAt.mk; k_is; k_is; k_is; k_is))
  (case yc | a23 | n23 | l23 | c23 | k23 | a24 | n24 | l24 | c24 | k24 | a25 | n25 | l25 | c25 | k25 | a26 | n26 | l26 | c26 | k26 | a27 | n27 | l27 | c27 | k27 | pg | hdi | po | sat | mks | kpc | nf_at | nf_closings | nf_places | nf_rests | nf_sums | z_all | z_bool | z_enumerate | z_int | z_isinstance | z_len | z_list | z_min | z_range | z_str | z_sum | z_tuple | z_zip | g_OPENING => k_is)
  (case h_OPENING => first | rfl | decide +kernel)
  (case g_CLOSING => k_is)
  (case h_CLOSING => first | rfl | decide +kernel)
  (case g_K | l_K => k_is)
  (case c_K => rfl)
  (case s_K => rfl)
  (case r_K => decide +kernel)
  (case g_BRACKETS => k_is)
  (case h_BRACKETS => first | rfl | decide +kernel)
  (case g_UNKNOWN => k_is)
  (case h_UNKNOWN => first | rfl | decide +kernel)
  (case g_MOST_SIGNS => k_is)
  (case h_MOST_SIGNS => rfl)
  (case g_KEPT => k_is)
  (case h_KEPT => rfl)
  (case g_CHANGED => k_is)
  (case h_CHANGED => rfl)

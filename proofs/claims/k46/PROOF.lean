import PyProof.Rows.All
import Wide.All
import OpenK.AllK
import Wide.FinOn
import Lean
import PyProof.EqAt
import PyProof.EqKinds
import PyProof.TupleCall
import PyProof.ExcStrCall
import PyProof.ExcStrAll.ValueError
import PyProof.TupleOfStr
import PyProof.DictIter
import PyProof.DictWalks
import PyProof.Rows.SetFrom
import PyProof.CollectWalk
import PyProof.Rows.SortShell
import PyProof.Rows.SortWalk
import PyProof.ListRange
import KE.KEqDict
import KE.KDictSum
import PyProof.ZipIter
import PyProof.Draws
import PyProof.EnumMake
import PyProof.Rows.StrFirst
import KE.KIntText
import PySem.Challenge.RW_bracketrows_k46_rows_that_keep
set_option Elab.async false
set_option linter.all false
set_option maxRecDepth 100000
section
local macro_rules | `(tactic| omega) => `(tactic| lia)
namespace L2
open PySem PySem.Spec PyProof.Rows
abbrev Key:=Sum Int Str
def keyIs:Key->Value->Bool
 | .inl k,v=>Value.isInt k v
 | .inr x,v=>Value.isStrOf x v
def keyH (w:World):Key->Int
 | .inl k=>hashInt k
 | .inr x=>hashStr w x
theorem keyIs_shape : ∀ {k : Key} {v : Value}, keyIs k v = true -> (∃ i t, k = Sum.inl i /\ v = Value.int i t) \/ (∃ x t, k = Sum.inr x /\ v = Value.str x t)
  | .inl i, v, h => by
    obtain ⟨t, e⟩ := Value.isInt_shape (k := i) (v := v) h
    exact .inl ⟨i, t, rfl, e⟩
  | .inr x, v, h => by
    obtain ⟨t, e⟩ := Value.isStrOf_shape (x := x) (v := v) h
    exact .inr ⟨x, t, rfl, e⟩
theorem keyIs_int (i:Int) (t:Tok):keyIs (.inl i) (.int i t) = true:=by simp [keyIs,Value.isInt]
theorem keyIs_str (x:Str) (t:Tok):keyIs (.inr x) (.str x t) = true:=by simp [keyIs,Value.isStrOf]
theorem key_ll (a b:Int):decide ((Sum.inl a:Key) = Sum.inl b) = (a == b):=by
 by_cases e:a = b
 ·subst e; simp
 ·have h:¬ (Sum.inl a:Key) = Sum.inl b:=fun q=>e (Sum.inl.inj q)
  rw [decide_eq_false h]
  exact (beq_eq_false_iff_ne.mpr e).symm
theorem key_rr (a b:Str):decide ((Sum.inr a:Key) = Sum.inr b) = decide (a = b):=by
 by_cases e:a = b
 ·subst e; simp
 ·have h:¬ (Sum.inr a:Key) = Sum.inr b:=fun q=>e (Sum.inr.inj q)
  rw [decide_eq_false h,decide_eq_false e]
theorem key_lr (a:Int) (b:Str):decide ((Sum.inl a:Key) = Sum.inr b) = false:=decide_eq_false (fun q=>nomatch q)
theorem key_rl (a:Str) (b:Int):decide ((Sum.inr a:Key) = Sum.inl b) = false:=decide_eq_false (fun q=>nomatch q)
def mixKind (prog:Program) (w:World):PySem.KeyKind prog w Key where
 is:=keyIs
 hash:=keyH w
 inj:=fun v a b ha hb=>by
  rcases keyIs_shape ha with ⟨i,t,rfl,rfl⟩ | ⟨x,t,rfl,rfl⟩
  ·rcases keyIs_shape hb with ⟨j,u,rfl,e⟩ | ⟨y,u,rfl,e⟩
   ·injection e with e1 _; rw [e1]
   ·exact nomatch e
  ·rcases keyIs_shape hb with ⟨j,u,rfl,e⟩ | ⟨y,u,rfl,e⟩
   ·exact nomatch e
   ·injection e with e1 _; rw [e1]
 byValue:=fun k v h=>by
  rcases keyIs_shape h with ⟨i,t,rfl,rfl⟩ | ⟨x,t,rfl,rfl⟩ <;> rfl
 pyHash:=fun hv h=>by
  rcases keyIs_shape hv with ⟨i,t,rfl,rfl⟩ | ⟨x,t,rfl,rfl⟩
  ·exact wpAny_pyHash_int h
  ·exact wpAny_pyHash_str h
 eqBool:=fun hu hv h=>by
  rcases keyIs_shape hu with ⟨i,t,rfl,rfl⟩ | ⟨x,t,rfl,rfl⟩
  ·rcases keyIs_shape hv with ⟨j,u,rfl,rfl⟩ | ⟨y,u,rfl,rfl⟩
   ·rw [key_ll] at h; exact wpAny_eqBool_int h
   ·rw [key_lr] at h; exact SeqAt.EqAt.int_str i t y u _ _ _ _ h
  ·rcases keyIs_shape hv with ⟨j,u,rfl,rfl⟩ | ⟨y,u,rfl,rfl⟩
   ·rw [key_rl] at h; exact SeqAt.EqAt.str_int x t j u _ _ _ _ h
   ·rw [key_rr] at h; exact wpAny_eqBool_str h
 «strs»:=fun k x t v h=>by
  rcases keyIs_shape h with ⟨i,u,rfl,e⟩ | ⟨y,u,rfl,e⟩
  ·exact nomatch e
  ·injection e with e1 _
   subst e1
   cases v <;> rfl
theorem mixKind_int (prog:Program) (w:World) (i:Int) (t:Tok):(mixKind prog w).is (.inl i) (.int i t) = true:=keyIs_int i t
theorem mixKind_str (prog:Program) (w:World) (x:Str) (t:Tok):(mixKind prog w).is (.inr x) (.str x t) = true:=keyIs_str x t
end L2
namespace L2
open PySem PySem.Spec PyProof.Rows
inductive V where
 | non | bl (b:Bool) | int (i:Int) | str (x:Str) | byt (b:Array UInt8) | flt (b:UInt64) | ref (a:Addr) | ty (n:String)
 deriving DecidableEq
def RelV:V->Value->Prop
 | .non,u=>u = Value.none
 | .bl b,u=>u = Value.bool b
 | .int i,u=>∃ t,u = Value.int i t
 | .str x,u=>∃ t,u = Value.str x t
 | .byt b,u=>∃ t,u = Value.bytes b t
 | .flt b,u=>∃ t,u = Value.float b t
 | .ref a,u=>u = Value.ref a
 | .ty n,u=>u = Value.type n
abbrev Vals:List V->List Value->Prop:=Paired RelV
theorem Vals.length {xs:List V} {us:List Value} (r:Vals xs us):xs.length = us.length:=Paired.length r
theorem Vals.get : ∀ {xs : List V} {us : List Value} {i : Nat} {x : V}, Vals xs us -> xs[i]? = some x -> ∃ u, us[i]? = some u /\ RelV x u
  | _, _, _, _, .nil, e => by simp at e
  | _, _, 0, _, .cons r _, e => by simp at e; subst e; exact ⟨_, rfl, r⟩
  | _, _, i + 1, x, .cons _ t, e => by
    obtain ⟨u, h1, h2⟩ := Vals.get (i := i) (x := x) t (by simpa using e)
    exact ⟨u, by simpa using h1, h2⟩
theorem Vals.set {x:V} {u:Value} (r:RelV x u):∀ {xs:List V} {us:List Value} (i:Nat),Vals xs us->Vals (xs.set i x) (us.set i u)
 | _,_,_,.nil=>.nil
 | _,_,0,.cons _ t=>.cons r t
 | _,_,i + 1,.cons q t=>.cons q (Vals.set r i t)
theorem Vals.append:∀ {xs ys:List V} {us ws:List Value},Vals xs us->Vals ys ws->Vals (xs ++ ys) (us ++ ws)
 | _,_,_,_,.nil,s=>s
 | _,_,_,_,.cons r t,s=>.cons r (Vals.append t s)
theorem Vals.take:∀ {xs:List V} {us:List Value} (n:Nat),Vals xs us->Vals (xs.take n) (us.take n)
 | _,_,0,_=>.nil
 | _,_,_ + 1,.nil=>.nil
 | _,_,n + 1,.cons r t=>.cons r (Vals.take n t)
theorem Vals.drop:∀ {xs:List V} {us:List Value} (n:Nat),Vals xs us->Vals (xs.drop n) (us.drop n)
 | _,_,0,r=>r
 | _,_,_ + 1,.nil=>.nil
 | _,_,n + 1,.cons _ t=>Vals.drop n t
def RelO:Option V->Option Value->Prop
 | some v,some u=>RelV v u
 | none,none=>True
 | _,_=>False
def KV {κ:Type}:List (κ × V)->List (κ × Value)->Prop:=Paired fun (p:κ × V) (q:κ × Value)=>p.1 = q.1/\RelV p.2 q.2
def kV:Key->V
 | .inl i=>.int i
 | .inr x=>.str x
inductive HO where
 | lst (xs:List V)
 | tup (xs:List V)
 | dK (kvs:List (Key × V)) | dT (kvs:List (List Key × V))
 | set (S:Int->Bool) (n:Nat)
 | ins (C dx:Addr) (fs:List (Str × V))
 | own (x:Addr)
 | xd (fs:List (Str × V))
 | met (f x:Addr)
 | rng (lo hi:Int)
 | frz (o:Obj) (u:HO)
 | tbl (ps:Array Value)
 | ext (φ:Heap->Prop)
abbrev Hp:=Addr->Option HO
def upd (H:Hp) (a:Addr) (o:HO):Hp:=fun b=>if b = a then some o else H b
theorem upd_same {H:Hp} {a:Addr} {o:HO}:upd H a o a = some o:=by unfold upd; rw [if_pos rfl]
theorem upd_ne {H:Hp} {a b:Addr} {o:HO} (h:b ≠ a):upd H a o b = H b:=by unfold upd; rw [if_neg h]
theorem ne_of {H:Hp} {a b:Addr} {o u:HO} (h:H a = some o) (h':H b = some u) (d:o ≠ u):a ≠ b:=by
 intro e; subst e; rw [h] at h'; exact d (Option.some.inj h')
theorem ne_of_none {H:Hp} {a b:Addr} {o:HO} (h:H a = some o) (h':H b = none):a ≠ b:=by
 intro e; subst e; rw [h] at h'; cases h'
section
variable (P:Program) (w:World)
def ObjOk (H : Hp) (h : Heap) (a : Addr) : HO -> Prop
 | .lst xs => xs.length <= sizeLine /\ ∃ (its : List Value) (n : Nat), Vals xs its /\ h.get? a = some { cls := .type "list", data := .seq its.toArray n }
 | .tup xs => xs.length <= sizeLine /\ ∃ its : List Value, Vals xs its /\ IsTup h a its.toArray
 | .dK kvs => kvs.length <= sizeLine /\ (a == sysModules) = false /\ ∃ vs, KV kvs vs /\ h.DictOf (mixKind P w) a vs
 | .dT kvs => kvs.length <= sizeLine /\ (a == sysModules) = false /\ ∃ xs : List (List Key × Addr × Value),
   Paired (fun (p : List Key × V) (q : List Key × Addr × Value) => p.1 = q.1 /\ H q.2.1 = some (.tup (p.1.map kV)) /\ RelV p.2 q.2.2) kvs xs /\
   ∃ o es ep, h.get? a = some o /\ o.ExactDict /\ o.data = .dict es ep /\ es.toList = xs.map (entryOfKey (tupleKind (mixKind P w))) /\ (xs.map (·.1)).Nodup
 | .set S n => h.SetOf (intKind P w) a S n
 | .ins C dx fs => H dx = some (.own a) /\ fs.length <= 1000 /\ dx ≠ a /\ h.get? a = some (PySem.W.instObj C dx) /\
   ∃ mA, h.Ns1 dx mA /\ (∀ f, RelO (fs.lookup f) (mA f)) /\ PySem.Within mA (fs.map (·.1))
 | .own _ => ∃ o, h.get? a = some o
 | .xd fs => ∃ mA, h.Ns1 a mA /\ ∀ f, RelO (fs.lookup f) (mA f)
 | .rng lo hi => ∃ t u v, h.get? a = some { cls := .type "range", data := .fields #[.int lo t, .int hi u, .int 1 v] }
 | .frz o u => h.get? a = some o /\ ObjOk H h a u
 | .tbl ps => h.get? a = some { cls := .none, data := .fields ps }
 | .met f x => h.get? a = some (PySem.W.methodObj (.ref f) (.ref x))
 | .ext φ => φ h /\ (∃ o, h.get? a = some o) /\ ∀ h1 h2 : Heap, φ h1 -> (∀ o, h1.get? a = some o -> h2.get? a = some o) -> φ h2
structure HOk (H:Hp) (h:Heap):Prop where
 all:∀ a o,H a = some o->ObjOk P w H h a o
 sm:∀ o,H sysModules = some o->∃ ob u,o = .frz ob u
 bg:∃ b o,1 < b/\h.get? b = some o
instance (H:Hp) (h:Heap):CoeFun (HOk P w H h) fun _=>∀ a o,H a = some o->ObjOk P w H h a o:=⟨HOk.all⟩
end
section
variable {P:Program} {w:World} {H H':Hp} {h h':Heap} {a:Addr} {o:HO}
theorem ObjOk.lt (x:ObjOk P w H h a o):a < h.objs.size:=by
 cases o with
 | lst xs=>obtain ⟨_,_,_,_,e⟩:=x; exact Heap.lt_size e
 | tup xs=>obtain ⟨_,_,_,p⟩:=x; exact p.lt
 | dK kvs=>obtain ⟨_,_,_,_,o,_,_,e,_⟩:=x; exact Heap.lt_size e
 | dT kvs=>obtain ⟨_,_,_,_,o,_,_,e,_⟩:=x; exact Heap.lt_size e
 | set S n=>obtain ⟨o,_,_,_,e,_⟩:=x; exact Heap.lt_size e
 | ins C dx fs=>obtain ⟨_,_,_,e,_⟩:=x; exact Heap.lt_size e
 | own y=>obtain ⟨_,e⟩:=x; exact Heap.lt_size e
 | xd fs=>obtain ⟨_,⟨_,_,_,e,_⟩,_⟩:=x; exact Heap.lt_size e
 | rng lo hi=>obtain ⟨_,_,_,e⟩:=x; exact Heap.lt_size e
 | frz ob u=>obtain ⟨e,_⟩:=x; exact Heap.lt_size e
 | tbl ps=>exact Heap.lt_size (show h.get? a = some _ from x)
 | met f y=>exact Heap.lt_size (show h.get? a = some _ from x)
 | ext φ=>obtain ⟨_,⟨_,e⟩,_⟩:=x; exact Heap.lt_size e
theorem Paired.mapP {α β:Type} {F G:α->β->Prop}:∀ {l₁:List α} {l₂:List β},Paired F l₁ l₂->(∀ a b,F a b->G a b)->Paired G l₁ l₂
 | _,_,.nil,_=>.nil
 | _,_,.cons r t,f=>.cons (f _ _ r) (Paired.mapP t f)
theorem ObjOk.stay (x : ObjOk P w H h a o) (k : ∀ b u, (b = a \/ H b = some (.own a)) -> h.get? b = some u -> h'.get? b = some u)
    (ho : ∀ b, H b = some (.own a) -> H' b = some (.own a)) (ht : ∀ b xs, H b = some (.tup xs) -> H' b = some (.tup xs)) : ObjOk P w H' h' a o := by
  induction o with
  | lst xs => obtain ⟨z, its, n, r, e⟩ := x; exact ⟨z, its, n, r, k _ _ (.inl rfl) e⟩
  | tup xs => obtain ⟨z, its, r, ob, e, c⟩ := x; exact ⟨z, its, r, ob, k _ _ (.inl rfl) e, c⟩
  | dK kvs => obtain ⟨z, y, vs, r, ob, es, ep, e, c⟩ := x; exact ⟨z, y, vs, r, ob, es, ep, k _ _ (.inl rfl) e, c⟩
  | dT kvs =>
    obtain ⟨z, y, xs, r, ob, es, ep, e, c⟩ := x
    exact ⟨z, y, xs, Paired.mapP r fun p q z => ⟨z.1, ht _ _ z.2.1, z.2.2⟩, ob, es, ep, k _ _ (.inl rfl) e, c⟩
  | set S n => obtain ⟨ob, es, ep, t, e, c⟩ := x; exact ⟨ob, es, ep, t, k _ _ (.inl rfl) e, c⟩
  | ins C dx fs =>
    obtain ⟨d, z, ne, e, mA, ⟨od, es, ep, e2, c⟩, r⟩ := x
    exact ⟨ho _ d, z, ne, k _ _ (.inl rfl) e, mA, ⟨od, es, ep, k _ _ (.inr d) e2, c⟩, r⟩
  | own y => obtain ⟨ob, e⟩ := x; exact ⟨ob, k _ _ (.inl rfl) e⟩
  | xd fs => obtain ⟨mA, ⟨od, es, ep, e, c⟩, r⟩ := x; exact ⟨mA, ⟨od, es, ep, k _ _ (.inl rfl) e, c⟩, r⟩
  | rng lo hi => obtain ⟨t, u, v, e⟩ := x; exact ⟨t, u, v, k _ _ (.inl rfl) e⟩
  | frz ob u ih => obtain ⟨e, q⟩ := x; exact ⟨k _ _ (.inl rfl) e, ih q⟩
  | tbl ps =>
    have e : h.get? a = some { cls := .none, data := .fields ps } := x
    show h'.get? a = some { cls := .none, data := .fields ps }
    exact k a _ (.inl rfl) e
  | met f y =>
    have e : h.get? a = some (PySem.W.methodObj (.ref f) (.ref y)) := x
    show h'.get? a = some (PySem.W.methodObj (.ref f) (.ref y))
    exact k a _ (.inl rfl) e
  | ext φ => obtain ⟨p, ⟨o, e⟩, st⟩ := x; exact ⟨st _ _ p fun o q => k _ _ (.inl rfl) q, ⟨o, k _ _ (.inl rfl) e⟩, st⟩
theorem HOk.lt (x:HOk P w H h) (e:H a = some o):a < h.objs.size:=(x a o e).lt
theorem HOk.fresh (x:HOk P w H h) (e:h.objs.size <= a):H a = none:=by
 cases q:H a with
 | none=>rfl
 | some u=>exact absurd (Nat.lt_of_lt_of_le (x.lt q) e) (Nat.lt_irrefl _)
theorem HOk.kept (x:HOk P w H h) (k:∀ b u,h.get? b = some u->h'.get? b = some u):HOk P w H h':=⟨fun a o e =>
 (x a o e).stay (fun b u _ q=>k b u q) (fun _ q=>q) fun _ _ q=>q,x.sm,let ⟨b,o,l,e⟩:=x.bg; ⟨b,o,l,k _ _ e⟩⟩
theorem HOk.laid (x:HOk P w H h) (k:∀ b u,h.get? b = some u->h'.get? b = some u) (hp:h.objs.size <= a) (new:ObjOk P w (upd H a o) h' a o):HOk P w (upd H a o) h':=by
 refine ⟨fun b u e=>?_,fun u e=>?_,let ⟨b,o,l,e⟩:=x.bg; ⟨b,o,l,k _ _ e⟩⟩
 rotate_left
 ·by_cases hb:sysModules = a
  ·obtain ⟨b,o,l,q⟩:=x.bg
   exact absurd (Nat.lt_trans l (show b < sysModules from by rw [hb]; exact Nat.lt_of_lt_of_le (Heap.lt_size q) hp)) (Nat.lt_irrefl 1)
  ·rw [upd_ne hb] at e; exact x.sm u e
 have hn:=x.fresh hp
 by_cases hb:b = a
 ·subst hb; rw [upd_same] at e; cases e; exact new
 ·rw [upd_ne hb] at e
  exact (x b u e).stay (fun c v _ q=>k c v q) (fun c q=>by rw [upd_ne (ne_of_none q hn)]; exact q) fun c xs q=>by rw [upd_ne (ne_of_none q hn)]; exact q
end
def Rd (H:Hp) (a:Addr) (u:HO):Prop:=H a = some u\/∃ o,H a = some (.frz o u)
theorem Rd.ok {P:Program} {w:World} {H:Hp} {h:Heap} {a:Addr} {u:HO} (r:Rd H a u) (x:HOk P w H h):ObjOk P w H h a u:=by
 rcases r with r | ⟨o,r⟩
 ·exact x a u r
 ·obtain ⟨_,q⟩:=x a _ r
  exact q
def Mut:Option HO->Prop
 | some (.lst _)=>True
 | some (.dK _)=>True
 | some (.dT _)=>True
 | some (.set _ _)=>True
 | some (.ins _ _ _)=>True
 | some (.ext _)=>True
 | _=>False
section
variable {P:Program} {w:World} {H:Hp} {h h':Heap} {x e:Addr} {o':HO}
theorem HOk.write (ok : HOk P w H h) (mu : Mut (H x)) (he : e = x \/ H e = some (.own x)) (k : ∀ b u, b ≠ e -> h.get? b = some u -> h'.get? b = some u) (heo : ∃ u, h'.get? e = some u)
    (new : ObjOk P w (upd H x o') h' x o') : HOk P w (upd H x o') h' := by
  refine ⟨fun b u q => ?_, fun u q => ?_, ?_⟩
  rotate_left
  · by_cases hb : sysModules = x
    · exfalso
      subst hb
      cases z : H sysModules with
      | none => rw [z] at mu; exact mu
      | some o =>
        obtain ⟨ob, v, rfl⟩ := ok.sm o z
        rw [z] at mu; exact mu
    · rw [upd_ne hb] at q; exact ok.sm u q
  · obtain ⟨b, o, l, z⟩ := ok.bg
    by_cases hb : b = e
    · obtain ⟨v, hv⟩ := heo
      exact ⟨e, v, hb ▸ l, hv⟩
    · exact ⟨b, o, l, k b o hb z⟩
  have nown : ∀ c y, H c = some (.own y) -> c ≠ x := fun c y r z => by subst z; rw [r] at mu; exact mu
  have ntup : ∀ c xs, H c = some (.tup xs) -> c ≠ x := fun c xs r z => by subst z; rw [r] at mu; exact mu
  by_cases hb : b = x
  · subst hb; rw [upd_same] at q; cases q; exact new
  · rw [upd_ne hb] at q
    by_cases hbe : b = e
    · have q' : H b = some (.own x) := by
        rcases he with z | z
        · exact absurd (hbe.trans z) hb
        · rw [hbe]; exact z
      rw [q] at q'; cases q'
      obtain ⟨v, hv⟩ := heo
      exact ⟨v, by rw [hbe]; exact hv⟩
    · refine (ok b u q).stay (fun c v hc r => k c v ?_ r) (fun c r => by rw [upd_ne (nown c b r)]; exact r) fun c xs r => by rw [upd_ne (ntup c xs r)]; exact r
      rcases hc with rfl | hc
      · exact hbe
      · rintro rfl
        rcases he with z | z
        · exact nown c b hc z
        · rw [hc] at z; cases z; exact hb rfl
end
structure Un (fs ex:List Addr) (H H':Hp) (h h':Heap):Prop where
 keep:∀ b o,h.get? b = some o->H b = none->b ∉ fs->b ∉ ex->h'.get? b = some o
 slot:∀ b o,h.get? b = some o->H b = none->b ∈ fs->b ∉ ex->∃ sl,h'.get? b = some { o with slots:=sl }
 free:∀ b o,h.get? b = some o->H b = none->b ∉ ex->H' b = none
 there:∀ b o,h.get? b = some o->b ∉ ex->∃ o',h'.get? b = some o'
 tups:∀ b xs,H b = some (.tup xs)->H' b = some (.tup xs)
 frzs:∀ b o u,H b = some (.frz o u)->H' b = some (.frz o u)
 tbls:∀ b ps,H b = some (.tbl ps)->∃ more,H' b = some (.tbl (ps ++ more))
section
variable {fs fs' ex ex':List Addr} {H H1 H2:Hp} {h h1 h2 h':Heap} {a x e:Addr} {o:HO}
theorem Un.any (u:Un fs ex H H1 h h1) {b:Addr} {ob:Obj} (q:h.get? b = some ob) (n:H b = none) (hx:b ∉ ex):∃ sl,h1.get? b = some { ob with slots:=sl }:=by
 by_cases hb:b ∈ fs
 ·exact u.slot b ob q n hb hx
 ·exact ⟨ob.slots,u.keep b ob q n hb hx⟩
theorem Un.trans (a:Un fs ex H H1 h h1) (b:Un fs ex H1 H2 h1 h2):Un fs ex H H2 h h2 where
 keep:=fun c ob q n hc hx=>b.keep c ob (a.keep c ob q n hc hx) (a.free c ob q n hx) hc hx
 slot:=fun c ob q n hc hx=>by
  obtain ⟨sl,e1⟩:=a.slot c ob q n hc hx
  obtain ⟨sl',e2⟩:=b.slot c _ e1 (a.free c ob q n hx) hc hx
  exact ⟨sl',e2⟩
 free:=fun c ob q n hx=>by
  obtain ⟨o',e1⟩:=a.there c ob q hx
  exact b.free c o' e1 (a.free c ob q n hx) hx
 there:=fun c ob q hx=>by
  obtain ⟨o',e1⟩:=a.there c ob q hx
  exact b.there c o' e1 hx
 tups:=fun c xs q=>b.tups c xs (a.tups c xs q)
 frzs:=fun c ob xs q=>b.frzs c ob xs (a.frzs c ob xs q)
 tbls:=fun c ps q=>by
  obtain ⟨m1,e1⟩:=a.tbls c ps q
  obtain ⟨m2,e2⟩:=b.tbls c _ e1
  exact ⟨m1 ++ m2,by rw [e2,Array.append_assoc]⟩
theorem Un.kept (k:∀ b u,h.get? b = some u->h'.get? b = some u):Un fs ex H H h h' :=
 ⟨fun b ob q _ _ _=>k b ob q,fun b ob q _ _ _=>⟨ob.slots,k b ob q⟩,fun _ _ _ n _=>n,fun b ob q _=>⟨ob,k b ob q⟩,fun _ _ q=>q,fun _ _ _ q=>q,fun _ ps q=>⟨#[],by rw [q]; simp⟩⟩
theorem Un.refl:Un fs ex H H h h:=Un.kept fun _ _ q=>q
theorem Un.laid (k:∀ b u,h.get? b = some u->h'.get? b = some u) (hp:h.objs.size <= a) (hn:H a = none):Un fs ex H (upd H a o) h h' where
 keep:=fun b u q _ _ _=>k b u q
 slot:=fun b u q _ _ _=>⟨u.slots,k b u q⟩
 free:=fun b u q n _=>by rw [upd_ne (Nat.ne_of_lt (Nat.lt_of_lt_of_le (Heap.lt_size q) hp))]; exact n
 there:=fun b u q _=>⟨u,k b u q⟩
 tups:=fun b xs q=>by rw [upd_ne (ne_of_none q hn)]; exact q
 frzs:=fun b u xs q=>by rw [upd_ne (ne_of_none q hn)]; exact q
 tbls:=fun b ps q=>⟨#[],by rw [upd_ne (ne_of_none q hn),q]; simp⟩
theorem Un.write (mu:Mut (H x)) (he:e = x\/H e = some (.own x)) (k:∀ b u,b ≠ e->h.get? b = some u->h'.get? b = some u) (heo:∃ u,h'.get? e = some u):Un fs ex H (upd H x o) h h':=by
 have hx:∀ b,H b = none->b ≠ x:=fun b n z=>by subst z; rw [n] at mu; exact mu
 have hb:∀ b,H b = none->b ≠ e:=fun b n z=>by
  subst z
  rcases he with r | r
  ·exact hx b n r
  ·rw [n] at r; cases r
 have hm:∀ b u,H b = some u->¬ Mut (some u)->b ≠ x:=fun b u q nm z=>by subst z; rw [q] at mu; exact nm mu
 refine ⟨fun b u q n _ _=>k b u (hb b n) q,fun b u q n _ _=>⟨u.slots,k b u (hb b n) q⟩,fun b u q n _=>by rw [upd_ne (hx b n)]; exact n,fun b u q _=>?_,
  fun b xs q=>by rw [upd_ne (hm b _ q fun z=>z)]; exact q,fun b u xs q=>by rw [upd_ne (hm b _ q fun z=>z)]; exact q,fun b ps q=>⟨#[],by rw [upd_ne (hm b _ q fun z=>z),q]; simp⟩⟩
 by_cases hbe:b = e
 ·subst hbe; exact heo
 ·exact ⟨u,k b u hbe q⟩
end
def trk (h:Heap) (H:Hp):List Addr:=(List.range h.objs.size).filter fun a=>(H a).isSome
def hidT (h:Heap) (H:Hp):Heap:=PySem.W.hideAll h (trk h H)
theorem hidT_size (h:Heap) (H:Hp):(hidT h H).objs.size = h.objs.size:=PySem.W.hideAll_size _ _
theorem hidT_get {h:Heap} {H:Hp} {b:Addr} {o:Obj} (e:h.get? b = some o) (n:H b = none):(hidT h H).get? b = some o :=
 PySem.W.hideAll_get _ e fun hm=>by
  have q:(H b).isSome = true:=(List.mem_filter.mp hm).2
  rw [n] at q; simp at q
theorem of_hidT {h : Heap} {H : Hp} {b : Addr} {o : Obj} (e : (hidT h H).get? b = some o) : h.get? b = some o /\ H b = none := by
  have e' : h.get? b = some o := PySem.W.of_hideAll (trk h H) e
  refine ⟨e', ?_⟩
  cases q : H b with
  | none => rfl
  | some x =>
    have hm : b ∈ trk h H := List.mem_filter.mpr ⟨List.mem_range.mpr (Heap.lt_size e'), by simp [q]⟩
    have z : (hidT h H).get? b = none := PySem.W.hideAll_none (trk h H) hm
    rw [z] at e; cases e
end L2
namespace L2
open PySem PySem.Spec PyProof.Rows
structure Mod (K:PySem.W.Frag) (mg:Str->Option Value) (base:Heap):Prop where
 kin:K.In base
 glob:base.Ns mainGlobals mg
 blt:∃ mb,base.Ns builtinsNs mb/\∀ x:Str,x ≠ "__name__"->mb x = bootBuiltins x
 nolimit:base.NoLimit
structure Cx where
 prog:Program
 w:World
 K:PySem.W.Frag
 mg:Str->Option Value
 base:Heap
 A:Around
 N:List Str
 s₀:Shared
 H₀:Hp
 env:Env
 outer:List Env
 stack:List Env
 ex:List Addr
 fn:Str->Bool
 calm:Bool
 pn:List (Addr × Obj)
 xe:Value->Shared->Prop
def frs (l:List Env):List Addr:=l.filterMap (·.frame)
abbrev Cx.fs (X:Cx):List Addr:=frs X.outer
def Vis (sc:Scope) (x:Str):Prop:=sc.names.lookup x = some .local\/sc.names.lookup x = some .cell\/sc.names.lookup x = some .free
def Loc (sc:Scope) (x:Str):Prop:=sc.names.lookup x = some .local\/sc.names.lookup x = some .cell
def Look (env:Env) (h:Heap) (m:Str->Option Value) (x:Str) (u:Value):Prop :=
 (env.kindOf x = some .local/\m x = some u)\/((env.kindOf x = some .cell\/env.kindOf x = some .free)/\∃ c,env.cells.lookup x = some c/\h.IsCell c (some u))
structure Cx.Ok (X:Cx):Prop where
 mod:Mod X.K X.mg X.base
 kind:X.env.scope.kind = .function
 glob:X.env.globals = mainGlobals
 blt:X.env.builtins = builtinsNs
 above:X.s₀.heap.objs.size <= X.env.locals
 inj:∀ x y c,X.env.cells.lookup x = some c->X.env.cells.lookup y = some c->x = y
 has:∀ x,(X.env.kindOf x = some .cell\/X.env.kindOf x = some .free)->∃ c,X.env.cells.lookup x = some c
 cab:∀ x c,X.fn x = true->X.env.cells.lookup x = some c->X.s₀.heap.objs.size <= c
 hd:X.calm = true->X.A.handled = none
 frames:X.A.frames = some X.stack
 stk:X.stack = X.outer\/(X.stack = X.env :: X.outer/\X.env.frame = some X.env.locals)
 exf:∀ b ∈ X.ex,b ≠ X.env.locals/\∀ x c,X.env.cells.lookup x = some c->c ≠ b
 bs:∀ b o,X.base.get? b = some o->X.s₀.heap.get? b = some o/\X.H₀ b = none
 bsz:X.base.objs.size <= X.s₀.heap.objs.size
 noex:∀ b o,X.base.get? b = some o->b ∉ X.ex
 exfs:∀ b ∈ X.ex,b ∉ X.fs
 funs:X.s₀.heap.FunFrames X.base X.outer
 frf:∀ b ∈ X.fs,X.H₀ b = none
structure Inv (X:Cx) (pins:List (Addr × Obj)) (σ:List (Option V)) (H:Hp) (s:Shared):Prop where
 ok:X.Ok
 os:s.os = X.s₀.os
 bare:AllBare s.gens
 base:Un X.fs X.ex X.H₀ H X.s₀.heap s.heap
 loc:∃ m,s.heap.Ns X.env.locals m/\∀ (i:Nat) (x:Str) (v:V),X.N[i]? = some x->σ[i]? = some (some v)->Vis X.env.scope x->∃ u,RelV v u/\Look X.env s.heap m x u
 cell:∀ x c,X.env.cells.lookup x = some c->∃ v,s.heap.IsCell c v
 free:H X.env.locals = none
 freeC:∀ x c,X.env.cells.lookup x = some c->H c = none
 pin:∀ p ∈ X.pn ++ pins,s.heap.get? p.1 = some p.2/\H p.1 = none/\p.1 ≠ X.env.locals/\p.1 ∉ X.fs/\∀ v,p.2.data ≠ .cell v
 hok:HOk X.prog X.w H s.heap
 len:σ.length = X.N.length
section
variable {X:Cx} {pins:List (Addr × Obj)} {σ:List (Option V)} {H H':Hp} {s:Shared} {h':Heap}
theorem Cx.Ok.nofr (ok:X.Ok) {b:Addr} {o:Obj} (e:X.base.get? b = some o):b ∉ X.fs:=fun hb=>by
 have:=(ok.funs.mem hb).1
 rw [e] at this; cases this
theorem Inv.bs (I:Inv X pins σ H s):∀ b o,X.base.get? b = some o->s.heap.get? b = some o/\H b = none:=fun b o e =>
 ⟨I.base.keep b o (I.ok.bs b o e).1 (I.ok.bs b o e).2 (I.ok.nofr e) (I.ok.noex b o e),I.base.free b o (I.ok.bs b o e).1 (I.ok.bs b o e).2 (I.ok.noex b o e)⟩
theorem Inv.bk (I:Inv X pins σ H s):∀ b o,X.base.get? b = some o->s.heap.get? b = some o:=fun b o e=>(I.bs b o e).1
theorem Inv.mod (I:Inv X pins σ H s):Mod X.K X.mg X.base:=I.ok.mod
theorem Inv.kIn (I:Inv X pins σ H s):X.K.In s.heap:=I.ok.mod.kin.keeps I.bk
theorem Inv.fr (I:Inv X pins σ H s):∃ m,Fr X.base X.env.locals s.heap m :=
 let ⟨m,hn,_⟩:=I.loc
 ⟨m,hn,I.bk,Nat.le_trans I.ok.bsz I.ok.above⟩
theorem Inv.lt (I:Inv X pins σ H s):X.env.locals < s.heap.objs.size:=let ⟨_,hn,_⟩:=I.loc; hn.lt
theorem Inv.sz (I:Inv X pins σ H s):X.s₀.heap.objs.size <= s.heap.objs.size:=Nat.le_trans I.ok.above (Nat.le_of_lt I.lt)
theorem Inv.nofs (I:Inv X pins σ H s) {a:Addr} (h:s.heap.objs.size <= a):a ∉ X.fs:=fun hb=>by
 obtain ⟨_,o,ho,_⟩:=I.ok.funs.mem hb
 exact absurd (Nat.lt_of_lt_of_le (Heap.lt_size ho) (Nat.le_trans I.sz h)) (Nat.lt_irrefl _)
theorem Inv.cne (I:Inv X pins σ H s):∀ x c,X.env.cells.lookup x = some c->c ≠ X.env.locals:=fun x c e z=>by
 obtain ⟨v,o,ho,hd⟩:=I.cell x c e
 obtain ⟨m,⟨o',es,ep,ho',hd',_⟩,_⟩:=I.loc
 rw [z,ho'] at ho; cases ho; rw [hd'] at hd; cases hd
theorem Inv.funs (I : Inv X pins σ H s) : s.heap.FunFrames X.base X.outer := by
  have all : ∀ (l : List Env), (∀ b ∈ frs l, b ∈ X.fs) -> X.s₀.heap.FunFrames X.base l -> s.heap.FunFrames X.base l := by
    intro l
    induction l with
    | nil => intro _ _; trivial
    | cons env r ih =>
      intro hs hl
      obtain ⟨hk, ⟨L, o, hf, hn, ho, hd⟩, hr⟩ := hl
      have hL : L ∈ X.fs := hs L (by unfold frs; rw [List.filterMap_cons, hf]; exact List.mem_cons_self)
      obtain ⟨sl, e⟩ := I.base.slot L o ho (I.ok.frf L hL) hL fun z => I.ok.exfs L z hL
      exact ⟨hk, ⟨L, _, hf, hn, e, hd⟩, ih (fun b hb => hs b (by unfold frs; rw [List.filterMap_cons, hf]; exact List.mem_cons_of_mem _ hb)) hr⟩
  exact all X.outer (fun _ hb => hb) I.ok.funs
theorem Inv.stack (I:Inv X pins σ H s):s.heap.FunFrames X.base X.stack:=by
 rcases I.ok.stk with e | ⟨e,hf⟩
 ·rw [e]; exact I.funs
 ·rw [e]
  obtain ⟨m,hn,_⟩:=I.loc
  refine .cons (by rw [I.ok.kind]; decide) hf hn ?_ I.funs
  exact Heap.get?_none_of_le (Nat.le_trans I.ok.bsz I.ok.above)
theorem Inv.stkSub (I:Inv X pins σ H s):∀ b ∈ frs X.stack,b ∈ X.env.locals :: X.fs:=fun b hb=>by
 rcases I.ok.stk with e | ⟨e,hf⟩
 ·rw [e] at hb; exact List.mem_cons_of_mem _ hb
 ·rw [e] at hb
  unfold frs at hb
  rw [List.filterMap_cons,hf] at hb
  exact hb
theorem Inv.stkFree (I:Inv X pins σ H s):∀ b ∈ frs X.stack,H b = none:=fun b hb=>by
 rcases List.mem_cons.mp (I.stkSub b hb) with e | hb
 ·rw [e]; exact I.free
 ·obtain ⟨_,o,ho,_⟩:=I.ok.funs.mem hb
  exact I.base.free b o ho (I.ok.frf b hb) fun z=>I.ok.exfs b z hb
theorem Inv.step {g':Array GenState} {t':Nat} {d':Drawn} {ch:List Addr} (I:Inv X pins σ H s)
  (hch:∀ b ∈ ch,(b ∈ X.ex\/X.s₀.heap.objs.size <= b)/\b ≠ X.env.locals/\(∀ x c,X.env.cells.lookup x = some c->c ≠ b)/\∀ p ∈ X.pn ++ pins,p.1 ≠ b)
  (keep:∀ b o,b ≠ X.env.locals->b ∉ X.fs->b ∉ ch->s.heap.get? b = some o->H b = none->h'.get? b = some o)
  (slot:∀ b o,b ≠ X.env.locals->b ∈ X.fs->b ∉ ch->s.heap.get? b = some o->H b = none->∃ sl,h'.get? b = some { o with slots:=sl }) (free:∀ b o,b ∉ ch->s.heap.get? b = some o->H b = none->H' b = none)
  (there:∀ b o,b ∉ ch->s.heap.get? b = some o->∃ o',h'.get? b = some o')
  (tups:∀ b xs,H b = some (.tup xs)->H' b = some (.tup xs)) (frzs:∀ b o u,H b = some (.frz o u)->H' b = some (.frz o u)) (tbls:∀ b ps,H b = some (.tbl ps)->∃ more,H' b = some (.tbl (ps ++ more)))
  (ns:∀ m,s.heap.Ns X.env.locals m->h'.Ns X.env.locals m) (hok:HOk X.prog X.w H' h') (hg:AllBare g') :
  Inv X pins σ H' { s with heap:=h',gens:=g',drawn:=d',toks:=t' }:=by
 have neL:∀ b o,X.s₀.heap.get? b = some o->b ≠ X.env.locals:=fun b o e=>Nat.ne_of_lt (Nat.lt_of_lt_of_le (Heap.lt_size e) I.ok.above)
 have neC:∀ b o,X.s₀.heap.get? b = some o->b ∉ X.ex->b ∉ ch:=fun b o e hx hb=>by
  rcases (hch b hb).1 with z | z
  ·exact hx z
  ·exact absurd (Nat.lt_of_lt_of_le (Heap.lt_size e) z) (Nat.lt_irrefl _)
 have cellK:∀ x c,X.env.cells.lookup x = some c->∀ v,s.heap.IsCell c v->h'.IsCell c v:=fun x c e v ⟨o,ho,hd⟩=>by
  have nch:c ∉ ch:=fun z=>(hch c z).2.2.1 x c e rfl
  by_cases hc:c ∈ X.fs
  ·obtain ⟨sl,q⟩:=slot c o (I.cne x c e) hc nch ho (I.freeC x c e)
   exact ⟨_,q,hd⟩
  ·exact ⟨o,keep c o (I.cne x c e) hc nch ho (I.freeC x c e),hd⟩
 refine ⟨I.ok,I.os,hg,⟨fun b o e n hb hx=>?_,fun b o e n hb hx=>?_,fun b o e n hx=>?_,fun b o e hx=>?_,fun b xs e=>tups b xs (I.base.tups b xs e),fun b o xs e=>frzs b o xs (I.base.frzs b o xs e),fun b ps e=>?_⟩,?_,fun x c e=>?_,?_,fun x c e=>?_,fun p hp=>?_,hok,I.len⟩
 ·exact keep b o (neL b o e) hb (neC b o e hx) (I.base.keep b o e n hb hx) (I.base.free b o e n hx)
 ·obtain ⟨sl,e1⟩:=I.base.slot b o e n hb hx
  obtain ⟨sl',e2⟩:=slot b _ (neL b o e) hb (neC b o e hx) e1 (I.base.free b o e n hx)
  exact ⟨sl',e2⟩
 ·obtain ⟨o',e1⟩:=I.base.there b o e hx
  exact free b o' (neC b o e hx) e1 (I.base.free b o e n hx)
 ·obtain ⟨o',e1⟩:=I.base.there b o e hx
  exact there b o' (neC b o e hx) e1
 ·obtain ⟨m1,e1⟩:=I.base.tbls b ps e
  obtain ⟨m2,e2⟩:=tbls b _ e1
  exact ⟨m1 ++ m2,by rw [e2,Array.append_assoc]⟩
 ·obtain ⟨m,hn,hl⟩:=I.loc
  refine ⟨m,ns m hn,fun i x v e1 e2 e3=>?_⟩
  obtain ⟨u,r,l⟩:=hl i x v e1 e2 e3
  refine ⟨u,r,?_⟩
  rcases l with l | ⟨k,c,e,z⟩
  ·exact .inl l
  ·exact .inr ⟨k,c,e,cellK x c e _ z⟩
 ·obtain ⟨v,z⟩:=I.cell x c e
  exact ⟨v,cellK x c e v z⟩
 ·obtain ⟨m,⟨o,_,_,ho,_⟩,_⟩:=I.loc
  exact free _ o (fun z=>(hch _ z).2.1 rfl) ho I.free
 ·obtain ⟨v,o,ho,hd⟩:=I.cell x c e
  exact free c o (fun z=>(hch c z).2.2.1 x c e rfl) ho (I.freeC x c e)
 ·obtain ⟨e,n,ne,nf,d⟩:=I.pin p hp
  have nch:p.1 ∉ ch:=fun z=>(hch p.1 z).2.2.2 p hp rfl
  exact ⟨keep p.1 p.2 ne nf nch e n,free p.1 p.2 nch e n,ne,nf,d⟩
theorem Inv.un {t':Nat} (I:Inv X pins σ H s) (u:Un X.fs [] H H' s.heap h') (hok:HOk X.prog X.w H' h'):Inv X pins σ H' { s with heap:=h',toks:=t' }:=by
 obtain ⟨m,⟨o,es,ep,ho,r⟩,_⟩:=id I.loc
 obtain ⟨sl,hL⟩:=u.any ho I.free (by simp)
 exact I.step (g':=s.gens) (d':=s.drawn) (ch:=[]) (fun _ z=>nomatch z) (fun b o _ hb _ e n=>u.keep b o e n hb (by simp)) (fun b o _ hb _ e n=>u.slot b o e n hb (by simp)) (fun b o _ e n=>u.free b o e n (by simp)) (fun b o _ e=>u.there b o e (by simp)) u.tups u.frzs u.tbls (fun m' hm=>by
  obtain ⟨o',es',ep',ho',r'⟩:=hm
  rw [ho] at ho'; cases ho'
  exact ⟨_,es',ep',hL,r'⟩) hok I.bare
theorem Inv.call {g':Array GenState} {t':Nat} {d':Drawn} {ch:List Addr} (I:Inv X pins σ H s) (u:Un (frs X.stack) ch H H' s.heap h') (hok:HOk X.prog X.w H' h') (hg:AllBare g')
  (hch:∀ b ∈ ch,(b ∈ X.ex\/X.s₀.heap.objs.size <= b)/\b ≠ X.env.locals/\(∀ x c,X.env.cells.lookup x = some c->c ≠ b)/\∀ p ∈ X.pn ++ pins,p.1 ≠ b) :
  Inv X pins σ H' { s with heap:=h',gens:=g',drawn:=d',toks:=t' }:=by
 obtain ⟨m,⟨o,es,ep,ho,r⟩,_⟩:=id I.loc
 obtain ⟨sl,hL⟩:=u.any ho I.free fun z=>(hch _ z).2.1 rfl
 exact I.step (ch:=ch) hch (fun b o hL hb hc e n=>u.keep b o e n (fun z=>(List.mem_cons.mp (I.stkSub b z)).elim hL hb) hc) (fun b o _ _ hc e n=>u.any e n hc) (fun b o hc e n=>u.free b o e n hc) (fun b o hc e=>u.there b o e hc) u.tups u.frzs u.tbls (fun m' hm=>by
  obtain ⟨o',es',ep',ho',r'⟩:=hm
  rw [ho] at ho'; cases ho'
  exact ⟨_,es',ep',hL,r'⟩) hok hg
theorem Inv.turned {t' : Nat} {it : Addr} (I : Inv X pins σ H s) (k : ∀ b o, b ≠ it -> s.heap.get? b = some o -> h'.get? b = some o) (hn : H it = none) (hL : it ≠ X.env.locals)
  (h1 : it ∈ X.ex \/ X.s₀.heap.objs.size <= it) (h2 : ∀ x c, X.env.cells.lookup x = some c -> c ≠ it) (h3 : ∀ p ∈ X.pn ++ pins, p.1 ≠ it) : Inv X pins σ H { s with heap := h', toks := t' } := by
 have nit : ∀ b u, H b = some u -> b ≠ it := fun b u e z => by rw [z, hn] at e; cases e
 refine I.step (g' := s.gens) (d' := s.drawn) (ch := [it]) (fun b hb => ?_) (fun b o _ _ hc e _ => k b o (fun z => hc (by simp [z])) e) (fun b o _ _ hc e _ => ⟨o.slots, k b o (fun z => hc (by simp [z])) e⟩) (fun _ _ _ _ n => n)
  (fun b o hc e => ⟨o, k b o (fun z => hc (by simp [z])) e⟩) (fun _ _ e => e) (fun _ _ _ e => e) (fun b ps e => ⟨#[], by rw [e]; simp⟩) (fun m hm => ?_) ⟨fun b u e => ?_, I.hok.sm, let ⟨o, _, _, e, _⟩ := I.ok.mod.glob; ⟨mainGlobals, o, by decide, k _ _ (fun z => by
   rcases h1 with q | q
   ·exact I.ok.noex _ _ e (z ▸ q)
   ·exact absurd (Nat.lt_of_lt_of_le (Heap.lt_size e) (Nat.le_trans I.ok.bsz q)) (by rw [z]; exact Nat.lt_irrefl _)) (I.bk _ _ e)⟩⟩ I.bare
 ·have e : b = it := by simpa using hb
  subst e
  exact ⟨h1, hL, h2, h3⟩
 ·obtain ⟨o, es, ep, ho, r⟩ := hm
  exact ⟨o, es, ep, k _ o (Ne.symm hL) ho, r⟩
 ·refine (I.hok b u e).stay (fun c v hc q => k c v ?_ q) (fun _ q => q) fun _ _ q => q
  rcases hc with z | z
  ·rw [z]; exact nit b u e
  ·exact nit c _ z
theorem Inv.tok (I:Inv X pins σ H s) (t:Nat):Inv X pins σ H { s with toks:=t }:=I.un (h':=s.heap) (t':=t) Un.refl I.hok
theorem Inv.kept {t':Nat} (I:Inv X pins σ H s) (k:∀ b u,s.heap.get? b = some u->h'.get? b = some u):Inv X pins σ H { s with heap:=h',toks:=t' }:=I.un (Un.kept k) (I.hok.kept k)
theorem Inv.laid {a:Addr} {o:HO} {t':Nat} (I:Inv X pins σ H s) (k:∀ b u,s.heap.get? b = some u->h'.get? b = some u) (hp:s.heap.objs.size <= a) (new:ObjOk X.prog X.w (upd H a o) h' a o) :
  Inv X pins σ (upd H a o) { s with heap:=h',toks:=t' }:=I.un (Un.laid k hp (I.hok.fresh hp)) (I.hok.laid k hp new)
theorem Inv.write {x e:Addr} {o:HO} {t':Nat} (I:Inv X pins σ H s) (mu:Mut (H x)) (he:e = x\/H e = some (.own x)) (k:∀ b u,b ≠ e->s.heap.get? b = some u->h'.get? b = some u) (heo:∃ u,h'.get? e = some u)
  (new:ObjOk X.prog X.w (upd H x o) h' x o):Inv X pins σ (upd H x o) { s with heap:=h',toks:=t' }:=I.un (Un.write mu he k heo) (I.hok.write mu he k heo new)
theorem Inv.weak {σ':List (Option V)} (I:Inv X pins σ H s) (hl:σ'.length = σ.length) (w:∀ (i:Nat) v,σ'[i]? = some (some v)->σ[i]? = some (some v)):Inv X pins σ' H s :=
 ⟨I.ok,I.os,I.bare,I.base,let ⟨m,hn,hl'⟩:=I.loc; ⟨m,hn,fun i x v e1 e2 e3=>hl' i x v e1 (w i v e2) e3⟩,I.cell,I.free,I.freeC,I.pin,I.hok,hl.trans I.len⟩
theorem Inv.pins_of {pins':List (Addr × Obj)} (I:Inv X pins σ H s) (h:∀ p ∈ pins',s.heap.get? p.1 = some p.2/\H p.1 = none/\p.1 ≠ X.env.locals/\p.1 ∉ X.fs/\∀ v,p.2.data ≠ .cell v):Inv X pins' σ H s :=
 ⟨I.ok,I.os,I.bare,I.base,I.loc,I.cell,I.free,I.freeC,fun p hp=>(List.mem_append.mp hp).elim (fun z=>I.pin p (List.mem_append_left _ z)) (h p),I.hok,I.len⟩
theorem nodup_ix {N:List Str} (hN:N.Nodup) {i j:Nat} {x:Str} (a:N[i]? = some x) (b:N[j]? = some x):i = j:=by
 obtain ⟨h1,e1⟩:=List.getElem?_eq_some_iff.mp a
 obtain ⟨h2,e2⟩:=List.getElem?_eq_some_iff.mp b
 exact (List.getElem_inj hN).mp (e1.trans e2.symm)
theorem store_ok2 {M:Model} {A:Around} {E:Value->Shared->Prop} {i:Nat} {x:Str} {v:V} {u:Value} {Q:Unit->Shared->Prop} (I:Inv X pins σ H s) (hN:X.N.Nodup) (hi:X.N[i]? = some x) (hx:Loc X.env.scope x) (r:RelV v u)
  (h:∀ s',Inv X pins (σ.set i (some v)) H s'->(∃ a,Heap.SameBut a s.heap s'.heap/\(a = X.env.locals\/X.env.cells.lookup x = some a))->Q () s') (hf:X.fn x = true\/X.env.scope.names.lookup x = some .local:=by first | exact .inl rfl | exact .inr rfl | assumption):wpAny M A (storeName X.env x u) Q E s:=by
 obtain ⟨m,hn,hl⟩:=id I.loc
 have hcls:(X.env.scope.kind == .class || (X.env.scope.kind == .module && X.env.locals != X.env.globals)) = false:=by rw [I.ok.kind]; rfl
 have hiσ:i < σ.length:=by rw [I.len]; exact (List.getElem?_eq_some_iff.mp hi).1
 have cne:=I.cne
 have tracked:∀ {a:Addr} {h':Heap},(∃ o,s.heap.get? a = some o/\H a = none)->Heap.SameBut a s.heap h'->(∃ o',h'.get? a = some o')->HOk X.prog X.w H h':=fun {a h'} ha hs hz=>by
  refine ⟨fun b ob e=>?_,I.hok.sm,?_⟩
  rotate_left
  ·obtain ⟨b,o,l,e⟩:=I.hok.bg
   by_cases hb:b = a
   ·obtain ⟨v,hv⟩:=hz
    exact ⟨a,v,hb ▸ l,hv⟩
   ·exact ⟨b,o,l,(hs.2 b hb).trans e⟩
  obtain ⟨_,_,hfree⟩:=ha
  refine (I.hok b ob e).stay (fun c w' hc q=>(hs.2 c ?_).trans q) (fun _ q=>q) fun _ _ q=>q
  rintro rfl
  rcases hc with rfl | hc
  ·rw [hfree] at e; cases e
  ·rw [hfree] at hc; cases hc
 rcases hx with hk | hk
 ·refine wpAny_storeName_local hk hn (fun h' hn' hs=>?_) hcls
  obtain ⟨oL,_,_,hoL,_⟩:=id hn
  refine h _ ⟨I.ok,I.os,I.bare,⟨fun b o e n hb hx=>?_,fun b o e n hb hx=>?_,I.base.free,fun b o e hx=>?_,I.base.tups,I.base.frzs,I.base.tbls⟩,⟨_,hn',fun j y v' e1 e2 e3=>?_⟩,fun y c e=>?_,I.free,I.freeC,fun p hp=>?_,tracked ⟨oL,hoL,I.free⟩ hs (let ⟨o,_,_,e,_⟩:=hn'; ⟨o,e⟩),by simpa using I.len⟩ ⟨_,hs,.inl rfl⟩
  ·exact (hs.2 b (Nat.ne_of_lt (Nat.lt_of_lt_of_le (Heap.lt_size e) I.ok.above))).trans (I.base.keep b o e n hb hx)
  ·obtain ⟨sl,e1⟩:=I.base.slot b o e n hb hx
   exact ⟨sl,(hs.2 b (Nat.ne_of_lt (Nat.lt_of_lt_of_le (Heap.lt_size e) I.ok.above))).trans e1⟩
  ·obtain ⟨o',e1⟩:=I.base.there b o e hx
   exact ⟨o',(hs.2 b (Nat.ne_of_lt (Nat.lt_of_lt_of_le (Heap.lt_size e) I.ok.above))).trans e1⟩
  ·by_cases hj:j = i
   ·subst hj
    rw [hi] at e1; cases e1
    rw [List.getElem?_set_self hiσ] at e2
    cases e2
    exact ⟨u,r,.inl ⟨hk,by simp⟩⟩
   ·rw [List.getElem?_set_ne (Ne.symm hj)] at e2
    obtain ⟨u',r',q⟩:=hl j y v' e1 e2 e3
    refine ⟨u',r',?_⟩
    rcases q with ⟨k,e⟩ | ⟨k,c,e,z⟩
    ·refine .inl ⟨k,?_⟩
     have:y ≠ x:=fun e=>hj (nodup_ix hN e1 (e ▸ hi))
     simp [this,e]
    ·exact .inr ⟨k,c,e,z.sameBut hs (cne y c e)⟩
  ·obtain ⟨w',z⟩:=I.cell y c e
   exact ⟨w',z.sameBut hs (cne y c e)⟩
  ·obtain ⟨e,n,ne,nf,d⟩:=I.pin p hp
   exact ⟨(hs.2 p.1 ne).trans e,n,ne,nf,d⟩
 ·have hfn:X.fn x = true:=by
   rcases hf with z | z
   ·exact z
   ·rw [z] at hk; cases hk
  obtain ⟨c,hc⟩:=I.ok.has x (.inl hk)
  obtain ⟨w',z⟩:=I.cell x c hc
  refine wpAny_storeName_cell I.ok.kind hk hc z (fun h' hc' hs=>?_)
  obtain ⟨oc,hoc,hocd⟩:=id z
  refine h { s with heap:=h' } ⟨I.ok,I.os,I.bare,⟨fun b o e n hb hx=>?_,fun b o e n hb hx=>?_,I.base.free,fun b o e hx=>?_,I.base.tups,I.base.frzs,I.base.tbls⟩,⟨m,hn.sameBut hs (Ne.symm (cne x c hc)),fun j y v' e1 e2 e3=>?_⟩,fun y c' e=>?_,I.free,I.freeC,fun p hp=>?_,tracked ⟨oc,hoc,I.freeC x c hc⟩ hs (let ⟨o,e,_⟩:=hc'; ⟨o,e⟩),by simpa using I.len⟩ ⟨c,hs,.inr hc⟩
  ·exact (hs.2 b (Nat.ne_of_lt (Nat.lt_of_lt_of_le (Heap.lt_size e) (I.ok.cab x c hfn hc)))).trans (I.base.keep b o e n hb hx)
  ·obtain ⟨sl,e1⟩:=I.base.slot b o e n hb hx
   exact ⟨sl,(hs.2 b (Nat.ne_of_lt (Nat.lt_of_lt_of_le (Heap.lt_size e) (I.ok.cab x c hfn hc)))).trans e1⟩
  ·obtain ⟨o',e1⟩:=I.base.there b o e hx
   exact ⟨o',(hs.2 b (Nat.ne_of_lt (Nat.lt_of_lt_of_le (Heap.lt_size e) (I.ok.cab x c hfn hc)))).trans e1⟩
  ·by_cases hj:j = i
   ·subst hj
    rw [hi] at e1; cases e1
    rw [List.getElem?_set_self hiσ] at e2
    cases e2
    exact ⟨u,r,.inr ⟨.inl hk,c,hc,hc'⟩⟩
   ·rw [List.getElem?_set_ne (Ne.symm hj)] at e2
    obtain ⟨u',r',q⟩:=hl j y v' e1 e2 e3
    refine ⟨u',r',?_⟩
    rcases q with q | ⟨k,c',e,z'⟩
    ·exact .inl q
    ·refine .inr ⟨k,c',e,z'.sameBut hs ?_⟩
     rintro rfl
     exact hj (nodup_ix hN e1 (I.ok.inj _ _ _ e hc ▸ hi))
  ·by_cases hcc:c' = c
   ·subst hcc; exact ⟨_,hc'⟩
   ·obtain ⟨w2,z2⟩:=I.cell y c' e
    exact ⟨w2,z2.sameBut hs hcc⟩
  ·obtain ⟨e,n,ne,nf,d⟩:=I.pin p hp
   refine ⟨(hs.2 p.1 ?_).trans e,n,ne,nf,d⟩
   intro q
   rw [q,hoc] at e
   have q':oc = p.2:=Option.some.inj e
   exact d w' (by rw [<- q']; exact hocd)
theorem store_ok {M:Model} {A:Around} {E:Value->Shared->Prop} {i:Nat} {x:Str} {v:V} {u:Value} {Q:Unit->Shared->Prop} (I:Inv X pins σ H s) (hN:X.N.Nodup) (hi:X.N[i]? = some x) (hx:Loc X.env.scope x) (r:RelV v u)
  (h:∀ s',Inv X pins (σ.set i (some v)) H s'->Q () s') (hf:X.fn x = true\/X.env.scope.names.lookup x = some .local:=by first | exact .inl rfl | exact .inr rfl | assumption):wpAny M A (storeName X.env x u) Q E s :=
 store_ok2 I hN hi hx r (fun s' I' _=>h s' I') hf
theorem Inv.call' {s':Shared} {ch:List Addr} (I:Inv X pins σ H s) (ho:s'.os = s.os) (u:Un (frs X.stack) ch H H' s.heap s'.heap) (hok:HOk X.prog X.w H' s'.heap) (hg:AllBare s'.gens)
  (hch:∀ b ∈ ch,(b ∈ X.ex\/X.s₀.heap.objs.size <= b)/\b ≠ X.env.locals/\(∀ x c,X.env.cells.lookup x = some c->c ≠ b)/\∀ p ∈ X.pn ++ pins,p.1 ≠ b):Inv X pins σ H' s':=by
 obtain ⟨h',g',d',t',o'⟩:=s'
 have e:o' = s.os:=ho
 subst e
 exact I.call (g':=g') (t':=t') (d':=d') u hok hg hch
end
abbrev XK:=Value->Option Addr->Hp->Prop
abbrev St:=List (Option V)
abbrev VK:=V->Hp->Prop
abbrev TE:=St->Hp->VK->Prop
abbrev TT:=St->Hp->(Bool->Hp->Prop)->Prop
abbrev TA:=St->Hp->(List V->Hp->Prop)->Prop
structure Ends where
 nx:St->Hp->Prop
 rt:VK
 bk:St->Hp->Prop:=fun _ _=>False
 ct:St->Hp->Prop:=fun _ _=>False
abbrev TS:=Ends->St->Hp->Prop
def EP (X:Cx) (pins:List (Addr × Obj)) (σ:St) (Q:VK) (u:Value) (s':Shared):Prop:=∃ v H',Inv X pins σ H' s'/\RelV v u/\Q v H'
def TP (X:Cx) (pins:List (Addr × Obj)) (σ:St) (Q:Bool->Hp->Prop) (b:Bool) (s':Shared):Prop:=∃ H',Inv X pins σ H' s'/\Q b H'
def AP (X:Cx) (pins:List (Addr × Obj)) (σ:St) (Q:List V->Hp->Prop) (us:List Value) (s':Shared):Prop:=∃ vs H',Inv X pins σ H' s'/\Vals vs us/\Q vs H'
def SP (X:Cx) (pins:List (Addr × Obj)) (D:Ends) (f:Flow) (s':Shared):Prop :=
 match f with
 | .next=>∃ σ' H',Inv X pins σ' H' s'/\D.nx σ' H'
 | .brk=>∃ σ' H',Inv X pins σ' H' s'/\D.bk σ' H'
 | .cont=>∃ σ' H',Inv X pins σ' H' s'/\D.ct σ' H'
 | .ret u=>∃ v σ' H',Inv X pins σ' H' s'/\RelV v u/\D.rt v H'
def PE (X:Cx) (e:Expr) (t:TE):Prop :=
 ∀ (pins:List (Addr × Obj)) (s:Shared) (σ:St) (H:Hp) (Q:VK),Inv X pins σ H s->t σ H Q->wpAny (model X.prog X.w) X.A (eval e X.env) (EP X pins σ Q) X.xe s
def PT (X:Cx) (e:Expr) (t:TT):Prop :=
 ∀ (pins:List (Addr × Obj)) (s:Shared) (σ:St) (H:Hp) (Q:Bool->Hp->Prop),Inv X pins σ H s->t σ H Q->wpAny (model X.prog X.w) X.A (isTrue e X.env (eval e X.env)) (TP X pins σ Q) X.xe s
def PW (X:Cx) (e:Expr) (t:TT):Prop :=
 ∀ (whole:Sem Value) (pins:List (Addr × Obj)) (s:Shared) (σ:St) (H:Hp) (Q:Bool->Hp->Prop),Inv X pins σ H s->t σ H Q->wpAny (model X.prog X.w) X.A (isTrue e X.env whole) (TP X pins σ Q) X.xe s
theorem PW.pt {X:Cx} {e:Expr} {t:TT} (h:PW X e t):PT X e t:=h _
def PA (X:Cx) (es:List Expr) (t:TA):Prop :=
 ∀ (pos:Pos) (pins:List (Addr × Obj)) (s:Shared) (σ:St) (H:Hp) (Q:List V->Hp->Prop),Inv X pins σ H s->t σ H Q->wpAny (model X.prog X.w) X.A (spliced (backTo pos (starEach es X.env))) (AP X pins σ Q) X.xe s
def PS (X:Cx) (st:Stmt) (t:TS):Prop :=
 ∀ (pins:List (Addr × Obj)) (s:Shared) (σ:St) (H:Hp) (D:Ends),Inv X pins σ H s->t D σ H->wpAny (model X.prog X.w) X.A (exec st X.env) (SP X pins D) X.xe s
def PSs (X:Cx) (st:List Stmt) (t:TS):Prop :=
 ∀ (pins:List (Addr × Obj)) (s:Shared) (σ:St) (H:Hp) (D:Ends),Inv X pins σ H s->t D σ H->wpAny (model X.prog X.w) X.A (execs st X.env) (SP X pins D) X.xe s
theorem thn {α:Type} {t:Sem α} {Q Q':α->Shared->Prop} {M:Model} {A:Around} {E:Value->Shared->Prop} {s:Shared} (h:wpAny M A t Q E s) (hQ:∀ a s,Q a s->Q' a s):wpAny M A t Q' E s:=wpAny_mono h hQ fun _ _ x=>x
end L2
namespace L2
open PySem PySem.Spec PyProof.Rows
section
variable {X:Cx}
def tVar (i:Nat):TE:=fun σ H Q=>∃ v,σ[i]? = some (some v)/\Q v H
def tC (v:V):TE:=fun _ H Q=>Q v H
theorem pe_var {i:Nat} {x:Str} {pos:Pos} (hN:X.N[i]? = some x) (hv:Vis X.env.scope x) (hd:(x == ("__debug__" : Str)) = false:=by decide) (hcd:(x == ("__classdict__" : Str)) = false:=by decide):PE X (.Name x pos) (tVar i):=by
 intro pins s σ H Q I h
 obtain ⟨v,e,h⟩:=h
 obtain ⟨m,hn,hl⟩:=I.loc
 obtain ⟨u,r,l⟩:=hl i x v hN e hv
 have fin:EP X pins σ Q u s:=⟨v,H,I,r,h⟩
 rcases l with ⟨hk,hm⟩ | ⟨hk,c,hc,hcell⟩
 ·exact wpAny_Name (wpAny_loadName_local I.ok.kind hk hn hm fin) hd
 ·rcases hk with hk | hk
  ·exact wpAny_Name (wpAny_loadName_cell I.ok.kind hk hc hcell fin) hd
  ·exact wpAny_Name (wpAny_loadName_free I.ok.kind hk hc hcell fin hcd) hd
theorem pe_int {i j pos}:PE X (.Constant (.int i) j pos) (tC (.int i)):=fun _ _ _ H _ I h=>wpAny_Constant_int ⟨.int i,H,I.tok _,⟨_,rfl⟩,h⟩
theorem pe_bl {b j pos}:PE X (.Constant (.bool b) j pos) (tC (.bl b)):=fun _ _ _ H _ I h=>Constant_bool ⟨.bl b,H,I,rfl,h⟩
theorem pe_non {j pos}:PE X (.Constant .none j pos) (tC .non):=fun _ _ _ H _ I h=>Constant_none ⟨.non,H,I,rfl,h⟩
theorem pe_str {x j pos}:PE X (.Constant (.str x) j pos) (tC (.str x)):=fun _ _ _ H _ I h=>Calls.Constant_str ⟨.str x,H,I.tok _,⟨_,rfl⟩,h⟩
def Gl (X:Cx) (x:Str):Prop:=X.env.kindOf x = some .globalImplicit
theorem ld_glob {E:Value->Shared->Prop} {pins:List (Addr × Obj)} {s:Shared} {σ:St} {H:Hp} {x:Str} {u:Value} {pos:Pos} {Q:Value->Shared->Prop} (I:Inv X pins σ H s) (hg:Gl X x) (hm:X.mg x = some u) (h:Q u s)
  (hd:(x == ("__debug__" : Str)) = false:=by decide):wpAny (model X.prog X.w) X.A (eval (.Name x pos) X.env) Q E s :=
 Calls.Name_function_global I.ok.kind hg (Calls.loadGlobal_global (by rw [I.ok.glob]; exact I.mod.glob.keeps I.bk) hm h) hd
theorem ld_blt {E:Value->Shared->Prop} {pins:List (Addr × Obj)} {s:Shared} {σ:St} {H:Hp} {x:Str} {u:Value} {pos:Pos} {Q:Value->Shared->Prop} (I:Inv X pins σ H s) (hg:Gl X x) (hm:X.mg x = none) (hv:bootBuiltins x = some u) (h:Q u s)
  (hn:x ≠ "__name__":=by decide) (hd:(x == ("__debug__" : Str)) = false:=by decide):wpAny (model X.prog X.w) X.A (eval (.Name x pos) X.env) Q E s:=by
 obtain ⟨mb,h1,h2⟩:=I.mod.blt
 exact Calls.Name_function_global I.ok.kind hg (Calls.loadGlobal_builtin (by rw [I.ok.glob]; exact I.mod.glob.keeps I.bk) hm (by rw [I.ok.blt]; exact h1.keeps I.bk) ((h2 x hn).trans hv) h) hd
theorem pe_glob {x:Str} {v:V} {u:Value} {pos:Pos} (hg:Gl X x) (hm:X.mg x = some u) (r:RelV v u) (hd:(x == ("__debug__" : Str)) = false:=by decide):PE X (.Name x pos) (tC v) :=
 fun _ _ _ H _ I h=>ld_glob I hg hm ⟨v,H,I,r,h⟩ hd
theorem pe_bltn {x:Str} {v:V} {u:Value} {pos:Pos} (hg:Gl X x) (hm:X.mg x = none) (hv:bootBuiltins x = some u) (r:RelV v u) (hn:x ≠ "__name__":=by decide) (hd:(x == ("__debug__" : Str)) = false:=by decide):PE X (.Name x pos) (tC v) :=
 fun _ _ _ H _ I h=>ld_blt I hg hm hv ⟨v,H,I,r,h⟩ hn hd
variable {a b:Expr} {ta tb:TE} {pos:Pos}
def PC (X:Cx) (op:CmpOp) (a b:Expr) (t:TE):Prop :=
 ∀ (pins:List (Addr × Obj)) (s:Shared) (σ:St) (H:Hp) (Q:VK),Inv X pins σ H s->t σ H Q ->
  wpAny (model X.prog X.w) X.A (eval a X.env) (fun v s₁=>wpAny (model X.prog X.w) X.A (eval b X.env) (fun u s₂=>wpAny (model X.prog X.w) X.A (compareOp op v u) (EP X pins σ Q) X.xe s₂) X.xe s₁) X.xe s
def tB (t:TE):TT:=fun σ H Q=>t σ H fun x H1=>∃ c,x = .bl c/\Q c H1
theorem pe_cmp {op:CmpOp} {t:TE} (h:PC X op a b t) (h1:behindInMarks op b = false:=by first | exact nobehind _ (by decide) (by decide) | rfl):PE X (.Compare a [op] [b] pos) t:=fun pins s σ H Q I hw=>wpAny_Compare1 (h pins s σ H Q I hw) h1
theorem pt_cmp {op:CmpOp} {t:TE} (h:PC X op a b t) (h1:behindInMarks op b = false:=by first | exact nobehind _ (by decide) (by decide) | rfl):PT X (.Compare a [op] [b] pos) (tB t):=by
 intro pins s σ H Q I hw
 refine wpAny_isTrue_Compare1 (thn (h pins s σ H _ I hw) fun v s1 h1=>thn h1 fun u s2 h2=>thn h2 fun c s3 ⟨x,H1,I1,r1,q1⟩=>?_) h1
 obtain ⟨d,rfl,q⟩:=q1
 cases r1
 exact wpAny_truthy_bool ⟨H1,I1,q⟩
variable {tA tB':TT} {rest:List Expr}
def tAnd (t u:TT):TT:=fun σ H Q=>t σ H fun c H1=>if c = true then u σ H1 Q else Q false H1
def tOr (t u:TT):TT:=fun σ H Q=>t σ H fun c H1=>if c = true then Q true H1 else u σ H1 Q
def tNot (t:TT):TT:=fun σ H Q=>t σ H fun c H1=>Q (!c) H1
theorem pw_and1 (ha:PT X a tA):PW X (.BoolOp .And [a] pos) tA:=by
 intro wh pins s σ H Q I h
 refine isTrue_and (thn (ha pins s σ H Q I h) fun c s1 e=>?_)
 cases c with
 | true=>exact isTrue_and_nil e
 | false=>exact e
theorem pw_or1 (ha:PT X a tA):PW X (.BoolOp .Or [a] pos) tA:=by
 intro wh pins s σ H Q I h
 refine isTrue_or (thn (ha pins s σ H Q I h) fun c s1 e=>?_)
 cases c with
 | false=>exact isTrue_or_nil e
 | true=>exact e
theorem pw_and (ha:PT X a tA) (hb:PW X (.BoolOp .And (b :: rest) pos) tB'):PW X (.BoolOp .And (a :: b :: rest) pos) (tAnd tA tB'):=by
 intro wh pins s σ H Q I h
 refine isTrue_and (thn (ha pins s σ H _ I h) fun c s1 ⟨H1,I1,q1⟩=>?_)
 cases c with
 | true=>exact hb wh pins s1 σ H1 Q I1 q1
 | false=>exact ⟨H1,I1,q1⟩
theorem pw_or (ha:PT X a tA) (hb:PW X (.BoolOp .Or (b :: rest) pos) tB'):PW X (.BoolOp .Or (a :: b :: rest) pos) (tOr tA tB'):=by
 intro wh pins s σ H Q I h
 refine isTrue_or (thn (ha pins s σ H _ I h) fun c s1 ⟨H1,I1,q1⟩=>?_)
 cases c with
 | true=>exact ⟨H1,I1,q1⟩
 | false=>exact hb wh pins s1 σ H1 Q I1 q1
theorem pt_not (ha:PT X a tA):PT X (.UnaryOp .Not a pos) (tNot tA):=by
 intro pins s σ H Q I h
 exact isTrue_not (ha pins s σ H (fun c H1=>Q (!c) H1) I h)
def tAndV (ta tb:TE):TE:=fun σ H Q=>ta σ H fun x H1=>∃ c,x = .bl c/\if c = true then tb σ H1 Q else Q (.bl false) H1
def tOrV (ta tb:TE):TE:=fun σ H Q=>ta σ H fun x H1=>∃ c,x = .bl c/\if c = true then Q (.bl true) H1 else tb σ H1 Q
def tNotV (ta:TE):TE:=fun σ H Q=>ta σ H fun x H1=>∃ c,x = .bl c/\Q (.bl (!c)) H1
theorem pe_one {op} {t:TE} (h:PE X a t):PE X (.BoolOp op [a] pos) t:=fun pins s σ H Q I hw=>BoolOp_one (h pins s σ H Q I hw)
theorem pe_and (ha:PE X a ta) (hb:PE X (.BoolOp .And (b :: rest) pos) tb):PE X (.BoolOp .And (a :: b :: rest) pos) (tAndV ta tb):=by
 intro pins s σ H Q I h
 refine BoolOp_and (thn (ha pins s σ H _ I h) fun v s1 ⟨x,H1,I1,r1,q1⟩=>?_)
 obtain ⟨c,rfl,q1⟩:=q1
 cases r1
 refine wpAny_truthy_bool ?_
 cases c with
 | true=>exact hb pins s1 σ H1 Q I1 q1
 | false=>exact ⟨.bl false,H1,I1,rfl,q1⟩
theorem pe_or (ha:PE X a ta) (hb:PE X (.BoolOp .Or (b :: rest) pos) tb):PE X (.BoolOp .Or (a :: b :: rest) pos) (tOrV ta tb):=by
 intro pins s σ H Q I h
 refine BoolOp_or (thn (ha pins s σ H _ I h) fun v s1 ⟨x,H1,I1,r1,q1⟩=>?_)
 obtain ⟨c,rfl,q1⟩:=q1
 cases r1
 refine wpAny_truthy_bool ?_
 cases c with
 | false=>exact hb pins s1 σ H1 Q I1 q1
 | true=>exact ⟨.bl true,H1,I1,rfl,q1⟩
theorem pe_not (ha:PE X a ta):PE X (.UnaryOp .Not a pos) (tNotV ta):=by
 intro pins s σ H Q I h
 refine UnaryOp_ (thn (ha pins s σ H _ I h) fun v s1 ⟨x,H1,I1,r1,q1⟩=>?_)
 obtain ⟨c,rfl,q1⟩:=q1
 cases r1
 exact not_of (wpAny_truthy_bool ⟨.bl (!c),H1,I1,rfl,q1⟩)
def tIf (t:TT) (ta tb:TE):TE:=fun σ H Q=>t σ H fun c H1=>if c = true then ta σ H1 Q else tb σ H1 Q
theorem pe_ifExp {c:Expr} (hc:PT X c tA) (ha:PE X a ta) (hb:PE X b tb):PE X (.IfExp c a b pos) (tIf tA ta tb):=by
 intro pins s σ H Q I h
 refine wpAny_IfExp (thn (hc pins s σ H _ I h) fun d s1 ⟨H1,I1,q1⟩=>?_)
 cases d with
 | true=>exact ha pins s1 σ H1 Q I1 q1
 | false=>exact hb pins s1 σ H1 Q I1 q1
end
end L2
namespace L2
open PySem PySem.Spec PyProof.Rows
def SqL (K:PySem.W.Frag) (H:Hp) (a:Addr) (xs:List V):Prop :=
 Rd H a (.lst xs) \/
  ∃ (o:Obj) (its:Array Value) (n:Nat),K.lookup a = some o/\o.cls = .type "list"/\o.dict = none/\o.data = .seq its n/\its.size <= sizeLine/\Vals xs its.toList
def SqT (K:PySem.W.Frag) (H:Hp) (a:Addr) (xs:List V):Prop :=
 Rd H a (.tup xs) \/
  ∃ (o:Obj) (its:Array Value) (n:Nat),K.lookup a = some o/\o.cls = .type "tuple"/\o.data = .seq its n/\its.size <= sizeLine/\Vals xs its.toList
def absV:Value->Option V
 | .none=>some .non
 | .bool b=>some (.bl b)
 | .int i _=>some (.int i)
 | .str x _=>some (.str x)
 | .bytes b _=>some (.byt b)
 | .float b _=>some (.flt b)
 | .ref a=>some (.ref a)
 | .type n=>some (.ty n)
 | _=>none
theorem RelV.abs {x:V} {u:Value} (r:RelV x u):absV u = some x:=by
 cases x with
 | non=>cases r; rfl
 | bl _=>cases r; rfl
 | int _=>obtain ⟨t,rfl⟩:=r; rfl
 | str _=>obtain ⟨t,rfl⟩:=r; rfl
 | byt _=>obtain ⟨t,rfl⟩:=r; rfl
 | flt _=>obtain ⟨t,rfl⟩:=r; rfl
 | ref _=>cases r; rfl
 | ty _=>cases r; rfl
theorem RelV.inj {x y:V} {u:Value} (r:RelV x u) (q:RelV y u):x = y:=Option.some.inj (r.abs.symm.trans q.abs)
theorem Vals.inj:∀ {xs ys:List V} {us:List Value},Vals xs us->Vals ys us->xs = ys
 | _,_,_,.nil,.nil=>rfl
 | _,_,_,.cons r t,.cons r' t'=>by rw [r.inj r',Vals.inj t t']
section
variable {X:Cx} {pins:List (Addr × Obj)} {σ:St} {H:Hp} {s:Shared} {a:Addr} {xs ys:List V}
theorem SqL.of {K:PySem.W.Frag} (h:H a = some (.lst xs)):SqL K H a xs:=.inl (.inl h)
theorem SqT.of {K:PySem.W.Frag} (h:H a = some (.tup xs)):SqT K H a xs:=.inl (.inl h)
theorem Inv.list (I:Inv X pins σ H s) (h:SqL X.K H a xs):∃ its:List Value,Vals xs its/\PlainL s.heap a its.toArray/\xs.length <= sizeLine:=by
 rcases h with h | ⟨o,its,n,hk,hc,hd,hs,hz,r⟩
 ·obtain ⟨z,its,n,r,e⟩:=h.ok I.hok
  exact ⟨its,r,⟨_,n,e,rfl,rfl,rfl⟩,z⟩
 ·refine ⟨its.toList,r,⟨o,n,I.kIn a o hk,hc,hd,by simpa using hs⟩,?_⟩
  have e:=r.length
  simp only [Array.length_toList] at e
  omega
theorem Inv.tuple (I:Inv X pins σ H s) (h:SqT X.K H a xs):∃ its:List Value,Vals xs its/\IsTup s.heap a its.toArray/\xs.length <= sizeLine:=by
 rcases h with h | ⟨o,its,n,hk,hc,hs,hz,r⟩
 ·obtain ⟨z,its,r,p⟩:=h.ok I.hok
  exact ⟨its,r,p,z⟩
 ·refine ⟨its.toList,r,⟨o,I.kIn a o hk,hc,n,by simpa using hs⟩,?_⟩
  have e:=r.length
  simp only [Array.length_toList] at e
  omega
theorem Inv.list_inj (I:Inv X pins σ H s) (h:SqL X.K H a xs) (h':SqL X.K H a ys):xs = ys:=by
 obtain ⟨its,r,⟨o,n,e,_,_,d⟩,_⟩:=I.list h
 obtain ⟨its',r',⟨o',n',e',_,_,d'⟩,_⟩:=I.list h'
 rw [e] at e'; cases e'
 rw [d] at d'
 injection d' with d1 _
 have:its = its':=by simpa using congrArg Array.toList d1
 subst this
 exact r.inj r'
end
abbrev Cx.wish (X:Cx) (E:Value->Shared->Prop):Cx:={ X with xe:=E }
abbrev Cx.nox (X:Cx):Cx:=X.wish fun _ _=>False
theorem Cx.Ok.wish {X:Cx} (ok:X.Ok) (E:Value->Shared->Prop):(X.wish E).Ok :=
 ⟨ok.mod,ok.kind,ok.glob,ok.blt,ok.above,ok.inj,ok.has,ok.cab,ok.hd,ok.frames,ok.stk,ok.exf,ok.bs,ok.bsz,ok.noex,ok.exfs,ok.funs,ok.frf⟩
theorem Cx.Ok.unwish {X:Cx} {E:Value->Shared->Prop} (ok:(X.wish E).Ok):X.Ok :=
 ⟨ok.mod,ok.kind,ok.glob,ok.blt,ok.above,ok.inj,ok.has,ok.cab,ok.hd,ok.frames,ok.stk,ok.exf,ok.bs,ok.bsz,ok.noex,ok.exfs,ok.funs,ok.frf⟩
section
variable {X:Cx} {pins:List (Addr × Obj)} {σ:St} {H:Hp} {s:Shared} {E:Value->Shared->Prop}
theorem Inv.wish (I:Inv X pins σ H s) (E:Value->Shared->Prop):Inv (X.wish E) pins σ H s:=⟨I.ok.wish E,I.os,I.bare,I.base,I.loc,I.cell,I.free,I.freeC,I.pin,I.hok,I.len⟩
theorem Inv.unwish (I:Inv (X.wish E) pins σ H s):Inv X pins σ H s:=⟨I.ok.unwish,I.os,I.bare,I.base,I.loc,I.cell,I.free,I.freeC,I.pin,I.hok,I.len⟩
theorem SP.unwish {D:Ends} {f:Flow} {s':Shared} (h:SP (X.wish E) pins D f s'):SP X pins D f s':=by
 cases f with
 | next=>obtain ⟨σ',H',I,q⟩:=h; exact ⟨σ',H',I.unwish,q⟩
 | brk=>obtain ⟨σ',H',I,q⟩:=h; exact ⟨σ',H',I.unwish,q⟩
 | cont=>obtain ⟨σ',H',I,q⟩:=h; exact ⟨σ',H',I.unwish,q⟩
 | ret u=>obtain ⟨v,σ',H',I,r,q⟩:=h; exact ⟨v,σ',H',I.unwish,r,q⟩
theorem PSs.nox {st:List Stmt} {t:TS} (h:PSs X.nox st t):PSs X st t:=fun pins s σ H D I hw =>
 wpAny_mono (h pins s σ H D (I.wish _) hw) (fun _ _ q=>q.unwish) fun _ _ z=>False.elim z
end
section
variable {X:Cx} {st:Stmt} {rest:List Stmt} {t u:TS} {e:Expr} {te:TE} {pos:Pos}
def tNext:TS:=fun D σ H=>D.nx σ H
def tSeq (t u:TS):TS:=fun D σ H=>t { D with nx:=u D } σ H
theorem pss_nil:PSs X [] tNext:=fun _ _ σ H _ I h=>wpAny_execs_nil ⟨σ,H,I,h⟩
theorem pss_cons (h1 : PS X st t) (h2 : PSs X rest u) : PSs X (st :: rest) (tSeq t u) := by
  intro pins s σ H D I h
  refine wpAny_execs_cons (thn (h1 pins s σ H { D with nx := u D } I h) fun f s1 q => ?_)
  cases f with
  | next =>
    obtain ⟨σ', H', I', q⟩ := q
    exact h2 pins s1 σ' H' D I' q
  | ret v => exact q
  | brk => exact q
  | cont => exact q
theorem pss_one (h1:PS X st t):PSs X [st] t:=by
 intro pins s σ H D I h
 refine wpAny_execs_cons (thn (h1 pins s σ H D I h) fun f s1 q=>?_)
 cases f with
 | next=>exact wpAny_execs_nil q
 | ret v=>exact q
 | brk=>exact q
 | cont=>exact q
theorem Inv.quiet {pins:List (Addr × Obj)} {σ:St} {H:Hp} {s:Shared} (I:Inv X pins σ H s):interactive X.env = false:=by simp [interactive,I.ok.kind]
def tDrop (te:TE):TS:=fun D σ H=>te σ H fun _ H1=>D.nx σ H1
theorem ps_expr (he:PE X e te) (hs:swapsWith e none pos.line X.env = pure false:=by rfl):PS X (.Expr e pos) (tDrop te):=by
 intro pins s σ H D I h
 exact wpAny_Expr_any (thn (he pins s σ H _ I h) fun v s1 ⟨x,H1,I1,r1,q1⟩=>⟨σ,H1,I1,q1⟩) I.quiet hs
def tRet (te:TE):TS:=fun D σ H=>te σ H D.rt
theorem ps_ret (he:PE X e te):PS X (.Return (some e) pos) (tRet te):=by
 intro pins s σ H D I h
 exact wpAny_Return_some (thn (he pins s σ H _ I h) fun v s1 ⟨x,H1,I1,r1,q1⟩=>⟨x,σ,H1,I1,r1,q1⟩)
def tIfS (c:TT) (t u:TS):TS:=fun D σ H=>c σ H fun b H1=>if b = true then t D σ H1 else u D σ H1
theorem ps_if {c:Expr} {a b:List Stmt} {tc:TT} (hc:PT X c tc) (ha:PSs X a t) (hb:PSs X b u):PS X (.If c a b pos) (tIfS tc t u):=by
 intro pins s σ H D I h
 refine wpAny_If (thn (hc pins s σ H _ I h) fun d s1 ⟨H1,I1,q1⟩=>?_)
 cases d with
 | true=>exact ha pins s1 σ H1 D I1 q1
 | false=>exact hb pins s1 σ H1 D I1 q1
def tNever:TS:=fun _ _ _=>False
theorem ps_never:PS X st tNever:=fun _ _ _ _ _ _ h=>h.elim
end
abbrev TG:=V->St->Hp->(St->Hp->Prop)->Prop
abbrev TGs:=List V->St->Hp->(St->Hp->Prop)->Prop
def PG (X:Cx) (target:Expr) (t:TG):Prop :=
 ∀ (pins:List (Addr × Obj)) (s:Shared) (σ:St) (H:Hp) (v:V) (u:Value) (Q:St->Hp->Prop),Inv X pins σ H s->RelV v u->t v σ H Q ->
  wpAny (model X.prog X.w) X.A (assign target X.env u) (fun _ s'=>∃ σ' H',Inv X pins σ' H' s'/\Q σ' H') X.xe s
def PGs (X:Cx) (ts:List Expr) (t:TGs):Prop :=
 ∀ (pins:List (Addr × Obj)) (s:Shared) (σ:St) (H:Hp) (vs:List V) (us:List Value) (Q:St->Hp->Prop),Inv X pins σ H s->Vals vs us->t vs σ H Q ->
  wpAny (model X.prog X.w) X.A (assignInOrder ((assignEach ts X.env).map (·.2)) us) (fun _ s'=>∃ σ' H',Inv X pins σ' H' s'/\Q σ' H') X.xe s
abbrev TSet:=V->V->V->Hp->(Hp->Prop)->Prop
def PSet (X:Cx) (t:TSet):Prop :=
 ∀ (pins:List (Addr × Obj)) (s:Shared) (σ:St) (H:Hp) (o i v:V) (ov iv u:Value) (Q:Hp->Prop),Inv X pins σ H s->RelV o ov->RelV i iv->RelV v u->t o i v H Q ->
  wpAny (model X.prog X.w) X.A (setItem ov iv u) (fun _ s'=>∃ H',Inv X pins σ H' s'/\Q H') X.xe s
section
variable {X:Cx} {pos:Pos}
def gName (i:Nat):TG:=fun v σ H Q=>Q (σ.set i (some v)) H
theorem pg_name {i:Nat} {x:Str} (hN:X.N.Nodup) (hi:X.N[i]? = some x) (hx:Loc X.env.scope x) (hf:X.fn x = true\/X.env.scope.names.lookup x = some .local:=by first | exact .inl rfl | exact .inr rfl | assumption):PG X (.Name x pos) (gName i):=by
 intro pins s σ H v u Q I r h
 exact wpAny_assign_Name (store_ok I hN hi hx r (fun s' I'=>⟨_,H,I',h⟩) hf)
def gNil:TGs:=fun vs σ H Q=>vs = []/\Q σ H
def gCons (t:TG) (u:TGs):TGs:=fun vs σ H Q=>∃ v r,vs = v :: r/\t v σ H fun σ' H'=>u r σ' H' Q
theorem pgs_nil:PGs X [] gNil:=by
 intro pins s σ H vs us Q I r h
 obtain ⟨e,h⟩:=h
 subst e
 cases r
 exact assignInOrder_nil ⟨σ,H,I,h⟩
theorem pgs_cons {e : Expr} {es : List Expr} {t : TG} {u : TGs} (h1 : PG X e t) (h2 : PGs X es u)
    (hs : (assignEach (e :: es) X.env).map (·.2) = assign e X.env :: (assignEach es X.env).map (·.2) := by rfl) : PGs X (e :: es) (gCons t u) := by
  intro pins s σ H vs us Q I r h
  obtain ⟨v, vr, e1, h⟩ := h
  subst e1
  cases r with
  | cons r rr =>
    rw [hs]
    refine assignInOrder_cons (thn (h1 pins s σ H _ _ _ I r h) fun _ s1 ⟨σ1, H1, I1, q1⟩ => ?_)
    exact h2 pins s1 σ1 H1 _ _ Q I1 rr q1
def gTup (K:PySem.W.Frag) (n:Nat) (t:TGs):TG:=fun v σ H Q=>∃ a xs,v = .ref a/\SqT K H a xs/\xs.length = n/\t xs σ H Q
theorem pg_tup {es:List Expr} {k:Nat} {t:TGs} {n:Nat} (hc:X.calm = true) (h:PGs X es t)
  (hn:(assignEach es X.env).length = n:=by rfl) (hst:(assignEach es X.env).findIdx? (·.1) = none:=by rfl):PG X (.Tuple es k pos) (gTup X.K n t):=by
 intro pins s σ H v u Q I r hw
 obtain ⟨a,xs,e1,hq,hl,hw⟩:=hw
 subst e1
 cases r
 obtain ⟨its,rv,ht,hz⟩:=I.tuple hq
 refine assign_Tuple_tuple (I.ok.hd hc) ht (by simp [hn,<- hl,rv.length]) hst fun h' hx=>?_
 have I1:Inv X pins σ H { s with heap:=h' }:=I.kept (t':=s.toks) fun b o e=>hx b o (Nat.ne_of_lt (Heap.lt_size e)) e
 exact h pins _ σ H xs _ Q I1 (by simpa using rv) hw
def gSub (to ti:TE) (t:TSet):TG:=fun v σ H Q=>to σ H fun o H1=>ti σ H1 fun i H2=>t o i v H2 fun H3=>Q σ H3
theorem pg_sub {o i : Expr} {to ti : TE} {t : TSet} (ho : PE X o to) (hi : PE X i ti) (hs : PSet X t)
  (ha : ∀ v, assign (.Subscript o i pos) X.env v = (do
   let ov <- holding [v] (eval o X.env)
   let iv <- holding [v, ov] (eval i X.env)
   standAt pos
   holding [v, ov, iv] (setItem ov iv v)
   release [v, ov, iv] []) := by intro _; rfl) : PG X (.Subscript o i pos) (gSub to ti t) := by
 intro pins s σ H v u Q I r h
 rw [ha]
 refine wpAny_bind (wpAny_holding (thn (ho pins s σ H _ I h) fun ov s1 ⟨x, H1, I1, r1, q1⟩ => ?_))
 refine wpAny_bind (wpAny_holding (thn (hi pins s1 σ H1 _ I1 q1) fun iv s2 ⟨y, H2, I2, r2, q2⟩ => ?_))
 refine wpAny_bind (wpAny_standAt (wpAny_bind (wpAny_holding (thn (hs pins s2 σ H2 x y v ov iv u _ I2 r1 r2 r q2) fun _ s3 ⟨H3, I3, q3⟩ => ?_))))
 exact wpAny_release ⟨σ, H3, I3, q3⟩
def tAsg (te:TE) (g:TG):TS:=fun D σ H=>te σ H fun x H1=>g x σ H1 D.nx
theorem ps_asg {tg e:Expr} {te:TE} {g:TG} (he:PE X e te) (hg:PG X tg g) (hs:swapsWithSole [tg] e pos.line X.env = pure false:=by rfl) (hw:swappedStores [tg] e X.env = pure none:=by rfl)
  (h1:(assignEach [tg] X.env).map (·.2) = [assign tg X.env]:=by rfl):PS X (.Assign [tg] e pos) (tAsg te g):=by
 intro pins s σ H D I h
 refine wpAny_Assign_stores (thn (he pins s σ H _ I h) fun v s1 ⟨x,H1,I1,r1,q1⟩=>?_) hs hw
 rw [h1]
 exact thn (hg pins s1 σ H1 x v _ I1 r1 q1) fun _ s2 q=>q
theorem ps_set {i:Nat} {x:Str} {e:Expr} {te:TE} {pos':Pos} (hN:X.N.Nodup) (hi:X.N[i]? = some x) (hx:Loc X.env.scope x) (he:PE X e te) (hs:swapsWith e (some (.Name x pos')) pos.line X.env = pure false:=by rfl) (hf:X.fn x = true\/X.env.scope.names.lookup x = some .local:=by first | exact .inl rfl | exact .inr rfl | assumption) :
  PS X (.Assign [.Name x pos'] e pos) (tAsg te (gName i)):=by
 intro pins s σ H D I h
 refine wpAny_Assign_Name (thn (he pins s σ H _ I h) fun v s1 ⟨y,H1,I1,r1,q1⟩=>?_) hs
 exact store_ok I1 hN hi hx r1 (fun s2 I2=>⟨_,H1,I2,q1⟩) hf
end
section
variable {X:Cx} {pos:Pos}
def tWhile (c:TT) (tb:TS):TS:=fun D σ H=>∃ W:Nat->St->Hp->Prop,(∃ m,W m σ H)/\∀ m σ H,W m σ H ->
 c σ H fun b H1=>if b = true then ∃ N:St->Hp->Prop,(∀ σ' H',N σ' H'->∃ m',m' < m/\W m' σ' H')/\tb { D with nx:=N,ct:=N,bk:=D.nx } σ H1 else D.nx σ H1
theorem ps_while {c : Expr} {body : List Stmt} {tc : TT} {tb : TS} (hp : PassesOwn (model X.prog X.w) X.A X.env X.xe) (hc : PT X c tc) (hb : PSs X body tb) : PS X (.While c body [] pos) (tWhile tc tb) := by
  intro pins s σ H D I h
  obtain ⟨W, ⟨m0, w0⟩, turn⟩ := h
  refine wpAny_While (codeAny_whileLoop (fun n s' => ∃ σ' H', Inv X pins σ' H' s' /\ W n σ' H') ?_ m0 ⟨σ, H, I, w0⟩)
  rintro n s1 ⟨σ1, H1, I1, w1⟩
  refine wpAny_passesOwn hp (thn (hc pins s1 σ1 H1 _ I1 (turn n σ1 H1 w1)) fun b s2 ⟨H2, I2, q2⟩ => ?_)
  cases b with
  | true =>
    obtain ⟨N, hN, q2⟩ := q2
    rw [if_pos rfl]
    refine wpAny_passesOwn hp (thn (hb pins s2 σ1 H2 _ I2 q2) fun f s3 q3 => ?_)
    cases f with
    | next =>
      obtain ⟨σ3, H3, I3, n3⟩ := q3
      obtain ⟨m', hm, w3⟩ := hN σ3 H3 n3
      exact ⟨m', hm, σ3, H3, I3, w3⟩
    | cont =>
      obtain ⟨σ3, H3, I3, n3⟩ := q3
      obtain ⟨m', hm, w3⟩ := hN σ3 H3 n3
      exact ⟨m', hm, σ3, H3, I3, w3⟩
    | brk => exact q3
    | ret v => exact q3
  | false =>
    rw [if_neg Bool.false_ne_true]
    exact wpAny_execs_nil ⟨σ1, H2, I2, q2⟩
end
structure It where
 go:Nat->Hp->Prop
 yld:Nat->Hp->V->Hp->Prop
 stop:Nat->Hp->Prop
def FpOk (X:Cx) (pins:List (Addr × Obj)) (H:Hp) (b:Addr):Prop :=
 H b = none/\b ≠ X.env.locals/\b ∉ X.fs/\(b ∈ X.ex\/X.s₀.heap.objs.size <= b)/\(∀ x c,X.env.cells.lookup x = some c->c ≠ b)/\∀ p ∈ X.pn ++ pins,p.1 ≠ b
theorem Inv.fpOk {X:Cx} {pins:List (Addr × Obj)} {σ:St} {H H':Hp} {s:Shared} {b:Addr} (I:Inv X pins σ H s) (hb:s.heap.objs.size <= b) (hn:H' b = none):FpOk X pins H' b:=by
 refine ⟨hn,Nat.ne_of_gt (Nat.lt_of_lt_of_le I.lt hb),I.nofs hb,.inr (Nat.le_trans I.sz hb),fun x c e z=>?_,fun p hp z=>?_⟩
 ·obtain ⟨v,q⟩:=I.cell x c e
  exact absurd (Nat.lt_of_lt_of_le q.lt (by rw [z]; exact hb)) (Nat.lt_irrefl _)
 ·exact absurd (Nat.lt_of_lt_of_le (Heap.lt_size (I.pin p hp).1) (by rw [z]; exact hb)) (Nat.lt_irrefl _)
structure Turn (P:Program) (w:World) (K:PySem.W.Frag) (tg:Expr) (J:It) (fp:List Addr) (it:Addr) (tn:Nat->Heap->Prop):Prop where
 mem:it ∈ fp
 obj:∀ i h,tn i h->∀ b ∈ fp,∃ o,h.get? b = some o/\∀ v,o.data ≠ .cell v
 keep:∀ i h h',tn i h->(∀ b ∈ fp,∀ o,h.get? b = some o->h'.get? b = some o)->tn i h'
 item:∀ (X:Cx),X.prog = P->X.w = w->X.K = K->X.calm = true->∀ (i:Nat) (pins:List (Addr × Obj)) (s:Shared) (σ:St) (H:Hp) (E:Value->Shared->Prop),Inv X pins σ H s->(∀ b ∈ fp,FpOk X pins H b)->tn i s.heap->J.go i H ->
  wpAny (model P w) X.A (pyNext (.ref it)) (fun r s1=>∃ u,r = some u /\
   wpAny (model P w) X.A (letOwnedTupleGo tg (.ref it) u) (fun _ s2=>∃ x H',Inv X pins σ H' s2/\RelV x u/\J.yld i H x H'/\tn (i + 1) s2.heap/\∀ b ∈ fp,H' b = none) E s1) E s
 done:∀ (X:Cx),X.prog = P->X.w = w->X.K = K->X.calm = true->∀ (i:Nat) (pins:List (Addr × Obj)) (s:Shared) (σ:St) (H:Hp) (E:Value->Shared->Prop),Inv X pins σ H s->(∀ b ∈ fp,FpOk X pins H b)->tn i s.heap->J.stop i H ->
  wpAny (model P w) X.A (pyNext (.ref it)) (fun r s1=>r = none/\Inv X pins σ H s1) E s
 self:∀ (A:Around) (i:Nat) (s:Shared) (Q:Value->Shared->Prop) (E:Value->Shared->Prop),tn i s.heap->Q (.ref it) s->wpAny (model P w) A (pyIter (.ref it)) Q E s
abbrev TI:=St->Hp->(It->Hp->Prop)->Prop
def PIE (X:Cx) (pins:List (Addr × Obj)) (σ:St) (tg:Expr) (R:It->Hp->Prop) (itv:Value) (s2:Shared):Prop :=
 ∃ (it:Addr) (fp:List Addr) (tn:Nat->Heap->Prop) (J:It) (H':Hp),itv = .ref it/\Inv X pins σ H' s2/\Turn X.prog X.w X.K tg J fp it tn/\tn 0 s2.heap/\(∀ b ∈ fp,FpOk X pins H' b)/\R J H'
def PI (X:Cx) (tg iter:Expr) (wi:TI):Prop :=
 ∀ (pins:List (Addr × Obj)) (s:Shared) (σ:St) (H:Hp) (R:It->Hp->Prop),Inv X pins σ H s->wi σ H R ->
  wpAny (model X.prog X.w) X.A (eval iter X.env) (fun v s1=>wpAny (model X.prog X.w) X.A (pyIter v) (PIE X pins σ tg R) X.xe s1) X.xe s
theorem go_of {M : Model} {A : Around} {E : Value -> Shared -> Prop} {s : Shared} {tg : Expr} {it : Addr} {u : Value} {o : Obj} {n : String} {vs : Array Value} {Q : Unit -> Shared -> Prop} (ho : s.heap.get? it = some o) (hc : o.cls = .type n) (hd : o.data = .fields vs)
    (hn : ["enumerate", "zip", "dict_itemiterator", "dict_reverseitemiterator", "odict_iterator", "itertools.zip_longest", "itertools.pairwise"].contains n = false) (hQ : Q () s) : wpAny M A (letOwnedTupleGo tg (.ref it) u) Q E s := by
  unfold letOwnedTupleGo
  cases tg <;> first
    | exact wpAny_pure hQ
    | (cases u <;> first
        | exact wpAny_pure hQ
        | (refine wpAny_bind (wpAny_load ho ?_)
           rw [hc, hd]
           show wpAny M A (if (["enumerate", "zip", "dict_itemiterator", "dict_reverseitemiterator", "odict_iterator", "itertools.zip_longest", "itertools.pairwise"].contains n && vs[0]? == some (rawInt _)) = true then _ else _) Q E s
           rw [if_neg (by intro h; rw [hn, Bool.false_and] at h; cases h)]
           exact wpAny_pure hQ))
def Itl (K:PySem.W.Frag) (a:Addr):It :=
 ⟨fun i H=>∃ xs x,SqL K H a xs/\xs[i]? = some x,fun i H x H'=>H' = H/\∀ xs,SqL K H a xs->xs[i]? = some x,fun i H=>∃ xs,SqL K H a xs/\xs.length <= i⟩
def Itr (lo:Int) (n:Nat):It:=⟨fun i _=>i < n,fun i H x H'=>H' = H/\x = .int (lo + i),fun i _=>n <= i⟩
theorem turn_list {P:Program} {w:World} {K:PySem.W.Frag} {tg:Expr} (a it:Addr):Turn P w K tg (Itl K a) [it] it (fun i h=>h.IsListIter it a i) where
 mem:=by simp
 obj:=fun i h st b hb=>by
  have e:b = it:=by simpa using hb
  subst e
  obtain ⟨o,e,c,d⟩:=st
  exact ⟨o,e,fun v z=>by rw [d] at z; cases z⟩
 keep:=fun i h h' st k=>st.at fun o e=>k it (by simp) o e
 item:=by
  intro X hP hw hK hc i pins s σ H E I hf st hg
  subst hP hw hK
  obtain ⟨xs,x,hq,hx⟩:=hg
  obtain ⟨its,rv,p,hz⟩:=I.list hq
  obtain ⟨u,hu,ru⟩:=rv.get hx
  obtain ⟨f0,f1,f2,f3,f4,f5⟩:=hf it (by simp)
  refine wpAny_pyNext_list_item st p.isList (x:=u) (by simpa using hu) fun h' st' sb=>?_
  have I1:Inv X pins σ H { s with heap:=h' }:=I.turned (t':=s.toks) (fun b o hb e=>(sb.2 b hb).trans e) f0 f1 f3 f4 f5
  obtain ⟨o,e,c,d⟩:=id st'
  exact ⟨u,rfl,go_of (s:={ s with heap:=h' }) e c d (by decide) ⟨x,H,I1,ru,⟨rfl,fun ys hy=>by rw [I.list_inj hy hq]; exact hx⟩,st',fun b hb=>(hf b hb).1⟩⟩
 done:=by
  intro X hP hw hK hc i pins s σ H E I hf st hg
  subst hP hw hK
  obtain ⟨xs,hq,hx⟩:=hg
  obtain ⟨its,rv,p,hz⟩:=I.list hq
  obtain ⟨f0,f1,f2,f3,f4,f5⟩:=hf it (by simp)
  have hl:=rv.length
  exact wpAny_pyNext_list_end (I.ok.hd hc) st p.isList (by simp; omega) fun h' eb=>⟨rfl,I.turned (t':=s.toks) (fun b o hb e=>eb b o hb e) f0 f1 f3 f4 f5⟩
 self:=fun _ _ _ _ _ st h=>wpAny_pyIter_listiter st h
theorem turn_range {P:Program} {w:World} {K:PySem.W.Frag} {tg:Expr} (it:Addr) (lo:Int) (n:Nat):Turn P w K tg (Itr lo n) [it] it (fun i h=>IsRangeIter h it (lo + (i:Nat) * 1) ((n:Int) - (i:Nat)) 1) where
 mem:=by simp
 obj:=fun i h st b hb=>by
  have e:b = it:=by simpa using hb
  subst e
  exact ⟨_,st,fun v z=>by
   have z':Data.fields _ = Data.cell v:=z
   cases z'⟩
 keep:=fun i h h' st k=>k it (by simp) _ st
 item:=by
  intro X hP hw hK hc i pins s σ H E I hf st hg
  subst hP hw hK
  obtain ⟨f0,f1,f2,f3,f4,f5⟩:=hf it (by simp)
  have W:=Walks.range (prog:=X.prog) (w:=X.w) (I.ok.hd hc) it lo 1 n
  refine W.item i s _ _ hg st fun v h' tk hv st' kk=>?_
  obtain ⟨t,rfl⟩:=hv
  have I1:Inv X pins σ H { s with heap:=h',toks:=tk }:=I.turned (fun b o hb e=>kk b o (by simpa using hb) e) f0 f1 f3 f4 f5
  refine ⟨_,rfl,go_of (s:={ s with heap:=h',toks:=tk }) (n:="range_iterator") st' rfl rfl (by decide) ⟨.int (lo + i),H,I1,⟨t,?_⟩,⟨rfl,rfl⟩,st',fun b hb=>(hf b hb).1⟩⟩
  rw [Int.mul_one]
 done:=by
  intro X hP hw hK hc i pins s σ H E I hf st hg
  subst hP hw hK
  obtain ⟨f0,f1,f2,f3,f4,f5⟩:=hf it (by simp)
  exact wpAny_pyNext_range_end (I.ok.hd hc) st (by have:n <= i:=hg; omega) fun h' eb=>⟨rfl,I.turned (t':=s.toks) (fun b o hb e=>eb b o hb e) f0 f1 f3 f4 f5⟩
 self:=fun _ _ _ _ _ st h=>wpAny_pyIter_rangeiter st h
end L2
namespace L2
open PySem PySem.Spec PyProof.Rows
section
variable {X:Cx} {tg:Expr}
def iList (K:PySem.W.Frag) (tl:TE):TI:=fun σ H R=>tl σ H fun x H1=>∃ a,x = .ref a/\(∃ xs,SqL K H1 a xs)/\R (Itl K a) H1
theorem pi_list {l:Expr} {tl:TE} (hl:PE X l tl):PI X tg l (iList X.K tl):=by
 intro pins s σ H R I h
 refine thn (hl pins s σ H _ I h) fun v s1 ⟨x,H1,I1,r1,q1⟩=>?_
 obtain ⟨a,e,⟨xs,hq⟩,q⟩:=q1
 subst e
 cases r1
 obtain ⟨its,rv,p,hz⟩:=I1.list hq
 refine wpAny_pyIter_list p.isList ?_
 refine ⟨s1.heap.objs.size,[s1.heap.objs.size],_,_,H1,rfl,I1.kept (t':=s1.toks) fun b o e=>Heap.get?_push_of_some _ e,turn_list a _,⟨_,Heap.get?_push_size _ rfl,rfl,rfl⟩,fun b hb=>?_,q⟩
 have e:b = s1.heap.objs.size:=by simpa using hb
 subst e
 exact I1.fpOk (Nat.le_refl _) (I1.hok.fresh (Nat.le_refl _))
theorem range_it {pins:List (Addr × Obj)} {σ:St} {H:Hp} {s:Shared} {R:It->Hp->Prop} {E:Value->Shared->Prop} {lo hi:Int} {t u v:Tok} {tk:Nat} (I:Inv X pins σ H s) (h1:-(2 ^ 62) <= lo) (h2:lo < 2 ^ 62) (h3:-(2 ^ 62) <= hi) (h4:hi < 2 ^ 62)
  (q:R (Itr lo (hi - lo).toNat) H):wpAny (model X.prog X.w) X.A (pyIter (.ref s.heap.objs.size)) (PIE X pins σ tg R) E { s with heap:=s.heap.push { cls:=.type "range",data:=.fields #[.int lo t,.int hi u,.int 1 v] },toks:=tk }:=by
 refine wpAny_pyIter_range (IsRange.new ..) (small_one h1 h2 h3 h4) ?_
 have I1:Inv X pins σ H { s with heap:=s.heap.push { cls:=.type "range",data:=.fields #[.int lo t,.int hi u,.int 1 v] },toks:=tk }:=I.kept fun b o e=>Heap.get?_push_of_some _ e
 refine ⟨(s.heap.push { cls:=.type "range",data:=.fields #[.int lo t,.int hi u,.int 1 v] }).objs.size,[(s.heap.push { cls:=.type "range",data:=.fields #[.int lo t,.int hi u,.int 1 v] }).objs.size],_,_,H,rfl,
  I1.kept (t':=tk) fun b o e=>Heap.get?_push_of_some _ e,turn_range _ lo (hi - lo).toNat,?_,fun b hb=>?_,q⟩
 ·have e1:lo + ((0:Nat):Int) * 1 = lo:=by simp
  have e2:(((hi - lo).toNat:Nat):Int) - ((0:Nat):Int) = Builtin.Range.rangeSize lo hi 1:=by rw [rangeSize_one]; split <;> omega
  show IsRangeIter _ _ (lo + ((0:Nat):Int) * 1) ((((hi - lo).toNat:Nat):Int) - ((0:Nat):Int)) 1
  rw [e1,e2]
  exact Heap.get?_push_size _ rfl
 ·have e:b = (s.heap.push { cls:=.type "range",data:=.fields #[.int lo t,.int hi u,.int 1 v] }).objs.size:=by simpa using hb
  subst e
  exact I1.fpOk (Nat.le_refl _) (I1.hok.fresh (Nat.le_refl _))
def iRng1 (ta:TA):TI:=fun σ H R=>ta σ H fun vs H1=>∃ j:Int,vs = [.int j]/\-(2 ^ 62) <= j/\j < 2 ^ 62/\R (Itr 0 j.toNat) H1
def iRng2 (ta:TA):TI:=fun σ H R=>ta σ H fun vs H1=>∃ i j:Int,vs = [.int i,.int j]/\(-(2 ^ 62) <= i/\i < 2 ^ 62/\-(2 ^ 62) <= j/\j < 2 ^ 62)/\R (Itr i (j - i).toNat) H1
theorem pi_range1 {a : Expr} {ta : TA} {p pos : Pos} (hg : Gl X "range") (hm : X.mg "range" = none) (ha : PA X [a] ta) (hs : starEach [a] X.env = [(false, eval a X.env)] := by rfl) : PI X tg (.Call (.Name "range" p) [a] [] pos) (iRng1 ta) := by
  intro pins s σ H R I h
  refine Call_ (ld_blt I hg hm boot_range (PyProof.Rows.callWith_type1 (thn (ha pos pins s σ H _ I h) fun us s1 ⟨vs, H1, I1, r1, q1⟩ => ?_) hs rfl))
  obtain ⟨j, e, q1, q2, q⟩ := q1
  subst e
  cases r1 with
  | cons r rr =>
    cases rr
    obtain ⟨t, rfl⟩ := r
    exact call_range_1 (range_it I1 (by omega) (by omega) q1 q2 (by simpa using q))
theorem pi_range2 {a b : Expr} {ta : TA} {p pos : Pos} (hg : Gl X "range") (hm : X.mg "range" = none) (ha : PA X [a, b] ta) (hs : starEach [a, b] X.env = [(false, eval a X.env), (false, eval b X.env)] := by rfl) (hs2 : starEach [b] X.env = [(false, eval b X.env)] := by rfl) :
    PI X tg (.Call (.Name "range" p) [a, b] [] pos) (iRng2 ta) := by
  intro pins s σ H R I h
  refine Call_ (ld_blt I hg hm boot_range (PyProof.Rows.callWith_type1 (thn (ha pos pins s σ H _ I h) fun us s1 ⟨vs, H1, I1, r1, q1⟩ => ?_) (by rw [hs, hs2]) (by rw [hs2]; rfl)))
  obtain ⟨i, j, e, ⟨q1, q2, q3, q4⟩, q⟩ := q1
  subst e
  cases r1 with
  | cons r rr =>
    cases rr with
    | cons r' rr =>
      cases rr
      obtain ⟨t, rfl⟩ := r
      obtain ⟨t', rfl⟩ := r'
      exact call_range_2 (range_it I1 q1 q2 q3 q4 q)
def tFor (wi:TI) (g:TG) (tb:TS):TS:=fun D σ H=>wi σ H fun J H1=>∃ W:Nat->Nat->St->Hp->Prop,(∃ m,W 0 m σ H1)/\∀ i m σ H,W i m σ H ->
 (J.stop i H/\D.nx σ H)\/(J.go i H/\∃ N:St->Hp->Prop,(∀ σ' H',N σ' H'->∃ m',m' < m/\W (i + 1) m' σ' H')/\∀ x H',J.yld i H x H'->g x σ H' fun σ2 H2=>tb { D with nx:=N,ct:=N,bk:=D.nx } σ2 H2)
def pinsAt (fp:List Addr) (h:Heap):List (Addr × Obj):=fp.filterMap fun b=>(h.get? b).map fun o=>(b,o)
theorem mem_pinsAt {fp:List Addr} {h:Heap} {b:Addr} {o:Obj} (hb:b ∈ fp) (e:h.get? b = some o):(b,o) ∈ pinsAt fp h:=List.mem_filterMap.mpr ⟨b,hb,by rw [e]; rfl⟩
theorem of_pinsAt {fp : List Addr} {h : Heap} {p : Addr × Obj} (hp : p ∈ pinsAt fp h) : p.1 ∈ fp /\ h.get? p.1 = some p.2 := by
  obtain ⟨b, hb, e⟩ := List.mem_filterMap.mp hp
  cases q : h.get? b with
  | none => rw [q] at e; cases e
  | some o =>
    rw [q] at e
    have e' : (b, o) = p := Option.some.inj e
    subst e'
    exact ⟨hb, q⟩
theorem Inv.pinned {pins:List (Addr × Obj)} {σ:St} {H:Hp} {s:Shared} {fp:List Addr} (I:Inv X pins σ H s) (hf:∀ b ∈ fp,FpOk X pins H b) (ho:∀ b ∈ fp,∃ o,s.heap.get? b = some o/\∀ v,o.data ≠ .cell v):Inv X (pins ++ pinsAt fp s.heap) σ H s :=
 I.pins_of fun p hp=>(List.mem_append.mp hp).elim (fun z=>I.pin p (List.mem_append_right _ z)) fun z=>by
  obtain ⟨hb,e⟩:=of_pinsAt z
  obtain ⟨f0,f1,f2,_⟩:=hf p.1 hb
  obtain ⟨o,e',d⟩:=ho p.1 hb
  rw [e] at e'; cases e'
  exact ⟨e,f0,f1,f2,d⟩
theorem Inv.unpinned {pins pl:List (Addr × Obj)} {σ:St} {H:Hp} {s:Shared} (I:Inv X (pins ++ pl) σ H s):Inv X pins σ H s:=I.pins_of fun p hp=>I.pin p (List.mem_append_right _ (List.mem_append_left _ hp))
theorem ps_for {iter:Expr} {body:List Stmt} {wi:TI} {g:TG} {tb:TS} {pos:Pos} (hp:PassesOwn (model X.prog X.w) X.A X.env X.xe) (hc:X.calm = true) (hi:PI X tg iter wi) (hg:PG X tg g) (hb:PSs X body tb)
  (hs:∀ x,foldedSetIterable iter X.env x = pure x:=by intro _; rfl):PS X (.For tg iter body [] pos) (tFor wi g tb):=by
 intro pins s σ H D I h
 refine wpAny_For (thn (hi pins s σ H _ I h) fun v s1 h1=>thn h1 fun itv s2 h2=>?_) hs
 obtain ⟨it,fp,tn,J,H2,e,I2,T,st2,f2,W,⟨m0,w0⟩,turn⟩:=h2
 subst e
 have stat:∀ {H':Hp},(∀ b ∈ fp,H' b = none)->∀ b ∈ fp,FpOk X pins H' b:=fun hn b hb=>⟨hn b hb,(f2 b hb).2⟩
 refine codeAny_forLoop_any (fun n s'=>∃ i σ' H',Inv X pins σ' H' s'/\tn i s'.heap/\(∀ b ∈ fp,H' b = none)/\W i n σ' H') ?_ m0 ⟨0,σ,H2,I2,st2,fun b hb=>(f2 b hb).1,w0⟩
 rintro n s3 ⟨i,σ3,H3,I3,st3,fr3,w3⟩
 rcases turn i n σ3 H3 w3 with ⟨stop,qn⟩ | ⟨go,N,hN,step⟩
 ·refine wpAny_passesOwn hp (thn (T.done X rfl rfl rfl hc i pins s3 σ3 H3 X.xe I3 (stat fr3) st3 stop) fun r s4 ⟨hr,I4⟩=>?_)
  subst hr
  exact wpAny_execs_nil ⟨σ3,H3,I4,qn⟩
 ·refine wpAny_passesOwn hp (thn (T.item X rfl rfl rfl hc i pins s3 σ3 H3 X.xe I3 (stat fr3) st3 go) fun r s4 ⟨u,hr,h4⟩=>?_)
  subst hr
  refine wpAny_passesOwn hp (thn h4 fun _ s5 ⟨x,H5,I5,r5,y5,st5,fr5⟩=>?_)
  have I5':=I5.pinned (stat fr5) (T.obj _ _ st5)
  refine wpAny_passesOwn hp (thn (hg _ s5 σ3 H5 x u _ I5' r5 (step x H5 y5)) fun _ s6 ⟨σ6,H6,I6,q6⟩=>?_)
  refine wpAny_passesOwn hp (thn (hb _ s6 σ6 H6 _ I6 q6) fun f s7 q7=>?_)
  have again:∀ {σ7:St} {H7:Hp},Inv X (pins ++ pinsAt fp s5.heap) σ7 H7 s7->N σ7 H7->∃ m,m < n/\∃ i σ' H',Inv X pins σ' H' s7/\tn i s7.heap/\(∀ b ∈ fp,H' b = none)/\W i m σ' H':=fun {σ7 H7} I7 n7=>by
   obtain ⟨m',hm,w7⟩:=hN σ7 H7 n7
   refine ⟨m',hm,i + 1,σ7,H7,I7.unpinned,T.keep _ _ _ st5 fun b hb o e=>(I7.pin (b,o) (List.mem_append_right _ (List.mem_append_right _ (mem_pinsAt hb e)))).1,fun b hb=>?_,w7⟩
   obtain ⟨o,e,d⟩:=T.obj _ _ st5 b hb
   exact (I7.pin (b,o) (List.mem_append_right _ (List.mem_append_right _ (mem_pinsAt hb e)))).2.1
  cases f with
  | next=>obtain ⟨σ7,H7,I7,n7⟩:=q7; exact again I7 n7
  | cont=>obtain ⟨σ7,H7,I7,n7⟩:=q7; exact again I7 n7
  | brk=>obtain ⟨σ7,H7,I7,q7⟩:=q7; exact ⟨σ7,H7,I7.unpinned,q7⟩
  | ret v=>obtain ⟨x7,σ7,H7,I7,r7,q7⟩:=q7; exact ⟨x7,σ7,H7,I7.unpinned,r7,q7⟩
end
theorem for_list {K:PySem.W.Frag} {a:Addr} {xs:List V} {g:TG} {tb:TS} {D:Ends} {σ:St} {H:Hp} (Pv:Nat->St->Hp->Prop) (h0:Pv 0 σ H) (hl:∀ i σ H,i <= xs.length->Pv i σ H->SqL K H a xs)
  (hs:∀ i x σ H,xs[i]? = some x->Pv i σ H->g x σ H fun σ2 H2=>tb { D with nx:=Pv (i + 1),ct:=Pv (i + 1),bk:=D.nx } σ2 H2) (hd:∀ σ H,Pv xs.length σ H->D.nx σ H) :
  ∃ W:Nat->Nat->St->Hp->Prop,(∃ m,W 0 m σ H)/\∀ i m σ H,W i m σ H ->
   ((Itl K a).stop i H/\D.nx σ H)\/((Itl K a).go i H/\∃ N:St->Hp->Prop,(∀ σ' H',N σ' H'->∃ m',m' < m/\W (i + 1) m' σ' H')/\∀ x H',(Itl K a).yld i H x H'->g x σ H' fun σ2 H2=>tb { D with nx:=N,ct:=N,bk:=D.nx } σ2 H2):=by
 refine ⟨fun i m σ H=>m = xs.length - i/\i <= xs.length/\Pv i σ H,⟨xs.length,by simp,Nat.zero_le _,h0⟩,?_⟩
 rintro i m σ H ⟨rfl,hi,p⟩
 have q:=hl i σ H hi p
 by_cases hlt:i < xs.length
 ·refine .inr ⟨⟨xs,xs[i],q,by simp [hlt]⟩,Pv (i + 1),fun σ' H' p'=>⟨xs.length - (i + 1),by omega,rfl,hlt,p'⟩,fun x H' y=>?_⟩
  obtain ⟨e,y⟩:=y
  subst e
  exact hs i x σ _ (y xs q) p
 ·have e:i = xs.length:=by omega
  subst e
  exact .inl ⟨⟨xs,q,Nat.le_refl _⟩,hd σ H p⟩
theorem for_range {lo:Int} {n:Nat} {g:TG} {tb:TS} {D:Ends} {σ:St} {H:Hp} (Pv:Nat->St->Hp->Prop) (h0:Pv 0 σ H)
  (hs:∀ i σ H,i < n->Pv i σ H->g (.int (lo + i)) σ H fun σ2 H2=>tb { D with nx:=Pv (i + 1),ct:=Pv (i + 1),bk:=D.nx } σ2 H2) (hd:∀ σ H,Pv n σ H->D.nx σ H) :
  ∃ W:Nat->Nat->St->Hp->Prop,(∃ m,W 0 m σ H)/\∀ i m σ H,W i m σ H ->
   ((Itr lo n).stop i H/\D.nx σ H)\/((Itr lo n).go i H/\∃ N:St->Hp->Prop,(∀ σ' H',N σ' H'->∃ m',m' < m/\W (i + 1) m' σ' H')/\∀ x H',(Itr lo n).yld i H x H'->g x σ H' fun σ2 H2=>tb { D with nx:=N,ct:=N,bk:=D.nx } σ2 H2):=by
 refine ⟨fun i m σ H=>m = n - i/\i <= n/\Pv i σ H,⟨n,by simp,Nat.zero_le _,h0⟩,?_⟩
 rintro i m σ H ⟨rfl,hi,p⟩
 by_cases hlt:i < n
 ·refine .inr ⟨hlt,Pv (i + 1),fun σ' H' p'=>⟨n - (i + 1),by omega,rfl,hlt,p'⟩,fun x H' y=>?_⟩
  obtain ⟨e,y⟩:=y
  subst e y
  exact hs i σ _ hlt p
 ·have e:i = n:=by omega
  subst e
  exact .inl ⟨Nat.le_refl _,hd σ H p⟩
end L2
namespace L2
open PySem PySem.Spec PyProof.Rows
abbrev R2:=V->V->Hp->VK->Prop
def OpR (X:Cx) (f:Value->Value->Sem Value) (r:R2):Prop :=
 ∀ (pins:List (Addr × Obj)) (s:Shared) (σ:St) (H:Hp) (x y:V) (v u:Value) (Q:VK),Inv X pins σ H s->RelV x v->RelV y u->r x y H Q ->
  wpAny (model X.prog X.w) X.A (f v u) (EP X pins σ Q) X.xe s
def UnR (X:Cx) (f:Value->Sem Value) (r:V->Hp->VK->Prop):Prop :=
 ∀ (pins:List (Addr × Obj)) (s:Shared) (σ:St) (H:Hp) (x:V) (v:Value) (Q:VK),Inv X pins σ H s->RelV x v->r x H Q ->
  wpAny (model X.prog X.w) X.A (f v) (EP X pins σ Q) X.xe s
def CallR (X:Cx) (f:Value) (r:List V->Hp->VK->Prop):Prop :=
 ∀ (pins:List (Addr × Obj)) (s:Shared) (σ:St) (H:Hp) (xs:List V) (us:List Value) (Q:VK),Inv X pins σ H s->Vals xs us->r xs H Q ->
  wpAny (model X.prog X.w) X.A (call f us) (EP X pins σ Q) X.xe s
def TruR (X:Cx) (r:V->Hp->(Bool->Hp->Prop)->Prop):Prop :=
 ∀ (pins:List (Addr × Obj)) (s:Shared) (σ:St) (H:Hp) (x:V) (v:Value) (Q:Bool->Hp->Prop),Inv X pins σ H s->RelV x v->r x H Q ->
  wpAny (model X.prog X.w) X.A (truthy v) (TP X pins σ Q) X.xe s
def tOp (r:R2) (ta tb:TE):TE:=fun σ H Q=>ta σ H fun x H1=>tb σ H1 fun y H2=>r x y H2 Q
def tUn (r:V->Hp->VK->Prop) (ta:TE):TE:=fun σ H Q=>ta σ H fun x H1=>r x H1 Q
def rI (C:Int->Int->Prop) (g:Int->Int->V):R2:=fun x y H Q=>∃ i j,x = .int i/\y = .int j/\C i j/\Q (g i j) H
def rI0 (g:Int->Int->V):R2:=fun x y H Q=>∃ i j,x = .int i/\y = .int j/\Q (g i j) H
def rU (g:Int->V):V->Hp->VK->Prop:=fun x H Q=>∃ i,x = .int i/\Q (g i) H
section
variable {X:Cx} {a b c:Expr} {ta tb tc:TE} {pos:Pos}
theorem binT (ha:PE X a ta) (hb:PE X b tb) {pins:List (Addr × Obj)} {s:Shared} {σ:St} {H:Hp} {R:V->V->Hp->Prop} (I:Inv X pins σ H s)
  (h:ta σ H fun x H1=>tb σ H1 fun y H2=>R x y H2) {Q:Value->Shared->Prop} {f:Value->Value->Sem Value}
  (hf:∀ v u s2 x y H2,Inv X pins σ H2 s2->RelV x v->RelV y u->R x y H2->wpAny (model X.prog X.w) X.A (f v u) Q X.xe s2) :
  wpAny (model X.prog X.w) X.A (eval a X.env) (fun v s₁=>wpAny (model X.prog X.w) X.A (eval b X.env) (fun u s₂=>wpAny (model X.prog X.w) X.A (f v u) Q X.xe s₂) X.xe s₁) X.xe s:=by
 refine thn (ha pins s σ H _ I h) fun v s1 ⟨x,H1,I1,r1,q1⟩=>?_
 refine thn (hb pins s1 σ H1 _ I1 q1) fun u s2 ⟨y,H2,I2,r2,q2⟩=>?_
 exact hf v u s2 x y H2 I2 r1 r2 q2
theorem pe_op {op:Operator} {r:R2} (ho:OpR X (binaryOp op) r) (ha:PE X a ta) (hb:PE X b tb):PE X (.BinOp a op b pos) (tOp r ta tb):=by
 intro pins s σ H Q I h
 exact wpAny_BinOp (binT ha hb I h fun v u s2 x y H2 I2 rx ry q=>ho pins s2 σ H2 x y v u Q I2 rx ry q)
theorem pe_un {op:UnaryOp} {r:V->Hp->VK->Prop} (ho:UnR X (unaryOp op) r) (ha:PE X a ta):PE X (.UnaryOp op a pos) (tUn r ta):=by
 intro pins s σ H Q I h
 exact UnaryOp_ (thn (ha pins s σ H _ I h) fun v s1 ⟨x,H1,I1,r1,q1⟩=>ho pins s1 σ H1 x v Q I1 r1 q1)
theorem opI {f:Value->Value->Sem Value} {C:Int->Int->Prop} {g:Int->Int->Int}
  (rule:∀ (i j:Int) (t u:Tok) (s:Shared) (Q:Value->Shared->Prop) (E:Value->Shared->Prop),C i j->Q (.int (g i j) s.toks) { s with toks:=s.toks + 1 }->wpAny (model X.prog X.w) X.A (f (.int i t) (.int j u)) Q E s) :
  OpR X f (rI C fun i j=>.int (g i j)):=by
 intro pins s σ H x y v u Q I rx ry h
 obtain ⟨i,j,rfl,rfl,hc,q⟩:=h
 obtain ⟨t,rfl⟩:=rx
 obtain ⟨t',rfl⟩:=ry
 exact rule i j t t' s _ _ hc ⟨.int (g i j),H,I.tok _,⟨_,rfl⟩,q⟩
theorem opI0 {f:Value->Value->Sem Value} {g:Int->Int->Int}
  (rule:∀ (i j:Int) (t u:Tok) (s:Shared) (Q:Value->Shared->Prop) (E:Value->Shared->Prop),Q (.int (g i j) s.toks) { s with toks:=s.toks + 1 }->wpAny (model X.prog X.w) X.A (f (.int i t) (.int j u)) Q E s) :
  OpR X f (rI0 fun i j=>.int (g i j)):=by
 intro pins s σ H x y v u Q I rx ry h
 obtain ⟨i,j,rfl,rfl,q⟩:=h
 obtain ⟨t,rfl⟩:=rx
 obtain ⟨t',rfl⟩:=ry
 exact rule i j t t' s _ _ ⟨.int (g i j),H,I.tok _,⟨_,rfl⟩,q⟩
theorem opB0 {f:Value->Value->Sem Value} {g:Int->Int->Bool}
  (rule:∀ (i j:Int) (t u:Tok) (s:Shared) (Q:Value->Shared->Prop) (E:Value->Shared->Prop),Q (.bool (g i j)) s->wpAny (model X.prog X.w) X.A (f (.int i t) (.int j u)) Q E s) :
  OpR X f (rI0 fun i j=>.bl (g i j)):=by
 intro pins s σ H x y v u Q I rx ry h
 obtain ⟨i,j,rfl,rfl,q⟩:=h
 obtain ⟨t,rfl⟩:=rx
 obtain ⟨t',rfl⟩:=ry
 exact rule i j t t' s _ _ ⟨.bl (g i j),H,I,rfl,q⟩
def CDiv (i j:Int):Prop:=0 < j/\j < 1073741824
def CPow (i j:Int):Prop:=0 <= j/\j <= 1000000/\i.natAbs < 2 ^ 64
def CMul (i j:Int):Prop:=(-(2 ^ 64) < i/\i < 2 ^ 64)\/(-(2 ^ 64) < j/\j < 2 ^ 64)
theorem CMul.ok {i j:Int} (h:CMul i j):IntMulOk i j:=by
 rcases h with ⟨h1,h2⟩ | ⟨h1,h2⟩
 ·exact .of_left (intBits_le_64 h1 h2)
 ·exact .of_right (intBits_le_64 h1 h2)
theorem op_add:OpR X (binaryOp .Add) (rI0 fun i j=>.int (i + j)):=opI0 fun _ _ _ _ _ _ _ q=>add_int q
theorem op_sub:OpR X (binaryOp .Sub) (rI0 fun i j=>.int (i - j)):=opI0 fun _ _ _ _ _ _ _ q=>sub_int q
theorem op_mul:OpR X (binaryOp .Mult) (rI CMul fun i j=>.int (i * j)):=opI fun _ _ _ _ _ _ _ hc q=>mul_int q hc.ok
theorem op_fdiv:OpR X (binaryOp .FloorDiv) (rI CDiv fun i j=>.int (i / j)):=opI fun i j _ _ _ _ _ hc q=>by
 have h1:(0:Int) < j:=hc.1
 have h2:j < 1073741824:=hc.2
 exact floordiv_int (by omega) (by rw [Int.fdiv_eq_ediv_of_nonneg i (by omega)]; exact q) (.inl (PyProof.noPylong_small (by omega)))
theorem op_mod:OpR X (binaryOp .Mod) (rI (fun _ j=>0 < j) fun i j=>.int (i % j)):=opI fun i j _ _ _ _ _ hc q=>by
 have h1:(0:Int) < j:=hc
 exact mod_int' (by omega) (by rw [Int.fmod_eq_emod_of_nonneg i (by omega)]; exact q)
theorem op_pow:OpR X (binaryOp .Pow) (rI CPow fun i j=>.int (i ^ j.toNat)):=opI fun _ _ _ _ _ _ _ hc q=>pow_int_small hc.1 hc.2.1 hc.2.2 q
theorem unI {f:Value->Sem Value} {g:Int->Int}
  (rule:∀ (i:Int) (t:Tok) (s:Shared) (Q:Value->Shared->Prop) (E:Value->Shared->Prop),Q (.int (g i) s.toks) { s with toks:=s.toks + 1 }->wpAny (model X.prog X.w) X.A (f (.int i t)) Q E s) :
  UnR X f (rU fun i=>.int (g i)):=by
 intro pins s σ H x v Q I rx h
 obtain ⟨i,rfl,q⟩:=h
 obtain ⟨t,rfl⟩:=rx
 exact rule i t s _ _ ⟨.int (g i),H,I.tok _,⟨_,rfl⟩,q⟩
theorem un_neg:UnR X (unaryOp .USub) (rU fun i=>.int (-i)):=unI fun _ _ _ _ _ q=>neg_int q
end
def scal:V->V->Bool
 | .non,.non=>true | .non,.int _=>true | .int _,.non=>true | .non,.bl _=>true | .bl _,.non=>true | .non,.str _=>true | .str _,.non=>true
 | .int _,.int _=>true | .bl _,.bl _=>true | .str _,.str _=>true | .byt _,.byt _=>true
 | .int _,.str _=>true | .str _,.int _=>true | .bl _,.str _=>true | .str _,.bl _=>true
 | _,_=>false
def rEq:R2:=fun x y H Q=>scal x y = true/\Q (.bl (decide (x = y))) H
def rNe:R2:=fun x y H Q=>scal x y = true/\Q (.bl (!decide (x = y))) H
theorem dec_int {i j:Int}:decide (V.int i = V.int j) = (i == j):=by
 rw [Bool.eq_iff_iff]
 simp
theorem dec_bl {i j:Bool}:decide (V.bl i = V.bl j) = (i == j):=by
 rw [Bool.eq_iff_iff]
 simp
theorem dec_str {i j:Str}:decide (V.str i = V.str j) = (i == j):=by
 rw [Bool.eq_iff_iff]
 simp
theorem dec_byt {i j:Array UInt8}:decide (V.byt i = V.byt j) = (i.toList == j.toList):=by
 rw [Bool.eq_iff_iff]
 cases i
 cases j
 simp
section
variable {X:Cx} {a b c:Expr} {ta tb tc:TE} {pos:Pos}
theorem fin_bl {pins:List (Addr × Obj)} {σ:St} {H:Hp} {s:Shared} {Q:VK} {k k':Bool} (I:Inv X pins σ H s) (q:Q (.bl k) H) (e:k = k'):EP X pins σ Q (.bool k') s:=by
 subst e
 exact ⟨.bl k,H,I,rfl,q⟩
theorem op_eq : OpR X (compareOp .Eq) rEq := by
  intro pins s σ H x y v u Q I rx ry h
  obtain ⟨hs, q⟩ := h
  cases x with
  | non =>
    cases rx
    cases y with
    | non => cases ry; exact PySem.EqNone.eq_none_none (fin_bl I q (by simp))
    | bl j => cases ry; exact PySem.EqNone.eq_none_bool (fin_bl I q (by simp))
    | int j => obtain ⟨t', rfl⟩ := ry; exact PySem.EqNone.eq_none_int (fin_bl I q (by simp))
    | str j => obtain ⟨t', rfl⟩ := ry; exact PySem.EqNone.eq_none_str (fin_bl I q (by simp))
    | _ => exact absurd (show false = true from hs) Bool.false_ne_true
  | bl i =>
    cases rx
    cases y with
    | non => cases ry; exact PySem.EqNone.eq_bool_none (fin_bl I q (by simp))
    | bl j => cases ry; exact eq_bool (fin_bl I q dec_bl)
    | str j => obtain ⟨t', rfl⟩ := ry; exact PySem.EqMixed.eq_bool_str (fin_bl I q (by simp))
    | _ => exact absurd (show false = true from hs) Bool.false_ne_true
  | int i =>
    obtain ⟨t, rfl⟩ := rx
    cases y with
    | non => cases ry; exact PySem.EqNone.eq_int_none (fin_bl I q (by simp))
    | int j => obtain ⟨t', rfl⟩ := ry; exact eq_int (fin_bl I q dec_int)
    | str j => obtain ⟨t', rfl⟩ := ry; exact PySem.EqMixed.eq_int_str (fin_bl I q (by simp))
    | _ => exact absurd (show false = true from hs) Bool.false_ne_true
  | str i =>
    obtain ⟨t, rfl⟩ := rx
    cases y with
    | non => cases ry; exact PySem.EqNone.eq_str_none (fin_bl I q (by simp))
    | bl j => cases ry; exact PySem.EqMixed.eq_str_bool (fin_bl I q (by simp))
    | int j => obtain ⟨t', rfl⟩ := ry; exact PySem.EqMixed.eq_str_int (fin_bl I q (by simp))
    | str j => obtain ⟨t', rfl⟩ := ry; exact eq_str (fin_bl I q dec_str)
    | _ => exact absurd (show false = true from hs) Bool.false_ne_true
  | byt i =>
    obtain ⟨t, rfl⟩ := rx
    cases y with
    | byt j => obtain ⟨t', rfl⟩ := ry; exact PySem.W.eq_bytes (fin_bl I q dec_byt)
    | _ => exact absurd (show false = true from hs) Bool.false_ne_true
  | _ => cases y <;> exact absurd (show false = true from hs) Bool.false_ne_true
theorem op_ne : OpR X (compareOp .NotEq) rNe := by
  intro pins s σ H x y v u Q I rx ry h
  obtain ⟨hs, q⟩ := h
  cases x with
  | non =>
    cases rx
    cases y with
    | non => cases ry; exact PySem.EqNone.ne_none_none (fin_bl I q (by simp))
    | bl j => cases ry; exact PySem.EqNone.ne_none_bool (fin_bl I q (by simp))
    | int j => obtain ⟨t', rfl⟩ := ry; exact PySem.EqNone.ne_none_int (fin_bl I q (by simp))
    | str j => obtain ⟨t', rfl⟩ := ry; exact PySem.EqNone.ne_none_str (fin_bl I q (by simp))
    | _ => exact absurd (show false = true from hs) Bool.false_ne_true
  | bl i =>
    cases rx
    cases y with
    | non => cases ry; exact PySem.EqNone.ne_bool_none (fin_bl I q (by simp))
    | bl j => cases ry; exact ne_bool (fin_bl I q (congrArg not dec_bl))
    | str j => obtain ⟨t', rfl⟩ := ry; exact PySem.EqMixed.ne_bool_str (fin_bl I q (by simp))
    | _ => exact absurd (show false = true from hs) Bool.false_ne_true
  | int i =>
    obtain ⟨t, rfl⟩ := rx
    cases y with
    | non => cases ry; exact PySem.EqNone.ne_int_none (fin_bl I q (by simp))
    | int j => obtain ⟨t', rfl⟩ := ry; exact ne_int (fin_bl I q (congrArg not dec_int))
    | str j => obtain ⟨t', rfl⟩ := ry; exact PySem.EqMixed.ne_int_str (fin_bl I q (by simp))
    | _ => exact absurd (show false = true from hs) Bool.false_ne_true
  | str i =>
    obtain ⟨t, rfl⟩ := rx
    cases y with
    | non => cases ry; exact PySem.EqNone.ne_str_none (fin_bl I q (by simp))
    | bl j => cases ry; exact PySem.EqMixed.ne_str_bool (fin_bl I q (by simp))
    | int j => obtain ⟨t', rfl⟩ := ry; exact PySem.EqMixed.ne_str_int (fin_bl I q (by simp))
    | str j => obtain ⟨t', rfl⟩ := ry; exact ne_str (fin_bl I q (congrArg not dec_str))
    | _ => exact absurd (show false = true from hs) Bool.false_ne_true
  | byt i =>
    obtain ⟨t, rfl⟩ := rx
    cases y with
    | byt j => obtain ⟨t', rfl⟩ := ry; exact PySem.W.ne_bytes (fin_bl I q (congrArg not dec_byt))
    | _ => exact absurd (show false = true from hs) Bool.false_ne_true
  | _ => cases y <;> exact absurd (show false = true from hs) Bool.false_ne_true
theorem op_lt:OpR X (compareOp .Lt) (rI0 fun i j=>.bl (decide (i < j))):=opB0 fun _ _ _ _ _ _ _ q=>lt_int q
theorem op_le:OpR X (compareOp .LtE) (rI0 fun i j=>.bl (decide (i <= j))):=opB0 fun _ _ _ _ _ _ _ q=>le_int q
theorem op_gt:OpR X (compareOp .Gt) (rI0 fun i j=>.bl (decide (j < i))):=opB0 fun _ _ _ _ _ _ _ q=>gt_int q
theorem op_ge:OpR X (compareOp .GtE) (rI0 fun i j=>.bl (decide (j <= i))):=opB0 fun _ _ _ _ _ _ _ q=>ge_int q
theorem op_in_str:OpR X (compareOp .In) (fun x y H Q=>∃ i j,x = .str i/\y = .str j/\Q (.bl (!(Builtin.Str.occurrences j i 0 j.length 1).isEmpty)) H):=by
 intro pins s σ H x y v u Q I rx ry h
 obtain ⟨i,j,rfl,rfl,q⟩:=h
 obtain ⟨t,rfl⟩:=rx
 obtain ⟨t',rfl⟩:=ry
 exact in_str (fin_bl I q rfl)
theorem op_notin_str:OpR X (compareOp .NotIn) (fun x y H Q=>∃ i j,x = .str i/\y = .str j/\Q (.bl (!(!(Builtin.Str.occurrences j i 0 j.length 1).isEmpty))) H):=by
 intro pins s σ H x y v u Q I rx ry h
 obtain ⟨i,j,rfl,rfl,q⟩:=h
 obtain ⟨t,rfl⟩:=rx
 obtain ⟨t',rfl⟩:=ry
 exact notIn_str (fin_bl I q rfl)
theorem OpR.or {f:Value->Value->Sem Value} {r r':R2} (h:OpR X f r) (h':OpR X f r'):OpR X f (fun x y H Q=>r x y H Q\/r' x y H Q):=by
 intro pins s σ H x y v u Q I rx ry q
 rcases q with q | q
 ·exact h pins s σ H x y v u Q I rx ry q
 ·exact h' pins s σ H x y v u Q I rx ry q
theorem nomark (b:Expr) {op:CmpOp} (h:op ≠ .In:=by decide) (h2:op ≠ .NotIn:=by decide):behindInMarks op b = false:=by
 have e1:(op == CmpOp.In) = false:=by cases op <;> first | rfl | exact absurd rfl h
 have e2:(op == CmpOp.NotIn) = false:=by cases op <;> first | rfl | exact absurd rfl h2
 cases b <;> simp [behindInMarks,e1,e2]
theorem pe_cmpR {op:CmpOp} {r:R2} (ho:OpR X (compareOp op) r) (ha:PE X a ta) (hb:PE X b tb) (hm:behindInMarks op b = false):PE X (.Compare a [op] [b] pos) (tOp r ta tb):=by
 intro pins s σ H Q I h
 exact wpAny_Compare1 (binT ha hb I h fun v u s2 x y H2 I2 rx ry q=>ho pins s2 σ H2 x y v u Q I2 rx ry q) hm
def tTest (t:TE):TT:=fun σ H Q=>t σ H fun x H'=>∃ k,x = .bl k/\Q k H'
theorem pt_cmpR {op:CmpOp} {r:R2} (ho:OpR X (compareOp op) r) (ha:PE X a ta) (hb:PE X b tb) (hm:behindInMarks op b = false):PT X (.Compare a [op] [b] pos) (tTest (tOp r ta tb)):=by
 intro pins s σ H Q I h
 refine wpAny_isTrue_Compare1 (thn (ha pins s σ H _ I h) fun v s1 ⟨x,H1,I1,r1,q1⟩=>thn (hb pins s1 σ H1 _ I1 q1) fun u s2 ⟨y,H2,I2,r2,q2⟩ =>
  thn (ho pins s2 σ H2 x y v u _ I2 r1 r2 q2) fun c s3 ⟨z,H3,I3,r3,k,e,q3⟩=>?_) hm
 subst e
 cases r3
 exact wpAny_truthy_bool ⟨H3,I3,q3⟩
def tChain (r r':R2) (ta tb tc:TE):TE:=fun σ H Q=>ta σ H fun x H1=>tb σ H1 fun y H2=>r x y H2 fun z H3=>∃ k,z = .bl k /\
 (if k = true then tc σ H3 fun w' H4=>r' y w' H4 Q else Q (.bl false) H3)
theorem pe_chain {op op':CmpOp} {r r':R2} (ho:OpR X (compareOp op) r) (ho':OpR X (compareOp op') r') (ha:PE X a ta) (hb:PE X b tb) (hc:PE X c tc)
  (hm:lastMarks [op,op'] [b,c] = false:=by with_unfolding_all rfl):PE X (.Compare a [op,op'] [b,c] pos) (tChain r r' ta tb tc):=by
 intro pins s σ H Q I h
 refine Compare_chain (thn (ha pins s σ H _ I h) fun v s1 ⟨x,H1,I1,r1,q1⟩=>chain_link (thn (hb pins s1 σ H1 _ I1 q1) fun u s2 ⟨y,H2,I2,r2,q2⟩ =>
  thn (ho pins s2 σ H2 x y v u _ I2 r1 r2 q2) fun d s3 ⟨z,H3,I3,r3,k,e,q3⟩=>?_)) hm
 subst e
 cases r3
 refine wpAny_truthy_bool ?_
 cases k with
 | false=>exact ite_ff ⟨.bl false,H3,I3,rfl,q3⟩
 | true=>exact ite_tt (chain_last (thn (hc pins s3 σ H3 _ I3 q3) fun w' s4 ⟨z',H4,I4,r4,q4⟩=>ho' pins s4 σ H4 y z' u w' Q I4 r2 r4 q4))
theorem pt_chain {op op' : CmpOp} {r r' : R2} (ho : OpR X (compareOp op) r) (ho' : OpR X (compareOp op') r') (ha : PE X a ta) (hb : PE X b tb) (hc : PE X c tc)
    (hm : lastMarks [op, op'] [b, c] = false := by with_unfolding_all rfl) : PT X (.Compare a [op, op'] [b, c] pos) (tTest (tChain r r' ta tb tc)) := by
  intro pins s σ H Q I h
  refine isTrue_chain (thn (ha pins s σ H _ I h) fun v s1 ⟨x, H1, I1, r1, q1⟩ => test_link (thn (hb pins s1 σ H1 _ I1 q1) fun u s2 ⟨y, H2, I2, r2, q2⟩ =>
    thn (ho pins s2 σ H2 x y v u _ I2 r1 r2 q2) fun d s3 ⟨z, H3, I3, r3, k, e, q3⟩ => ?_)) hm
  subst e
  cases r3
  refine wpAny_truthy_bool ?_
  cases k with
  | false =>
    obtain ⟨k', e', q'⟩ := q3
    cases e'
    exact ite_ff ⟨H3, I3, q'⟩
  | true =>
    refine ite_tt (test_last (thn (hc pins s3 σ H3 _ I3 q3) fun w' s4 ⟨z', H4, I4, r4, q4⟩ => thn (ho' pins s4 σ H4 y z' u w' _ I4 r2 r4 q4) fun d' s5 ⟨z2, H5, I5, r5, k2, e2, q5⟩ => ?_))
    subst e2
    cases r5
    exact wpAny_truthy_bool ⟨H5, I5, q5⟩
def TruV (K:PySem.W.Frag) (x:V) (H:Hp) (k:Bool):Prop :=
 match x with
 | .non=>k = false
 | .bl b=>k = b
 | .int i=>k = (i != 0)
 | .str y=>y.length <= sizeLine/\k = ((y.length:Int) != 0)
 | .byt y=>y.size <= sizeLine/\k = ((y.size:Int) != 0)
 | .ref p=>(∃ xs,SqL K H p xs/\k = !xs.isEmpty)\/(∃ xs,SqT K H p xs/\k = !xs.isEmpty)\/∃ kvs,H p = some (.dK kvs)/\k = !kvs.isEmpty
 | _=>False
theorem isEmpty_kv {κ:Type} {kvs:List (κ × V)} {vs:List (κ × Value)} (r:KV kvs vs):(!vs.isEmpty) = !kvs.isEmpty:=by
 cases r <;> rfl
theorem isEmpty_of {xs:List V} {its:List Value} (r:Vals xs its):(!its.toArray.isEmpty) = !xs.isEmpty:=by
 cases r <;> simp
theorem line63:(sizeLine:Nat) < 2 ^ 63:=by rw [sizeLine_eq]; decide
theorem tru_ok : TruR X (fun x H Q => ∃ k, TruV X.K x H k /\ Q k H) := by
  intro pins s σ H x v Q I rx h
  obtain ⟨k, e, q⟩ := h
  have hl := line63
  have hs : sizeLine = 16777216 := sizeLine_eq
  cases x with
  | non =>
    cases rx
    have e' : k = false := e
    subst e'
    exact truthy_none ⟨H, I, q⟩
  | bl b =>
    cases rx
    have e' : k = b := e
    subst e'
    exact wpAny_truthy_bool ⟨H, I, q⟩
  | int i =>
    obtain ⟨t, rfl⟩ := rx
    have e' : k = (i != 0) := e
    subst e'
    exact PySem.P.truthy_int ⟨H, I, q⟩
  | str y =>
    obtain ⟨t, rfl⟩ := rx
    obtain ⟨hy, e'⟩ : y.length <= sizeLine /\ k = ((y.length : Int) != 0) := e
    subst e'
    exact PySem.P.truthy_str (by omega) ⟨H, I.tok _, q⟩
  | byt y =>
    obtain ⟨t, rfl⟩ := rx
    obtain ⟨hy, e'⟩ : y.size <= sizeLine /\ k = ((y.size : Int) != 0) := e
    subst e'
    exact PySem.W.truthy_bytes (by omega) ⟨H, I.tok _, q⟩
  | ref p =>
    cases rx
    have e' : (∃ xs, SqL X.K H p xs /\ k = !xs.isEmpty) \/ (∃ xs, SqT X.K H p xs /\ k = !xs.isEmpty) \/ ∃ kvs, H p = some (.dK kvs) /\ k = !kvs.isEmpty := e
    rcases e' with ⟨xs, hx, e'⟩ | ⟨xs, hx, e'⟩ | ⟨kvs, hx, e'⟩
    · subst e'
      obtain ⟨its, r, pl, hz⟩ := I.list hx
      have hlen := r.length
      exact wpAny_truthy_list pl.isList (by simp only [List.size_toArray]; omega) ⟨H, I.tok _, by rw [isEmpty_of r]; exact q⟩
    · subst e'
      obtain ⟨its, r, pl, hz⟩ := I.tuple hx
      have hlen := r.length
      exact truthy_tuple pl (by simp only [List.size_toArray]; omega) ⟨H, I.tok _, by rw [isEmpty_of r]; exact q⟩
    · subst e'
      obtain ⟨hz, hS, vs, r, m⟩ : kvs.length <= sizeLine /\ (p == sysModules) = false /\ ∃ vs, KV kvs vs /\ s.heap.DictOf (mixKind X.prog X.w) p vs := I.hok p _ hx
      have hlen : kvs.length = vs.length := Paired.length r
      exact wpAny_truthy_dict hS m (by omega) ⟨H, I.tok _, by rw [isEmpty_kv r]; exact q⟩
  | _ => exact (show False from e).elim
theorem pt_truth (ha:PE X a ta) (he:∀ whole,isTrue a X.env whole = (do let v <- whole; standAt a.pos; holding [v] (truthy v))) :
  PT X a (fun σ H Q=>ta σ H fun x H'=>∃ k,TruV X.K x H' k/\Q k H'):=by
 intro pins s σ H Q I h
 exact isTrue_plain (thn (ha pins s σ H _ I h) fun v s1 ⟨x,H1,I1,r1,q1⟩=>tru_ok pins s1 σ H1 x v Q I1 r1 q1) (he _)
theorem op_add_str:OpR X (binaryOp .Add) (fun x y H Q=>∃ i j,x = .str i/\y = .str j/\i.length + j.length <= sizeLine/\Q (.str (i ++ j)) H):=by
 intro pins s σ H x y v u Q I rx ry h
 obtain ⟨i,j,rfl,rfl,hz,q⟩:=h
 obtain ⟨t,rfl⟩:=rx
 obtain ⟨t',rfl⟩:=ry
 exact add_str (fun t' tk=>⟨.str (i ++ j),H,I.tok _,⟨_,rfl⟩,q⟩) hz
theorem vals1 {x:V} {us:List Value} (r:Vals [x] us):∃ u,us = [u]/\RelV x u:=by
 cases r with
 | cons r1 r2=>cases r2; exact ⟨_,rfl,r1⟩
theorem vals2 {x y : V} {us : List Value} (r : Vals [x, y] us) : ∃ u w', us = [u, w'] /\ RelV x u /\ RelV y w' := by
  cases r with
  | cons r1 r2 =>
    cases r2 with
    | cons r3 r4 => cases r4; exact ⟨_, _, rfl, r1, r3⟩
theorem call_max2 (hc:X.calm = true):CallR X (.builtin "max") (fun xs H Q=>∃ i j,xs = [.int i,.int j]/\Q (.int (if j > i then j else i)) H):=by
 intro pins s σ H xs us Q I r h
 obtain ⟨i,j,rfl,q⟩:=h
 obtain ⟨u,w',rfl,⟨t,rfl⟩,⟨t',rfl⟩⟩:=vals2 r
 refine max_two_ints (I.ok.hd hc) fun h' tk k=>⟨_,H,I.kept k,?_,q⟩
 by_cases hj:j > i
 ·rw [if_pos hj,if_pos hj]; exact ⟨_,rfl⟩
 ·rw [if_neg hj,if_neg hj]; exact ⟨_,rfl⟩
theorem call_min2 (hc:X.calm = true):CallR X (.builtin "min") (fun xs H Q=>∃ i j,xs = [.int i,.int j]/\Q (.int (if j < i then j else i)) H):=by
 intro pins s σ H xs us Q I r h
 obtain ⟨i,j,rfl,q⟩:=h
 obtain ⟨u,w',rfl,⟨t,rfl⟩,⟨t',rfl⟩⟩:=vals2 r
 refine min_two_ints (I.ok.hd hc) fun h' tk k=>⟨_,H,I.kept k,?_,q⟩
 by_cases hj:j < i
 ·rw [if_pos hj,if_pos hj]; exact ⟨_,rfl⟩
 ·rw [if_neg hj,if_neg hj]; exact ⟨_,rfl⟩
theorem call_int1:CallR X (.type "int") (fun xs H Q=>(∃ i,xs = [.int i]/\Q (.int i) H)\/∃ k,xs = [.bl k]/\Q (.int (if k then 1 else 0)) H):=by
 intro pins s σ H xs us Q I r h
 rcases h with ⟨i,rfl,q⟩ | ⟨k,rfl,q⟩
 ·obtain ⟨u,rfl,t,rfl⟩:=vals1 r
  exact call_int_int ⟨.int i,H,I,⟨_,rfl⟩,q⟩
 ·obtain ⟨u,rfl,r1⟩:=vals1 r
  cases r1
  exact call_int_bool ⟨.int (if k then 1 else 0),H,I.tok _,⟨_,rfl⟩,q⟩
end
end L2
namespace L2
open PySem PySem.Spec PyProof.Rows
structure ObjM (h:Heap) (x dx C:Addr) (mA:Str->Option Value):Prop where
 obj:h.get? x = some (PySem.W.instObj C dx)
 ns:h.Ns1 dx mA
 ne:dx ≠ x
theorem lookIn_ns {h:Heap} {dx:Addr} {mA:Str->Option Value} (n:h.Ns1 dx mA):∃ od,h.get? dx = some od/\∀ name,PySem.W.lookIn name od = some (mA name):=by
 obtain ⟨o,es,ep,ho,hd,hk,_,hm⟩:=n
 refine ⟨o,ho,fun name=>?_⟩
 have e:=hm name
 unfold nsFind findBy at e
 rw [<- Array.find?_toList] at e
 unfold PySem.W.lookIn
 rw [hd]
 dsimp only
 split
 ·rename_i y q
  rw [q] at e
  exact congrArg some e
 ·rename_i q
  rw [q] at e
  have a:es.toList.any (·.refKey) = false:=by
   rw [List.any_eq_false]
   intro y hy
   obtain ⟨z,t,hkey⟩:=hk y (Array.mem_toList_iff.mp hy)
   simp [DictEntry.refKey,hkey]
  have a':¬ es.toList.any (·.refKey) = true:=by rw [a]; exact Bool.false_ne_true
  rw [if_neg a']
  exact congrArg some e
theorem ObjM.look {h:Heap} {x dx C:Addr} {mA:Str->Option Value} (I:ObjM h x dx C mA):∃ od,PySem.W.InstAt h x (PySem.W.instObj C dx) C (some od)/\∀ name,PySem.W.lookIn name od = some (mA name) :=
 let ⟨od,ho,hl⟩:=lookIn_ns I.ns
 ⟨od,⟨I.obj,rfl,rfl,ho⟩,hl⟩
section
variable {prog:Program} {w:World} {A:Around} {E:Value->Shared->Prop} {s:Shared} {K:PySem.W.Frag} {x dx C f:Addr} {mA:Str->Option Value} {name:Str} {v:Value}
theorem get_map {expr:Bool} {Q:Value->Shared->Prop} (X:K.In s.heap) (I:ObjM s.heap x dx C mA) (hg:PySem.W.plainGet K C name = true) (hh:PySem.W.hasDictIn K C = true)
  (ha:PySem.W.findIn K (.ref C) name = some none) (hv:mA name = some v) (hv':PySem.W.handedIn v = true) (h:Q v { s with toks:=s.toks + 1 }) :
  wpAny (model prog w) A (getAttr (.ref x) name expr) Q E s:=by
 obtain ⟨od,J,hl⟩:=I.look
 exact PySem.W.get_value X J (PySem.W.plainGet_of hg).1 (PySem.W.findObj_own hh ha rfl (by rw [hl,hv])) hv' h
theorem get_meth {pl:Sem Bool} {Q:Value × List Value->Shared->Prop} (X:K.In s.heap) (I:ObjM s.heap x dx C mA) (hg:PySem.W.plainGet K C name = true)
  (hf:PySem.W.findIn K (.ref C) name = some (some (.ref f))) (ht:PySem.W.isFn K (.ref f) = true) (hv:mA name = none) (h:Q (.ref f,[.ref x]) s) :
  wpAny (model prog w) A (getMethod (.ref x) name pl) Q E s:=by
 obtain ⟨od,J,hl⟩:=I.look
 exact PySem.W.method_fn X J (PySem.W.plainGet_of hg).1 (PySem.W.plainGet_of hg).2 hf (beq_iff_eq.mp ht) (by show (PySem.W.lookIn name od).map (·.isSome) = some false; rw [hl,hv]; rfl) h
theorem set_map {ns:List Str} {Q:Unit->Shared->Prop} (X:K.In s.heap) (I:ObjM s.heap x dx C mA)
  (hs:PySem.W.findIn K (.ref C) "__setattr__" = some (some (.builtin "object.__setattr__"))) (hp:PySem.W.plainOver K C = true) (ht:PySem.W.takerIn K C name = some none) (hh:PySem.W.hasDictIn K C = true)
  (hw:PySem.Within mA ns) (hsz:ns.length <= sizeLine)
  (h:∀ h',ObjM h' x dx C (fun y=>if y = name then some v else mA y)->Heap.SameBut dx s.heap h'->Q () { s with heap:=h',toks:=s.toks + 2 }) :
  wpAny (model prog w) A (setAttr (.ref x) name v) Q E s:=by
 obtain ⟨od,J,hl⟩:=I.look
 refine PySem.W.set_plain X J hs (PySem.W.osa_open (s:={ s with toks:=s.toks + 1 }) (r:=none) X J hp ht fun b=>?_)
 obtain ⟨cd,hc,hd'⟩:=PySem.W.any_some hh
 have hx:s.heap.get? x = some ⟨.ref C,some dx,.plain,#[]⟩:=I.obj
 refine wpAny_bind (wpAny_pure (wpAny_bind (wpAny_bind (wpAny_loadPart hx (wpAny_bind (PySem.W.Looks.here (s:={ s with toks:=s.toks + 1 }) (PySem.W.looks_clsIn X hc) ?_))))))
 rw [hd']
 refine wpAny_pure (a:=some dx) (wpAny_bind (wpAny_pure (wpAny_bind ?_)))
 refine wpAny_nsSet1 (s:={ s with toks:=s.toks + 1 }) I.ns fun h' hn2 hs2=>?_
 obtain ⟨oD,esD,epD,hoD,hdD,hcD⟩:=hn2.count (PySem.Within.cons name v hw)
 refine wpAny_bind (wpAny_lookBehind hoD (by rw [hdD]; exact pastItsLine_dict (Nat.le_trans hcD (by rw [List.length_cons]; omega))) ?_)
 exact wpAny_pure (h _ ⟨(hs2.2 _ (Ne.symm I.ne)).trans I.obj,hn2,I.ne⟩ hs2)
theorem make_map {R : Result -> Shared -> Prop} {vs : List Value} {kw : List (Str × Value)} (X : K.In s.heap) (hm : PySem.W.makesIn K C = true)
  (hi : PySem.W.findIn K (.ref C) "__init__" = some (some (.ref f))) (hf : PySem.W.typeIn K (.ref f) = some (.type "function"))
  (h : codeAny (model prog w) (A.under (.builtin "type.__call__" ⟨.ref C :: vs, kw⟩)) (.call (.ref f) ⟨.ref (s.heap.objs.size + 1) :: vs, kw⟩) (PySem.W.InitBack (s.heap.objs.size + 1) R)
   { s with heap := (s.heap.push PySem.W.emptyDict).push (PySem.W.instObj C s.heap.objs.size) }) :
  codeAny (model prog w) A (.call (.ref C) ⟨vs, kw⟩) R s := by
 obtain ⟨hh, g, d, t, os⟩ := s
 exact PySem.W.make_core (PySem.W.makes_of X hm) (PySem.W.looks_findIn X hi) (fun self => PySem.W.bind_fn X self hf) (.inl rfl) h
end
def putF (f:Str) (v:V):List (Str × V)->List (Str × V)
 | []=>[(f,v)]
 | (g,x) :: r=>if g = f then (g,v) :: r else (g,x) :: putF f v r
theorem lookup_putF (f g : Str) (v : V) : ∀ fs : List (Str × V), (putF f v fs).lookup g = if g = f then some v else fs.lookup g
  | [] => by
    show List.lookup g [(f, v)] = _
    by_cases h : g = f
    · have hb : (g == f) = true := beq_iff_eq.mpr h
      simp only [List.lookup, hb, if_pos h]
    · have hb : (g == f) = false := beq_eq_false_iff_ne.mpr h
      simp only [List.lookup, hb, if_neg h]
  | (k, x) :: r => by
    have ih := lookup_putF f g v r
    rw [show putF f v ((k, x) :: r) = (if k = f then (k, v) :: r else (k, x) :: putF f v r) from rfl]
    by_cases hk : k = f
    · rw [if_pos hk]
      by_cases h : g = k
      · have hb : (g == k) = true := beq_iff_eq.mpr h
        simp only [List.lookup, hb, if_pos (h.trans hk)]
      · have hb : (g == k) = false := beq_eq_false_iff_ne.mpr h
        simp only [List.lookup, hb, if_neg (fun e : g = f => h (e.trans hk.symm))]
    · rw [if_neg hk]
      by_cases h : g = k
      · have hb : (g == k) = true := beq_iff_eq.mpr h
        simp only [List.lookup, hb, if_neg (fun e : g = f => hk (h.symm.trans e))]
      · have hb : (g == k) = false := beq_eq_false_iff_ne.mpr h
        simp only [List.lookup, hb]
        exact ih
theorem keys_putF (f : Str) (v : V) : ∀ fs : List (Str × V), f ∈ (putF f v fs).map (·.1) /\ ∀ g, g ∈ fs.map (·.1) -> g ∈ (putF f v fs).map (·.1)
  | [] => ⟨by simp [putF], fun g h => by simp at h⟩
  | (k, x) :: r => by
    obtain ⟨i1, i2⟩ := keys_putF f v r
    rw [show putF f v ((k, x) :: r) = (if k = f then (k, v) :: r else (k, x) :: putF f v r) from rfl]
    by_cases hk : k = f
    · rw [if_pos hk]
      subst hk
      exact ⟨by simp, fun g h => by simpa using h⟩
    · rw [if_neg hk]
      refine ⟨?_, fun g h => ?_⟩
      · rw [List.map_cons]
        exact List.mem_cons_of_mem _ i1
      · rw [List.map_cons] at h ⊢
        rcases List.mem_cons.mp h with e | e
        · exact List.mem_cons.mpr (.inl e)
        · exact List.mem_cons_of_mem _ (i2 g e)
theorem length_putF (f : Str) (v : V) : ∀ fs : List (Str × V), (putF f v fs).length <= fs.length + 1
  | [] => by simp [putF]
  | (k, x) :: r => by
    have ih := length_putF f v r
    rw [show putF f v ((k, x) :: r) = (if k = f then (k, v) :: r else (k, x) :: putF f v r) from rfl]
    by_cases hk : k = f
    · rw [if_pos hk, List.length_cons, List.length_cons]; omega
    · rw [if_neg hk, List.length_cons, List.length_cons]; omega
theorem RelO.some_of {v:V} {o:Option Value} (r:RelO (some v) o):∃ u,o = some u/\RelV v u:=by
 cases o with
 | none=>exact (show False from r).elim
 | some u=>exact ⟨u,rfl,r⟩
theorem RelO.none_of {o:Option Value} (r:RelO none o):o = none:=by
 cases o with
 | none=>rfl
 | some u=>exact (show False from r).elim
theorem handed_of {v:V} {u:Value} (r:RelV v u):PySem.W.handedIn u = true:=by
 cases v with
 | non=>cases (show u = Value.none from r); rfl
 | bl b=>cases (show u = Value.bool b from r); rfl
 | int i=>obtain ⟨t,e⟩:=(show ∃ t,u = Value.int i t from r); cases e; rfl
 | str x=>obtain ⟨t,e⟩:=(show ∃ t,u = Value.str x t from r); cases e; rfl
 | byt b=>obtain ⟨t,e⟩:=(show ∃ t,u = Value.bytes b t from r); cases e; rfl
 | flt b=>obtain ⟨t,e⟩:=(show ∃ t,u = Value.float b t from r); cases e; rfl
 | ref a=>cases (show u = Value.ref a from r); rfl
 | ty n=>cases (show u = Value.type n from r); rfl
section
variable {P:Program} {w:World} {H H':Hp} {h h':Heap} {a C dx:Addr} {fs fs':List (Str × V)}
theorem ins_get (hok:HOk P w H h) (e:H a = some (.ins C dx fs)):∃ mA,ObjM h a dx C mA/\(∀ f,RelO (fs.lookup f) (mA f))/\PySem.Within mA (fs.map (·.1))/\fs.length <= 1000/\H dx = some (.own a):=by
 obtain ⟨d,z,ne,ob,mA,n,r,q⟩:=(show ObjOk P w H h a (.ins C dx fs) from hok a _ e)
 exact ⟨mA,⟨ob,n,ne⟩,r,q,z,d⟩
end
structure Cls (K:PySem.W.Frag) (C:Addr):Prop where
 pg:PySem.W.plainGet K C Str.empty = true
 hd:PySem.W.hasDictIn K C = true
 po:PySem.W.plainOver K C = true
 sa:PySem.W.findIn K (.ref C) "__setattr__" = some (some (.builtin "object.__setattr__"))
theorem Cls.get {K:PySem.W.Frag} {C:Addr} (c:Cls K C) (f:Str):PySem.W.plainGet K C f = true:=c.pg
def NoAttr (K:PySem.W.Frag) (C:Addr) (f:Str):Prop:=PySem.W.findIn K (.ref C) f = some none
theorem NoAttr.taker {K:PySem.W.Frag} {C:Addr} {f:Str} (n:NoAttr K C f):PySem.W.takerIn K C f = some none:=by
 unfold PySem.W.takerIn
 rw [show PySem.W.findIn K (.ref C) f = some none from n]
 rfl
structure Meth (K:PySem.W.Frag) (C:Addr) (m:Str) (f:Addr):Prop where
 at_:PySem.W.findIn K (.ref C) m = some (some (.ref f))
 fn:PySem.W.isFn K (.ref f) = true
 kp:PySem.W.keepIn K (.ref f) = true
section
variable {X:Cx} {pins:List (Addr × Obj)} {σ:St} {H:Hp} {s:Shared} {a C dx:Addr} {fs:List (Str × V)} {f:Str} {v:V} {A:Around} {E:Value->Shared->Prop}
theorem getattr_ok {b:Bool} {Q:Value->Shared->Prop} (I:Inv X pins σ H s) (e:H a = some (.ins C dx fs)) (c:Cls X.K C) (n:NoAttr X.K C f) (l:fs.lookup f = some v)
  (h:∀ u s',Inv X pins σ H s'->RelV v u->Q u s'):wpAny (model X.prog X.w) A (getAttr (.ref a) f b) Q E s:=by
 obtain ⟨mA,O,r,_,_,_⟩:=ins_get I.hok e
 obtain ⟨u,hu,ru⟩:=RelO.some_of (v:=v) (o:=mA f) (by rw [<- l]; exact r f)
 exact get_map I.kIn O (c.get f) c.hd n hu (handed_of ru) (h u _ (I.tok _) ru)
theorem getmeth_ok {m:Str} {g:Addr} {pl:Sem Bool} {Q:Value × List Value->Shared->Prop} (I:Inv X pins σ H s) (e:H a = some (.ins C dx fs)) (c:Cls X.K C) (k:Meth X.K C m g) (l:fs.lookup m = none)
  (h:Q (.ref g,[.ref a]) s):wpAny (model X.prog X.w) A (getMethod (.ref a) m pl) Q E s:=by
 obtain ⟨mA,O,r,_,_,_⟩:=ins_get I.hok e
 have hn:mA m = none:=RelO.none_of (by rw [<- l]; exact r m)
 exact get_meth I.kIn O (c.get m) k.at_ k.fn hn h
theorem setattr_ok {y:V} {u:Value} {Q:Unit->Shared->Prop} (I:Inv X pins σ H s) (e:H a = some (.ins C dx fs)) (c:Cls X.K C) (n:NoAttr X.K C f) (hl:fs.length < 1000) (ry:RelV y u)
  (h:∀ s',Inv X pins σ (upd H a (.ins C dx (putF f y fs))) s'->Q () s'):wpAny (model X.prog X.w) A (setAttr (.ref a) f u) Q E s:=by
 obtain ⟨mA,O,r,wi,_,ho⟩:=ins_get I.hok e
 have hz:(fs.map (·.1)).length <= sizeLine:=by rw [List.length_map,sizeLine_eq]; omega
 refine set_map I.kIn O c.sa c.po n.taker c.hd wi hz fun h' O' sb=>h _ ?_
 have hd:∃ o,h'.get? dx = some o:=let ⟨o,_,_,e',_⟩:=O'.ns; ⟨o,e'⟩
 refine I.write (x:=a) (e:=dx) (by rw [e]; exact True.intro) (.inr ho) (fun b q hb z=>(sb.2 b hb).trans z) hd ?_
 refine ⟨by rw [upd_ne O.ne]; exact ho,?_,O.ne,O'.obj,_,O'.ns,fun g=>?_,fun g hg=>?_⟩
 ·have:=length_putF f y fs; omega
 ·show RelO ((putF f y fs).lookup g) (if g = f then some u else mA g)
  rw [lookup_putF]
  by_cases q:g = f
  ·rw [if_pos q,if_pos q]; exact ry
  ·rw [if_neg q,if_neg q]; exact r g
 ·by_cases q:g = f
  ·rw [q]; exact (keys_putF f y fs).1
  ·refine (keys_putF f y fs).2 g (wi g fun z=>hg ?_)
   show (if g = f then some u else mA g) = none
   rw [if_neg q]; exact z
theorem Inv.made (I:Inv X pins σ H s):Inv X pins σ (upd (upd H s.heap.objs.size (.own (s.heap.objs.size + 1))) (s.heap.objs.size + 1) (.ins C s.heap.objs.size []))
  { s with heap:=(s.heap.push PySem.W.emptyDict).push (PySem.W.instObj C s.heap.objs.size) }:=by
 have e1:(s.heap.push PySem.W.emptyDict).get? s.heap.objs.size = some PySem.W.emptyDict:=Heap.get?_push_size s.heap rfl
 have e2:((s.heap.push PySem.W.emptyDict).push (PySem.W.instObj C s.heap.objs.size)).get? (s.heap.objs.size + 1) = some (PySem.W.instObj C s.heap.objs.size):=by
  have:=Heap.get?_push_size (s.heap.push PySem.W.emptyDict) (o:=PySem.W.instObj C s.heap.objs.size) rfl
  rwa [Heap.size_push] at this
 have e3:(s.heap.push PySem.W.emptyDict).Ns s.heap.objs.size (fun _=>none):=⟨PySem.W.emptyDict,#[],_,e1,rfl,(fun e he=>absurd he (by simp)),fun _=>rfl⟩
 have I1:=I.laid (a:=s.heap.objs.size) (o:=.own (s.heap.objs.size + 1)) (h':=s.heap.push PySem.W.emptyDict) (t':=s.toks) (fun b u q=>Heap.get?_push_of_some _ q) (Nat.le_refl _) ⟨_,e1⟩
 refine I1.laid (a:=s.heap.objs.size + 1) (o:=.ins C s.heap.objs.size []) (t':=s.toks) (fun b u q=>Heap.get?_push_of_some _ q) (Nat.le_of_eq (Heap.size_push _ _)) ?_
 have ne:s.heap.objs.size ≠ s.heap.objs.size + 1:=Nat.ne_of_lt (Nat.lt_succ_self _)
 refine ⟨by rw [upd_ne ne,upd_same],Nat.zero_le _,ne,e2,fun _=>none,(Heap.Ns1.of_empty e3).at fun o q=>Heap.get?_push_of_some _ q,fun _=>True.intro,fun y hy=>absurd rfl hy⟩
theorem attr_of {prog:Program} {w:World} {env:Env} {e:Expr} {f:Str} {pos:Pos} {s:Shared} {Q:Value->Shared->Prop} (hb:attributeBase e f env (eval e env) = eval e env)
  (h:wpAny (model prog w) A (eval e env) (fun o s₁=>wpAny (model prog w) A (getAttr o f true) Q E s₁) E s):wpAny (model prog w) A (eval (.Attribute e f pos) env) Q E s :=
 Attribute_any_ h (by rw [arm_eval_Attribute,hb])
end
def tFld (K:PySem.W.Frag) (ta:TE) (f:Str):TE:=fun σ H Q=>ta σ H fun x H1=>∃ a C dx fs v,x = .ref a/\H1 a = some (.ins C dx fs)/\Cls K C/\NoAttr K C f/\fs.lookup f = some v/\Q v H1
def sFld (K:PySem.W.Frag) (ta tv:TE) (f:Str):TS:=fun D σ H=>tv σ H fun y H1=>ta σ H1 fun x H2=>∃ a C dx fs,x = .ref a/\H2 a = some (.ins C dx fs)/\Cls K C/\NoAttr K C f/\fs.length < 1000 /\
 D.nx σ (upd H2 a (.ins C dx (putF f y fs)))
section
variable {X:Cx} {o e value:Expr} {f:Str} {pos pos' tpos:Pos} {ta tv:TE}
theorem pe_fld (he:PE X e ta) (hb:attributeBase e f X.env (eval e X.env) = eval e X.env):PE X (.Attribute e f pos) (tFld X.K ta f):=by
 intro pins s σ H Q I h
 refine attr_of hb (thn (he pins s σ H _ I h) fun u s1 ⟨x,H1,I1,rx,a,C,dx,fs,v,ex,ea,c,n,l,q⟩=>?_)
 subst ex
 obtain rfl:u = Value.ref a:=rx
 exact getattr_ok I1 ea c n l fun u' s2 I2 ru=>⟨v,H1,I2,ru,q⟩
theorem ps_fld (ha:PE X o ta) (hv:PE X value tv) (hs:swapsWith value (some (.Attribute o f pos')) pos.line X.env = pure false):PS X (.Assign [.Attribute o f pos'] value pos) (sFld X.K ta tv f):=by
 intro pins s σ H D I h
 refine plainObj_wpAny_Assign_Attribute (thn (hv pins s σ H _ I h) fun u s1 ⟨y,H1,I1,ry,q⟩=>thn (ha pins s1 σ H1 _ I1 q) fun ov s2 ⟨x,H2,I2,rx,a,C,dx,fs,ex,ea,c,n,l,q2⟩=>?_) hs
 subst ex
 obtain rfl:ov = Value.ref a:=rx
 exact setattr_ok I2 ea c n l ry fun s3 I3=>⟨σ,_,I3,q2⟩
end
section
variable {X:Cx} {pins:List (Addr × Obj)} {σ:St} {H:Hp} {s:Shared} {A:Around} {E:Value->Shared->Prop} {Q:Value->Shared->Prop} {c:Value} {b:Bool}
inductive TyOf (K : PySem.W.Frag) (H : Hp) : V -> Value -> Prop where
 | non : TyOf K H .non (.type "NoneType")
 | bl (x : Bool) : TyOf K H (.bl x) (.type "bool")
 | int (i : Int) : TyOf K H (.int i) (.type "int")
 | str (x : Str) : TyOf K H (.str x) (.type "str")
 | flt (x : UInt64) : TyOf K H (.flt x) (.type "float")
 | lst {a : Addr} {xs : List V} (e : H a = some (.lst xs)) : TyOf K H (.ref a) (.type "list")
 | frz {a : Addr} {o : Obj} {xs : List V} (e : H a = some (.frz o (.lst xs))) : TyOf K H (.ref a) (.type "list")
 | tup {a : Addr} {xs : List V} (e : H a = some (.tup xs)) : TyOf K H (.ref a) (.type "tuple")
 | dK {a : Addr} {kvs : List (Key × V)} (e : H a = some (.dK kvs)) : TyOf K H (.ref a) (.type "dict")
 | dT {a : Addr} {kvs : List (List Key × V)} (e : H a = some (.dT kvs)) : TyOf K H (.ref a) (.type "dict")
 | ins {a C dx : Addr} {fs : List (Str × V)} (e : H a = some (.ins C dx fs)) (cl : Cls K C) (ha : PySem.W.findIn K (.ref C) "__class__" = some (some (.builtin "object.__class__")))
   (hn : PySem.W.specialIn K (.builtin "object.__class__") "__get__" = some (some (.builtin "getset_descriptor.__get__"))) (htk : PySem.W.takesIn K (.builtin "object.__class__") = some true)
   (hm : PySem.W.mroIn K C (.type "object") = some true) : TyOf K H (.ref a) (.ref C)
theorem isinst_ok {x : V} {u t : Value} (I : Inv X pins σ H s) (rx : RelV x u) (ty : TyOf X.K H x t) (e : PySem.W.kitOne X.K t c = some b) (h : ∀ tk, Q (.bool b) { s with toks := tk }) :
    wpAny (model X.prog X.w) A (call (.builtin "isinstance") [u, c]) Q E s := by
  cases ty with
  | non => cases (show u = Value.none from rx); exact PySem.W.kia_one PySem.W.kitx_none I.kIn True.intro e (fun z => nomatch z) h
  | bl y => cases (show u = Value.bool y from rx); exact PySem.W.kia_one PySem.W.kitx_bool I.kIn True.intro e (fun z => nomatch z) h
  | int i => obtain ⟨t, q⟩ := (show ∃ t, u = Value.int i t from rx); cases q; exact PySem.W.kia_one PySem.W.kitx_int I.kIn True.intro e (fun z => nomatch z) h
  | str y => obtain ⟨t, q⟩ := (show ∃ t, u = Value.str y t from rx); cases q; exact PySem.W.kia_one PySem.W.kitx_str I.kIn True.intro e (fun z => nomatch z) h
  | flt y => obtain ⟨t, q⟩ := (show ∃ t, u = Value.float y t from rx); cases q; exact PySem.W.kia_one PySem.W.kitx_float I.kIn True.intro e (fun z => nomatch z) h
  | @lst a xs ea =>
    cases (show u = Value.ref a from rx)
    obtain ⟨_, _, n, _, h1⟩ := (show ObjOk X.prog X.w H s.heap a (.lst xs) from I.hok a _ ea)
    exact PySem.W.kia_one PySem.W.kitx_list I.kIn ⟨_, h1, rfl⟩ e (fun z => nomatch z) h
  | @frz a ob xs ea =>
    cases (show u = Value.ref a from rx)
    obtain ⟨_, _, _, n, _, h1⟩ := (show ObjOk X.prog X.w H s.heap a (.frz ob (.lst xs)) from I.hok a _ ea)
    exact PySem.W.kia_one PySem.W.kitx_list I.kIn ⟨_, h1, rfl⟩ e (fun z => nomatch z) h
  | @tup a xs ea =>
    cases (show u = Value.ref a from rx)
    obtain ⟨_, _, _, p⟩ := (show ObjOk X.prog X.w H s.heap a (.tup xs) from I.hok a _ ea)
    obtain ⟨o, h1, h2, _⟩ := p
    exact PySem.W.kia_one PySem.W.kitx_tuple I.kIn ⟨o, h1, h2⟩ e (fun z => nomatch z) h
  | @dK a kvs ea =>
    cases (show u = Value.ref a from rx)
    obtain ⟨_, _, vs, _, p⟩ := (show ObjOk X.prog X.w H s.heap a (.dK kvs) from I.hok a _ ea)
    obtain ⟨o, es, ep, h1, h2, _⟩ := p
    exact PySem.W.kia_one PySem.W.kitx_dict I.kIn ⟨o, h1, h2.1⟩ e (fun z => nomatch z) h
  | @dT a kvs ea =>
    cases (show u = Value.ref a from rx)
    obtain ⟨_, _, xs, _, o, es, ep, h1, h2, _⟩ := (show ObjOk X.prog X.w H s.heap a (.dT kvs) from I.hok a _ ea)
    exact PySem.W.kia_one PySem.W.kitx_dict I.kIn ⟨o, h1, h2.1⟩ e (fun z => nomatch z) h
  | @ins a C dx fs ea cl ha hn htk hm =>
    cases (show u = Value.ref a from rx)
    obtain ⟨mA, O, _⟩ := ins_get I.hok ea
    obtain ⟨od, J, _⟩ := O.look
    exact PySem.W.kia_one (PySem.W.kitx_own (cl.get _) cl.hd ha hn htk hm) I.kIn J e (fun z => nomatch z) h
end
end L2
namespace L2
open PySem PySem.Spec PyProof.Rows
structure Room (k:Nat) (A:Around):Prop where
 hd:A.handled = none
 dp:A.depth + 3 * k + 5 < recursionLimit
 un:A.units + 16 * k + 200 < cLine
 gd:A.guards = some []
theorem Room.mono {j k:Nat} {A:Around} (r:Room k A) (h:j <= k):Room j A:=⟨r.hd,by have:=r.dp; omega,by have:=r.un; omega,by first | exact r.gd | simpa [Around.deeper,Around.under,Code.guards,Code.isGuard,guardIds,pushGuards] using r.gd⟩
theorem Room.deeper {k:Nat} {A:Around} (r:Room (k + 1) A) (env:Env):Room k (A.deeper env) :=
 ⟨r.hd,by have:=r.dp; show A.depth + 1 + 3 * k + 5 < _; omega,by have:=r.un; show A.units + 3 + 16 * k + 200 < _; omega,by first | exact r.gd | simpa [Around.deeper,Around.under,Code.guards,Code.isGuard,guardIds,pushGuards] using r.gd⟩
theorem Room.in1 {k:Nat} {A:Around} (r:Room (k + 1) A):Room k A.in1 :=
 ⟨r.hd,by have:=r.dp; show A.depth + 3 * k + 5 < _; omega,by have:=r.un; show A.units + 1 + 16 * k + 200 < _; omega,by first | exact r.gd | simpa [Around.deeper,Around.under,Code.guards,Code.isGuard,guardIds,pushGuards] using r.gd⟩
theorem make_depth {A:Around} {C:Addr} {us:List Value} {kw:List (Str × Value)}:(A.under (.builtin "type.__call__" ⟨.ref C :: us,kw⟩)).depth = A.depth + 1:=by
 first | rfl | simp [Around.under,Code.weight,Code.isCreation,Code.isGuard,Code.isCaller,Code.frames,Code.isFrame,guardIds]
theorem make_units {A:Around} {C:Addr} {us:List Value} {kw:List (Str × Value)}:(A.under (.builtin "type.__call__" ⟨.ref C :: us,kw⟩)).units = A.units + 1:=by
 first | rfl | simp [Around.under,Code.cUnits,Code.frames,Code.isFrame]
theorem Room.make {k:Nat} {A:Around} (r:Room (k + 1) A) (C:Addr) (us:List Value) (kw:List (Str × Value)):Room k (A.under (.builtin "type.__call__" ⟨.ref C :: us,kw⟩)) :=
 ⟨r.hd,by have:=r.dp; rw [make_depth]; omega,by have:=r.un; rw [make_units]; omega,by first | exact r.gd | simpa [Around.deeper,Around.under,Code.guards,Code.isGuard,guardIds,pushGuards] using r.gd⟩
theorem Room.depth {k:Nat} {A:Around} (r:Room k A):A.depth < recursionLimit:=by have:=r.dp; omega
theorem Room.units {k:Nat} {A:Around} (r:Room k A):A.units + 64 < cLine:=by have:=r.un; omega
theorem Room.units0 {k:Nat} {A:Around} (r:Room k A):A.units < cLine:=by have:=r.un; omega
def tNil:TA:=fun _ H Q=>Q [] H
def tCons (ta:TE) (tr:TA):TA:=fun σ H Q=>ta σ H fun x H1=>tr σ H1 fun xs H2=>Q (x :: xs) H2
section
variable {X:Cx} {e:Expr} {es:List Expr} {te:TE} {t:TA} {pos:Pos}
theorem pa_nil:PA X [] tNil:=fun _ _ _ _ H Q I h=>Calls.spliced_nil ⟨[],H,I,.nil,h⟩
theorem pa_cons (ha:PE X e te) (hr:PA X es t) (hs:starEach (e :: es) X.env = (false,eval e X.env) :: starEach es X.env:=by rfl):PA X (e :: es) (tCons te t):=by
 intro pos pins s σ H Q I h
 rw [hs]
 show wpAny _ _ (spliced ((false,eval e X.env) :: backTo pos (starEach es X.env))) _ _ s
 refine Calls.spliced_cons (thn (ha pins s σ H _ I h) fun u s1 ⟨x,H1,I1,r1,q1⟩=>?_)
 exact thn (hr pos pins s1 σ H1 _ I1 q1) fun us s2 ⟨xs,H2,I2,r2,q2⟩=>⟨x :: xs,H2,I2,.cons r1 r2,q2⟩
def tTup (t:TA):TE:=fun σ H Q=>t σ H fun xs H1=>xs.length <= sizeLine/\∀ p,H1 p = none->Q (.ref p) (upd H1 p (.tup xs))
def tLst (t:TA):TE:=fun σ H Q=>t σ H fun xs H1=>xs.length <= sizeLine/\∀ p,H1 p = none->Q (.ref p) (upd H1 p (.lst xs))
theorem pe_tup {x1} (h:PA X es t):PE X (.Tuple es x1 pos) (tTup t):=by
 intro pins s σ H Q I hq
 refine wpAny_Tuple_spliced (thn (h pos pins s σ H _ I hq) fun us s1 ⟨xs,H1,I1,r,z,q⟩=>⟨by rw [<- r.length]; exact z,?_⟩)
 have hf:H1 s1.heap.objs.size = none:=I1.hok.fresh (Nat.le_refl _)
 refine ⟨.ref s1.heap.objs.size,upd H1 s1.heap.objs.size (.tup xs),I1.laid (t':=s1.toks) (fun b u e=>Heap.get?_push_of_some _ e) (Nat.le_refl _) ?_,rfl,q _ hf⟩
 exact ⟨z,us,r,⟨_,Heap.get?_push_size _ rfl,rfl,_,rfl⟩⟩
theorem pe_lst (h:PA X es t):PE X (.List es pos) (tLst t):=by
 intro pins s σ H Q I hq
 refine wpAny_List_spliced (thn (h pos pins s σ H _ I hq) fun us s1 ⟨xs,H1,I1,r,z,q⟩=>⟨by rw [<- r.length]; exact z,?_⟩)
 have hf:H1 s1.heap.objs.size = none:=I1.hok.fresh (Nat.le_refl _)
 refine ⟨.ref s1.heap.objs.size,upd H1 s1.heap.objs.size (.lst xs),I1.laid (t':=s1.toks) (fun b u e=>Heap.get?_push_of_some _ e) (Nat.le_refl _) ?_,rfl,q _ hf⟩
 exact ⟨z,us,0,r,Heap.get?_push_size _ rfl⟩
end
abbrev Sp:=List V->Hp->VK->XK->Prop
abbrev CXT:=List Env->Hp->Shared->XK->Value->Shared->Prop
structure Env0 (P:Program) (w:World) (K:PySem.W.Frag) (mg:Str->Option Value) (base:Heap) (A:Around) (outer:List Env) (s:Shared) (H:Hp):Prop where
 frames:A.frames = some outer
 mod:Mod K mg base
 bs:∀ b o,base.get? b = some o->s.heap.get? b = some o/\H b = none
 bsz:base.objs.size <= s.heap.objs.size
 funs:s.heap.FunFrames base outer
 frf:∀ b ∈ frs outer,H b = none
 hok:HOk P w H s.heap
 bare:AllBare s.gens
def CE (outer:List Env) (P:Program) (w:World) (H:Hp) (s:Shared) (Q:VK) (u:Value) (s':Shared):Prop :=
 ∃ v H',s'.os = s.os/\AllBare s'.gens/\Un (frs outer) [] H H' s.heap s'.heap/\HOk P w H' s'.heap/\RelV v u/\Q v H'
def CR (CX:CXT) (outer:List Env) (P:Program) (w:World) (H:Hp) (s:Shared) (Q:VK) (E:XK) (r:Result) (s':Shared):Prop :=
 match r with
 | .ok (.ret u)=>CE outer P w H s Q u s'
 | .ok _=>False
 | .error e=>CX outer H s E e s'
structure FnOk (P:Program) (w:World) (K:PySem.W.Frag) (mg:Str->Option Value) (base:Heap) (CX:CXT) (k:Nat) (f:Addr) (fd:FuncData) (ps:List Str) (sp:Sp):Prop where
 len:∀ vs H Q E,sp vs H Q E->vs.length = ps.length
 run:∀ (A:Around) (outer:List Env) (s:Shared) (H:Hp) (args:Args) (us:List Value) (vs:List V) (Q:VK) (E:XK),Room k A->Env0 P w K mg base A outer s H->BindsTo s fd args (ps.zip us)->Vals vs us->sp vs H Q E ->
  codeAny (model P w) A (.call (.ref f) args) (CR CX outer P w H s Q E) s
theorem FnOk.mono {P:Program} {w:World} {K:PySem.W.Frag} {mg:Str->Option Value} {base:Heap} {CX:CXT} {j k:Nat} {f:Addr} {fd:FuncData} {ps:List Str} {sp:Sp} (F:FnOk P w K mg base CX j f fd ps sp) (h:j <= k) :
  FnOk P w K mg base CX k f fd ps sp:=⟨F.len,fun A outer s H args us vs Q E hr=>F.run A outer s H args us vs Q E (hr.mono h)⟩
theorem FnOk.imp {P:Program} {w:World} {K:PySem.W.Frag} {mg:Str->Option Value} {base:Heap} {CX:CXT} {k:Nat} {f:Addr} {fd:FuncData} {ps:List Str} {sp sp':Sp} (F:FnOk P w K mg base CX k f fd ps sp)
  (h:∀ vs H Q E,sp' vs H Q E->sp vs H Q E):FnOk P w K mg base CX k f fd ps sp' :=
 ⟨fun vs H Q E q=>F.len vs H Q E (h _ _ _ _ q),fun A outer s H args us vs Q E hr he hb hv hs=>F.run A outer s H args us vs Q E hr he hb hv (h _ _ _ _ hs)⟩
theorem Env0.make {P:Program} {w:World} {K:PySem.W.Frag} {mg:Str->Option Value} {base:Heap} {A:Around} {outer:List Env} {s:Shared} {H:Hp} (e:Env0 P w K mg base A outer s H) (C:Addr) (us:List Value) (kw:List (Str × Value)) :
  Env0 P w K mg base (A.under (.builtin "type.__call__" ⟨.ref C :: us,kw⟩)) outer s H:=⟨by first | exact e.frames | (simpa [Around.under,Code.envs,Code.isFrame,pushEnvs] using e.frames),e.mod,e.bs,e.bsz,e.funs,e.frf,e.hok,e.bare⟩
theorem Env0.in1 {P:Program} {w:World} {K:PySem.W.Frag} {mg:Str->Option Value} {base:Heap} {A:Around} {outer:List Env} {s:Shared} {H:Hp} (e:Env0 P w K mg base A outer s H) :
  Env0 P w K mg base A.in1 outer s H:=⟨e.frames,e.mod,e.bs,e.bsz,e.funs,e.frf,e.hok,e.bare⟩
section
variable {X:Cx} {pins:List (Addr × Obj)} {σ:St} {H:Hp} {s s':Shared}
theorem Inv.env0 (I:Inv X pins σ H s):Env0 X.prog X.w X.K X.mg X.base X.A X.stack s H :=
 ⟨I.ok.frames,I.ok.mod,I.bs,Nat.le_trans I.ok.bsz I.sz,I.stack,I.stkFree,I.hok,I.bare⟩
theorem Inv.after {Q:VK} {u:Value} (I:Inv X pins σ H s) (h:CE X.stack X.prog X.w H s Q u s'):EP X pins σ Q u s':=by
 obtain ⟨v,H',os,bare,un,hok,r,q⟩:=h
 obtain ⟨hh,g,d,t,os'⟩:=s'
 obtain rfl:os' = s.os:=os
 exact ⟨v,H',I.call (h':=hh) (g':=g) (d':=d) (t':=t) (ch:=[]) un hok bare (fun b z=>absurd z (by simp)),r,q⟩
end
def tCall (sp:Sp) (dvs:List V) (E:XK) (t:TA):TE:=fun σ H Q=>t σ H fun vs H1=>sp (vs ++ dvs) H1 Q E
def tMeth (C:Addr) (m:Str) (sp:Sp) (dvs:List V) (E:XK) (ta:TE) (t:TA):TE:=fun σ H Q=>ta σ H fun x H1=>∃ a dx fs,x = .ref a/\H1 a = some (.ins C dx fs)/\fs.lookup m = none /\
 t σ H1 fun vs H2=>sp (x :: (vs ++ dvs)) H2 Q E
def tMake (C:Addr) (sp:Sp) (dvs:List V) (E:XK) (t:TA):TE:=fun σ H Q=>t σ H fun vs H1=>∀ x dx,H1 x = none->H1 dx = none->dx ≠ x ->
 sp (.ref x :: (vs ++ dvs)) (upd (upd H1 dx (.own x)) x (.ins C dx [])) (fun v H2=>v = .non/\Q (.ref x) H2) E
def Binds (K:PySem.W.Frag) (fd:FuncData) (ps:List Str) (ds:List Value):Prop :=
 ∀ (s:Shared) (us:List Value),K.In s.heap->(us ++ ds).length = ps.length->BindsTo s fd ⟨us,[]⟩ (ps.zip (us ++ ds))
theorem Binds.all {K:PySem.W.Frag} {fd:FuncData} {ps:List Str} (h:∀ us:List Value,us.length = ps.length->bindArgs fd ⟨us,[]⟩ = pure (ps.zip us)):Binds K fd ps []:=fun s us _ hl=>by
 rw [List.append_nil] at hl ⊢
 exact .of_eq (h us hl)
def Passes (CX:CXT) (X:Cx) (E:XK):Prop:=∀ (pins:List (Addr × Obj)) (σ:St) (H:Hp) (s:Shared) (e:Value) (s':Shared),Inv X pins σ H s->CX X.stack H s E e s'->X.xe e s'
section
variable {X:Cx} {CX:CXT} {k:Nat} {f C:Addr} {fd:FuncData} {ps:List Str} {sp:Sp} {dvs:List V} {ds:List Value} {E:XK} {x m:Str} {p pos apos:Pos} {e o:Expr} {es:List Expr} {ta:TE} {t:TA}
theorem run_fn {pins : List (Addr × Obj)} {σ : St} {H : Hp} {s : Shared} {Q : VK} {us : List Value} {vs : List V} (F : FnOk X.prog X.w X.K X.mg X.base CX k f fd ps sp) (hr : Room k X.A) (hb : Binds X.K fd ps ds) (hd : Vals dvs ds) (hx : Passes CX X E)
    (I : Inv X pins σ H s) (r : Vals vs us) (h : sp (vs ++ dvs) H Q E) : wpAny (model X.prog X.w) X.A (call (.ref f) us) (EP X pins σ Q) X.xe s := by
  have r2 : Vals (vs ++ dvs) (us ++ ds) := r.append hd
  have hl : (us ++ ds).length = ps.length := by rw [<- r2.length]; exact F.len _ _ _ _ h
  refine wpAny_call (codeAny_mono (F.run X.A X.stack s H ⟨us, []⟩ (us ++ ds) (vs ++ dvs) Q E hr I.env0 (hb s us I.kIn hl) r2 h) fun r s' hq => ?_)
  cases r with
  | error e => exact hx pins σ H s e s' I hq
  | ok fl =>
    cases fl with
    | ret u => exact I.after hq
    | next => exact False.elim hq
    | brk => exact False.elim hq
    | cont => exact False.elim hq
theorem pe_call (F:FnOk X.prog X.w X.K X.mg X.base CX k f fd ps sp) (hr:Room k X.A) (hg:Gl X x) (hm:X.mg x = some (.ref f)) (hk:PySem.W.keepIn X.K (.ref f) = true) (hb:Binds X.K fd ps ds) (hd:Vals dvs ds) (hx:Passes CX X E)
  (ha:PA X (e :: es) t) (hdb:(x == ("__debug__" : Str)) = false:=by decide) (he:starEach (e :: es) X.env = (false,eval e X.env) :: starEach es X.env:=by rfl) (hpl:(backTo pos (starEach es X.env)).any (·.1) = false:=by rfl) :
  PE X (.Call (.Name x p) (e :: es) [] pos) (tCall sp dvs E t):=by
 intro pins s σ H Q I h
 refine wpAny_Call_Name_kw (ld_glob I hg hm ?_ hdb)
 refine PySem.W.callWith_K (h₀:=X.base) I.ok.mod.kin hk (thn (ha pos pins s σ H _ I h) fun us s1 ⟨vs,H1,I1,r,q⟩=>⟨I1.kIn,?_⟩) he hpl
 exact run_fn F hr hb hd hx I1 r q
theorem pe_meth0 {pl : Sem Bool} (he : PE X o ta) (c : Cls X.K C) (hm : Meth X.K C m f) (F : FnOk X.prog X.w X.K X.mg X.base CX k f fd ps sp) (hr : Room k X.A) (hb : Binds X.K fd ps ds) (hd : Vals dvs ds) (hx : Passes CX X E)
  (ht : eval (.Call (.Attribute o m apos) [] [] pos) X.env = (do
   let ov <- eval o X.env
   standAt apos.atName
   let (f, first) <- holding [ov] (getMethod ov m pl)
   callWith pos f first (backTo pos (starEach [] X.env)) (backToKw pos (keywordEach [] X.env))) := by rfl) :
  PE X (.Call (.Attribute o m apos) [] [] pos) (tMeth C m sp dvs E ta tNil) := by
 intro pins s σ H Q I h
 refine PySem.W.methodCall_KW (pl := pl) (thn (he pins s σ H _ I h) fun u s1 ⟨x, H1, I1, rx, a, dx, fs, ex, ea, l, q⟩ => ?_) ht
 subst ex
 obtain rfl : u = Value.ref a := rx
 refine getmeth_ok I1 ea c hm l ?_
 exact PySem.W.callWith_K0 (first := [.ref a]) I1.kIn hm.kp (run_fn (us := [.ref a]) (vs := [.ref a]) F hr hb hd hx I1 (.cons rfl .nil) q)
structure Mk (K:PySem.W.Frag) (C f:Addr):Prop where
 makes:PySem.W.makesIn K C = true
 init:PySem.W.findIn K (.ref C) "__init__" = some (some (.ref f))
 fn:PySem.W.isFn K (.ref f) = true
 kp:PySem.W.keepIn K (.ref C) = true
theorem run_make {pins : List (Addr × Obj)} {σ : St} {H : Hp} {s : Shared} {Q : VK} {us : List Value} {vs : List V} (M : Mk X.K C f) (F : FnOk X.prog X.w X.K X.mg X.base CX k f fd ps sp) (hr : Room (k + 1) X.A) (hb : Binds X.K fd ps ds) (hd : Vals dvs ds)
    (hx : Passes CX X E) (I : Inv X pins σ H s) (r : Vals vs us)
    (h : ∀ x dx, H x = none -> H dx = none -> dx ≠ x -> sp (.ref x :: (vs ++ dvs)) (upd (upd H dx (.own x)) x (.ins C dx [])) (fun v H2 => v = .non /\ Q (.ref x) H2) E) :
    wpAny (model X.prog X.w) X.A (call (.ref C) us) (EP X pins σ Q) X.xe s := by
  have hq := h (s.heap.objs.size + 1) s.heap.objs.size (I.hok.fresh (Nat.le_succ _)) (I.hok.fresh (Nat.le_refl _)) (Nat.ne_of_lt (Nat.lt_succ_self _))
  have I2 := Inv.made (C := C) I
  have r2 : Vals (V.ref (s.heap.objs.size + 1) :: (vs ++ dvs)) (Value.ref (s.heap.objs.size + 1) :: (us ++ ds)) := .cons rfl (r.append hd)
  have hl : (Value.ref (s.heap.objs.size + 1) :: us ++ ds).length = ps.length := by
    have e := r2.length
    rw [F.len _ _ _ _ hq] at e
    exact e.symm
  refine wpAny_call (make_map (f := f) I.kIn M.makes M.init (beq_iff_eq.mp M.fn) (codeAny_mono (F.run _ X.stack _ _ ⟨Value.ref (s.heap.objs.size + 1) :: us, []⟩ (Value.ref (s.heap.objs.size + 1) :: (us ++ ds)) _ _ E (hr.make C us [])
    (I2.env0.make C us []) (hb _ (Value.ref (s.heap.objs.size + 1) :: us) I2.kIn hl) r2 hq) fun r s' hq' => ?_))
  cases r with
  | error e => exact hx pins σ _ _ e s' I2 hq'
  | ok fl =>
    cases fl with
    | ret u =>
      obtain ⟨v, H', I3, rv, ev, q3⟩ := I2.after hq'
      subst ev
      exact ⟨rv, ⟨V.ref (s.heap.objs.size + 1), H', I3, rfl, q3⟩⟩
    | next => exact False.elim hq'
    | brk => exact False.elim hq'
    | cont => exact False.elim hq'
theorem pe_make0 (M:Mk X.K C f) (F:FnOk X.prog X.w X.K X.mg X.base CX k f fd ps sp) (hr:Room (k + 1) X.A) (hg:Gl X x) (hm:X.mg x = some (.ref C)) (hb:Binds X.K fd ps ds) (hd:Vals dvs ds) (hx:Passes CX X E)
  (hdb:(x == ("__debug__" : Str)) = false:=by decide):PE X (.Call (.Name x p) [] [] pos) (tMake C sp dvs E tNil):=by
 intro pins s σ H Q I h
 refine wpAny_Call_Name_kw (ld_glob I hg hm ?_ hdb)
 exact PySem.W.callWith_K0 I.kIn M.kp (run_make (us:=[]) M F hr hb hd hx I .nil h)
end
section
variable {X:Cx} {CX:CXT} {k:Nat} {f C:Addr} {fd:FuncData} {ps ks:List Str} {sp:Sp} {E:XK} {x m:Str} {p pos apos kpos:Pos} {e o:Expr} {es:List Expr} {kws:List Keyword} {te ta:TE} {t tk:TA} {nm:Option Str}
variable {g:List Value->List Value->List Value} {gV:List V->List V->List V}
end
structure FnScope (N P:List Str) (sc:Scope):Prop where
 kind:sc.kind = .function
 co:sc.isCoroutine = false
 gen:sc.isGenerator = false
 nd:N.Nodup
 pre:N.take P.length = P
 par:∀ x ∈ P,sc.names.lookup x = some .local\/sc.names.lookup x = some .cell
 nofree:∀ y ∈ sc.names,y.2 ≠ .free
theorem bindL_out {kindOf : Str -> Option NameKind} {x : Str} : ∀ {binds : List (Str × Value)} {m : Str -> Option Value}, (∀ v, (x, v) ∉ binds) -> bindL kindOf binds m x = m x
  | [], _, _ => rfl
  | (n, v) :: r, m, h => by
    unfold bindL
    rw [bindL_out fun w hw => h w (List.mem_cons_of_mem _ hw)]
    split
    · have : x ≠ n := by rintro rfl; exact h v List.mem_cons_self
      simp [this]
    · rfl
theorem bindC_out {kindOf : Str -> Option NameKind} {x : Str} : ∀ {binds : List (Str × Value)} {m : Str -> Option Value}, (∀ v, (x, v) ∉ binds) -> bindC kindOf binds m x = m x
  | [], _, _ => rfl
  | (n, v) :: r, m, h => by
    unfold bindC
    rw [bindC_out fun w hw => h w (List.mem_cons_of_mem _ hw)]
    split
    · rfl
    · have : x ≠ n := by rintro rfl; exact h v List.mem_cons_self
      simp [this]
theorem bindL_get {kindOf : Str -> Option NameKind} {x : Str} {v : Value} : ∀ {P : List Str} {vs : List Value} {i : Nat} {m : Str -> Option Value}, P.Nodup -> P[i]? = some x -> vs[i]? = some v -> kindOf x = some .local ->
    bindL kindOf (P.zip vs) m x = some v
  | [], _, _, _, _, h, _, _ => by simp at h
  | _ :: _, [], _, _, _, _, h, _ => by simp at h
  | p :: P, w :: vs, 0, m, nd, h1, h2, hk => by
    simp at h1 h2; subst h1; subst h2
    show bindL kindOf ((p, w) :: P.zip vs) m p = _
    unfold bindL
    rw [bindL_out fun v hv => (List.nodup_cons.mp nd).1 (List.of_mem_zip hv).1, if_pos hk]
    simp
  | p :: P, w :: vs, i + 1, m, nd, h1, h2, hk => by
    show bindL kindOf ((p, w) :: P.zip vs) m x = _
    unfold bindL
    exact bindL_get (i := i) (List.nodup_cons.mp nd).2 (by simpa using h1) (by simpa using h2) hk
theorem bindC_get {kindOf : Str -> Option NameKind} {x : Str} {v : Value} : ∀ {P : List Str} {vs : List Value} {i : Nat} {m : Str -> Option Value}, P.Nodup -> P[i]? = some x -> vs[i]? = some v -> kindOf x ≠ some .local ->
    bindC kindOf (P.zip vs) m x = some v
  | [], _, _, _, _, h, _, _ => by simp at h
  | _ :: _, [], _, _, _, _, h, _ => by simp at h
  | p :: P, w :: vs, 0, m, nd, h1, h2, hk => by
    simp at h1 h2; subst h1; subst h2
    show bindC kindOf ((p, w) :: P.zip vs) m p = _
    unfold bindC
    rw [bindC_out fun v hv => (List.nodup_cons.mp nd).1 (List.of_mem_zip hv).1, if_neg hk]
    simp
  | p :: P, w :: vs, i + 1, m, nd, h1, h2, hk => by
    show bindC kindOf ((p, w) :: P.zip vs) m x = _
    unfold bindC
    exact bindC_get (i := i) (List.nodup_cons.mp nd).2 (by simpa using h1) (by simpa using h2) hk
def start (N:List Str) (vs:List V):St:=vs.map some ++ List.replicate (N.length - vs.length) none
def cxOf (CX:CXT) (P:Program) (w:World) (K:PySem.W.Frag) (mg:Str->Option Value) (base:Heap) (N:List Str) (qual:Str) (scope:Scope) (f:Addr) (cd:Value) (A:Around) (outer:List Env) (s:Shared) (H:Hp) (E:XK):Cx where
 prog:=P
 w:=w
 K:=K
 mg:=mg
 base:=base
 A:=A.deeper (envOfC qual scope s.heap.objs.size f cd)
 N:=N
 s₀:=s
 H₀:=H
 env:=envOfC qual scope s.heap.objs.size f cd
 outer:=outer
 stack:=envOfC qual scope s.heap.objs.size f cd :: outer
 ex:=[]
 calm:=true
 fn:=fun _=>true
 pn:=[]
 xe:=fun e s'=>wpAny (model P w) (A.deeper (envOfC qual scope s.heap.objs.size f cd)) (leaving (envOfC qual scope s.heap.objs.size f cd) e) (fun _ s''=>CX outer H s E e s'') (fun e' s''=>CX outer H s E e' s'') s'
theorem cell_has {sc:Scope} {n:Nat} {x:Str} (h:sc.names.lookup x = some .cell):∃ c,(cellsFrom n sc.names []).lookup x = some c:=by
 have q:=PySem.W.cellsFrom_some sc.names n [] (.inl h)
 exact Option.isSome_iff_exists.mp q
theorem inv_start {CX:CXT} {P:Program} {w:World} {K:PySem.W.Frag} {mg:Str->Option Value} {base:Heap} {N ps:List Str} {qual:Str} {scope:Scope} {f:Addr} {cd:Value} {A:Around} {outer:List Env} {s s1:Shared} {H:Hp} {E:XK} {us:List Value} {vs:List V}
  (S:FnScope N ps scope) (hd:A.handled = none) (e0:Env0 P w K mg base A outer s H) (hl:vs.length = ps.length) (r:Vals vs us)
  (x:InCallC s s.heap.objs.size (bindL (envOfC qual scope s.heap.objs.size f cd).kindOf (ps.zip us) fun _=>none) (cellsFrom (s.heap.objs.size + 1) scope.names []) (bindC (envOfC qual scope s.heap.objs.size f cd).kindOf (ps.zip us) fun _=>none) s1) :
  Inv (cxOf CX P w K mg base N qual scope f cd A outer s H E) [] (start N vs) H s1:=by
 have hpl:ps.length <= N.length:=by have:=congrArg List.length S.pre; rw [List.length_take] at this; omega
 obtain ⟨h1,tk,rfl,hk⟩:=x.done
 have noA:∀ b:Addr,b ∉ (cxOf CX P w K mg base N qual scope f cd A outer s H E).ex:=fun b z=>absurd (show b ∈ ([]:List Addr) from z) (by simp)
 refine ⟨⟨e0.mod,S.kind,rfl,rfl,Nat.le_refl _,fun y z c h1 h2=>?_,fun y hy=>?_,fun y c _ h=>?_,fun _=>hd,Around.frames_deeper e0.frames,.inr ⟨rfl,rfl⟩,fun b z=>absurd z (noA b),e0.bs,e0.bsz,fun b _ _=>noA b,fun b z=>absurd z (noA b),e0.funs,e0.frf⟩,
  rfl,e0.bare,Un.kept hk,⟨_,x.toInCall.ns,fun i y v h1 h2 h3=>?_⟩,fun y c h=>⟨_,x.cell y c h⟩,e0.hok.fresh (Nat.le_refl _),fun y c h=>?_,fun p hp=>absurd (show p ∈ ([]:List (Addr × Obj)) from hp) (by simp),e0.hok.kept hk,?_⟩
 ·exact name_of_addr x.apart (PySem.mem_of_lookup h1) (PySem.mem_of_lookup h2)
 ·have hy:scope.names.lookup y = some .cell\/scope.names.lookup y = some .free:=hy
  rcases hy with hy | hy
  ·exact cell_has hy
  ·exact absurd rfl (S.nofree _ (PySem.mem_of_lookup hy))
 ·exact Nat.le_of_lt (x.above y c (PySem.mem_of_lookup h))
 ·have hi:i < vs.length:=by
   unfold start at h2
   by_cases hi:i < vs.length
   ·exact hi
   ·rw [List.getElem?_append_right (by simpa using hi)] at h2
    rw [List.getElem?_replicate] at h2
    split at h2 <;> cases h2
  have ha:vs[i]? = some v:=by
   unfold start at h2
   rw [List.getElem?_append_left (by simpa using hi),List.getElem?_map] at h2
   cases e:vs[i]? with
   | none=>rw [e] at h2; cases h2
   | some a=>rw [e] at h2; cases h2; rfl
  obtain ⟨u,hu,rv⟩:=r.get ha
  have hp:ps[i]? = some y:=by
   rw [<- S.pre,List.getElem?_take_of_lt (by omega)]; exact h1
  have ndP:ps.Nodup:=by rw [<- S.pre]; exact S.nd.sublist (List.take_sublist _ _)
  refine ⟨u,rv,?_⟩
  rcases S.par y (List.mem_of_getElem? hp) with k | k
  ·exact .inl ⟨k,bindL_get ndP hp hu k⟩
  ·obtain ⟨c,e⟩:=cell_has (n:=s.heap.objs.size + 1) k
   refine .inr ⟨.inl k,c,e,?_⟩
   have q:=x.cell y c e
   rw [bindC_get ndP hp hu (by show scope.names.lookup y ≠ _; rw [k]; decide)] at q
   exact q
 ·exact e0.hok.fresh (Nat.le_of_lt (x.above y c (PySem.mem_of_lookup h)))
 ·unfold start
  show _ = N.length
  rw [List.length_append,List.length_map,List.length_replicate]
  omega
theorem fn_of {CX : CXT} {P : Program} {w : World} {K : PySem.W.Frag} {mg : Str -> Option Value} {base : Heap} {k : Nat} {f : Addr} {name qual : Str} {params : Arguments} {body : List Stmt} {scope : Scope} {dV kV doc pm cdv ct oc : Value} {an od : Option Addr}
    {osl : Array (Option Value)} {N ps : List Str} {sp : Sp} (lk : K.lookup f = some ⟨oc, od, .func (PySem.W.fnOf name qual params body scope dV kV doc pm an cdv ct), osl⟩) (hcd : PySem.W.codeIn K cdv qual = true) (S : FnScope N ps scope)
    (len : ∀ vs H Q E, sp vs H Q E -> vs.length = ps.length)
    (hbody : ∀ (A : Around) (outer : List Env) (s : Shared) (H : Hp) (vs : List V) (Q : VK) (E : XK), Room k (A.deeper (envOfC qual scope s.heap.objs.size f cdv)) -> sp vs H Q E ->
      ∃ t, PSs (cxOf CX P w K mg base N qual scope f cdv A outer s H E) body t /\ t { nx := fun _ H' => Q .non H', rt := Q } (start N vs) H) :
    FnOk P w K mg base CX (k + 1) f (PySem.W.fnOf name qual params body scope dV kV doc pm an cdv ct) ps sp := by
  refine ⟨len, fun A outer s H args us vs Q E hr e0 hb r hsp => ?_⟩
  have hl := len _ _ _ _ hsp
  have KX : K.In s.heap := e0.mod.kin.keeps fun b o e => (e0.bs b o e).1
  have lim : s.heap.NoLimit := e0.mod.nolimit.keeps fun b o e => (e0.bs b o e).1
  have hkind : ∀ y ∈ ps.zip us, scope.names.lookup y.1 = some .local \/ (scope.names.lookup y.1 = some .cell /\ ((cellsFrom (s.heap.objs.size + 1) scope.names []).lookup y.1).isSome = true) := fun ⟨n, v⟩ hy => by
    rcases S.par n (List.of_mem_zip hy).1 with q | q
    · exact .inl q
    · exact .inr ⟨q, PySem.W.cellsFrom_some _ _ _ (.inl q)⟩
  refine codeAny_call_function hr.depth (KX _ _ lk) rfl S.co S.gen rfl (PySem.W.codeRec_of KX hcd) (hb _ _ _ _ ?_)
  refine wpAny_newFunctionEnv_cells S.kind hkind fun env he s1 x => ?_
  subst he
  refine ⟨lim.keeps x.toInCall.keep, codeAny_func ?_⟩
  obtain ⟨t, ht, hq⟩ := hbody A outer s H vs Q E (hr.deeper _) hsp
  have I : Inv (cxOf CX P w K mg base N qual scope f cdv A outer s H E) [] (start N vs) H s1 := inv_start S hr.hd e0 hl r x
  refine wpAny_mono (ht [] s1 (start N vs) H _ I hq) (fun fl s' hs => ?_) fun e s' hs => hs
  have fin : ∀ {σ' : St} {H' : Hp} {v : V} {u : Value}, Inv (cxOf CX P w K mg base N qual scope f cdv A outer s H E) [] σ' H' s' -> RelV v u -> Q v H' -> CE outer P w H s Q u s' :=
    fun {σ' H' v u} J rv q => ⟨v, H', J.os, J.bare, J.base, J.hok, rv, q⟩
  cases fl with
  | ret u =>
    obtain ⟨v, σ', H', J, rv, q⟩ := hs
    exact fin J rv q
  | next =>
    obtain ⟨σ', H', J, q⟩ := hs
    exact fin (v := V.non) (u := Value.none) J rfl q
  | brk =>
    obtain ⟨_, _, _, q⟩ := hs
    exact False.elim q
  | cont =>
    obtain ⟨_, _, _, q⟩ := hs
    exact False.elim q
end L2
namespace L2
open PySem PySem.Spec PyProof.Rows
section
variable {X:Cx} {x:Str} {p pos:Pos} {e:Expr} {es:List Expr} {t:TA} {id T:String} {r:List V->Hp->VK->Prop}
def tCB (r:List V->Hp->VK->Prop) (t:TA):TE:=fun σ H Q=>t σ H fun vs H1=>r vs H1 Q
theorem pe_callB (hc:CallR X (.builtin id) r) (hg:Gl X x) (hm:X.mg x = none) (hv:bootBuiltins x = some (.builtin id)) (ha:PA X (e :: es) t) (hn:x ≠ "__name__":=by decide) (hdb:(x == ("__debug__" : Str)) = false:=by decide)
  (he:starEach (e :: es) X.env = (false,eval e X.env) :: starEach es X.env:=by rfl) (hpl:(backTo pos (starEach es X.env)).any (·.1) = false:=by rfl):PE X (.Call (.Name x p) (e :: es) [] pos) (tCB r t):=by
 intro pins s σ H Q I h
 refine wpAny_Call_Name_kw (ld_blt I hg hm hv ?_ hn hdb)
 exact PyProof.Rows.callWith_builtin1 (thn (ha pos pins s σ H _ I h) fun us s1 ⟨vs,H1,I1,r1,q1⟩=>hc pins s1 σ H1 vs us Q I1 r1 q1) he hpl
theorem pe_callTy (hc:CallR X (.type T) r) (hg:Gl X x) (hm:X.mg x = none) (hv:bootBuiltins x = some (.type T)) (ha:PA X (e :: es) t) (hn:x ≠ "__name__":=by decide) (hdb:(x == ("__debug__" : Str)) = false:=by decide)
  (he:starEach (e :: es) X.env = (false,eval e X.env) :: starEach es X.env:=by rfl) (hpl:(backTo pos (starEach es X.env)).any (·.1) = false:=by rfl):PE X (.Call (.Name x p) (e :: es) [] pos) (tCB r t):=by
 intro pins s σ H Q I h
 refine wpAny_Call_Name_kw (ld_blt I hg hm hv ?_ hn hdb)
 exact PyProof.Rows.callWith_type1 (thn (ha pos pins s σ H _ I h) fun us s1 ⟨vs,H1,I1,r1,q1⟩=>hc pins s1 σ H1 vs us Q I1 r1 q1) he hpl
end
end L2
namespace HT
open PySem PyProof.Rows
section
open PySem.SeqAt
open PySem.AutoSeq1 (wpAny_loadPart')
open PySem.MeetsSeq PySem.MeetsSeq2 PySem.MeetsSeq3
end
section
variable {prog:Program} {w:World} {A:Around} {E:Value->Shared->Prop} {s:Shared}
def sIx (n d:Nat):Option Int->Nat
 | none=>d
 | some v=>if v < 0 then (v + (n:Int)).toNat else min v.toNat n
theorem sIx_none (n d:Nat):sIx n d none = d:=rfl
theorem sIx_nat (n d k:Nat):sIx n d (some (k:Int)) = min k n:=by
 show (if (k:Int) < 0 then ((k:Int) + (n:Int)).toNat else min (k:Int).toNat n) = min k n
 rw [if_neg (by omega),Int.toNat_natCast]
theorem sIx_le (n d : Nat) (hd : d <= n) (o : Option Int) : sIx n d o <= n := by
  cases o with
  | none => exact hd
  | some v =>
    show (if v < 0 then (v + (n : Int)).toNat else min v.toNat n) <= n
    by_cases hv : v < 0
    · rw [if_pos hv]; omega
    · rw [if_neg hv]; exact Nat.min_le_right _ _
end
end HT
namespace L2
open PySem PySem.Spec PyProof.Rows
abbrev TO:=St->Hp->(Option Int->Hp->Prop)->Prop
def PO (X:Cx) (e:Option Expr) (t:TO):Prop :=
 ∀ (pins:List (Addr × Obj)) (s:Shared) (σ:St) (H:Hp) (Q:Option Int->Hp->Prop),Inv X pins σ H s->t σ H Q ->
  wpAny (model X.prog X.w) X.A (evalPart e X.env) (fun u s'=>∃ o H',Inv X pins σ H' s'/\IsPart u o/\Q o H') X.xe s
def tNoPart:TO:=fun _ H Q=>Q none H
def tPart (t:TE):TO:=fun σ H Q=>t σ H fun x H1=>∃ i,x = .int i/\Q (some i) H1
section
variable {X:Cx} {e:Expr} {te:TE} {lo hi:Option Expr} {tl th:TO} {pos p2:Pos}
theorem po_none:PO X none tNoPart:=by
 intro pins s σ H Q I h
 rw [evalPart_none]
 exact wpAny_pure ⟨none,H,I,.none,h⟩
theorem po_some (h:PE X e te):PO X (some e) (tPart te):=by
 intro pins s σ H Q I hw
 rw [evalPart_some]
 refine thn (h pins s σ H _ I hw) fun u s1 ⟨x,H1,I1,r1,q1⟩=>?_
 obtain ⟨i,rfl,q⟩:=q1
 obtain ⟨t,rfl⟩:=r1
 exact ⟨some i,H1,I1,.int i t,q⟩
def SlR (X:Cx) (r:V->Option Int->Option Int->Hp->VK->Prop):Prop :=
 ∀ (pins:List (Addr × Obj)) (s:Shared) (σ:St) (H:Hp) (x:V) (v vl vu:Value) (lo hi:Option Int) (sl:Addr) (Q:VK),Inv X pins σ H s->RelV x v->s.heap.IsSliceOf sl vl vu .none->IsPart vl lo->IsPart vu hi->r x lo hi H Q ->
  ∃ T id,typeLookup (.type T) "__getitem__" = pure (some (.builtin id))/\s.TypeIs v T/\wpAny (model X.prog X.w) X.A (getItem v (.ref sl)) (EP X pins σ Q) X.xe s
theorem SlR.or {r r':V->Option Int->Option Int->Hp->VK->Prop} (h:SlR X r) (h':SlR X r'):SlR X (fun x lo hi H Q=>r x lo hi H Q\/r' x lo hi H Q):=by
 intro pins s σ H x v vl vu lo hi sl Q I rx hs pl pu q
 rcases q with q | q
 ·exact h pins s σ H x v vl vu lo hi sl Q I rx hs pl pu q
 ·exact h' pins s σ H x v vl vu lo hi sl Q I rx hs pl pu q
def tSl (r:V->Option Int->Option Int->Hp->VK->Prop) (te:TE) (tl th:TO):TE:=fun σ H Q=>te σ H fun x H1=>tl σ H1 fun l H2=>th σ H2 fun u H3=>r x l u H3 Q
theorem pe_slice {r:V->Option Int->Option Int->Hp->VK->Prop} (hr:SlR X r) (he:PE X e te) (hl:PO X lo tl) (hu:PO X hi th):PE X (.Subscript e (.Slice lo hi none p2) pos) (tSl r te tl th):=by
 intro pins s σ H Q I h
 refine Subscript_ (thn (he pins s σ H _ I h) fun v s1 ⟨x,H1,I1,r1,q1⟩=>?_)
 refine wpAny_Slice (thn (hl pins s1 σ H1 _ I1 q1) fun vl s2 ⟨l,H2,I2,pl,q2⟩=>thn (hu pins s2 σ H2 _ I2 q2) fun vu s3 ⟨u,H3,I3,pu,q3⟩=>?_)
 rw [evalPart_none]
 refine wpAny_pure ?_
 have I4:Inv X pins σ H3 { s3 with heap:=s3.heap.push { cls:=.type "slice",data:=.fields #[vl,vu,.none] } }:=I3.kept (t':=s3.toks) fun b ob q=>Heap.get?_push_of_some _ q
 obtain ⟨T,id,hT,ht,hg⟩:=hr pins { s3 with heap:=s3.heap.push { cls:=.type "slice",data:=.fields #[vl,vu,.none] } } σ H3 x v vl vu l u s3.heap.objs.size Q I4 r1 (Heap.IsSliceOf.new ..) pl pu q3
 show wpAny (model X.prog X.w) X.A (subscriptTail e (.Slice lo hi none p2) v (.ref s3.heap.objs.size)) (EP X pins σ Q) X.xe { s3 with heap:=s3.heap.push { cls:=.type "slice",data:=.fields #[vl,vu,.none] } }
 exact tail_any (ops:=[.ref s3.heap.objs.size,v]) ht hT hg (by with_unfolding_all rfl)
def cutV (xs:List V) (lo hi:Option Int):List V:=(xs.drop (HT.sIx xs.length 0 lo)).take (HT.sIx xs.length xs.length hi - HT.sIx xs.length 0 lo)
theorem cutV_length (xs:List V) (lo hi:Option Int):(cutV xs lo hi).length <= xs.length:=by
 unfold cutV
 rw [List.length_take,List.length_drop]
 omega
end
end L2
namespace L2
open PySem PySem.Spec PyProof.Rows
def ixN (n:Nat) (i:Int):Option Nat:=if 0 <= i then (if i < n then some i.toNat else none) else if -(n:Int) <= i then some (i + n).toNat else none
def atI {α:Type} (xs:List α) (i:Int):Option α:=(ixN xs.length i).bind fun j=>xs[j]?
theorem ixN_seq {n:Nat} {i:Int} {j:Nat} (h:ixN n i = some j):seqIndex? i n = some j/\j < n/\-(n:Int) <= i/\i < n:=by
 unfold ixN at h
 by_cases h0:0 <= i
 ·rw [if_pos h0] at h
  by_cases h1:i < n
  ·rw [if_pos h1] at h
   have e:i.toNat = j:=Option.some.inj h
   exact ⟨by rw [seqIndex_of h0 h1,e],by omega,by omega,h1⟩
  ·rw [if_neg h1] at h; cases h
 ·rw [if_neg h0] at h
  by_cases h1:-(n:Int) <= i
  ·rw [if_pos h1] at h
   have e:(i + n).toNat = j:=Option.some.inj h
   exact ⟨by rw [seqIndex_neg (by omega) h1,e],by omega,h1,by omega⟩
  ·rw [if_neg h1] at h; cases h
theorem atI_get {α : Type} {xs : List α} {i : Int} {v : α} (h : atI xs i = some v) : ∃ j, seqIndex? i xs.length = some j /\ xs[j]? = some v /\ j < xs.length /\ -(xs.length : Int) <= i /\ i < xs.length := by
  unfold atI at h
  cases e : ixN xs.length i with
  | none => rw [e] at h; cases h
  | some j =>
    rw [e] at h
    obtain ⟨h1, h2, h3, h4⟩ := ixN_seq e
    exact ⟨j, h1, h, h2, h3, h4⟩
theorem atI_nat {α:Type} {xs:List α} {j:Nat} {v:α} (h:xs[j]? = some v):atI xs (j:Int) = some v:=by
 have hj:j < xs.length:=(List.getElem?_eq_some_iff.mp h).1
 have e:ixN xs.length (j:Int) = some j:=by
  unfold ixN
  rw [if_pos (by omega),if_pos (by omega)]; simp
 unfold atI; rw [e]; exact h
def PlainIx (b:Expr):Prop:=∀ o i,subscripted b false o i = operate [o,i] (getItem o i)
def IxR (X:Cx) (r:R2):Prop :=
 ∀ (value slice:Expr) (pins:List (Addr × Obj)) (s:Shared) (σ:St) (H:Hp) (x y:V) (v u:Value) (Q:VK),Inv X pins σ H s->RelV x v->RelV y u->r x y H Q ->
  subscripted slice false v u = operate [v,u] (getItem v u)->wpAny (model X.prog X.w) X.A (subscriptTail value slice v u) (EP X pins σ Q) X.xe s
def MtR (X:Cx) (id:String) (r:V->List V->Hp->VK->Prop):Prop :=
 ∀ (pins:List (Addr × Obj)) (s:Shared) (σ:St) (H:Hp) (x:V) (xs:List V) (v:Value) (us:List Value) (Q:VK),Inv X pins σ H s->RelV x v->Vals xs us->r x xs H Q ->
  wpAny (model X.prog X.w) X.A (call (.builtin id) (v :: us)) (EP X pins σ Q) X.xe s
section
variable {X:Cx} {a b:Expr} {ta tb:TE} {pos:Pos}
theorem IxR.or {r r':R2} (h:IxR X r) (h':IxR X r'):IxR X (fun x y H Q=>r x y H Q\/r' x y H Q):=by
 intro value slice pins s σ H x y v u Q I rx ry q hs
 rcases q with q | q
 ·exact h value slice pins s σ H x y v u Q I rx ry q hs
 ·exact h' value slice pins s σ H x y v u Q I rx ry q hs
theorem pe_ix {r:R2} (hr:IxR X r) (ha:PE X a ta) (hb:PE X b tb) (hs:PlainIx b):PE X (.Subscript a b pos) (tOp r ta tb):=by
 intro pins s σ H Q I h
 exact Subscript_ (binT ha hb I h fun v u s2 x y H2 I2 rx ry q=>hr a b pins s2 σ H2 x y v u Q I2 rx ry q (hs _ _))
def rIxL (K:PySem.W.Frag):R2:=fun x y H Q=>∃ p xs i v,x = .ref p/\y = .int i/\SqL K H p xs/\atI xs i = some v/\Q v H
def rIxT (K:PySem.W.Frag):R2:=fun x y H Q=>∃ p xs i v,x = .ref p/\y = .int i/\SqT K H p xs/\atI xs i = some v/\Q v H
def rIxS:R2:=fun x y H Q=>∃ z i c,x = .str z/\y = .int i/\z.length <= sizeLine/\atI z.cps.toList i = some c/\Q (.str ⟨#[c]⟩) H
theorem ix_list:IxR X (rIxL X.K):=by
 intro value slice pins s σ H x y v u Q I rx ry h hs
 obtain ⟨p,xs,i,z,rfl,rfl,hq,he,q⟩:=h
 cases rx
 obtain ⟨t,rfl⟩:=ry
 obtain ⟨its,r,pl,hz⟩:=I.list hq
 obtain ⟨j,h1,h2,h3,h4,h5⟩:=atI_get he
 obtain ⟨w,ew,rw'⟩:=r.get h2
 have hl:=r.length
 have hn:=line63
 have fin:EP X pins σ Q w s:=⟨z,H,I,rw',q⟩
 by_cases h0:0 <= i
 ·have hj:i.toNat = j:=by
   rw [seqIndex_of h0 h5] at h1
   exact Option.some.inj h1
  exact item_listR pl.isList h0 (by omega) (by rw [hj]; simpa using ew) fin hs
 ·have hj:(i + (its.toArray.size:Int)).toNat = j:=by
   rw [seqIndex_neg (by omega) h4] at h1
   rw [List.size_toArray,<- hl]
   exact Option.some.inj h1
  exact subscriptTail_builtinR (x:=w) pl.isList.typeIs slot_list_getitem.lookup
   (wpAny_getItem_list_neg (Q:=fun r s'=>r = w/\EP X pins σ Q r s') pl.isList (by omega) (by rw [List.size_toArray] <;> omega) (by omega) (by rw [hj]; simpa using ew) ⟨rfl,fin⟩) hs
theorem ix_tup:IxR X (rIxT X.K):=by
 intro value slice pins s σ H x y v u Q I rx ry h hs
 obtain ⟨p,xs,i,z,rfl,rfl,hq,he,q⟩:=h
 cases rx
 obtain ⟨t,rfl⟩:=ry
 obtain ⟨its,r,pl,hz⟩:=I.tuple hq
 obtain ⟨j,h1,h2,h3,h4,h5⟩:=atI_get he
 obtain ⟨w,ew,rw'⟩:=r.get h2
 have hl:=r.length
 have hn:=line63
 have fin:EP X pins σ Q w s:=⟨z,H,I,rw',q⟩
 exact subscriptTail_builtinR (x:=w) pl.typeIs slot_tuple_getitem.lookup
  (getItem_tuple (j:=j) (Q:=fun r s'=>r = w/\EP X pins σ Q r s') pl (by omega) (by omega) (by rw [List.size_toArray,<- hl]; exact h1) (by simpa using ew) ⟨rfl,fin⟩) hs
theorem ix_str:IxR X rIxS:=by
 intro value slice pins s σ H x y v u Q I rx ry h hs
 obtain ⟨z,i,c,rfl,rfl,hz,he,q⟩:=h
 obtain ⟨t,rfl⟩:=rx
 obtain ⟨t',rfl⟩:=ry
 obtain ⟨j,h1,h2,h3,h4,h5⟩:=atI_get he
 have hl:z.cps.toList.length = z.length:=by simp [Str.length]
 rw [hl] at h1 h4 h5
 have hn:=line63
 exact tail_any (typeIs_str s z t) slot_str_getitem.lookup (getItem_str (c:=c) (by
  have e1:decide (i < -(2 ^ 63:Int)) = false:=decide_eq_false (by omega)
  have e2:decide (i >= 2 ^ 63) = false:=decide_eq_false (by omega)
  rw [e1,e2,Bool.or_false]) (by rw [h1]; simpa using h2) ⟨.str ⟨#[c]⟩,H,I.tok _,⟨_,rfl⟩,q⟩) hs
theorem mapSeq_set (its:List Value) (n j:Nat) (u:Value):Obj.mapSeq (·.setIfInBounds j u) { cls:=.type "list",data:=.seq its.toArray n } = { cls:=.type "list",data:=.seq (its.set j u).toArray n }:=by
 simp [Obj.mapSeq]
theorem Inv.lst {pins:List (Addr × Obj)} {σ:St} {H:Hp} {s:Shared} {p:Addr} {xs:List V} (I:Inv X pins σ H s) (h:H p = some (.lst xs)) :
  ∃ (its:List Value) (n:Nat),Vals xs its/\s.heap.get? p = some { cls:=.type "list",data:=.seq its.toArray n }/\xs.length <= sizeLine:=by
 obtain ⟨z,its,n,r,e⟩:=I.hok p _ h
 exact ⟨its,n,r,e,z⟩
theorem Inv.lstUpd {pins:List (Addr × Obj)} {σ:St} {H:Hp} {s:Shared} {p:Addr} {xs ys:List V} {its its':List Value} {n n':Nat} {f:Obj->Obj} (I:Inv X pins σ H s) (h:H p = some (.lst xs))
  (ho:s.heap.get? p = some { cls:=.type "list",data:=.seq its.toArray n }) (hf:f { cls:=.type "list",data:=.seq its.toArray n } = { cls:=.type "list",data:=.seq its'.toArray n' }) (r:Vals ys its') (hz:ys.length <= sizeLine) (t:Nat) :
  Inv X pins σ (upd H p (.lst ys)) { s with heap:=s.heap.update p f,toks:=t }:=by
 have e:(s.heap.update p f).get? p = some { cls:=.type "list",data:=.seq its'.toArray n' }:=by
  rw [Heap.get?_update_self f ho (by rw [hf] <;> rfl),hf]
 refine I.write (x:=p) (e:=p) (by rw [h]; trivial) (.inl rfl) (fun b u hb q=>(Heap.get?_update_other _ _ (Ne.symm hb)).trans q) ⟨_,e⟩ ?_
 exact ⟨hz,its',n',r,e⟩
def rSetL:V->V->V->Hp->(Hp->Prop)->Prop:=fun o i v H Q=>∃ p xs k j,o = .ref p/\i = .int k/\H p = some (.lst xs)/\ixN xs.length k = some j/\Q (upd H p (.lst (xs.set j v)))
theorem set_list:PSet X rSetL:=by
 intro pins s σ H o i v ov iv u Q I ro ri rv h
 obtain ⟨p,xs,k,j,rfl,rfl,hp,hj,q⟩:=h
 cases ro
 obtain ⟨t,rfl⟩:=ri
 obtain ⟨its,n,r,ho,hz⟩:=I.lst hp
 obtain ⟨h1,h2,h3,h4⟩:=ixN_seq hj
 have hl:=r.length
 have hn:=line63
 have I':Inv X pins σ (upd H p (.lst (xs.set j v))) { s with heap:=s.heap.update p (Obj.mapSeq (·.setIfInBounds j u)) } :=
  I.lstUpd hp ho (mapSeq_set its n j u) (r.set rv j) (by rw [List.length_set]; exact hz) s.toks
 by_cases h0:0 <= k
 ·have hk:k.toNat = j:=by
   rw [seqIndex_of h0 h4] at h1
   exact Option.some.inj h1
  exact PySem.W.ki_setAt ho h0 (by omega) (by rw [List.size_toArray,<- hl]; exact h4) (by rw [hk]; exact ⟨_,I',q⟩)
 ·have hk:(k + (its.toArray.size:Int)).toNat = j:=by
   rw [seqIndex_neg (by omega) h3] at h1
   rw [List.size_toArray,<- hl]
   exact Option.some.inj h1
  exact PySem.W.ki_setBack ho (by omega) (by rw [List.size_toArray,<- hl]; exact h3) (by omega) (by rw [hk]; exact ⟨_,I',q⟩)
theorem slice_bounds (lo hi : Option Int) (n : Nat) : (sliceBounds lo hi none n).1 = ((HT.sIx n 0 lo : Nat) : Int) /\ (sliceBounds lo hi none n).2.1 = ((HT.sIx n n hi : Nat) : Int) /\ (sliceBounds lo hi none n).2.2 = 1 := by
  refine ⟨?_, ?_, rfl⟩
  · cases lo with
    | none => simp [sliceBounds, HT.sIx]
    | some i =>
      simp only [sliceBounds, HT.sIx, Option.getD_none, show (1 : Int) > 0 by decide, if_true]
      by_cases h : i < 0
      · simp only [h, if_true] <;> omega
      · simp only [h, if_false] <;> omega
  · cases hi with
    | none => simp [sliceBounds, HT.sIx]
    | some i =>
      simp only [sliceBounds, HT.sIx, Option.getD_none, show (1 : Int) > 0 by decide, if_true]
      by_cases h : i < 0
      · simp only [h, if_true] <;> omega
      · simp only [h, if_false] <;> omega
theorem slicePick_cut (its:List Value) (lo hi:Option Int):slicePick its.toArray lo hi none = ((its.drop (HT.sIx its.length 0 lo)).take (HT.sIx its.length its.length hi - HT.sIx its.length 0 lo)).toArray:=by
 obtain ⟨h1,h2,h3⟩:=slice_bounds lo hi its.toArray.size
 unfold slicePick
 rw [h1,h2,h3]
 simp only [sliceRange_one,pick_run,List.size_toArray] <;> rfl
def rSlL (K:PySem.W.Frag):V->Option Int->Option Int->Hp->VK->Prop:=fun x lo hi H Q=>∃ a xs,x = .ref a/\SqL K H a xs/\∀ p,H p = none->Q (.ref p) (upd H p (.lst (cutV xs lo hi)))
theorem sl_list:SlR X (rSlL X.K):=by
 intro pins s σ H x v vl vu lo hi sl Q I rx hs pl pu h
 obtain ⟨a,xs,rfl,hx,q⟩:=h
 cases rx
 obtain ⟨its,r,ht,hz⟩:=I.list hx
 have hlen:=r.length
 refine ⟨"list",_,slot_list_getitem.lookup,ht.isList.typeIs,?_⟩
 refine wpAny_getItem_list_slice ht.isList hs pl pu .none (by simp) ?_ (by rw [List.size_toArray] <;> omega)
 rw [slicePick_cut,<- hlen]
 refine ⟨.ref s.heap.objs.size,_,I.laid (t':=s.toks) (o:=.lst (cutV xs lo hi)) (fun b ob q=>Heap.get?_push_of_some _ q) (Nat.le_refl _) ?_,rfl,q _ (I.hok.fresh (Nat.le_refl _))⟩
 exact ⟨Nat.le_trans (cutV_length xs lo hi) hz,_,0,(r.drop (HT.sIx xs.length 0 lo)).take (HT.sIx xs.length xs.length hi - HT.sIx xs.length 0 lo),Heap.get?_push_size _ rfl⟩
def flatV:V->Bool
 | .non=>true
 | .bl _=>true
 | .int _=>true
 | .str _=>true
 | _=>false
def eqV:V->V->Bool
 | .non,.non=>true
 | .bl a,.bl b=>a == b
 | .bl a,.int b=>(if a then 1 else 0) == b
 | .int a,.bl b=>a == (if b then 1 else 0)
 | .int a,.int b=>a == b
 | .str a,.str b=>a == b
 | _,_=>false
theorem eqAt_V {A : Around} {s : Shared} {y x : V} {u v : Value} (ry : RelV y u) (rx : RelV x v) (fy : flatV y = true) (fx : flatV x = true) : SeqAt.EqAt A s u v (eqV y x) := by
  cases y with
  | non =>
    cases ry
    cases x with
    | non => cases rx; exact SeqAt.EqAt.same _
    | bl b => cases rx; exact SeqAt.EqAt.none_bool b
    | int b => obtain ⟨t, rfl⟩ := rx; exact SeqAt.EqAt.none_int b t
    | str b => obtain ⟨t, rfl⟩ := rx; exact SeqAt.EqAt.none_str b t
    | _ => exact absurd (show false = true from fx) Bool.false_ne_true
  | bl a =>
    cases ry
    cases x with
    | non => cases rx; exact SeqAt.EqAt.bool_none a
    | bl b => cases rx; exact SeqAt.EqAt.bool_bool a b
    | int b => obtain ⟨t, rfl⟩ := rx; exact SeqAt.EqAt.bool_int a b t
    | str b => obtain ⟨t, rfl⟩ := rx; exact SeqAt.EqAt.bool_str a b t
    | _ => exact absurd (show false = true from fx) Bool.false_ne_true
  | int a =>
    obtain ⟨t', rfl⟩ := ry
    cases x with
    | non => cases rx; exact SeqAt.EqAt.int_none a t'
    | bl b => cases rx; exact SeqAt.EqAt.int_bool a t' b
    | int b => obtain ⟨t, rfl⟩ := rx; exact SeqAt.EqAt.int_int a t' b t
    | str b => obtain ⟨t, rfl⟩ := rx; exact SeqAt.EqAt.int_str a t' b t
    | _ => exact absurd (show false = true from fx) Bool.false_ne_true
  | str a =>
    obtain ⟨t', rfl⟩ := ry
    cases x with
    | non => cases rx; exact SeqAt.EqAt.str_none a t'
    | bl b => cases rx; exact SeqAt.EqAt.str_bool a t' b
    | int b => obtain ⟨t, rfl⟩ := rx; exact SeqAt.EqAt.str_int a t' b t
    | str b => obtain ⟨t, rfl⟩ := rx; exact SeqAt.EqAt.str_str a t' b t
    | _ => exact absurd (show false = true from fx) Bool.false_ne_true
  | _ => exact absurd (show false = true from fy) Bool.false_ne_true
def eqU (x:V) (u:Value):Bool:=match u with
 | .none=>eqV .non x
 | .bool b=>eqV (.bl b) x
 | .int i _=>eqV (.int i) x
 | .str z _=>eqV (.str z) x
 | _=>false
theorem eqU_of {x y:V} {u:Value} (r:RelV y u) (f:flatV y = true):eqU x u = eqV y x:=by
 cases y with
 | non=>cases r; rfl
 | bl b=>cases r; rfl
 | int i=>obtain ⟨t,rfl⟩:=r; rfl
 | str z=>obtain ⟨t,rfl⟩:=r; rfl
 | _=>exact absurd (show false = true from f) Bool.false_ne_true
theorem any_eqU {x : V} : ∀ {xs : List V} {us : List Value}, Vals xs us -> xs.all flatV = true -> us.any (eqU x) = xs.any fun y => eqV y x
  | _, _, .nil, _ => rfl
  | y :: xs, u :: us, .cons r t, f => by
    rw [List.all_cons, Bool.and_eq_true] at f
    rw [List.any_cons, List.any_cons, eqU_of r f.1, any_eqU t f.2]
theorem mem_eqAt {A : Around} {s : Shared} {x : V} {v : Value} (rx : RelV x v) (fx : flatV x = true) : ∀ {xs : List V} {us : List Value}, Vals xs us -> xs.all flatV = true -> ∀ u ∈ us, SeqAt.EqAt A s u v (eqU x u)
  | _, _, .nil, _ => fun u hu => by cases hu
  | y :: xs, u :: us, .cons r t, f => fun u' hu => by
    rw [List.all_cons, Bool.and_eq_true] at f
    rcases List.mem_cons.mp hu with rfl | hu
    · rw [eqU_of r f.1]; exact eqAt_V r rx f.1 fx
    · exact mem_eqAt rx fx t f.2 u' hu
def inV (x:V) (xs:List V):Bool:=xs.any fun y=>eqV y x
def rIn (K:PySem.W.Frag) (neg:Bool):R2:=fun x y H Q=>∃ p xs,y = .ref p/\(SqL K H p xs\/SqT K H p xs)/\flatV x = true/\xs.all flatV = true/\Q (.bl (if neg then !inV x xs else inV x xs)) H
theorem op_in_seq:OpR X (compareOp .In) (rIn X.K false):=by
 intro pins s σ H x y v u Q I rx ry h
 obtain ⟨p,xs,rfl,hq,fx,fs,q⟩:=h
 cases ry
 rcases hq with hq | hq
 ·obtain ⟨its,r,pl,hz⟩:=I.list hq
  refine SeqAt.in_listAt (eqU x) pl.isList (fun w hw=>mem_eqAt rx fx r fs w (by simpa using hw)) ⟨.bl _,H,I,rfl,?_⟩
  rw [show its.toArray.any (eqU x) = its.any (eqU x) by simp,any_eqU r fs]
  exact q
 ·obtain ⟨its,r,pl,hz⟩:=I.tuple hq
  refine SeqAt.in_tupleAt (eqU x) pl (fun w hw=>mem_eqAt rx fx r fs w (by simpa using hw)) ⟨.bl _,H,I,rfl,?_⟩
  rw [show its.toArray.any (eqU x) = its.any (eqU x) by simp,any_eqU r fs]
  exact q
theorem op_notIn_seq:OpR X (compareOp .NotIn) (rIn X.K true):=by
 intro pins s σ H x y v u Q I rx ry h
 obtain ⟨p,xs,rfl,hq,fx,fs,q⟩:=h
 cases ry
 rcases hq with hq | hq
 ·obtain ⟨its,r,pl,hz⟩:=I.list hq
  refine SeqAt.notIn_listAt (eqU x) pl.isList (fun w hw=>mem_eqAt rx fx r fs w (by simpa using hw)) ⟨.bl _,H,I,rfl,?_⟩
  rw [show its.toArray.any (eqU x) = its.any (eqU x) by simp,any_eqU r fs]
  exact q
 ·obtain ⟨its,r,pl,hz⟩:=I.tuple hq
  refine SeqAt.notIn_tupleAt (eqU x) pl (fun w hw=>mem_eqAt rx fx r fs w (by simpa using hw)) ⟨.bl _,H,I,rfl,?_⟩
  rw [show its.toArray.any (eqU x) = its.any (eqU x) by simp,any_eqU r fs]
  exact q
theorem call_len_seq:CallR X (.builtin "len") (fun xs H Q=>∃ p ys,xs = [.ref p]/\(SqL X.K H p ys\/SqT X.K H p ys)/\Q (.int ys.length) H):=by
 intro pins s σ H xs us Q I r h
 obtain ⟨p,ys,rfl,hq,q⟩:=h
 obtain ⟨u,rfl,rx⟩:=vals1 r
 cases rx
 have hn:=line63
 rcases hq with hq | hq
 ·obtain ⟨its,r',pl,hz⟩:=I.list hq
  have hlen:=r'.length
  exact Calls.call_len_list pl.isList (by simp only [List.size_toArray] <;> omega) ⟨.int ys.length,H,I.tok _,⟨s.toks + 1,by rw [List.size_toArray,hlen]⟩,q⟩
 ·obtain ⟨its,r',pl,hz⟩:=I.tuple hq
  have hlen:=r'.length
  exact len_tuple pl (by simp only [List.size_toArray] <;> omega) ⟨.int ys.length,H,I.tok _,⟨s.toks + 1,by rw [List.size_toArray,hlen]⟩,q⟩
theorem call_len_str:CallR X (.builtin "len") (fun xs H Q=>∃ z,xs = [.str z]/\z.length <= sizeLine/\Q (.int z.length) H):=by
 intro pins s σ H xs us Q I r h
 obtain ⟨z,rfl,hz,q⟩:=h
 obtain ⟨u,rfl,t,rfl⟩:=vals1 r
 have hn:=line63
 exact len_str (by omega) ⟨.int z.length,H,I.tok _,⟨_,rfl⟩,q⟩
theorem CallR.or {f:Value} {r r':List V->Hp->VK->Prop} (h:CallR X f r) (h':CallR X f r'):CallR X f (fun xs H Q=>r xs H Q\/r' xs H Q):=by
 intro pins s σ H xs us Q I rs q
 rcases q with q | q
 ·exact h pins s σ H xs us Q I rs q
 ·exact h' pins s σ H xs us Q I rs q
def tyV (K : PySem.W.Frag) (T : String) (x : V) (H : Hp) : Prop := match x with
 | .str _ => T = "str"
 | .int _ => T = "int"
 | .ref p => (T = "list" /\ ∃ xs, SqL K H p xs) \/ (T = "tuple" /\ ∃ o, K.lookup p = some o /\ o.cls = .type "tuple" /\ o.dict = none) \/
   (T = "dict" /\ ((∃ kvs, H p = some (.dK kvs)) \/ ∃ kvs, H p = some (.dT kvs))) \/ (T = "set" /\ ∃ S n, H p = some (.set S n))
 | _ => False
theorem tyV_is {pins : List (Addr × Obj)} {σ : St} {H : Hp} {s : Shared} {T : String} {x : V} {v : Value} (I : Inv X pins σ H s) (r : RelV x v) (ty : tyV X.K T x H) :
    s.TypeIs v T /\ ∀ a, v = .ref a -> ∃ ob, s.heap.get? a = some ob /\ ob.dict = none := by
  cases x with
  | str z =>
    obtain ⟨t, rfl⟩ := r
    cases (show T = "str" from ty)
    exact ⟨typeIs_str s z t, fun _ e => nomatch e⟩
  | int i =>
    obtain ⟨t, rfl⟩ := r
    cases (show T = "int" from ty)
    exact ⟨typeIs_int s i t, fun _ e => nomatch e⟩
  | ref p =>
    cases r
    rcases ty with ⟨rfl, xs, hq⟩ | ⟨rfl, o, hk, hc, hd⟩ | ⟨rfl, hk⟩ | ⟨rfl, S, n, hk⟩
    · obtain ⟨its, _, pl, _⟩ := I.list hq
      refine ⟨pl.isList.typeIs, fun a e => ?_⟩
      cases e
      obtain ⟨o, n, e, c, hd, _⟩ := pl
      exact ⟨o, e, hd⟩
    · refine ⟨⟨o, I.kIn p o hk, hc⟩, fun a e => ?_⟩
      cases e
      exact ⟨o, I.kIn _ o hk, hd⟩
    · have z : ∃ o, s.heap.get? p = some o /\ o.ExactDict := by
        rcases hk with ⟨kvs, hk⟩ | ⟨kvs, hk⟩
        · obtain ⟨_, _, _, _, o, _, _, e, ex, _⟩ := I.hok p _ hk
          exact ⟨o, e, ex⟩
        · obtain ⟨_, _, _, _, o, _, _, e, ex, _⟩ := I.hok p _ hk
          exact ⟨o, e, ex⟩
      obtain ⟨o, e, ex⟩ := z
      refine ⟨⟨o, e, ex.1⟩, fun a e2 => ?_⟩
      cases e2
      exact ⟨o, e, ex.2.1⟩
    · obtain ⟨o, _, _, _, e, ex, _⟩ := I.hok p _ hk
      refine ⟨⟨o, e, ex.1⟩, fun a e2 => ?_⟩
      cases e2
      exact ⟨o, e, ex.2.1⟩
  | _ => exact False.elim ty
def tBM0 (K:PySem.W.Frag) (T:String) (r:V->List V->Hp->VK->Prop) (to:TE):TE:=fun σ H Q=>to σ H fun x H1=>tyV K T x H1/\r x [] H1 Q
def tBM (K:PySem.W.Frag) (T:String) (r:V->List V->Hp->VK->Prop) (to:TE) (t:TA):TE:=fun σ H Q=>to σ H fun x H1=>tyV K T x H1/\t σ H1 fun xs H2=>r x xs H2 Q
variable {o e:Expr} {es:List Expr} {to:TE} {t:TA} {name:Str} {apos cpos:Pos} {T id:String} {r:V->List V->Hp->VK->Prop}
theorem pe_bm0 (pa:PlainAttrs T) (slot:Slot T name id) (hty:typeOf (.builtin id) = pure (.type "method_descriptor")) (hm:MtR X id r) (ho:PE X o to)
  (hbase:attributeBase o name X.env (eval o X.env) = eval o X.env:=by rfl) (hline:(apos.endLine == cpos.line) = true:=by rfl):PE X (.Call (.Attribute o name apos) [] [] cpos) (tBM0 X.K T r to):=by
 intro pins s σ H Q I h
 refine wpAny_Call_method0_late hbase hline (thn (ho pins s σ H _ I h) fun v s1 ⟨x,H1,I1,r1,ty,q1⟩=>?_)
 obtain ⟨h1,h2⟩:=tyV_is I1 r1 ty
 exact ⟨T,id,pa,slot,hty,h1,h2,Calls.callWith_builtin rfl (PySem.evalArgs_none (hm pins s1 σ H1 x [] v [] Q I1 r1 .nil q1))⟩
theorem pe_bm (pa : PlainAttrs T) (slot : Slot T name id) (hty : typeOf (.builtin id) = pure (.type "method_descriptor")) (hm : MtR X id r) (ho : PE X o to) (ha : PA X (e :: es) t)
  (hbase : attributeBase o name X.env (eval o X.env) = eval o X.env := by rfl)
  (hfew : ((backTo cpos (starEach (e :: es) X.env)).all (fun x => !x.1) && (backToKw cpos (keywordEach [] X.env)).all (fun x => x.1.isSome)
   && decide ((e :: es).length + ([] : List Keyword).length + (if ([] : List Keyword).isEmpty then 0 else 1) < 30)) = true := by rfl)
  (hline : (apos.endLine == cpos.line) = true := by rfl) (hs : starEach (e :: es) X.env = (false, eval e X.env) :: starEach es X.env := by rfl) (hplain : (backTo cpos (starEach es X.env)).any (·.1) = false := by rfl) :
  PE X (.Call (.Attribute o name apos) (e :: es) [] cpos) (tBM X.K T r to t) := by
 intro pins s σ H Q I h
 refine wpAny_Call_method_late hbase hfew hline rfl (thn (ho pins s σ H _ I h) fun v s1 ⟨x, H1, I1, r1, ty, q1⟩ => ?_)
 obtain ⟨h1, h2⟩ := tyV_is I1 r1 ty
 refine ⟨T, id, pa, slot, hty, h1, h2, ?_⟩
 have hA := ha cpos pins s1 σ H1 _ I1 q1
 rw [hs] at hA ⊢
 refine Calls.callWith_builtin (by show (false || (backTo cpos (starEach es X.env)).any (·.1)) = false; rw [hplain] <;> rfl) (Calls.evalArgs_plain ?_)
 exact thn hA fun us s2 ⟨vs, H2, I2, r2, q2⟩ => hm pins s2 σ H2 x vs v us Q I2 r1 r2 q2
end
end L2
namespace L2
open PySem PySem.Spec PyProof.Rows
def MtM (X:Cx) (id:String) (r:V->List V->Hp->VK->Prop):Prop :=
 ∀ (pins:List (Addr × Obj)) (s:Shared) (σ:St) (H:Hp) (x:V) (xs:List V) (v:Value) (us:List Value) (Q:VK),Inv X pins σ H s->RelV x v->Vals xs us->r x xs H Q ->
  wpAny (model X.prog X.w) X.A (call (.builtin id) (v :: us)) (EP X pins σ Q) X.xe s
theorem Vals.one:∀ {x:V} {us:List Value},Vals [x] us->∃ u,us = [u]/\RelV x u
 | _,_,.cons r .nil=>⟨_,rfl,r⟩
theorem Vals.zero:∀ {us:List Value},Vals [] us->us = []
 | _,.nil=>rfl
theorem Vals.reverse {xs:List V} {us:List Value} (h:Vals xs us):Vals xs.reverse us.reverse:=by
 induction h with
 | nil=>exact .nil
 | cons r t ih=>rw [List.reverse_cons,List.reverse_cons]; exact Vals.append ih (.cons r .nil)
theorem Vals.rep {xs : List V} {us : List Value} (h : Vals xs us) : ∀ k : Nat, Vals (List.replicate k xs).flatten (List.replicate k us).flatten
  | 0 => .nil
  | k + 1 => by
    rw [List.replicate_succ, List.replicate_succ, List.flatten_cons, List.flatten_cons]
    exact Vals.append h (Vals.rep h k)
theorem foldl_rep (its : List Value) : ∀ (k : Nat) (acc : List Value),
    List.foldl (fun x1 x2 => x1 ++ x2) acc.toArray (List.replicate k its.toArray) = (acc ++ (List.replicate k its).flatten).toArray
  | 0, acc => by simp
  | k + 1, acc => by
    have e : acc.toArray ++ its.toArray = (acc ++ its).toArray := by simp
    have e2 : (acc ++ its) ++ (List.replicate k its).flatten = acc ++ (List.replicate (k + 1) its).flatten := by
      rw [List.replicate_succ, List.flatten_cons, List.append_assoc]
    rw [<- e2, <- foldl_rep its k (acc ++ its), <- e, List.replicate_succ, List.foldl_cons]
section
variable {X:Cx} {pins:List (Addr × Obj)} {σ:St} {H:Hp} {s:Shared} {l b:Addr} {xs ys zs:List V}
theorem Inv.lset {its its':List Value} {n:Nat} {f:Array Value->Array Value} {t':Nat} (I:Inv X pins σ H s) (hH:H l = some (.lst xs))
  (e:s.heap.get? l = some { cls:=.type "list",data:=.seq its.toArray n }) (hf:f its.toArray = its'.toArray) (hv:Vals ys its') (hz:ys.length <= sizeLine) :
  Inv X pins σ (upd H l (.lst ys)) { s with heap:=s.heap.update l (Obj.mapSeq f),toks:=t' }:=by
 have q:=PySem.IsL.update e f
 rw [hf] at q
 refine I.write (x:=l) (e:=l) (by rw [hH]; exact trivial) (.inl rfl) (fun b' u hb hu=>(Heap.get?_update_other s.heap (Obj.mapSeq f) (Ne.symm hb)).trans hu) ⟨_,q⟩ ?_
 exact ⟨hz,its',_,hv,q⟩
theorem Inv.lnew {its:List Value} {t':Nat} (I:Inv X pins σ H s) (hv:Vals ys its) (hz:ys.length <= sizeLine) :
  Inv X pins σ (upd H s.heap.objs.size (.lst ys)) { s with heap:=s.heap.push { cls:=.type "list",data:=.seq its.toArray },toks:=t' } :=
 I.laid (fun _ _ q=>Heap.get?_push_of_some _ q) (Nat.le_refl _) ⟨hz,its,0,hv,Heap.get?_push_size _ rfl⟩
theorem Inv.fresh (I:Inv X pins σ H s):H s.heap.objs.size = none:=I.hok.fresh (Nat.le_refl _)
theorem Inv.lstM (I:Inv X pins σ H s) (hH:H l = some (.lst xs)):xs.length <= sizeLine/\∃ (its:List Value) (n:Nat),Vals xs its/\xs.length = its.length/\s.heap.get? l = some { cls:=.type "list",data:=.seq its.toArray n }:=by
 obtain ⟨z,its,n,r,e⟩:=I.hok l _ hH
 exact ⟨z,its,n,r,r.length,e⟩
theorem notLongL {n:Nat} (h:n <= sizeLine):Builtin.List.listTooLong n = false:=by
 unfold Builtin.List.listTooLong
 exact decide_eq_false (by omega)
end
section
variable {X:Cx}
def rAppend:V->List V->Hp->VK->Prop:=fun x vs H Q=>∃ l xs y,x = .ref l/\vs = [y]/\H l = some (.lst xs)/\xs.length < sizeLine/\Q .non (upd H l (.lst (xs ++ [y])))
theorem mt_append:MtM X "list.append" rAppend:=by
 intro pins s σ H x vs v us Q I rx rv h
 obtain ⟨l,xs,y,rfl,rfl,hH,hz,q⟩:=h
 cases rx
 obtain ⟨u,rfl,ru⟩:=rv.one
 obtain ⟨z,its,n,r,hl,e⟩:=I.lstM hH
 refine call_meets F.slot_list_append ⟨_,e,rfl⟩ F.entry_list_append (F.args_list_append_2 _ _) (PySem.list_append l its.toArray n u (by rw [List.size_toArray]; omega)) ⟨e,?_⟩
 refine ⟨.non,_,I.lset (its':=its ++ [u]) hH e (by simp) (r.append (.cons ru .nil)) ?_,rfl,q⟩
 rw [List.length_append,List.length_singleton]
 omega
def rReverse:V->List V->Hp->VK->Prop:=fun x vs H Q=>∃ l xs,x = .ref l/\vs = []/\H l = some (.lst xs)/\Q .non (upd H l (.lst xs.reverse))
theorem mt_reverse:MtM X "list.reverse" rReverse:=by
 intro pins s σ H x vs v us Q I rx rv h
 obtain ⟨l,xs,rfl,rfl,hH,q⟩:=h
 cases rx
 have hus:=rv.zero
 subst hus
 obtain ⟨z,its,n,r,hl,e⟩:=I.lstM hH
 refine call_meets F.slot_list_reverse ⟨_,e,rfl⟩ F.entry_list_reverse (F.args_list_reverse_1 _) (AutoSeq1.list_reverse_list_0 l its.toArray n (by rw [List.size_toArray]; omega)) ⟨e,?_⟩
 refine ⟨.non,_,I.lset (its':=its.reverse) hH e (by simp) r.reverse ?_,rfl,q⟩
 rw [List.length_reverse]
 omega
def rClear:V->List V->Hp->VK->Prop:=fun x vs H Q=>∃ l xs,x = .ref l/\vs = []/\H l = some (.lst xs)/\Q .non (upd H l (.lst []))
theorem mt_clear:MtM X "list.clear" rClear:=by
 intro pins s σ H x vs v us Q I rx rv h
 obtain ⟨l,xs,rfl,rfl,hH,q⟩:=h
 cases rx
 have hus:=rv.zero
 subst hus
 obtain ⟨z,its,n,r,hl,e⟩:=I.lstM hH
 refine call_meets F.slot_list_clear ⟨_,e,rfl⟩ F.entry_list_clear (F.args_list_clear_1 _) (AutoSeq1.list_clear_list_0 l its.toArray n (by rw [List.size_toArray]; omega)) ⟨e,?_⟩
 exact ⟨.non,_,I.lset (its':=[]) (ys:=[]) hH e rfl .nil (Nat.zero_le _),rfl,q⟩
def rCat:R2:=fun x y H Q=>∃ l b xs zs,x = .ref l/\y = .ref b/\H l = some (.lst xs)/\H b = some (.lst zs)/\xs.length + zs.length <= sizeLine/\∀ p,H p = none->Q (.ref p) (upd H p (.lst (xs ++ zs)))
theorem op_cat:OpR X (binaryOp .Add) rCat:=by
 intro pins s σ H x y v u Q I rx ry h
 obtain ⟨l,b,xs,zs,rfl,rfl,hH,hB,hz,q⟩:=h
 cases rx
 cases ry
 obtain ⟨z,its,n,r,hl,e⟩:=I.lstM hH
 obtain ⟨z2,its2,n2,r2,hl2,e2⟩:=I.lstM hB
 refine PySem.P.add_list e e2 ?_ (by rw [List.size_toArray,List.size_toArray]; omega)
 have ea:its.toArray ++ its2.toArray = (its ++ its2).toArray:=by simp
 rw [ea]
 exact ⟨.ref _,_,I.lnew (t':=s.toks) (r.append r2) (by rw [List.length_append]; omega),rfl,q _ I.fresh⟩
def rRep:R2:=fun x y H Q=>∃ l k xs,x = .ref l/\y = .int k/\H l = some (.lst xs)/\-(2 ^ 63) <= k/\k < 2 ^ 63/\xs.length * k.toNat <= sizeLine /\
 ∀ p,H p = none->Q (.ref p) (upd H p (.lst (List.replicate k.toNat xs).flatten))
theorem len_rep {α:Type} (xs:List α) (k:Nat):(List.replicate k xs).flatten.length = k * xs.length:=by
 induction k with
 | zero=>simp
 | succ k ih=>rw [List.replicate_succ,List.flatten_cons,List.length_append,ih,Nat.succ_mul,Nat.add_comm]
theorem op_rep : OpR X (binaryOp .Mult) rRep := by
 intro pins s σ H x y v u Q I rx ry h
 obtain ⟨l, k, xs, rfl, rfl, hH, h1, h2, hz, q⟩ := h
 cases rx
 obtain ⟨t, rfl⟩ := ry
 obtain ⟨z, its, n, r, hl, e⟩ := I.lstM hH
 have hlen : its.toArray.size * k.toNat <= sizeLine := by rw [List.size_toArray, <- hl]; exact hz
 have hcap : ¬ its.toArray.size * k.toNat > (2 ^ 63 - 1) / 8 := by
  have : (sizeLine : Nat) <= (2 ^ 63 - 1) / 8 := by decide
  omega
 have hfit : ¬ (!Builtin.List.listFitsIndex k) = true := by
  rw [fitsIndex_both h1 h2]
  exact Bool.false_ne_true
 have hlong : ¬ Builtin.List.listTooLong (its.toArray.size * k.toNat) = true := by
  rw [notLongL hlen]
  exact Bool.false_ne_true
 have hnew : List.foldl (fun x1 x2 => x1 ++ x2) #[] (List.replicate (if its.toArray.isEmpty = true then 0 else k.toNat) its.toArray) = (List.replicate k.toNat its).flatten.toArray := by
  have f0 : ∀ m : Nat, List.foldl (fun x1 x2 => x1 ++ x2) #[] (List.replicate m its.toArray) = (List.replicate m its).flatten.toArray := fun m => by
   have := foldl_rep its m []
   rw [List.nil_append] at this
   exact this
  rw [f0]
  cases its with
  | nil => simp
  | cons a r' => rw [if_neg (by simp)]
 refine wpAny_binaryOp_repeat_ref (T := "list") (U := "int") (by decide) ⟨_, e, rfl⟩ (fun s' => typeIs_int s' k t) noFill_list_mul F.fills_int_mul F.slot_int_rmul repeat_list F.slot_int_index.lookup
  (call_meets F.slot_int_rmul (typeIs_int s k t) F.entry_int_rmul (F.args_int_rmul_2 _ _) (int___rmul___int_list k t l its.toArray n)
   ⟨e, rfl, ⟨_, e, rfl⟩, call_meets F.slot_list_mul ⟨_, e, rfl⟩ F.entry_list_mul (F.args_list_mul_2 _ _) (AutoListH.list___mul___list_int_3 l its.toArray n k t hfit hcap hlong) ⟨e, ?_⟩⟩)
 rw [hnew]
 exact ⟨.ref _, _, I.lnew (t' := s.toks) (r.rep k.toNat) (by rw [len_rep, Nat.mul_comm]; exact hz), rfl, q _ I.fresh⟩
end
section
variable {prog:Program} {w:World} {A:Around} {E:Value->Shared->Prop} {s:Shared}
end
section
variable {X:Cx}
end
end L2
namespace Att
open PySem PySem.W PySem.Calls PyProof.Rows
theorem ints_of_wellAll {P : Params} {h : Heap} : ∀ (ns : List Int) (vs : List Value), WellAll P h vs (ns.map WData.int) -> IntsAre vs ns := by
  intro ns
  induction ns with
  | nil =>
    intro vs w
    rw [List.map_nil] at w
    cases w
    exact .nil
  | cons n ns ih =>
    intro vs w
    rw [List.map_cons] at w
    cases w with
    | cons a b =>
      cases a
      exact .cons _ _ (ih _ b)
theorem script_of {l : OpenLaw} {n : Nat} (hn : l.most = some n) {P : Params} {h : Heap} {args : List WData} {vals : List Value}
    (hpre : l.row.toRowW.claim.pre args = true) (hwl : WellAll P h vals args) :
    ∃ a vs ns, vals = [Value.ref a] /\ args = [WData.list (ns.map WData.int)] /\ h.get? a = some { cls := .type "list", data := .seq vs.toArray } /\ IntsAre vs ns /\ ns.length <= n := by
  have hsh : WShape.hasAll [] args [.list .int] = true := (pre_splitW hpre).1
  have hc : l.pre.holds [] { args := args } = true := (pre_splitW hpre).2
  obtain ⟨d, r, rfl, h1, h2⟩ := hasAllW_cons hsh
  obtain rfl := hasAllW_nil h2
  obtain ⟨xs, rfl, h3⟩ := hasW_list h1
  obtain ⟨ns, rfl⟩ := items_int h3
  have hlen : ns.length <= n := by
    unfold OpenLaw.pre at hc
    have h4 : (WTm.not (.lt (.lit (.int (n : Int))) (.len (.arg 0)))).holds [] { args := [.list (ns.map .int)] } = true := by
      have h4 := (holds_andW hc).1
      rw [hn] at h4
      exact h4
    have h5 := condW_of h4 (w_not (w_lt w_lit (w_len_list (w_arg rfl))))
    rw [List.length_map] at h5
    refine Nat.le_of_not_lt fun q => ?_
    have q' : (n : Int) < ((ns.length : Nat) : Int) := by omega
    first
      | (rw [decide_eq_true q'] at h5; exact absurd h5 (by decide))
      | (simp at h5; omega)
  cases hwl with
  | cons w1 w2 =>
    cases w2
    cases w1 with
    | list ho hall => exact ⟨_, _, ns, rfl, rfl, ho, ints_of_wellAll ns _ hall, hlen⟩
theorem post_true (l:OpenLaw) (args:List WData):l.row.toRowW.claim.post args (.bool true) args = true :=
 postW_of (r:=l.row.toRowW) (X:=(true == true))
  (show WShape.has [] (.bool true) .bool = true by first | rfl | decide | simp [WShape.has,WShape.arms,WShape.armsAll])
  (show (WTm.eq .res (.lit (.bool true))).value [] { args:=args,res:=some (.bool true),after:=args } = some (.bool (true == true)) from w_eq_bool (w_res rfl) w_lit) rfl
theorem attach_call {l : OpenLaw} {n : Nat} {q : Program} {loose : List Str} {XP : (Str -> Option Value) -> Heap -> Prop} {YP : World -> Heap -> Prop} {d : DefRec}
  (hn : l.most = some n) (hdf : d.params.defaults = [])
  (call : ∀ (w : World) (s₀ s₁ : Shared) (mg mb : Str -> Option Value) (fa : Addr) (o : Obj) (pm cd doc : Value) (a : Addr) (vs : List Value) (ns : List Int),
   Ground q loose [] XP w s₀ mg mb s₁.heap -> YP w s₁.heap ->
   s₁.heap.get? fa = some o -> o.data = .func (docDef d.name d.params d.body d.scope pm cd doc) -> s₁.heap.CodeRec cd d.name -> mg d.name = some (.ref fa) ->
   s₁.heap.get? a = some { cls := .type "list", data := .seq vs.toArray } -> IntsAre vs ns -> ns.length <= n -> s₁.gens = #[] ->
   codeAny (model l.prog w) callerA (.call (.ref fa) ⟨[.ref a], []⟩) (fun r s' => r = .ok (.ret (.bool true)) /\ OldK s₁.heap s'.heap /\ s'.os = s₁.os /\ AllBare s'.gens) s₁) :
  WalkO q loose XP YP l.row.toRowW d [] (fun f vs => PySem.call f vs) := by
 intro w s₀ s₁ mg mb G Y fa o pm cd doc dV kV ho hd hcd hD hmg hg args vals as hpre hlay hrd hwl hlo
 obtain rfl : dV = .none := Dflts.none hD hdf
 obtain rfl : kV = .none := Dflts.noKw hD
 obtain ⟨a, vs, ns, rfl, rfl, hobj, hints, hlen⟩ := script_of hn hpre hwl
 refine enter_call (codeAny_mono (call w s₀ s₁ mg mb fa o pm cd doc a vs ns G Y ho (fd_plain hd) hcd hmg hobj hints hlen hg) fun r s' hq => ?_)
 obtain ⟨rfl, h2, h3, h4⟩ := hq
 exact ⟨.inl ⟨.bool true, .bool true, [], rfl, fun _ => rfl, .bool true, post_true l _, fun _ => ⟨List.Pairwise.nil, fun _ hm => (nomatch hm)⟩⟩, h2, h3, h4⟩
section
variable {prog:Program} {w:World} {A:Around} {E:Value->Shared->Prop} {s:Shared} {K:Frag}
end
end Att
namespace L2
open PySem PySem.Spec PyProof.Rows
theorem vals_ints:∀ {vs:List Value} {ns:List Int},IntsAre vs ns->Vals (ns.map V.int) vs
 | _,_,.nil=>.nil
 | _,_,.cons n t h=>.cons ⟨t,rfl⟩ (vals_ints h)
def Only (H:Hp):Prop:=∀ b,H b = none\/∃ o xs,H b = some (.frz o (.lst xs))
theorem law_call {P : Program} {w : World} {K : PySem.W.Frag} {mg mb : Str -> Option Value} {CX : CXT} {k : Nat} {fa a : Addr} {fd : FuncData} {x : Str} {sp : Sp} {s₁ : Shared} {vs : List Value} {ns : List Int}
    (KX : K.In s₁.heap) (hns : s₁.heap.Ns mainGlobals mg) (hb : s₁.heap.Ns builtinsNs mb) (hbb : ∀ x : Str, x ≠ "__name__" -> mb x = bootBuiltins x) (hlim : s₁.heap.NoLimit) (hg : s₁.gens = #[])
    (ha : s₁.heap.get? a = some { cls := .type "list", data := .seq vs.toArray }) (hi : IntsAre vs ns) (hl : ns.length <= sizeLine) (hr : Room k callerA)
    (F : ∀ base : Heap, K.In base -> base.Ns mainGlobals mg -> FnOk P w K mg base CX k fa fd [x] sp) (hbind : ∀ (s : Shared) (u : Value), BindsTo s fd ⟨[u], []⟩ [(x, u)])
    (hsp : ∀ H : Hp, Only H -> SqL K H a (ns.map V.int) -> sp [.ref a] H (fun v _ => v = .bl true) fun _ _ _ => False)
    (hCX : ∀ H e s', CX [] H s₁ (fun _ _ _ => False) e s' -> False) :
    codeAny (model P w) callerA (.call (.ref fa) ⟨[.ref a], []⟩) (fun r s' => r = .ok (.ret (.bool true)) /\ OldK s₁.heap s'.heap /\ s'.os = s₁.os /\ AllBare s'.gens) s₁ := by
  have rv := vals_ints hi
  have lenV := hi.length
  have core : ∀ H : Hp, Only H -> SqL K H a (ns.map V.int) -> HOk P w H s₁.heap -> (∀ b, H b ≠ none -> b = a) -> (H a ≠ none -> K.lookup a = none) ->
      codeAny (model P w) callerA (.call (.ref fa) ⟨[.ref a], []⟩) (fun r s' => r = .ok (.ret (.bool true)) /\ OldK s₁.heap s'.heap /\ s'.os = s₁.os /\ AllBare s'.gens) s₁ := by
    intro H hO hS hok hA hK
    have base_of : ∀ {b : Addr} {o : Obj}, s₁.heap.get? b = some o -> H b = none -> (hidT s₁.heap H).get? b = some o := fun e n => hidT_get e n
    have noA : ∀ {b : Addr} {o : Obj} {es : Array DictEntry} {ep : Nat}, s₁.heap.get? b = some o -> o.data = .dict es ep -> H b = none := fun {b o es ep} e d => by
      cases q : H b with
      | none => rfl
      | some u =>
        have e' : b = a := hA b (by rw [q]; simp)
        subst e'
        rw [ha] at e; cases e
        have d' : Data.seq vs.toArray _ = Data.dict es ep := d
        cases d'
    have nsK : ∀ {b : Addr} {m : Str -> Option Value}, s₁.heap.Ns b m -> (hidT s₁.heap H).Ns b m := fun {b m} ⟨o, es, ep, e, d, r⟩ => ⟨o, es, ep, base_of e (noA e d), d, r⟩
    have hKb : K.In (hidT s₁.heap H) := fun b o e => base_of (KX b o e) (by
      cases q : H b with
      | none => rfl
      | some u =>
        have e' : b = a := hA b (by rw [q]; simp)
        subst e'
        rw [hK (by rw [q]; simp)] at e; cases e)
    have hM : Mod K mg (hidT s₁.heap H) := ⟨hKb, nsK hns, ⟨mb, nsK hb, hbb⟩, let ⟨mc, h1, h2⟩ := hlim; ⟨mc, nsK h1, h2⟩⟩
    have e0 : Env0 P w K mg (hidT s₁.heap H) callerA [] s₁ H := ⟨rfl, hM, fun b o e => of_hidT e, Nat.le_of_eq (hidT_size _ _), trivial, fun b hb => absurd (show b ∈ ([] : List Addr) from hb) (by simp), hok, .of_eq hg⟩
    refine codeAny_mono ((F _ hKb (nsK hns)).run callerA [] s₁ H ⟨[.ref a], []⟩ [.ref a] [.ref a] _ _ hr e0 (hbind s₁ (.ref a)) (.cons rfl .nil) (hsp H hO hS)) fun r s' h => ?_
    cases r with
    | error e => exact (hCX H e s' h).elim
    | ok fl =>
      cases fl with
      | next => exact False.elim h
      | brk => exact False.elim h
      | cont => exact False.elim h
      | ret u =>
        obtain ⟨v, H', os, bare, un, hok', r', q⟩ := h
        have q' : v = .bl true := q
        subst q'
        obtain rfl : u = Value.bool true := r'
        refine ⟨rfl, OldK.of_keep fun b o e => ?_, os, bare⟩
        cases q : H b with
        | none => exact un.keep b o e q (by intro z; exact absurd (show b ∈ ([] : List Addr) from z) (by simp)) (by simp)
        | some u =>
          rcases hO b with z | ⟨ob, xs, z⟩
          · rw [q] at z; cases z
          · have z2 := un.frzs b ob _ z
            obtain ⟨e1, _⟩ := hok b _ z
            obtain ⟨e2, _⟩ := hok' b _ z2
            rw [e] at e1; cases e1
            exact e2
  cases hk : K.lookup a with
  | some o =>
    have e := KX a o hk
    rw [ha] at e
    cases e
    refine core (fun _ => none) (fun _ => .inl rfl) (.inr ⟨_, vs.toArray, _, hk, rfl, rfl, rfl, by rw [List.size_toArray, lenV]; exact hl, by simpa using rv⟩) ⟨(fun b u z => by have z' : (none : Option HO) = some u := z; cases z'), (fun u z => nomatch (show (none : Option HO) = some u from z)), let ⟨o, _, _, e, _⟩ := hns; ⟨mainGlobals, o, by decide, e⟩⟩ (fun b z => absurd rfl z) fun z => absurd rfl z
  | none =>
    refine core (fun b => if b = a then some (.frz { cls := .type "list", data := .seq vs.toArray } (.lst (ns.map V.int))) else none) (fun b => ?_) (.inl (.inr ⟨{ cls := .type "list", data := .seq vs.toArray }, if_pos rfl⟩)) ⟨fun b u z => ?_, (fun u z => by
      by_cases hb : sysModules = a
      · have z' := (if_pos hb).symm.trans z
        cases z'; exact ⟨_, _, rfl⟩
      · have z' := (if_neg hb).symm.trans z
        cases z'), let ⟨o, _, _, e, _⟩ := hns; ⟨mainGlobals, o, by decide, e⟩⟩ (fun b z => ?_) fun _ => hk
    · by_cases hb : b = a
      · exact .inr ⟨_, _, if_pos hb⟩
      · exact .inl (if_neg hb)
    · by_cases hb : b = a
      · have z' := (if_pos hb).symm.trans z
        cases z'
        subst hb
        exact ⟨ha, by rw [List.length_map]; exact hl, vs, _, rv, ha⟩
      · have z' := (if_neg hb).symm.trans z
        cases z'
    · by_cases hb : b = a
      · exact hb
      · exact absurd (if_neg hb) z
end L2
namespace L2
open PySem PySem.Spec PyProof.Rows
theorem walk_of {l : PySem.W.OpenLaw} {n k : Nat} {q : Program} {loose : List Str} {XP : (Str -> Option Value) -> Heap -> Prop} {YP : World -> Heap -> Prop} {d : DefRec} {K : Params -> PySem.W.Frag} {CX : World -> CXT} {sp : World -> Sp} {x : Str}
  (hn : l.most = some n) (hn2 : n <= sizeLine) (hdf : d.params.defaults = []) (hr : Room k callerA)
  (hY : ∀ (w : World) (h : Heap), YP w h -> (K w.params).In h)
  (F : ∀ (w : World) (mg : Str -> Option Value) (fa : Addr) (h : Heap), (K w.params).In h -> h.Ns mainGlobals mg -> mg d.name = some (.ref fa) ->
   ∃ fd : FuncData, (∀ (s : Shared) (u : Value), BindsTo s fd ⟨[u], []⟩ [(x, u)]) /\
    ∀ base : Heap, (K w.params).In base -> base.Ns mainGlobals mg -> FnOk l.prog w (K w.params) mg base (CX w) k fa fd [x] (sp w))
  (hsp : ∀ (w : World) (H : Hp) (a : Addr) (ns : List Int), ns.length <= n -> Only H -> SqL (K w.params) H a (ns.map V.int) -> sp w [.ref a] H (fun v _ => v = .bl true) fun _ _ _ => False)
  (hCX : ∀ (w : World) (H : Hp) (s : Shared) (e : Value) (s' : Shared), CX w [] H s (fun _ _ _ => False) e s' -> False) :
  PySem.W.WalkO q loose XP YP l.row.toRowW d [] (fun f vs => PySem.call f vs) := by
 refine Att.attach_call hn hdf fun w s₀ s₁ mg mb fa o pm cd doc a vs ns G Y ho hd hcd hmg hobj hints hlen hg => ?_
 have KX := hY w _ Y
 obtain ⟨fd, hb, hF⟩ := F w mg fa _ KX G.T.g hmg
 exact law_call KX G.T.g G.T.b G.T.builtins G.T.nolimit hg hobj hints (Nat.le_trans hlen hn2) hr hF hb (fun H hO hS => hsp w H a ns hlen hO hS) fun H e s' => hCX w H s₁ e s'
end L2
namespace L2
open PySem PySem.Spec PyProof.Rows
def inClass (s:Stmt) (j:Nat):Stmt:=match s with
 | .ClassDef _ _ _ body _ _ _ _ _ _ _=>body.getD j (.Pass ⟨0,0,0,0⟩)
 | _=>.Pass ⟨0,0,0,0⟩
def defArgs (s:Stmt):Arguments:=match s with
 | .FunctionDef _ a _ _ _ _ _ _ _ _=>a
 | _=>{ posonlyargs:=[],args:=[],vararg:=none,kwonlyargs:=[],kw_defaults:=[],kwarg:=none,defaults:=[] }
def defBody (s:Stmt):List Stmt:=match s with
 | .FunctionDef _ _ b _ _ _ _ _ _ _=>b
 | _=>[]
def defScope (s:Stmt):Scope:=match s with
 | .FunctionDef _ _ _ _ _ _ sc _ _ _=>sc
 | _=>{ kind:=.function,names:=[],isGenerator:=false,isCoroutine:=false }
abbrev CX0:CXT:=fun _ _ _ _ _ _=>False
abbrev E0:XK:=fun _ _ _=>False
theorem pass0 {X:Cx}:Passes CX0 X E0:=fun _ _ _ _ _ _ _ h=>h.elim
structure Fun (K:PySem.W.Frag) (x qual:Str) (st:Stmt) (f:Addr) (fd:FuncData):Prop where
 ex:∃ (oc:Value) (od:Option Addr) (kV doc pm:Value) (an:Option Addr) (cdv ct:Value) (osl:Array (Option Value)),
  fd = PySem.W.fnOf x qual (defArgs st) (defBody st) (defScope st) .none kV doc pm an cdv ct/\K.lookup f = some ⟨oc,od,.func fd,osl⟩/\PySem.W.codeIn K cdv qual = true
 kp:PySem.W.keepIn K (.ref f) = true
section
variable {P:Program} {w:World} {K:PySem.W.Frag} {mg:Str->Option Value} {base:Heap}
theorem Fun.ok {x qual : Str} {st : Stmt} {f : Addr} {fd : FuncData} {N ps : List Str} {k : Nat} {sp : Sp} (F : Fun K x qual st f fd) (S : FnScope N ps (defScope st)) (len : ∀ vs H Q E, sp vs H Q E -> vs.length = ps.length)
  (hbody : ∀ (cdv : Value) (A : Around) (outer : List Env) (s : Shared) (H : Hp) (vs : List V) (Q : VK) (E : XK), Room k (A.deeper (envOfC qual (defScope st) s.heap.objs.size f cdv)) -> sp vs H Q E ->
   ∃ t, PSs (cxOf CX0 P w K mg base N qual (defScope st) f cdv A outer s H E).nox (defBody st) t /\ t { nx := fun _ H' => Q .non H', rt := Q } (start N vs) H) : FnOk P w K mg base CX0 (k + 1) f fd ps sp := by
 obtain ⟨oc, od, kV, doc, pm, an, cdv, ct, osl, rfl, lk, hcd⟩ := F.ex
 refine fn_of lk hcd S len fun A outer s H vs Q E hr hsp => ?_
 obtain ⟨t, h, q⟩ := hbody cdv A outer s H vs Q E hr hsp
 exact ⟨t, h.nox, q⟩
theorem Fun.binds {x qual:Str} {st:Stmt} {f:Addr} {fd:FuncData} {ps:List Str} (F:Fun K x qual st f fd)
  (h:∀ (kV doc pm:Value) (an:Option Addr) (cdv ct:Value) (us:List Value),us.length = ps.length->bindArgs (PySem.W.fnOf x qual (defArgs st) (defBody st) (defScope st) .none kV doc pm an cdv ct) ⟨us,[]⟩ = pure (ps.zip us)):Binds K fd ps []:=by
 obtain ⟨oc,od,kV,doc,pm,an,cdv,ct,osl,rfl,lk,hcd⟩:=F.ex
 exact .all (h kV doc pm an cdv ct)
theorem fun_mk {x qual:Str} {st:Stmt} {f:Addr} {oc:Value} {od an:Option Addr} {osl:Array (Option Value)} {kV doc pm cdv ct:Value} (l:K.lookup f = some ⟨oc,od,.func (PySem.W.fnOf x qual (defArgs st) (defBody st) (defScope st) .none kV doc pm an cdv ct),osl⟩)
  (c:PySem.W.codeIn K cdv qual = true) (k:PySem.W.keepIn K (.ref f) = true):Fun K x qual st f (PySem.W.fnOf x qual (defArgs st) (defBody st) (defScope st) .none kV doc pm an cdv ct):=⟨⟨oc,od,kV,doc,pm,an,cdv,ct,osl,rfl,l,c⟩,k⟩
end
theorem small1000 {n:Nat} (h:n <= 1000):n < sizeLine:=Nat.lt_of_le_of_lt h (by decide)
section
variable {X:Cx}
theorem pv (i:Nat) {x:Str} {pos:Pos} (hN:X.N[i]? = some x:=by rfl) (hv:Vis X.env.scope x:=by first | exact Or.inl rfl | exact Or.inr (Or.inl rfl) | exact Or.inr (Or.inr rfl)) (hd:(x == ("__debug__" : Str)) = false:=by decide)
  (hcd:(x == ("__classdict__" : Str)) = false:=by decide):PE X (.Name x pos) (tVar i):=pe_var hN hv hd hcd
end
theorem iteF {A B:Prop} (h:B):if false = true then A else B:=by
 rw [if_neg Bool.false_ne_true]
 exact h
theorem iteT {A B:Prop} (h:A):if true = true then A else B:=by
 rw [if_pos rfl]
 exact h
theorem ite2 {c A B:Prop} [Decidable c] (h1:c->A) (h2:¬ c->B):if c then A else B:=by
 by_cases h:c
 ·rw [if_pos h]
  exact h1 h
 ·rw [if_neg h]
  exact h2 h
def Same (H H':Hp):Prop:=∀ b o,H b = some o->H' b = some o
theorem Same.refl (H:Hp):Same H H:=fun _ _ h=>h
theorem Same.trans {H H1 H2:Hp} (a:Same H H1) (b:Same H1 H2):Same H H2:=fun c o h=>b c o (a c o h)
theorem Same.free {H H' : Hp} (e : Same H H') {l : Addr} (h : H' l = Option.none) : H l = Option.none := by
  cases q : H l with
  | none => rfl
  | some o =>
    rw [e l o q] at h
    cases h
theorem Same.seq {K:PySem.W.Frag} {H H':Hp} {a:Addr} {xs:List V} (e:Same H H') (h:SqL K H a xs):SqL K H' a xs:=by
 rcases h with (h | ⟨o,h⟩) | h
 ·exact .inl (.inl (e _ _ h))
 ·exact .inl (.inr ⟨o,e _ _ h⟩)
 ·exact .inr h
end L2
set_option maxHeartbeats 8000000
namespace L2
open PySem PySem.Spec PyProof.Rows
theorem clos_go {env : Env} : ∀ (ns : List (Str × NameKind)) (acc : List (Str × Addr)), (∀ y ∈ ns, y.2 = .free -> ∃ c, env.cells.lookup y.1 = some c) -> (∀ x c, acc.lookup x = some c -> env.cells.lookup x = some c) ->
    ∃ cl, (forIn ns acc fun (y : Str × NameKind) cs => (if (y.2 == .free) = true then (do let c <- cellOf env y.1; pure (ForInStep.yield ((y.1, c) :: cs))) else pure (ForInStep.yield cs) : Sem (ForInStep (List (Str × Addr))))) = pure cl /\
      (∀ x c, cl.lookup x = some c -> env.cells.lookup x = some c) /\ (∀ y ∈ ns, y.2 = .free -> ∃ c, cl.lookup y.1 = some c) /\ ∀ x c, acc.lookup x = some c -> ∃ c', cl.lookup x = some c'
  | [], acc, _, ha => ⟨acc, rfl, ha, (fun _ h => nomatch h), fun x c e => ⟨c, e⟩⟩
  | (n, k) :: r, acc, hf, ha => by
    rw [List.forIn_cons]
    by_cases hk : k = .free
    · subst hk
      obtain ⟨c, hc⟩ := hf (n, .free) List.mem_cons_self rfl
      have hcell : cellOf env n = pure c := by unfold cellOf; rw [hc]
      have ha' : ∀ x c', List.lookup x ((n, c) :: acc) = some c' -> env.cells.lookup x = some c' := fun x c' e => by
        rw [List.lookup_cons] at e
        cases hx : x == n with
        | true => rw [hx] at e; simp at e; subst e; rw [eq_of_beq hx]; exact hc
        | false => rw [hx] at e; exact ha x c' e
      obtain ⟨cl, e1, e2, e3, e4⟩ := clos_go r ((n, c) :: acc) (fun y hy => hf y (List.mem_cons_of_mem _ hy)) ha'
      refine ⟨cl, ?_, e2, fun y hy hyf => ?_, fun x c' e => ?_⟩
      · simp only [beq_self_eq_true, if_true, hcell, pure_bind]
        exact e1
      · rcases List.mem_cons.mp hy with rfl | hy
        · exact e4 n c (by simp [List.lookup_cons])
        · exact e3 y hy hyf
      · cases hx : x == n with
        | true => rw [eq_of_beq hx]; exact e4 n c (by simp [List.lookup_cons])
        | false => exact e4 x c' (by rw [List.lookup_cons, hx]; exact e)
    · have hb : (k == NameKind.free) = false := by simpa using hk
      obtain ⟨cl, e1, e2, e3, e4⟩ := clos_go r acc (fun y hy => hf y (List.mem_cons_of_mem _ hy)) ha
      refine ⟨cl, ?_, e2, fun y hy hyf => ?_, e4⟩
      · simp only [hb, Bool.false_eq_true, if_false, pure_bind]
        exact e1
      · rcases List.mem_cons.mp hy with rfl | hy
        · exact absurd hyf hk
        · exact e3 y hy hyf
theorem clos_ex {scope:Scope} {env:Env} (h:∀ y ∈ scope.names,y.2 = .free->∃ c,env.cells.lookup y.1 = some c) :
  ∃ cl,closureFor scope env = pure cl/\(∀ x c,cl.lookup x = some c->env.cells.lookup x = some c)/\∀ y ∈ scope.names,y.2 = .free->∃ c,cl.lookup y.1 = some c:=by
 obtain ⟨cl,e1,e2,e3,_⟩:=clos_go (env:=env) scope.names [] h (fun x c e=>nomatch e)
 refine ⟨cl,?_,e2,e3⟩
 have e:closureFor scope env = (forIn scope.names ([]:List (Str × Addr)) fun (y:Str × NameKind) cs=>(if (y.2 == .free) = true then (do let c <- cellOf env y.1; pure (ForInStep.yield ((y.1,c) :: cs))) else pure (ForInStep.yield cs):Sem (ForInStep (List (Str × Addr))))) >>= pure:=by
  rfl
 rw [e,e1,pure_bind]
def cxIn (X:Cx) (own:List Str) (sel:List Nat) (scope:Scope) (cl:List (Str × Addr)) (C:Addr) (s2:Shared) (H2:Hp) (fp:List Addr):Cx where
 prog:=X.prog
 w:=X.w
 K:=X.K
 mg:=X.mg
 base:=X.base
 A:=X.A
 N:=own ++ sel.map fun j=>X.N.getD j Str.empty
 s₀:=s2
 H₀:=H2
 env:=compEnvC scope cl C X.env
 outer:=X.stack
 stack:=X.stack
 ex:=fp
 fn:=fun _=>false
 calm:=X.calm
 pn:=[]
 xe:=fun _ _=>False
def inSt (own:List Str) (sel:List Nat) (σ:St):St:=own.map (fun _=>none) ++ sel.map fun j=>σ.getD j none
structure CompOk (osc:Scope) (N:List Str) (own:List Str) (sel:List Nat) (scope:Scope):Prop where
 kind:scope.kind = .function
 cell:∀ y ∈ scope.names,y.2 ≠ .cell
 names:∀ y ∈ scope.names,y.2 = .local->scope.names.lookup y.1 = some .local
 free:∀ y ∈ scope.names,y.2 = .free->osc.names.lookup y.1 = some .cell\/osc.names.lookup y.1 = some .free
 seln:∀ j ∈ sel,j < N.length/\scope.names.lookup (N.getD j Str.empty) = some .free/\(osc.names.lookup (N.getD j Str.empty) = some .cell\/osc.names.lookup (N.getD j Str.empty) = some .free)
def PIf (Y:Cx) (ifs:List Expr) (t:TT):Prop :=
 ∀ (pins:List (Addr × Obj)) (s:Shared) (σ:St) (H:Hp) (Q:Bool->Hp->Prop),Inv Y pins σ H s->t σ H Q ->
  wpAny (model Y.prog Y.w) Y.A (forIn ifs true fun c r=>if r = true then do let ok <- isTrue c Y.env (eval c Y.env); pure (ForInStep.yield ok) else pure (ForInStep.yield r)) (TP Y pins σ Q) Y.xe s
def tYes:TT:=fun _ H Q=>Q true H
theorem pif_nil {Y:Cx}:PIf Y [] tYes:=fun pins s σ H Q I h=>wpAny_tests_nil ⟨H,I,h⟩
theorem pif_one {Y:Cx} {c:Expr} {t:TT} (h:PT Y c t):PIf Y [c] t:=fun pins s σ H Q I hw=>wpAny_tests_one (h pins s σ H Q I hw)
def GK (n:Nat) (g:TG):Prop:=∀ v σ H Q,g v σ H Q->g v σ H fun σ' H'=>Q σ' H'/\σ'.length = σ.length/\∀ i,n <= i->σ'[i]? = σ[i]?
def GKs (n:Nat) (g:TGs):Prop:=∀ vs σ H Q,g vs σ H Q->g vs σ H fun σ' H'=>Q σ' H'/\σ'.length = σ.length/\∀ i,n <= i->σ'[i]? = σ[i]?
theorem gk_name {n i:Nat} (h:i < n):GK n (gName i):=fun v σ H Q q=>⟨q,by simp,fun j hj=>by rw [List.getElem?_set_ne (by omega)]⟩
theorem gk_nil {n:Nat}:GKs n gNil:=fun vs σ H Q q=>⟨q.1,q.2,rfl,fun _ _=>rfl⟩
def GM (g:TG):Prop:=∀ v σ H Q Q',(∀ σ' H',Q σ' H'->Q' σ' H')->g v σ H Q->g v σ H Q'
def GMs (g:TGs):Prop:=∀ vs σ H Q Q',(∀ σ' H',Q σ' H'->Q' σ' H')->g vs σ H Q->g vs σ H Q'
theorem gm_name {i:Nat}:GM (gName i):=fun _ _ _ _ _ h q=>h _ _ q
theorem gm_nil:GMs gNil:=fun _ _ _ _ _ h q=>⟨q.1,h _ _ q.2⟩
theorem gm_cons {t:TG} {u:TGs} (h1:GM t) (h2:GMs u):GMs (gCons t u):=fun vs σ H Q Q' h ⟨v,r,e,q⟩=>⟨v,r,e,h1 _ _ _ _ _ (fun σ' H' z=>h2 _ _ _ _ _ h z) q⟩
theorem gk_cons {n:Nat} {t:TG} {u:TGs} (m1:GM t) (m2:GMs u) (h1:GK n t) (h2:GKs n u):GKs n (gCons t u):=fun vs σ H Q ⟨v,r,e,q⟩=>by
 refine ⟨v,r,e,m1 _ _ _ _ _ (fun σ' H' z=>?_) (h1 _ _ _ _ q)⟩
 obtain ⟨q',l,k⟩:=z
 exact m2 _ _ _ _ _ (fun σ2 H2 ⟨a,b,c⟩=>⟨a,b.trans l,fun i hi=>(c i hi).trans (k i hi)⟩) (h2 _ _ _ _ q')
theorem gk_tup {K:PySem.W.Frag} {n m:Nat} {t:TGs} (h:GKs n t):GK n (gTup K m t):=fun v σ H Q ⟨a,xs,e1,e2,e3,q⟩=>⟨a,xs,e1,e2,e3,h _ _ _ _ q⟩
def tComp (own : List Str) (sel : List Nat) (wi : TI) (g : TG) (tt : TT) (te : TE) : TE := fun σ H Q => wi σ H fun J H1 => ∀ D, H1 D = none ->
 ∃ W : Nat -> Nat -> Hp -> Prop, (∃ m, W 0 m (upd H1 D (.lst []))) /\ ∀ i m H2, W i m H2 ->
  (J.stop i H2 /\ Q (.ref D) H2) \/ (J.go i H2 /\ ∀ x H3, J.yld i H2 x H3 -> g x (inSt own sel σ) H3 fun σ4 H4 => tt σ4 H4 fun b H5 =>
   if b = true then te σ4 H5 fun v H6 => ∃ ys, H6 D = some (.lst ys) /\ ys.length < sizeLine /\ ∃ m', m' < m /\ W (i + 1) m' (upd H6 D (.lst (ys ++ [v])))
   else ∃ m', m' < m /\ W (i + 1) m' H5)
section
variable {prog:Program} {w:World} {A:Around} {R:Result->Shared->Prop} {s:Shared}
theorem comp_turns {elt target iter : Expr} {ifs : List Expr} {scope : Scope} {pos : Pos} {it acc : Value} {env : Env} (I : Nat -> Shared -> Prop)
    (turn : ∀ n s, I n s -> wpAny (model prog w) A (pyNext it) (fun r s1 => match r with
      | none => R (.ok .next) s1
      | some v => wpAny (model prog w) A (letOwnedTupleGo target it v) (fun _ s0 => wpAny (model prog w) A (assign target env v) (fun _ s2 =>
          wpAny (model prog w) A (forIn ifs true fun c r => if r = true then do let ok <- isTrue c env (eval c env); pure (ForInStep.yield ok) else pure (ForInStep.yield r)) (fun ok s3 =>
            if ok = true then wpAny (model prog w) A (eval elt env) (fun x s4 => wpAny (model prog w) A (call (.builtin "list.append") [acc, x]) (fun _ s5 => ∃ m, m < n /\ I m s5) (fun _ _ => False) s4) (fun _ _ => False) s3
            else ∃ m, m < n /\ I m s3) (fun _ _ => False) s2) (fun _ _ => False) s0) (fun _ _ => False) s1) (fun _ _ => False) s)
    (n : Nat) (h : I n s) :
    codeAny (model prog w) A (.compLoop (.ListComp elt [⟨target, iter, ifs, 0⟩] scope pos) 0 it acc env) R s := by
  refine codeAny_loop rfl I (fun n s hI => ?_) n h
  show wpAny _ A ((compTurn (.ListComp elt [⟨target, iter, ifs, 0⟩] scope pos) 0 it acc env).onRaise (fun x => do noteFrame x env; theTreesLotGoes x)) _ _ s
  refine wpAny_noted ?_
  rw [compTurn_list]
  refine wpAny_bind (wpAny_standAt (wpAny_bind (wpAny_mono (turn n s hI) (fun r s1 h1 => ?_) fun _ _ z => z.elim)))
  cases r with
  | none => exact wpAny_pure h1
  | some v =>
    refine wpAny_bind (wpAny_mono h1 (fun _ s0 h0 => wpAny_bind (wpAny_mono h0 (fun _ s2 h2 => wpAny_bind (wpAny_mono h2 (fun ok s3 h3 => ?_) fun _ _ z => z.elim)) fun _ _ z => z.elim)) fun _ _ z => z.elim)
    cases ok with
    | false => exact wpAny_pure ⟨rfl, h3⟩
    | true =>
      exact wpAny_bind (wpAny_bind (wpAny_mono h3 (fun x s4 h4 => wpAny_bind (wpAny_mono h4 (fun _ s5 h5 => wpAny_pure (wpAny_pure ⟨rfl, h5⟩)) fun _ _ z => z.elim)) fun _ _ z => z.elim))
end
section
variable {X:Cx}
theorem relabel_lookup {env : Env} : ∀ {names : List (Str × NameKind)} {x : Str} {k : NameKind},
    (names.map fun (n, k) => if (k == NameKind.free && env.scope.kind == .function && env.kindOf n == some .cell) then (n, NameKind.cell) else (n, k)).lookup x = some k ->
    names.lookup x = some k \/ names.lookup x = some .free
  | [], _, _, h => by simp at h
  | (n, k') :: r, x, k, h => by
    have ih := @relabel_lookup env r x k
    have h' : List.lookup x ((if (k' == NameKind.free && env.scope.kind == .function && env.kindOf n == some .cell) = true then (n, NameKind.cell) else (n, k')) :: r.map fun (n, k) => if (k == NameKind.free && env.scope.kind == .function && env.kindOf n == some .cell) then (n, NameKind.cell) else (n, k)) = some k := h
    cases hx : x == n with
    | true =>
      rw [List.lookup_cons, hx]
      by_cases hc : (k' == NameKind.free && env.scope.kind == .function && env.kindOf n == some .cell) = true
      · have : k' = .free := by simp only [Bool.and_eq_true, beq_iff_eq] at hc; exact hc.1.1
        subst this
        exact .inr rfl
      · rw [if_neg hc, List.lookup_cons, hx] at h'
        exact .inl h'
    | false =>
      rw [List.lookup_cons, hx]
      by_cases hc : (k' == NameKind.free && env.scope.kind == .function && env.kindOf n == some .cell) = true
      · rw [if_pos hc, List.lookup_cons, hx] at h'; exact ih h'
      · rw [if_neg hc, List.lookup_cons, hx] at h'; exact ih h'
theorem relabel_free {env : Env} (hk : env.scope.kind = .function) : ∀ {names : List (Str × NameKind)} {x : Str}, names.lookup x = some .free ->
    (names.map fun (n, k) => if (k == NameKind.free && env.scope.kind == .function && env.kindOf n == some .cell) then (n, NameKind.cell) else (n, k)).lookup x = some .cell \/
    (names.map fun (n, k) => if (k == NameKind.free && env.scope.kind == .function && env.kindOf n == some .cell) then (n, NameKind.cell) else (n, k)).lookup x = some .free
  | [], _, h => by simp at h
  | (n, k') :: r, x, h => by
    have ih := @relabel_free env hk r x
    show List.lookup x ((if (k' == NameKind.free && env.scope.kind == .function && env.kindOf n == some .cell) = true then (n, NameKind.cell) else (n, k')) :: _) = _ \/ List.lookup x ((if (k' == NameKind.free && env.scope.kind == .function && env.kindOf n == some .cell) = true then (n, NameKind.cell) else (n, k')) :: _) = _
    cases hx : x == n with
    | true =>
      rw [List.lookup_cons, hx] at h
      by_cases hc : (k' == NameKind.free && env.scope.kind == .function && env.kindOf n == some .cell) = true
      · rw [if_pos hc, List.lookup_cons, hx]; exact .inl rfl
      · rw [if_neg hc, List.lookup_cons, hx]; exact .inr h
    | false =>
      rw [List.lookup_cons, hx] at h
      by_cases hc : (k' == NameKind.free && env.scope.kind == .function && env.kindOf n == some .cell) = true
      · rw [if_pos hc, List.lookup_cons, hx]; exact ih h
      · rw [if_neg hc, List.lookup_cons, hx]; exact ih h
end
end L2
namespace L2
open PySem PySem.Spec PyProof.Rows
section
variable {X:Cx}
theorem inSt_own {own:List Str} {sel:List Nat} {σ:St} {i:Nat} (h:i < own.length):(inSt own sel σ)[i]? = some none:=by
 unfold inSt
 rw [List.getElem?_append_left (by simpa using h),List.getElem?_map,List.getElem?_eq_getElem h]
 rfl
theorem inSt_sel {own : List Str} {sel : List Nat} {σ : St} {i : Nat} {v : V} (h : (inSt own sel σ)[i]? = some (some v)) : ∃ k j, i = own.length + k /\ sel[k]? = some j /\ σ[j]? = some (some v) := by
  by_cases hi : i < own.length
  · rw [inSt_own hi] at h; cases h
  · unfold inSt at h
    rw [List.getElem?_append_right (by simpa using hi), List.getElem?_map] at h
    rw [List.length_map] at h
    cases e : sel[i - own.length]? with
    | none => rw [e] at h; cases h
    | some j =>
      rw [e] at h
      simp only [Option.map_some, Option.some.injEq] at h
      refine ⟨i - own.length, j, by omega, e, ?_⟩
      rw [List.getD_eq_getElem?_getD] at h
      cases q : σ[j]? with
      | none => rw [q] at h; cases h
      | some u => rw [q] at h; simp at h; rw [h]
theorem inSt_len {own:List Str} {sel:List Nat} {σ:St}:(inSt own sel σ).length = own.length + sel.length:=by
 unfold inSt; simp
structure Far (X:Cx) (pins:List (Addr × Obj)) (H:Hp) (C:Addr):Prop where
 nt:H C = none
 nl:C ≠ X.env.locals
 up:X.s₀.heap.objs.size <= C
 nc:∀ x c,X.env.cells.lookup x = some c->c ≠ C
 np:∀ p ∈ X.pn ++ pins,p.1 ≠ C
theorem Inv.far {pins:List (Addr × Obj)} {σ:St} {H:Hp} {s:Shared} {h':Heap} {C:Addr} (I:Inv X pins σ H s) (f:Far X pins H C) (k:Heap.SameBut C s.heap h'):Inv X pins σ H { s with heap:=h' } :=
 I.turned (t':=s.toks) (fun b o hb e=>(k.2 b hb).trans e) f.nt f.nl (.inr f.up) f.nc f.np
theorem comp_core {elt tg iter : Expr} {ifs : List Expr} {scope : Scope} {pos : Pos} {own : List Str} {sel : List Nat} {wi : TI} {g : TG} {tt : TT} {te : TE} {use : Option (Value -> Sem Unit)} {Qo : Value -> Shared -> Prop}
    (S : CompOk X.env.scope X.N own sel scope) (hc : X.calm = true) (hi : PI X tg iter wi)
    (hg : ∀ cl C s2 H2 fp, PG (cxIn X own sel scope cl C s2 H2 fp) tg g) (hk : GK own.length g)
    (ht : ∀ cl C s2 H2 fp, PIf (cxIn X own sel scope cl C s2 H2 fp) ifs tt) (he : ∀ cl C s2 H2 fp, PE (cxIn X own sel scope cl C s2 H2 fp) elt te)
    (hs : ∀ x, foldedSetIterable iter X.env x = pure x) {pins : List (Addr × Obj)} {s : Shared} {σ : St} {H : Hp} {Q : VK} {ps : Pos} (I0 : Inv X pins σ H s) (h : tComp own sel wi g tt te σ H Q)
    (fin : ∀ (D C : Addr) (H' : Hp) (s' : Shared) (m : Str -> Option Value), Inv X pins σ H' s' -> s'.heap.Ns C m -> Far X pins H' C -> Q (.ref D) H' -> compPost (model X.prog X.w) X.A X.xe use Qo (.ref D) C (.ok .next) s') :
    wpAny (model X.prog X.w) X.A (comprehension (.ListComp elt [⟨tg, iter, ifs, 0⟩] scope pos) scope X.env ps (newList []) false (eval iter X.env) use) Qo X.xe s := by
  obtain ⟨cl, hclos, hcl, hfree⟩ := clos_ex (scope := scope) (env := X.env) fun y hy e => I0.ok.has y.1 (S.free y hy e)
  refine wpAny_comprehension_free (use := use) rfl hs hclos S.kind S.names (thn (hi pins s σ H _ I0 h) fun v s1 h1 => thn h1 fun itv s2 h2 => ?_)
  obtain ⟨it, fp, tn, J, H2, e, I, T, st2, f2, h3⟩ := h2
  subst e
  clear h h1 I0
  refine wpAny_newObj_type (wpAny_newFunctionEnv S.cell (by intro y hy; simp at hy) (fun h1 hns1 hsb1 => ?_) S.kind)
  dsimp only at hns1 hsb1 ⊢
  generalize hP : s2.heap.push { cls := .type "list", dict := none, data := .seq ([] : List Value).toArray } = P1 at hns1 hsb1 ⊢
  generalize hD : s2.heap.objs.size = D at hns1 hsb1 ⊢
  generalize hC : P1.objs.size = C at hns1 hsb1 ⊢
  have hCD : C = D + 1 := by rw [<- hC, <- hP, Heap.size_push, hD]
  have hlt : D < C := by rw [hCD]; exact Nat.lt_succ_self D
  have hDC : D ≠ C := Nat.ne_of_lt hlt
  have neC : ∀ b : Addr, b < D -> b ≠ C := fun b hb => Nat.ne_of_lt (Nat.lt_trans hb hlt)
  have neD : ∀ b : Addr, b < D -> b ≠ D := fun b hb => Nat.ne_of_lt hb
  have hsD : s2.heap.objs.size <= D := Nat.le_of_eq hD
  have hsC : s2.heap.objs.size <= C := Nat.le_trans hsD (Nat.le_of_lt hlt)
  have fresh : ∀ a, D <= a -> H2 a = none := fun a ha => I.hok.fresh (by rw [hD]; exact ha)
  have hnD : H2 D = none := fresh D (Nat.le_refl _)
  have hnC : H2 C = none := fresh C (Nat.le_of_lt hlt)
  have below : ∀ b o, s2.heap.get? b = some o -> b < D := fun b o e => by rw [<- hD]; exact Heap.lt_size e
  have keep1 : ∀ b o, s2.heap.get? b = some o -> h1.get? b = some o := fun b o e =>
    hsb1.extBut b o (neC b (below b o e)) (Heap.get?_push_of_some _ (hP ▸ Heap.get?_push_of_some _ e))
  have gD : h1.get? D = some { cls := .type "list", dict := none, data := .seq ([] : List Value).toArray } := by
    refine hsb1.extBut _ _ hDC (Heap.get?_push_of_some _ ?_)
    rw [<- hP, <- hD]
    exact Heap.get?_push_size _ rfl
  obtain ⟨W, ⟨m0, w0⟩, turn⟩ := h3 D hnD
  have fpb : ∀ b ∈ fp, b < D := fun b hb => by obtain ⟨o, e, _⟩ := T.obj _ _ st2 b hb; exact below b o e
  generalize hY : cxIn X own sel scope cl C s2 H2 fp = Y
  have hg := hg cl C s2 H2 fp
  have ht := ht cl C s2 H2 fp
  have he := he cl C s2 H2 fp
  rw [hY] at hg ht he
  have okY : Y.Ok := by
    subst hY
    refine ⟨I.ok.mod, S.kind, I.ok.glob, I.ok.blt, ?_, fun x y c a b => I.ok.inj x y c (hcl _ _ a) (hcl _ _ b), fun x hx => ?_, (fun _ _ z => nomatch z), fun z => I.ok.hd z, I.ok.frames, .inl rfl, fun b hb => ⟨?_, fun x c e => (f2 b hb).2.2.2.2.1 x c (hcl _ _ e)⟩, I.bs,
      Nat.le_trans I.ok.bsz I.sz, fun b o e hb => ?_, fun b hb z => ?_, I.stack, I.stkFree⟩
    · exact hsC
    · have hx' : (relabel scope X.env).names.lookup x = some .cell \/ (relabel scope X.env).names.lookup x = some .free := hx
      have hf : scope.names.lookup x = some .free := by
        rcases hx' with z | z
        · rcases relabel_lookup z with q | q
          · exact absurd rfl (S.cell _ (PySem.mem_of_lookup q))
          · exact q
        · rcases relabel_lookup z with q | q <;> exact q
      exact hfree _ (PySem.mem_of_lookup hf) rfl
    · exact neC b (fpb b hb)
    · rcases (f2 b hb).2.2.2.1 with z | z
      · exact I.ok.noex b o e z
      · exact absurd (Nat.lt_of_lt_of_le (Heap.lt_size e) (Nat.le_trans I.ok.bsz z)) (Nat.lt_irrefl _)
    · rcases List.mem_cons.mp (I.stkSub b z) with q | q
      · exact (f2 b hb).2.1 q
      · exact (f2 b hb).2.2.1 q
  have eo : ObjOk X.prog X.w (upd H2 D (.lst [])) h1 D (.lst []) := ⟨by decide, [], _, .nil, gD⟩
  have I1 : Inv Y [] (inSt own sel σ) (upd H2 D (.lst [])) { s2 with heap := h1, toks := s2.toks + ([] : List (Str × Value)).length } := by
    subst hY
    refine ⟨okY, rfl, I.bare, Un.laid keep1 hsD hnD, ⟨_, hns1, fun i x v e1 e2 e3 => ?_⟩, fun x c e => ?_, ?_, fun x c e => ?_, fun p hp => absurd (show p ∈ ([] : List (Addr × Obj)) from hp) (by simp), I.hok.laid keep1 hsD eo, ?_⟩
    · obtain ⟨k, j, ei, ej, es⟩ := inSt_sel e2
      subst ei
      have e1' : (own ++ sel.map fun j => X.N.getD j Str.empty)[own.length + k]? = some x := e1
      rw [List.getElem?_append_right (by omega), List.getElem?_map, show own.length + k - own.length = k by omega, ej] at e1'
      simp only [Option.map_some, Option.some.injEq] at e1'
      obtain ⟨hj, hfx, hkd⟩ := S.seln j (List.mem_of_getElem? ej)
      have hN : X.N[j]? = some x := by rw [<- e1', List.getD_eq_getElem?_getD, List.getElem?_eq_getElem hj]; rfl
      rw [e1'] at hkd hfx
      obtain ⟨m, _, hl⟩ := I.loc
      obtain ⟨u, r, lk⟩ := hl j x v hN es (.inr hkd)
      refine ⟨u, r, .inr ⟨relabel_free I.ok.kind hfx, ?_⟩⟩
      rcases lk with ⟨z1, _⟩ | ⟨_, c, hc1, hc2⟩
      · have z1' : X.env.scope.names.lookup x = some .local := z1
        rcases hkd with q | q <;> (rw [z1'] at q; cases q)
      · obtain ⟨c', q⟩ := hfree _ (PySem.mem_of_lookup hfx) rfl
        have q2 := hcl _ _ q
        rw [hc1] at q2
        cases q2
        exact ⟨c, q, hc2.keeps keep1⟩
    · obtain ⟨u, z⟩ := I.cell x c (hcl _ _ e)
      exact ⟨u, z.keeps keep1⟩
    · show upd H2 D (.lst []) C = none
      rw [upd_ne (Ne.symm hDC)]; exact hnC
    · have q := I.freeC x c (hcl _ _ e)
      obtain ⟨u, o, z, _⟩ := I.cell x c (hcl _ _ e)
      rw [upd_ne (neD c (below c o z))]
      exact q
    · show (inSt own sel σ).length = (own ++ sel.map fun j => X.N.getD j Str.empty).length
      rw [inSt_len]; simp
  have fin : ∀ (σ' : St) (H' : Hp) (s' : Shared), Inv Y [] σ' H' s' -> Q (.ref D) H' -> compPost (model X.prog X.w) X.A X.xe use Qo (.ref D) C (.ok .next) s' := by
    intro σ' H' s' I' q
    subst hY
    obtain ⟨m, hn, _⟩ := I'.loc
    have J' : Inv X pins σ H' s' := I.call' I'.os I'.base I'.hok I'.bare fun b hb => ⟨(f2 b hb).2.2.2.1, (f2 b hb).2.1, (f2 b hb).2.2.2.2.1, (f2 b hb).2.2.2.2.2⟩
    refine fin D C H' s' m J' hn ⟨I'.free, Ne.symm (neC _ (by rw [<- hD]; exact I.lt)), Nat.le_trans I.sz hsC, fun x c e => ?_, fun p hp => ?_⟩ q
    · obtain ⟨u, o, z, _⟩ := I.cell x c e
      exact neC c (below c o z)
    · exact neC p.1 (below p.1 p.2 (I.pin p hp).1)
  have stat : ∀ {H' : Hp}, (∀ b ∈ fp, H' b = none) -> ∀ b ∈ fp, FpOk Y [] H' b := fun {H'} hn b hb => by
    subst hY
    refine ⟨hn b hb, neC b (fpb b hb), fun z => ?_, .inl hb, fun x c e => (f2 b hb).2.2.2.2.1 x c (hcl _ _ e), fun p hp => absurd (show p ∈ ([] : List (Addr × Obj)) from hp) (by simp)⟩
    rcases List.mem_cons.mp (I.stkSub b z) with q | q
    · exact (f2 b hb).2.1 q
    · exact (f2 b hb).2.2.1 q
  have loop : ∀ s3 : Shared, s3 = { s2 with heap := h1, toks := s2.toks + ([] : List (Str × Value)).length } ->
      codeAny (model X.prog X.w) X.A (.compLoop (.ListComp elt [⟨tg, iter, ifs, 0⟩] scope pos) 0 (.ref it) (.ref D) (compEnvC scope cl C X.env)) (compPost (model X.prog X.w) X.A X.xe use Qo (.ref D) C) s3 := by
    rintro s3 rfl
    have eP : Y.prog = X.prog := by subst hY; rfl
    have eW : Y.w = X.w := by subst hY; rfl
    have eA : Y.A = X.A := by subst hY; rfl
    have eK : Y.K = X.K := by subst hY; rfl
    have eE : Y.env = compEnvC scope cl C X.env := by subst hY; rfl
    have eX : Y.xe = fun _ _ => False := by subst hY; rfl
    have eC : Y.calm = true := by subst hY; exact hc
    refine comp_turns (fun n s' => ∃ i H', Inv Y [] (inSt own sel σ) H' s' /\ tn i s'.heap /\ (∀ b ∈ fp, H' b = none) /\ W i n H') ?_ m0
      ⟨0, _, I1, T.keep _ _ _ st2 fun b _ o e => keep1 b o e, fun b hb => by rw [upd_ne (neD b (fpb b hb))]; exact (f2 b hb).1, w0⟩
    rintro n s4 ⟨i, H4, I4, st4, fr4, w4⟩
    rcases turn i n H4 w4 with ⟨stop, q⟩ | ⟨go, step⟩
    · have dn := T.done Y eP eW eK eC i [] s4 _ H4 (fun _ _ => False) I4 (stat fr4) st4 stop
      rw [eA] at dn
      refine thn dn fun r s5 ⟨hr, I5⟩ => ?_
      subst hr
      exact fin _ _ _ I5 q
    · have im := T.item Y eP eW eK eC i [] s4 _ H4 (fun _ _ => False) I4 (stat fr4) st4 go
      rw [eA] at im
      refine thn im fun r s5 ⟨u, hr, h5⟩ => ?_
      subst hr
      refine thn h5 fun _ s6 ⟨x, H6, I6, r6, y6, st6, fr6⟩ => ?_
      have I6' := I6.pinned (stat fr6) (T.obj _ _ st6)
      have back : ∀ {σ7 : St} {H7 : Hp} {s7 : Shared} {k : Nat}, Inv Y ([] ++ pinsAt fp s6.heap) σ7 H7 s7 -> σ7.length = (inSt own sel σ).length -> (∀ j, own.length <= j -> σ7[j]? = (inSt own sel σ)[j]?) -> (∃ m', m' < n /\ W (i + 1) m' H7) ->
          ∃ m', m' < n /\ ∃ i H', Inv Y [] (inSt own sel σ) H' s7 /\ tn i s7.heap /\ (∀ b ∈ fp, H' b = none) /\ W i m' H' := fun {σ7 H7 s7 k} I7 l7 k7 w7 => by
        obtain ⟨m', hm, w7⟩ := w7
        refine ⟨m', hm, i + 1, H7, I7.unpinned.weak l7.symm fun j v e => ?_, T.keep _ _ _ st6 fun b hb o e => (I7.pin (b, o) (List.mem_append_right _ (List.mem_append_right _ (mem_pinsAt hb e)))).1, fun b hb => ?_, w7⟩
        · by_cases hj : j < own.length
          · rw [inSt_own hj] at e; cases e
          · rw [k7 j (Nat.le_of_not_lt hj)]; exact e
        · obtain ⟨o, e, d⟩ := T.obj _ _ st6 b hb
          exact (I7.pin (b, o) (List.mem_append_right _ (List.mem_append_right _ (mem_pinsAt hb e)))).2.1
      have ga := hg _ s6 _ H6 x u _ I6' r6 (hk _ _ _ _ (step x H6 y6))
      rw [eP, eW, eA, eE, eX] at ga
      refine thn ga fun _ s7 ⟨σ7, H7, I7, q7, l7, k7⟩ => ?_
      have ta := ht _ s7 σ7 H7 _ I7 q7
      rw [eP, eW, eA, eE, eX] at ta
      refine thn ta fun b s8 ⟨H8, I8, q8⟩ => ?_
      cases b with
      | false =>
        rw [if_neg Bool.false_ne_true] at q8 ⊢
        exact back (k := 0) I8 l7 k7 q8
      | true =>
        rw [if_pos rfl] at q8 ⊢
        have ea := he _ s8 σ7 H8 _ I8 q8
        rw [eP, eW, eA, eE, eX] at ea
        refine thn ea fun v s9 ⟨x9, H9, I9, r9, ys, hD9, hz9, q9⟩ => ?_
        have aa := mt_append (X := Y) _ s9 σ7 H9 (.ref D) [x9] (.ref D) [v] (fun _ H' => ∃ m', m' < n /\ W (i + 1) m' H') I9 rfl (.cons r9 .nil) ⟨D, ys, x9, rfl, rfl, hD9, hz9, q9⟩
        rw [eP, eW, eA, eX] at aa
        exact thn aa fun _ s10 ⟨_, H10, I10, _, q10⟩ => back (k := 0) I10 l7 k7 q10
  exact codeAny_compStart_list (loop _ rfl) (T.self X.A 0 _ _ _ (T.keep _ _ _ st2 fun b _ o e => keep1 b o e) (loop _ rfl))
theorem pe_comp {elt tg iter:Expr} {ifs:List Expr} {scope:Scope} {pos:Pos} {own:List Str} {sel:List Nat} {wi:TI} {g:TG} {tt:TT} {te:TE}
  (S:CompOk X.env.scope X.N own sel scope) (hc:X.calm = true) (hi:PI X tg iter wi)
  (hg:∀ cl C s2 H2 fp,PG (cxIn X own sel scope cl C s2 H2 fp) tg g) (hk:GK own.length g)
  (ht:∀ cl C s2 H2 fp,PIf (cxIn X own sel scope cl C s2 H2 fp) ifs tt) (he:∀ cl C s2 H2 fp,PE (cxIn X own sel scope cl C s2 H2 fp) elt te)
  (hs:∀ x,foldedSetIterable iter X.env x = pure x:=by intro _; rfl) :
  PE X (.ListComp elt [⟨tg,iter,ifs,0⟩] scope pos) (tComp own sel wi g tt te):=by
 intro pins s σ H Q I h
 rw [eval_ListComp]
 refine comp_core (use:=none) S hc hi hg hk ht he hs I h fun D C H' s' m I' hn f q=>?_
 exact ⟨m,hn,fun h' k=>⟨.ref D,H',I'.far f k,rfl,q⟩⟩
end
end L2
namespace L2
open PySem PySem.Spec PyProof.Rows
section
variable {X:Cx} {pins:List (Addr × Obj)} {σ:St} {H:Hp} {s:Shared} {h':Heap}
theorem Inv.bigAfter {ch:List Addr} (I:Inv X pins σ H s) (hf:∀ b ∈ ch,FpOk X pins H b) (k:∀ b u,b ∉ ch->s.heap.get? b = some u->h'.get? b = some u):∃ b o,1 < b/\h'.get? b = some o:=by
 obtain ⟨o,_,_,e,_⟩:=I.ok.mod.glob
 refine ⟨mainGlobals,o,by decide,k _ _ (fun z=>?_) (I.bk _ _ e)⟩
 rcases (hf _ z).2.2.2.1 with q | q
 ·exact I.ok.noex _ _ e q
 ·exact absurd (Nat.lt_of_lt_of_le (Heap.lt_size e) (Nat.le_trans I.ok.bsz q)) (Nat.lt_irrefl _)
theorem Inv.turnedLaid {a : Addr} {o : HO} {t' : Nat} {ch : List Addr} (I : Inv X pins σ H s) (hf : ∀ b ∈ ch, FpOk X pins H b) (k : ∀ b u, b ∉ ch -> s.heap.get? b = some u -> h'.get? b = some u) (hp : s.heap.objs.size <= a)
  (new : ObjOk X.prog X.w (upd H a o) h' a o) : Inv X pins σ (upd H a o) { s with heap := h', toks := t' } := by
 have hn : H a = none := I.hok.fresh hp
 have ne : ∀ b u, s.heap.get? b = some u -> b ≠ a := fun b u e => Nat.ne_of_lt (Nat.lt_of_lt_of_le (Heap.lt_size e) hp)
 have nt : ∀ b u, H b = some u -> b ∉ ch := fun b u e z => by rw [(hf b z).1] at e; cases e
 refine I.step (g' := s.gens) (d' := s.drawn) (ch := ch) (fun b hb => ⟨(hf b hb).2.2.2.1, (hf b hb).2.1, (hf b hb).2.2.2.2.1, (hf b hb).2.2.2.2.2⟩) (fun b u _ _ hc e _ => k b u hc e) (fun b u _ _ hc e _ => ⟨u.slots, k b u hc e⟩)
  (fun b u _ e n => by rw [upd_ne (ne b u e)]; exact n) (fun b u hc e => ⟨u, k b u hc e⟩) (fun b xs e => by rw [upd_ne (ne_of_none e hn)]; exact e) (fun b u xs e => by rw [upd_ne (ne_of_none e hn)]; exact e)
  (fun b ps e => ⟨#[], by rw [upd_ne (ne_of_none e hn), e]; simp⟩) (fun m hm => ?_) ⟨fun b u e => ?_, fun u e => I.hok.sm u (by
   by_cases hb : sysModules = a
   ·obtain ⟨b, o', l, q⟩ := I.hok.bg
    exact absurd (Nat.lt_trans l (show b < sysModules from by rw [hb]; exact Nat.lt_of_lt_of_le (Heap.lt_size q) hp)) (Nat.lt_irrefl 1)
   ·rw [upd_ne hb] at e; exact e), I.bigAfter hf k⟩ I.bare
 ·obtain ⟨ob, es, ep, ho, r⟩ := hm
  exact ⟨ob, es, ep, k _ ob (fun z => (hf _ z).2.1 rfl) ho, r⟩
 ·by_cases hb : b = a
  ·subst hb; rw [upd_same] at e; cases e; exact new
  ·rw [upd_ne hb] at e
   refine (I.hok b u e).stay (fun c v hc q => k c v ?_ q) (fun c q => by rw [upd_ne (ne_of_none q hn)]; exact q) fun c xs q => by rw [upd_ne (ne_of_none q hn)]; exact q
   rcases hc with z | z
   ·rw [z]; exact nt b u e
   ·exact nt c _ z
theorem Inv.turnedAll {t':Nat} {ch:List Addr} (I:Inv X pins σ H s) (hf:∀ b ∈ ch,FpOk X pins H b) (k:∀ b u,b ∉ ch->s.heap.get? b = some u->h'.get? b = some u):Inv X pins σ H { s with heap:=h',toks:=t' }:=by
 have nt:∀ b u,H b = some u->b ∉ ch:=fun b u e z=>by rw [(hf b z).1] at e; cases e
 refine I.step (g':=s.gens) (d':=s.drawn) (ch:=ch) (fun b hb=>⟨(hf b hb).2.2.2.1,(hf b hb).2.1,(hf b hb).2.2.2.2.1,(hf b hb).2.2.2.2.2⟩) (fun b u _ _ hc e _=>k b u hc e) (fun b u _ _ hc e _=>⟨u.slots,k b u hc e⟩)
  (fun b u _ e n=>n) (fun b u hc e=>⟨u,k b u hc e⟩) (fun b xs e=>e) (fun b u xs e=>e) (fun b ps e=>⟨#[],by rw [e]; simp⟩) (fun m hm=>?_) ⟨fun b u e=>?_,I.hok.sm,I.bigAfter hf k⟩ I.bare
 ·obtain ⟨ob,es,ep,ho,r⟩:=hm
  exact ⟨ob,es,ep,k _ ob (fun z=>(hf _ z).2.1 rfl) ho,r⟩
 ·refine (I.hok b u e).stay (fun c v hc q=>k c v ?_ q) (fun c q=>q) fun c xs q=>q
  rcases hc with z | z
  ·rw [z]; exact nt b u e
  ·exact nt c _ z
end
def Its (x:Str):It:=⟨fun i _=>i < x.cps.size,fun i H v H'=>H' = H/\∃ c,x.cps[i]? = some c/\v = .str ⟨#[c]⟩,fun i _=>i = x.cps.size⟩
section
variable {P:Program} {w:World} {K:PySem.W.Frag} {tg:Expr}
theorem turn_str {x:Str} {t:Tok} {T:String} {it:Addr} (hT:T = "str_ascii_iterator"\/T = "str_iterator")
  (W:∀ A:Around,A.handled = none->Walks P w A it [it] [it] x.cps.size (SignAt x) (fun i h=>h.IsStrIter it T x t i))
  (sf:∀ (A:Around) (i:Nat) (s:Shared) (Q:Value->Shared->Prop) (E:Value->Shared->Prop),s.heap.IsStrIter it T x t i->Q (.ref it) s->wpAny (model P w) A (pyIter (.ref it)) Q E s) :
  Turn P w K tg (Its x) [it] it (fun i h=>h.IsStrIter it T x t i) where
 mem:=by simp
 obj:=fun i h st b hb=>by
  obtain ⟨o,ho,_,hd⟩:=st
  have e:b = it:=by simpa using hb
  subst e
  exact ⟨o,ho,fun v z=>by rw [hd] at z; cases z⟩
 keep:=fun i h h' st k=>by
  obtain ⟨o,ho,r⟩:=st
  exact ⟨o,k it (by simp) o ho,r⟩
 item:=by
  intro X hP hw hK hc i pins s σ H E I hf st hg
  subst hP hw hK
  refine (W X.A (I.ok.hd hc)).item i s _ _ hg st fun v h' tk hv st' kk=>?_
  obtain ⟨c,u,hx,rfl⟩:=hv
  obtain ⟨o,ho,hcl,hd⟩:=id st'
  have I1:Inv X pins σ H { s with heap:=h',toks:=tk }:=I.turnedAll hf kk
  refine ⟨_,rfl,go_of (s:={ s with heap:=h',toks:=tk }) (n:=T) ho hcl hd (by rcases hT with rfl | rfl <;> decide) ⟨.str ⟨#[c]⟩,H,I1,⟨u,rfl⟩,⟨rfl,c,hx,rfl⟩,st',fun b hb=>(hf b hb).1⟩⟩
 done:=by
  intro X hP hw hK hc i pins s σ H E I hf st hg
  subst hP hw hK
  have e:i = x.cps.size:=hg
  subst e
  exact (W X.A (I.ok.hd hc)).done s _ _ st fun h' tk kk=>⟨rfl,I.turnedAll hf kk⟩
 self:=fun A i s Q E st h=>sf A i s Q E st h
end
def iStr (tl:TE):TI:=fun σ H R=>tl σ H fun x H1=>∃ z,x = .str z/\R (Its z) H1
theorem pi_str {X:Cx} {tg l:Expr} {tl:TE} (hl:PE X l tl):PI X tg l (iStr tl):=by
 intro pins s σ H R I h
 refine thn (hl pins s σ H _ I h) fun v s1 ⟨x,H1,I1,r1,q1⟩=>?_
 obtain ⟨z,rfl,q⟩:=q1
 obtain ⟨t,rfl⟩:=r1
 have side:∀ b ∈ [s1.heap.objs.size],FpOk X pins H1 b:=fun b hb=>by
  have e:b = s1.heap.objs.size:=by simpa using hb
  subst e
  exact I1.fpOk (Nat.le_refl _) (I1.hok.fresh (Nat.le_refl _))
 cases ha:z.cps.all (· < 128)
 ·refine wpAny_pyIter_wide ha ⟨s1.heap.objs.size,[s1.heap.objs.size],_,_,H1,rfl,I1.kept (t':=s1.toks) fun b o e=>Heap.get?_push_of_some _ e,turn_str (t:=t) (T:="str_iterator") (.inr rfl) (fun A hh=>Walks.strWide hh _ z t) (fun A i s Q E st h=>wpAny_pyIter_striter_wide st h),⟨_,Heap.get?_push_size _ rfl,rfl,rfl⟩,side,q⟩
 ·refine wpAny_pyIter_ascii ha ⟨s1.heap.objs.size,[s1.heap.objs.size],_,_,H1,rfl,I1.kept (t':=s1.toks) fun b o e=>Heap.get?_push_of_some _ e,turn_str (t:=t) (T:="str_ascii_iterator") (.inl rfl) (fun A hh=>Walks.strAscii hh _ z t) (fun A i s Q E st h=>wpAny_pyIter_striter_ascii st h),⟨_,Heap.get?_push_size _ rfl,rfl,rfl⟩,side,q⟩
section
variable {P:Program} {w:World} {K:PySem.W.Frag} {elts:List Expr} {k:Nat} {tpos:Pos}
end
section
variable {X:Cx} {a:Expr} {ta:TA} {p pos:Pos} {elts:List Expr} {k:Nat} {tpos:Pos}
end
end L2
namespace L2
open PySem PySem.Spec PyProof.Rows
def tx (l:List Nat):V:=.str ⟨l.toArray⟩
theorem tx_inj {a b:List Nat}:tx a = tx b ↔ a = b:=by
 unfold tx
 constructor
 ·intro h
  injection h with h
  injection h with h
  simpa using congrArg Array.toList h
 ·rintro rfl; rfl
theorem tx_len (a:List Nat):(⟨a.toArray⟩:Str).length = a.length:=by simp [Str.length]
theorem eqV_tx (a b:List Nat):eqV (tx a) (tx b) = decide (a = b):=by
 have e:eqV (tx a) (tx b) = ((⟨a.toArray⟩:Str) == ⟨b.toArray⟩):=rfl
 rw [e]
 by_cases h:a = b
 ·subst h; simp
 ·rw [decide_eq_false h,beq_eq_false_iff_ne]
  intro q
  exact h (tx_inj.mp (congrArg V.str q))
theorem dec_tx (a b:List Nat):decide (tx a = tx b) = decide (a = b):=by
 by_cases h:a = b
 ·subst h; simp
 ·rw [decide_eq_false h,decide_eq_false (fun q=>h (tx_inj.mp q))]
section
variable {X:Cx}
theorem pe_tx {x:Str} {l:List Nat} {j pos} (h:x = ⟨l.toArray⟩):PE X (.Constant (.str x) j pos) (tC (tx l)):=by
 subst h
 exact pe_str
theorem op_addT:OpR X (binaryOp .Add) (fun x y H Q=>∃ a b,x = tx a/\y = tx b/\a.length + b.length <= sizeLine/\Q (tx (a ++ b)) H):=by
 intro pins s σ H x y v u Q I rx ry ⟨a,b,e1,e2,hz,q⟩
 subst e1 e2
 refine op_add_str pins s σ H _ _ v u Q I rx ry ⟨_,_,rfl,rfl,by rw [tx_len,tx_len]; exact hz,?_⟩
 have e:(V.str ((⟨a.toArray⟩:Str) ++ ⟨b.toArray⟩)) = tx (a ++ b):=by
  unfold tx
  congr 1
  show (⟨a.toArray ++ b.toArray⟩:Str) = _
  simp
 rw [e]; exact q
def rIxT':R2:=fun x y H Q=>∃ a i c,x = tx a/\y = .int i/\a.length <= sizeLine/\atI a i = some c/\Q (tx [c]) H
theorem ix_T:IxR X rIxT':=by
 intro value slice pins s σ H x y v u Q I rx ry ⟨a,i,c,e1,e2,hz,he,q⟩ hs
 subst e1 e2
 exact ix_str value slice pins s σ H _ _ v u Q I rx ry ⟨_,i,c,rfl,rfl,by rw [tx_len]; exact hz,by simpa using he,q⟩ hs
theorem call_lenT:CallR X (.builtin "len") (fun xs H Q=>∃ a,xs = [tx a]/\a.length <= sizeLine/\Q (.int a.length) H):=by
 intro pins s σ H xs us Q I r ⟨a,e,hz,q⟩
 subst e
 refine call_len_str pins s σ H _ us Q I r ⟨_,rfl,by rw [tx_len]; exact hz,?_⟩
 rw [tx_len]; exact q
theorem op_inT:OpR X (compareOp .In) (fun x y H Q=>∃ c l,x = tx [c]/\y = tx l/\Q (.bl (decide (c ∈ l))) H):=by
 intro pins s σ H x y v u Q I rx ry ⟨c,l,e1,e2,q⟩
 subst e1 e2
 refine op_in_str pins s σ H _ _ v u Q I rx ry ⟨_,_,rfl,rfl,?_⟩
 have e:=PySem.StrLaws.found_one (⟨l.toArray⟩:Str) c
 simp only at e
 rw [show (⟨[c].toArray⟩:Str) = ⟨#[c]⟩ from rfl,e]
 exact q
theorem op_notinT:OpR X (compareOp .NotIn) (fun x y H Q=>∃ c l,x = tx [c]/\y = tx l/\Q (.bl (!decide (c ∈ l))) H):=by
 intro pins s σ H x y v u Q I rx ry ⟨c,l,e1,e2,q⟩
 subst e1 e2
 refine op_notin_str pins s σ H _ _ v u Q I rx ry ⟨_,_,rfl,rfl,?_⟩
 have e:=PySem.StrLaws.found_one (⟨l.toArray⟩:Str) c
 simp only at e
 rw [show (⟨[c].toArray⟩:Str) = ⟨#[c]⟩ from rfl,e]
 exact q
theorem rep_fold (a : List Nat) : ∀ (n : Nat) (acc : Array Nat), ((List.replicate n a.toArray).foldl (· ++ ·) acc) = (acc.toList ++ (List.replicate n a).flatten).toArray
  | 0, acc => by simp
  | n + 1, acc => by
    rw [List.replicate_succ, List.foldl_cons, rep_fold a n, List.replicate_succ, List.flatten_cons]
    simp
theorem op_mulT:OpR X (binaryOp .Mult) (fun x y H Q=>∃ a k,x = tx a/\y = .int k/\0 <= k/\k <= 1000/\a.length <= 1000/\Q (tx (List.replicate k.toNat a).flatten) H):=by
 intro pins s σ H x y v u Q I rx ry ⟨a,k,e1,e2,h0,h1,hl,q⟩
 subst e1 e2
 obtain ⟨t,rfl⟩:=rx
 obtain ⟨t',rfl⟩:=ry
 have e:Txt.mul ⟨a.toArray⟩ k = ⟨((List.replicate k.toNat a).flatten).toArray⟩:=by
  unfold Txt.mul
  by_cases hk:k < 1
  ·have:k = 0:=by omega
   subst this
   rfl
  ·rw [if_neg hk]
   split
   ·rename_i hc
    rw [tx_len] at hc
    simp only [Bool.or_eq_true,beq_iff_eq] at hc
    rcases hc with hc | hc
    ·subst hc; simp
    ·have:a = []:=List.length_eq_zero_iff.mp hc
     subst this
     simp
   ·simp only
    rw [rep_fold]
    simp
 refine SB.mul ⟨by simp; omega,fun h2 _=>?_,fun h2 _=>?_⟩ fun t2 tk=>⟨tx (List.replicate k.toNat a).flatten,H,I.tok tk,⟨t2,by rw [e]⟩,q⟩
 ·rw [tx_len]
  have:(1000:Int) <= (2 ^ 63 - 1) / k:=by
   refine Int.le_ediv_of_mul_le (by omega) ?_
   omega
  omega
 ·rw [tx_len]
  unfold Builtin.Str.tooLong
  have hs:sizeLine = 16777216:=sizeLine_eq
  have:a.length * k.toNat <= 1000 * 1000:=Nat.mul_le_mul hl (by omega)
  simp; omega
def cutL {α:Type} (xs:List α) (lo hi:Option Int):List α:=(xs.drop (HT.sIx xs.length 0 lo)).take (HT.sIx xs.length xs.length hi - HT.sIx xs.length 0 lo)
theorem clipS (v : Option Int) (n d : Nat) (hd : d <= n) : (match v with | none => (d : Int) | some i => max 0 (min (if i < 0 then i + (n : Int) else i) (n : Int))) = ((HT.sIx n d v : Nat) : Int) := by
  cases v with
  | none => rfl
  | some i =>
    show max 0 (min (if i < 0 then i + (n : Int) else i) (n : Int)) = (((if i < 0 then (i + (n : Int)).toNat else min i.toNat n) : Nat) : Int)
    by_cases hv : i < 0
    · simp only [if_pos hv]; omega
    · simp only [if_neg hv]; omega
theorem idx_run (lo hi:Option Int) (n:Nat):Builtin.Str.strSliceIndices lo hi 1 n = (List.range (HT.sIx n n hi - HT.sIx n 0 lo)).map fun k=>HT.sIx n 0 lo + k:=by
 have h1:(1:Int) > 0:=by omega
 have key:Builtin.Str.strSliceIndices lo hi 1 n = sliceRange ((HT.sIx n 0 lo:Nat):Int) ((HT.sIx n n hi:Nat):Int) 1:=by
  unfold Builtin.Str.strSliceIndices
  simp only [h1,if_true]
  congr 1
  ·cases lo with
   | none=>rfl
   | some i=>exact clipS (some i) n 0 (Nat.zero_le _)
  ·cases hi with
   | none=>rfl
   | some i=>exact clipS (some i) n n (Nat.le_refl _)
 rw [key]
 unfold sliceRange
 simp only [h1,if_true]
 have e3:(if ((HT.sIx n 0 lo:Nat):Int) < ((HT.sIx n n hi:Nat):Int) then (((HT.sIx n n hi:Nat):Int) - ((HT.sIx n 0 lo:Nat):Int) + 1 - 1) / 1 else 0).toNat = HT.sIx n n hi - HT.sIx n 0 lo:=by
  split <;> omega
 rw [e3]
 refine List.map_congr_left fun k _=>?_
 omega
theorem pick_cut (a : List Nat) (i k : Nat) : ((List.range k).map fun m => i + m).filterMap (fun j => a.toArray[j]?) = (a.drop i).take k := by
  rw [List.filterMap_map]
  induction k generalizing i with
  | zero => simp
  | succ k ih =>
    rw [List.range_succ, List.filterMap_append, ih i, List.take_add_one]
    congr 1
    simp only [List.filterMap_cons, List.filterMap_nil, Function.comp]
    rw [List.getElem?_drop]
    simp only [List.getElem?_toArray]
    cases a[i + k]? <;> rfl
theorem cut_le {α:Type} (a:List α) (lo hi:Option Int):(cutL a lo hi).length <= a.length:=by
 unfold cutL; rw [List.length_take,List.length_drop]; omega
def rSlS:V->Option Int->Option Int->Hp->VK->Prop:=fun x lo hi H Q=>∃ a,x = tx a/\a.length <= sizeLine/\Q (tx (cutL a lo hi)) H
theorem sl_T:SlR X rSlS:=by
 intro pins s σ H x v vl vu lo hi sl Q I rx hs pl pu ⟨a,e,hz,q⟩
 subst e
 obtain ⟨t,rfl⟩:=rx
 refine ⟨"str",_,F.slot_str_getitem.lookup,typeIs_str _ _ _,?_⟩
 obtain ⟨l,el,ml⟩:∃ l:Option (Int × Tok),vl = partValue l/\l.map (·.1) = lo:=by
  cases pl with
  | none=>exact ⟨none,rfl,rfl⟩
  | int i t=>exact ⟨some (i,t),rfl,rfl⟩
 obtain ⟨u,eu,mu⟩:∃ u:Option (Int × Tok),vu = partValue u/\u.map (·.1) = hi:=by
  cases pu with
  | none=>exact ⟨none,rfl,rfl⟩
  | int i t=>exact ⟨some (i,t),rfl,rfl⟩
 subst el eu
 refine wpAny_getItem_str_slice (l:=l) (u:=u) (st:=none) hs rfl ?_
 have hle:=cut_le a lo hi
 have ep:slicePicked ⟨a.toArray⟩ l u none = (List.range (HT.sIx a.length a.length hi - HT.sIx a.length 0 lo)).map fun k=>HT.sIx a.length 0 lo + k:=by
  unfold slicePicked
  rw [ml,mu,tx_len]
  exact idx_run lo hi a.length
 have ec:((slicePicked ⟨a.toArray⟩ l u none).filterMap (a.toArray[·]?)) = cutL a lo hi:=by
  rw [ep]; exact pick_cut a _ _
 unfold sliceMade
 refine post_val_or_str ?_
 have fin:(if ((Option.map (fun x=>x.1) (none:Option (Int × Tok))).getD 1 == 1 && (slicePicked ⟨a.toArray⟩ l u none).length == (⟨a.toArray⟩:Str).length) = true then (⟨a.toArray⟩:Str) else ⟨((slicePicked ⟨a.toArray⟩ l u none).filterMap (a.toArray[·]?)).toArray⟩) = ⟨(cutL a lo hi).toArray⟩:=by
  rw [ec]
  split
  ·rename_i hc
   rw [ep,tx_len] at hc
   simp only [Option.map_none,Option.getD_none,beq_self_eq_true,Bool.true_and,List.length_map,List.length_range,beq_iff_eq] at hc
   have hl:HT.sIx a.length a.length hi <= a.length:=HT.sIx_le _ _ (Nat.le_refl _) _
   have h0:HT.sIx a.length 0 lo = 0\/a.length = 0:=by omega
   unfold cutL
   rw [hc]
   rcases h0 with h0 | h0
   ·rw [h0,List.drop_zero,List.take_length]
   ·have:a = []:=List.length_eq_zero_iff.mp h0
    subst this
    simp
  ·rfl
 have fin':=fin
 simp only at fin' ⊢
 rw [fin']
 refine ⟨by rw [tx_len]; omega,fun t' k=>⟨tx (cutL a lo hi),H,I.tok k,⟨t',rfl⟩,q⟩⟩
theorem call_isi:CallR X (.builtin "isinstance") (fun xs H Q=>∃ x T t b,xs = [x,.ty T]/\TyOf X.K H x t/\PySem.W.kitOne X.K t (.type T) = some b/\Q (.bl b) H):=by
 intro pins s σ H xs us Q I r ⟨x,T,t,b,e,ty,hk,q⟩
 subst e
 obtain ⟨u,w',rfl,ru,rw'⟩:=vals2 r
 cases rw'
 exact isinst_ok I ru ty hk fun tk=>⟨.bl b,H,I.tok tk,rfl,q⟩
theorem call_allL:CallR X (.builtin "all") (fun xs H Q=>X.calm = true/\∃ (a:Addr) (bs:List Bool),xs = [.ref a]/\SqL X.K H a (bs.map V.bl)/\Q (.bl (bs.all id)) H):=by
 intro pins s σ H xs us Q I r ⟨hc,a,bs,e,hq,q⟩
 subst e
 obtain ⟨u,rfl,ru⟩:=vals1 r
 cases ru
 obtain ⟨its,rv,pl,hz⟩:=I.list hq
 obtain ⟨ol,hol,_⟩:=id pl.isList
 have hl:a < s.heap.objs.size:=Heap.lt_size hol
 have hlen:=rv.length
 rw [List.length_map] at hlen
 refine call_all_walk (wpAny_pyIter_list pl.isList ⟨s.heap.objs.size,_,_,_,_,_,fun i=>bs.getD i false,rfl,Walks.list (A:=X.A.in1) (I.ok.hd hc) s.heap.objs.size a (Nat.ne_of_lt hl) its.toArray,⟨⟨_,Heap.get?_push_size _ rfl,rfl,rfl⟩,pl.isList.at fun o e=>Heap.get?_push_of_some _ e⟩,?_,fun h' tk kk=>?_⟩)
 ·intro i v s' Q' E' hv hQ'
  have hv':its[i]? = some v:=by simpa using hv
  have hi:i < bs.length:=by rw [hlen]; exact (List.getElem?_eq_some_iff.mp hv').1
  obtain ⟨w',e1,e2⟩:=rv.get (i:=i) (x:=V.bl bs[i]) (by simp [hi])
  rw [hv'] at e1
  cases e1
  cases e2
  have:bs.getD i false = bs[i]:=by simp [List.getD_eq_getElem?_getD,hi]
  simp only [this] at hQ'
  exact wpAny_truthy_bool hQ'
 ·have e:(List.range its.toArray.size).all (fun i=>bs.getD i false) = bs.all id:=by
   rw [List.size_toArray,<- hlen]
   rw [Bool.eq_iff_iff]
   simp only [List.all_eq_true,List.mem_range,id]
   constructor
   ·intro h b hb
    obtain ⟨i,hi,rfl⟩:=List.mem_iff_getElem.mp hb
    have:=h i hi
    simpa [List.getD_eq_getElem?_getD,hi] using this
   ·intro h i hi
    have:=h bs[i] (List.getElem_mem hi)
    simpa [List.getD_eq_getElem?_getD,hi] using this
  rw [e]
  have I1:Inv X pins σ H { s with heap:=s.heap.push { cls:=.type "list_iterator",data:=.fields #[.ref a,.int 0 0] } }:=I.kept (t':=s.toks) fun b o z=>Heap.get?_push_of_some _ z
  refine ⟨.bl (bs.all id),H,I.kept (t':=tk) fun b o z=>kk b o (fun y=>?_) (Heap.get?_push_of_some _ z),rfl,q⟩
  exact absurd (Heap.lt_size z) (by rw [List.mem_singleton.mp y]; exact Nat.lt_irrefl _)
def eqVs:List V->List V->Bool
 | [],[]=>true
 | x :: xs,y :: ys=>eqV x y && eqVs xs ys
 | _,_=>false
theorem eqVs_len : ∀ {xs ys : List V}, xs.length ≠ ys.length -> eqVs xs ys = false
  | [], [], h => absurd rfl h
  | [], _ :: _, _ => rfl
  | _ :: _, [], _ => rfl
  | x :: xs, y :: ys, h => by
    have : eqVs xs ys = false := eqVs_len (by simpa using h)
    show (eqV x y && eqVs xs ys) = false
    rw [this, Bool.and_false]
theorem eqVs_range : ∀ (xs ys : List V), xs.length = ys.length -> (List.range xs.length).all (fun i => eqV (xs.getD i .non) (ys.getD i .non)) = eqVs xs ys
  | [], [], _ => rfl
  | x :: xs, y :: ys, h => by
    have ih := eqVs_range xs ys (by simpa using h)
    rw [List.length_cons, List.range_succ_eq_map, List.all_cons, List.all_map]
    show (eqV x y && _) = (eqV x y && eqVs xs ys)
    rw [<- ih]
    rfl
  | [], _ :: _, h => by simp at h
  | _ :: _, [], h => by simp at h
theorem eqVs_at {A:Around} {s:Shared} {xs ys:List V} {us ws:List Value} (r1:Vals xs us) (r2:Vals ys ws) (f1:xs.all flatV = true) (f2:ys.all flatV = true) :
  ∀ j (h1:j < us.toArray.size) (h2:j < ws.toArray.size),SeqAt.EqAt A s us.toArray[j] ws.toArray[j] (eqV (xs.getD j .non) (ys.getD j .non)):=by
 intro j h1 h2
 have l1:=r1.length
 have l2:=r2.length
 rw [List.size_toArray] at h1 h2
 have k1:j < xs.length:=by omega
 have k2:j < ys.length:=by omega
 obtain ⟨u,e1,q1⟩:=r1.get (i:=j) (x:=xs[j]) (by simp [k1])
 obtain ⟨w',e2,q2⟩:=r2.get (i:=j) (x:=ys[j]) (by simp [k2])
 have eu:us.toArray[j] = u:=by
  have:=List.getElem?_eq_getElem (l:=us) (i:=j) h1
  rw [e1] at this
  simpa using (Option.some.inj this).symm
 have ew:ws.toArray[j] = w':=by
  have:=List.getElem?_eq_getElem (l:=ws) (i:=j) h2
  rw [e2] at this
  simpa using (Option.some.inj this).symm
 rw [eu,ew]
 have g1:xs.getD j .non = xs[j]:=by simp [List.getD_eq_getElem?_getD,k1]
 have g2:ys.getD j .non = ys[j]:=by simp [List.getD_eq_getElem?_getD,k2]
 rw [g1,g2]
 exact eqAt_V q1 q2 (List.all_eq_true.mp f1 _ (List.getElem_mem k1)) (List.all_eq_true.mp f2 _ (List.getElem_mem k2))
def rEqL (K:PySem.W.Frag) (neg:Bool):R2:=fun x y H Q=>∃ a b xs ys,x = .ref a/\y = .ref b/\SqL K H a xs/\SqL K H b ys/\xs.all flatV = true/\ys.all flatV = true/\Q (.bl (if neg then !eqVs xs ys else eqVs xs ys)) H
theorem op_eqL (hu:X.A.units < cLine):OpR X (compareOp .Eq) (rEqL X.K false):=by
 intro pins s σ H x y v u Q I rx ry ⟨a,b,xs,ys,e1,e2,q1,q2,f1,f2,q⟩
 subst e1 e2
 cases rx
 cases ry
 obtain ⟨us,r1,p1,z1⟩:=I.list q1
 obtain ⟨ws,r2,p2,z2⟩:=I.list q2
 have l1:=r1.length
 have l2:=r2.length
 by_cases hl:xs.length = ys.length
 ·refine SeqAt.eq_listAt p1.isList p2.isList (by simp; omega) hu (eqVs_at r1 r2 f1 f2) ⟨.bl _,H,I,rfl,?_⟩
  rw [List.size_toArray,<- l1,eqVs_range xs ys hl]
  exact q
 ·refine SeqAt.eq_list_lengthsAt p1.isList p2.isList (by simp; omega) hu ⟨.bl _,H,I,rfl,?_⟩
  rw [<- eqVs_len hl]
  exact q
theorem op_neL (hu:X.A.units < cLine):OpR X (compareOp .NotEq) (rEqL X.K true):=by
 intro pins s σ H x y v u Q I rx ry ⟨a,b,xs,ys,e1,e2,q1,q2,f1,f2,q⟩
 subst e1 e2
 cases rx
 cases ry
 obtain ⟨us,r1,p1,z1⟩:=I.list q1
 obtain ⟨ws,r2,p2,z2⟩:=I.list q2
 have l1:=r1.length
 have l2:=r2.length
 by_cases hl:xs.length = ys.length
 ·refine SeqAt.RcNeAt.lists p1.isList p2.isList (by simp; omega) hu (eqVs_at r1 r2 f1 f2) _ _ _ _ ⟨.bl _,H,I,rfl,?_⟩
  rw [List.size_toArray,<- l1,eqVs_range xs ys hl]
  exact q
 ·refine SeqAt.RcNeAt.lists_lengths p1.isList p2.isList (by simp; omega) hu _ _ _ _ ⟨.bl _,H,I,rfl,?_⟩
  have:eqVs xs ys = false:=eqVs_len hl
  rw [if_pos rfl,this] at q
  exact q
def litV:V->Bool
 | .non=>true
 | .bl _=>true
 | _=>false
theorem op_isB:OpR X (compareOp .Is) (fun x y H Q=>litV y = true/\Q (.bl (decide (x = y))) H):=by
 intro pins s σ H x y v u Q I rx ry ⟨hl,q⟩
 refine wpAny_is_plain ?_ ⟨.bl _,H,I,?_,q⟩
 ·cases y <;> first
   | (exact absurd hl Bool.false_ne_true)
   | (cases ry; cases x <;> first | (cases rx; rfl) | (obtain ⟨t,rfl⟩:=rx; rfl))
 ·cases y <;> first
   | (exact absurd hl Bool.false_ne_true)
   | (cases ry; cases x <;> first | (cases rx; rfl) | (obtain ⟨t,rfl⟩:=rx; rfl) | (cases rx; rename_i b1 _ b2; cases b1 <;> cases b2 <;> rfl) | (cases rx; rename_i b1 b2; cases b1 <;> cases b2 <;> rfl) | (cases rx; rename_i b1 _ b2 _; cases b1 <;> cases b2 <;> rfl))
end
end L2
namespace L2
open PySem PySem.Spec PyProof.Rows
section
variable {X:Cx}
def rPlus:R2:=fun x y H Q=>(∃ i j,x = .int i/\y = .int j/\Q (.int (i + j)) H)\/(∃ a b,x = tx a/\y = tx b/\a.length + b.length <= sizeLine/\Q (tx (a ++ b)) H)\/rCat x y H Q
theorem op_plus:OpR X (binaryOp .Add) rPlus:=op_add.or (op_addT.or op_cat)
def rMulT:R2:=fun x y H Q=>∃ a k,x = tx a/\y = .int k/\0 <= k/\k <= 1000/\a.length <= 1000/\Q (tx (List.replicate k.toNat a).flatten) H
def rTimes:R2:=fun x y H Q=>(∃ i j,x = .int i/\y = .int j/\CMul i j/\Q (.int (i * j)) H)\/rRep x y H Q\/rMulT x y H Q
theorem op_times:OpR X (binaryOp .Mult) rTimes:=op_mul.or (op_rep.or op_mulT)
def rEqA (K:PySem.W.Frag):R2:=fun x y H Q=>rEq x y H Q\/rEqL K false x y H Q
theorem op_eqA (K:PySem.W.Frag) (hu:X.A.units < cLine) (hK:X.K = K:=by rfl):OpR X (compareOp .Eq) (rEqA K):=by subst hK; exact op_eq.or (op_eqL hu)
def rNeA (K:PySem.W.Frag):R2:=fun x y H Q=>rNe x y H Q\/rEqL K true x y H Q
theorem op_neA (K:PySem.W.Frag) (hu:X.A.units < cLine) (hK:X.K = K:=by rfl):OpR X (compareOp .NotEq) (rNeA K):=by subst hK; exact op_ne.or (op_neL hu)
def rInA (K:PySem.W.Frag):R2:=fun x y H Q=>(∃ c l,x = tx [c]/\y = tx l/\Q (.bl (decide (c ∈ l))) H)\/rIn K false x y H Q
theorem op_inA (K:PySem.W.Frag) (hK:X.K = K:=by rfl):OpR X (compareOp .In) (rInA K):=by subst hK; exact op_inT.or op_in_seq
def rNotInA (K:PySem.W.Frag):R2:=fun x y H Q=>(∃ c l,x = tx [c]/\y = tx l/\Q (.bl (!decide (c ∈ l))) H)\/rIn K true x y H Q
theorem op_notinA (K:PySem.W.Frag) (hK:X.K = K:=by rfl):OpR X (compareOp .NotIn) (rNotInA K):=by subst hK; exact op_notinT.or op_notIn_seq
def rIsA:R2:=fun x y H Q=>litV y = true/\Q (.bl (decide (x = y))) H
theorem op_isA:OpR X (compareOp .Is) rIsA:=op_isB
def rIxA (K:PySem.W.Frag):R2:=fun x y H Q=>rIxT' x y H Q\/rIxL K x y H Q\/rIxT K x y H Q
theorem ix_A (K:PySem.W.Frag) (hK:X.K = K:=by rfl):IxR X (rIxA K):=by subst hK; exact ix_T.or (ix_list.or ix_tup)
def rSlA (K:PySem.W.Frag):V->Option Int->Option Int->Hp->VK->Prop:=fun x lo hi H Q=>rSlS x lo hi H Q\/rSlL K x lo hi H Q
theorem sl_A (K:PySem.W.Frag) (hK:X.K = K:=by rfl):SlR X (rSlA K):=by subst hK; exact sl_T.or sl_list
def rLen (K:PySem.W.Frag):List V->Hp->VK->Prop:=fun xs H Q=>(∃ a,xs = [tx a]/\a.length <= sizeLine/\Q (.int a.length) H)\/∃ p ys,xs = [.ref p]/\(SqL K H p ys\/SqT K H p ys)/\Q (.int ys.length) H
theorem call_lenA (K:PySem.W.Frag) (hK:X.K = K:=by rfl):CallR X (.builtin "len") (rLen K):=by subst hK; exact call_lenT.or call_len_seq
def rAll (K:PySem.W.Frag):List V->Hp->VK->Prop:=fun xs H Q=>∃ (a:Addr) (bs:List Bool),xs = [.ref a]/\SqL K H a (bs.map V.bl)/\Q (.bl (bs.all id)) H
theorem call_allA (K:PySem.W.Frag) (hc:X.calm = true) (hK:X.K = K:=by rfl):CallR X (.builtin "all") (rAll K):=by subst hK; exact fun pins s σ H xs us Q I r h=>call_allL pins s σ H xs us Q I r ⟨hc,h⟩
def rIsi (K:PySem.W.Frag):List V->Hp->VK->Prop:=fun xs H Q=>∃ x T t b,xs = [x,.ty T]/\TyOf K H x t/\PySem.W.kitOne K t (.type T) = some b/\Q (.bl b) H
theorem call_isiA (K:PySem.W.Frag) (hK:X.K = K:=by rfl):CallR X (.builtin "isinstance") (rIsi K):=by subst hK; exact call_isi
def rMax:List V->Hp->VK->Prop:=fun xs H Q=>∃ i j,xs = [.int i,.int j]/\Q (.int (if j > i then j else i)) H
def rMin:List V->Hp->VK->Prop:=fun xs H Q=>∃ i j,xs = [.int i,.int j]/\Q (.int (if j < i then j else i)) H
theorem call_maxA (hc:X.calm = true):CallR X (.builtin "max") rMax:=call_max2 hc
theorem call_minA (hc:X.calm = true):CallR X (.builtin "min") rMin:=call_min2 hc
def rInt:List V->Hp->VK->Prop:=fun xs H Q=>(∃ i,xs = [.int i]/\Q (.int i) H)\/∃ k,xs = [.bl k]/\Q (.int (if k then 1 else 0)) H
theorem call_intA:CallR X (.type "int") rInt:=call_int1
def tTru (K:PySem.W.Frag) (ta:TE):TT:=fun σ H Q=>ta σ H fun x H'=>∃ k,TruV K x H' k/\Q k H'
theorem pt_tru (K:PySem.W.Frag) {a:Expr} {ta:TE} (ha:PE X a ta) (he:∀ whole,isTrue a X.env whole = (do let v <- whole; standAt a.pos; holding [v] (truthy v)):=by intro _; rfl) (hK:X.K = K:=by rfl):PT X a (tTru K ta):=by subst hK; exact pt_truth ha he
theorem pi_listK (K:PySem.W.Frag) {tg l:Expr} {tl:TE} (hl:PE X l tl) (hK:X.K = K:=by rfl):PI X tg l (iList K tl):=by subst hK; exact pi_list hl
theorem pg_tupK (K:PySem.W.Frag) {es:List Expr} {k:Nat} {t:TGs} {n:Nat} {pos:Pos} (hc:X.calm = true) (h:PGs X es t)
  (hn:(assignEach es X.env).length = n:=by rfl) (hst:(assignEach es X.env).findIdx? (·.1) = none:=by rfl) (hK:X.K = K:=by rfl):PG X (.Tuple es k pos) (gTup K n t):=by subst hK; exact pg_tup hc h hn hst
theorem pe_bm0K (K:PySem.W.Frag) {o:Expr} {to:TE} {name:Str} {apos cpos:Pos} {T id:String} {r:V->List V->Hp->VK->Prop} (pa:PlainAttrs T) (slot:Slot T name id) (hty:typeOf (.builtin id) = pure (.type "method_descriptor")) (hm:MtR X id r) (ho:PE X o to)
  (hbase:attributeBase o name X.env (eval o X.env) = eval o X.env:=by rfl) (hline:(apos.endLine == cpos.line) = true:=by rfl) (hK:X.K = K:=by rfl):PE X (.Call (.Attribute o name apos) [] [] cpos) (tBM0 K T r to):=by subst hK; exact pe_bm0 pa slot hty hm ho hbase hline
theorem pe_bmK (K : PySem.W.Frag) {o e : Expr} {es : List Expr} {to : TE} {t : TA} {name : Str} {apos cpos : Pos} {T id : String} {r : V -> List V -> Hp -> VK -> Prop} (pa : PlainAttrs T) (slot : Slot T name id) (hty : typeOf (.builtin id) = pure (.type "method_descriptor")) (hm : MtR X id r) (ho : PE X o to) (ha : PA X (e :: es) t)
  (hbase : attributeBase o name X.env (eval o X.env) = eval o X.env := by rfl)
  (hfew : ((backTo cpos (starEach (e :: es) X.env)).all (fun x => !x.1) && (backToKw cpos (keywordEach [] X.env)).all (fun x => x.1.isSome)
   && decide ((e :: es).length + ([] : List Keyword).length + (if ([] : List Keyword).isEmpty then 0 else 1) < 30)) = true := by rfl)
  (hline : (apos.endLine == cpos.line) = true := by rfl) (hs : starEach (e :: es) X.env = (false, eval e X.env) :: starEach es X.env := by rfl) (hplain : (backTo cpos (starEach es X.env)).any (·.1) = false := by rfl) (hK : X.K = K := by rfl) :
  PE X (.Call (.Attribute o name apos) (e :: es) [] cpos) (tBM K T r to t) := by subst hK; exact pe_bm pa slot hty hm ho ha hbase hfew hline hs hplain
theorem pe_gl {x:Str} {v:V} {pos:Pos} (h:∃ u,X.mg x = some u/\RelV v u) (hg:Gl X x:=by rfl) (hd:(x == ("__debug__" : Str)) = false:=by decide):PE X (.Name x pos) (tC v):=by
 obtain ⟨u,hm,r⟩:=h
 exact pe_glob hg hm r hd
theorem pe_ty {x:Str} {T:String} {pos:Pos} (hm:X.mg x = none) (hv:bootBuiltins x = some (.type T)) (hg:Gl X x:=by rfl) (hn:x ≠ "__name__":=by decide) (hd:(x == ("__debug__" : Str)) = false:=by decide):PE X (.Name x pos) (tC (.ty T)) :=
 pe_bltn hg hm hv rfl hn hd
structure FnU (P:Program) (w:World) (K:PySem.W.Frag) (mg:Str->Option Value) (base:Heap) (k:Nat) (x:Str) (ps:List Str) (sp:Sp):Prop where
 ex:∃ f fd,FnOk P w K mg base CX0 k f fd ps sp/\mg x = some (.ref f)/\PySem.W.keepIn K (.ref f) = true/\Binds K fd ps []
theorem FnU.mono {P:Program} {w:World} {K:PySem.W.Frag} {mg:Str->Option Value} {base:Heap} {j k:Nat} {x:Str} {ps:List Str} {sp:Sp} (U:FnU P w K mg base j x ps sp) (h:j <= k):FnU P w K mg base k x ps sp:=by
 obtain ⟨f,fd,F,a,b,c⟩:=U.ex
 exact ⟨f,fd,F.mono h,a,b,c⟩
theorem pe_fn {k:Nat} {x:Str} {ps:List Str} {sp:Sp} {e:Expr} {es:List Expr} {t:TA} {p pos:Pos} (U:FnU X.prog X.w X.K X.mg X.base k x ps sp) (hr:Room k X.A) (ha:PA X (e :: es) t) (hg:Gl X x:=by rfl)
  (hdb:(x == ("__debug__" : Str)) = false:=by decide) (he:starEach (e :: es) X.env = (false,eval e X.env) :: starEach es X.env:=by rfl) (hpl:(backTo pos (starEach es X.env)).any (·.1) = false:=by rfl) :
  PE X (.Call (.Name x p) (e :: es) [] pos) (tCall sp [] E0 t):=by
 obtain ⟨f,fd,F,hm,hk,hb⟩:=U.ex
 exact pe_call F hr hg hm hk hb .nil pass0 ha hdb he hpl
end
section
variable {σ:St} {H:Hp} {Q:VK} {D:Ends} {K:PySem.W.Frag}
theorem s_seq {t u:TS} (h:t { D with nx:=u D } σ H):tSeq t u D σ H:=h
theorem s_if {c:TT} {t u:TS} (h:c σ H fun b H1=>if b = true then t D σ H1 else u D σ H1):tIfS c t u D σ H:=h
theorem s_asg {te:TE} {g:TG} (h:te σ H fun x H1=>g x σ H1 D.nx):tAsg te g D σ H:=h
theorem s_ret {te:TE} (h:te σ H D.rt):tRet te D σ H:=h
theorem s_drop {te:TE} (h:te σ H fun _ H1=>D.nx σ H1):tDrop te D σ H:=h
theorem s_next (h:D.nx σ H):tNext D σ H:=h
theorem s_name {i:Nat} {v:V} {R:St->Hp->Prop} (h:R (σ.set i (some v)) H):gName i v σ H R:=h
theorem s_gnil {R:St->Hp->Prop} (h:R σ H):gNil [] σ H R:=⟨rfl,h⟩
theorem s_gcons {t:TG} {u:TGs} {v:V} {r:List V} {R:St->Hp->Prop} (h:t v σ H fun σ' H'=>u r σ' H' R):gCons t u (v :: r) σ H R:=⟨v,r,rfl,h⟩
theorem s_gtup {n:Nat} {t:TGs} {a:Addr} {xs:List V} {R:St->Hp->Prop} (hq:SqT K H a xs) (hl:xs.length = n) (h:t xs σ H R):gTup K n t (.ref a) σ H R:=⟨a,xs,rfl,hq,hl,h⟩
theorem s_gsub {to ti:TE} {t:TSet} {v:V} {R:St->Hp->Prop} (h:to σ H fun o H1=>ti σ H1 fun i H2=>t o i v H2 fun H3=>R σ H3):gSub to ti t v σ H R:=h
theorem s_var {i:Nat} {v:V} (e:σ[i]? = some (some v)) (q:Q v H):tVar i σ H Q:=⟨v,e,q⟩
theorem s_c {v:V} (q:Q v H):tC v σ H Q:=q
theorem s_op {r:R2} {ta tb:TE} (h:ta σ H fun x H1=>tb σ H1 fun y H2=>r x y H2 Q):tOp r ta tb σ H Q:=h
theorem s_un {r:V->Hp->VK->Prop} {ta:TE} (h:ta σ H fun x H1=>r x H1 Q):tUn r ta σ H Q:=h
theorem s_neg {i:Int} {g:Int->V} (h:Q (g i) H):rU g (.int i) H Q:=⟨i,rfl,h⟩
theorem s_call {sp:Sp} {dvs:List V} {E:XK} {t:TA} (h:t σ H fun vs H1=>sp (vs ++ dvs) H1 Q E):tCall sp dvs E t σ H Q:=h
theorem s_cons {ta:TE} {tr:TA} {R:List V->Hp->Prop} (h:ta σ H fun x H1=>tr σ H1 fun xs H2=>R (x :: xs) H2):tCons ta tr σ H R:=h
theorem s_nil {R:List V->Hp->Prop} (h:R [] H):tNil σ H R:=h
theorem s_cb {r:List V->Hp->VK->Prop} {t:TA} (h:t σ H fun vs H1=>r vs H1 Q):tCB r t σ H Q:=h
theorem s_lst {t:TA} (h:t σ H fun xs H1=>xs.length <= sizeLine/\∀ p,H1 p = none->Q (.ref p) (upd H1 p (.lst xs))):tLst t σ H Q:=h
theorem s_tup {t:TA} (h:t σ H fun xs H1=>xs.length <= sizeLine/\∀ p,H1 p = none->Q (.ref p) (upd H1 p (.tup xs))):tTup t σ H Q:=h
theorem s_ifE {t:TT} {ta tb:TE} (h:t σ H fun c H1=>if c = true then ta σ H1 Q else tb σ H1 Q):tIf t ta tb σ H Q:=h
theorem s_and {t u:TT} {R:Bool->Hp->Prop} (h:t σ H fun c H1=>if c = true then u σ H1 R else R false H1):tAnd t u σ H R:=h
theorem s_or {t u:TT} {R:Bool->Hp->Prop} (h:t σ H fun c H1=>if c = true then R true H1 else u σ H1 R):tOr t u σ H R:=h
theorem s_not {t:TT} {R:Bool->Hp->Prop} (h:t σ H fun c H1=>R (!c) H1):tNot t σ H R:=h
theorem s_andV {ta tb:TE} (h:ta σ H fun x H1=>∃ c,x = .bl c/\if c = true then tb σ H1 Q else Q (.bl false) H1):tAndV ta tb σ H Q:=h
theorem s_orV {ta tb:TE} (h:ta σ H fun x H1=>∃ c,x = .bl c/\if c = true then Q (.bl true) H1 else tb σ H1 Q):tOrV ta tb σ H Q:=h
theorem s_notV {ta:TE} (h:ta σ H fun x H1=>∃ c,x = .bl c/\Q (.bl (!c)) H1):tNotV ta σ H Q:=h
theorem s_test {t:TE} {R:Bool->Hp->Prop} (h:t σ H fun x H'=>∃ k,x = .bl k/\R k H'):tTest t σ H R:=h
theorem s_tru {ta:TE} {R:Bool->Hp->Prop} (h:ta σ H fun x H'=>∃ k,TruV K x H' k/\R k H'):tTru K ta σ H R:=h
theorem s_chain {r r':R2} {ta tb tc:TE} (h:ta σ H fun x H1=>tb σ H1 fun y H2=>r x y H2 fun z H3=>∃ k,z = .bl k/\(if k = true then tc σ H3 fun w' H4=>r' y w' H4 Q else Q (.bl false) H3)):tChain r r' ta tb tc σ H Q:=h
theorem s_bl {c:Bool} {R:Bool->Prop} (h:R c):∃ k,V.bl c = V.bl k/\R k:=⟨c,rfl,h⟩
theorem s_truB {c:Bool} {R:Bool->Prop} (h:R c):∃ k,TruV K (.bl c) H k/\R k:=⟨c,rfl,h⟩
theorem s_truT {a : List Nat} {R : Bool -> Prop} (hz : a.length <= sizeLine) (h : R (!decide (a = []))) : ∃ k, TruV K (tx a) H k /\ R k := by
  refine ⟨!decide (a = []), ⟨by rw [tx_len]; exact hz, ?_⟩, h⟩
  rw [tx_len]
  cases a with
  | nil => rfl
  | cons c r =>
    have : ((c :: r).length : Int) ≠ 0 := by simp; omega
    rw [decide_eq_false (by simp)]
    exact (bne_iff_ne.mpr this).symm
theorem s_addI {i j:Int} (h:Q (.int (i + j)) H):rPlus (.int i) (.int j) H Q:=.inl ⟨i,j,rfl,rfl,h⟩
theorem s_addT {a b:List Nat} (hz:a.length + b.length <= sizeLine) (h:Q (tx (a ++ b)) H):rPlus (tx a) (tx b) H Q:=.inr (.inl ⟨a,b,rfl,rfl,hz,h⟩)
theorem s_addL {a b:Addr} {xs ys:List V} (h1:H a = some (.lst xs)) (h2:H b = some (.lst ys)) (hz:xs.length + ys.length <= sizeLine) (h:∀ p,H p = none->Q (.ref p) (upd H p (.lst (xs ++ ys)))):rPlus (.ref a) (.ref b) H Q:=.inr (.inr ⟨a,b,xs,ys,rfl,rfl,h1,h2,hz,h⟩)
theorem s_subI {g:Int->Int->V} {i j:Int} (h:Q (g i j) H):rI0 g (.int i) (.int j) H Q:=⟨i,j,rfl,rfl,h⟩
theorem s_rI {C:Int->Int->Prop} {g:Int->Int->V} {i j:Int} (hc:C i j) (h:Q (g i j) H):rI C g (.int i) (.int j) H Q:=⟨i,j,rfl,rfl,hc,h⟩
theorem s_mulI {i j:Int} (hc:CMul i j) (h:Q (.int (i * j)) H):rTimes (.int i) (.int j) H Q:=.inl ⟨i,j,rfl,rfl,hc,h⟩
theorem s_mulT {a:List Nat} {k:Int} (h0:0 <= k) (h1:k <= 1000) (hl:a.length <= 1000) (h:Q (tx (List.replicate k.toNat a).flatten) H):rTimes (tx a) (.int k) H Q:=.inr (.inr ⟨a,k,rfl,rfl,h0,h1,hl,h⟩)
theorem s_eqI {i j:Int} (h:Q (.bl (decide (i = j))) H):rEqA K (.int i) (.int j) H Q:=.inl ⟨rfl,by rw [show decide (V.int i = V.int j) = decide (i = j) from by rw [dec_int]; exact (Bool.beq_eq_decide_eq i j)]; exact h⟩
theorem s_eqT {a b:List Nat} (h:Q (.bl (decide (a = b))) H):rEqA K (tx a) (tx b) H Q:=.inl ⟨rfl,by rw [dec_tx]; exact h⟩
theorem s_eqL {a b:Addr} {xs ys:List V} (h1:SqL K H a xs) (h2:SqL K H b ys) (f1:xs.all flatV = true) (f2:ys.all flatV = true) (h:Q (.bl (eqVs xs ys)) H):rEqA K (.ref a) (.ref b) H Q:=.inr ⟨a,b,xs,ys,rfl,rfl,h1,h2,f1,f2,h⟩
theorem s_neI {i j:Int} (h:Q (.bl (!decide (i = j))) H):rNeA K (.int i) (.int j) H Q:=.inl ⟨rfl,by rw [show decide (V.int i = V.int j) = decide (i = j) from by rw [dec_int]; exact (Bool.beq_eq_decide_eq i j)]; exact h⟩
theorem s_neT {a b:List Nat} (h:Q (.bl (!decide (a = b))) H):rNeA K (tx a) (tx b) H Q:=.inl ⟨rfl,by rw [dec_tx]; exact h⟩
theorem s_neL {a b:Addr} {xs ys:List V} (h1:SqL K H a xs) (h2:SqL K H b ys) (f1:xs.all flatV = true) (f2:ys.all flatV = true) (h:Q (.bl (!eqVs xs ys)) H):rNeA K (.ref a) (.ref b) H Q:=.inr ⟨a,b,xs,ys,rfl,rfl,h1,h2,f1,f2,h⟩
theorem s_inT {c:Nat} {l:List Nat} (h:Q (.bl (decide (c ∈ l))) H):rInA K (tx [c]) (tx l) H Q:=.inl ⟨c,l,rfl,rfl,h⟩
theorem s_notinT {c:Nat} {l:List Nat} (h:Q (.bl (!decide (c ∈ l))) H):rNotInA K (tx [c]) (tx l) H Q:=.inl ⟨c,l,rfl,rfl,h⟩
theorem s_inS {x:V} {a:Addr} {xs:List V} (h1:SqL K H a xs\/SqT K H a xs) (f1:flatV x = true) (f2:xs.all flatV = true) (h:Q (.bl (inV x xs)) H):rInA K x (.ref a) H Q:=.inr ⟨a,xs,rfl,h1,f1,f2,h⟩
theorem s_notinS {x:V} {a:Addr} {xs:List V} (h1:SqL K H a xs\/SqT K H a xs) (f1:flatV x = true) (f2:xs.all flatV = true) (h:Q (.bl (!inV x xs)) H):rNotInA K x (.ref a) H Q:=.inr ⟨a,xs,rfl,h1,f1,f2,h⟩
theorem s_is {x y:V} (hl:litV y = true) (h:Q (.bl (decide (x = y))) H):rIsA x y H Q:=⟨hl,h⟩
theorem s_ixT {a:List Nat} {i:Int} {c:Nat} (hz:a.length <= sizeLine) (he:atI a i = some c) (h:Q (tx [c]) H):rIxA K (tx a) (.int i) H Q:=.inl ⟨a,i,c,rfl,rfl,hz,he,h⟩
theorem s_ixL {p:Addr} {xs:List V} {i:Int} {v:V} (hq:SqL K H p xs) (he:atI xs i = some v) (h:Q v H):rIxA K (.ref p) (.int i) H Q:=.inr (.inl ⟨p,xs,i,v,rfl,rfl,hq,he,h⟩)
theorem s_ixU {p:Addr} {xs:List V} {i:Int} {v:V} (hq:SqT K H p xs) (he:atI xs i = some v) (h:Q v H):rIxA K (.ref p) (.int i) H Q:=.inr (.inr ⟨p,xs,i,v,rfl,rfl,hq,he,h⟩)
theorem s_sl {r:V->Option Int->Option Int->Hp->VK->Prop} {te:TE} {tl th:TO} (h:te σ H fun x H1=>tl σ H1 fun l H2=>th σ H2 fun u H3=>r x l u H3 Q):tSl r te tl th σ H Q:=h
theorem s_nopart {R:Option Int->Hp->Prop} (h:R none H):tNoPart σ H R:=h
theorem s_part {t:TE} {R:Option Int->Hp->Prop} (h:t σ H fun x H1=>∃ i,x = .int i/\R (some i) H1):tPart t σ H R:=h
theorem s_partI {i:Int} {R:Int->Prop} (h:R i):∃ j,V.int i = V.int j/\R j:=⟨i,rfl,h⟩
theorem s_slT {a:List Nat} {lo hi:Option Int} (hz:a.length <= sizeLine) (h:Q (tx (cutL a lo hi)) H):rSlA K (tx a) lo hi H Q:=.inl ⟨a,rfl,hz,h⟩
theorem s_slL {p:Addr} {xs:List V} {lo hi:Option Int} (hq:SqL K H p xs) (h:∀ r,H r = none->Q (.ref r) (upd H r (.lst (cutV xs lo hi)))):rSlA K (.ref p) lo hi H Q:=.inr ⟨p,xs,rfl,hq,h⟩
theorem s_lenT {a:List Nat} (hz:a.length <= sizeLine) (h:Q (.int a.length) H):rLen K [tx a] H Q:=.inl ⟨a,rfl,hz,h⟩
theorem s_lenL {p:Addr} {ys:List V} (hq:SqL K H p ys\/SqT K H p ys) (h:Q (.int ys.length) H):rLen K [.ref p] H Q:=.inr ⟨p,ys,rfl,hq,h⟩
theorem s_all {a:Addr} {bs:List Bool} (hq:SqL K H a (bs.map V.bl)) (h:Q (.bl (bs.all id)) H):rAll K [.ref a] H Q:=⟨a,bs,rfl,hq,h⟩
theorem s_isi {x:V} {T:String} {t:Value} {b:Bool} (ty:TyOf K H x t) (e:PySem.W.kitOne K t (.type T) = some b) (h:Q (.bl b) H):rIsi K [x,.ty T] H Q:=⟨x,T,t,b,rfl,ty,e,h⟩
theorem s_max {i j:Int} (h:Q (.int (if j > i then j else i)) H):rMax [.int i,.int j] H Q:=⟨i,j,rfl,h⟩
theorem s_min {i j:Int} (h:Q (.int (if j < i then j else i)) H):rMin [.int i,.int j] H Q:=⟨i,j,rfl,h⟩
theorem s_intB {k:Bool} (h:Q (.int (if k then 1 else 0)) H):rInt [.bl k] H Q:=.inr ⟨k,rfl,h⟩
theorem s_bm {T:String} {r:V->List V->Hp->VK->Prop} {to:TE} {t:TA} (h:to σ H fun x H1=>tyV K T x H1/\t σ H1 fun xs H2=>r x xs H2 Q):tBM K T r to t σ H Q:=h
theorem s_bm0 {T:String} {r:V->List V->Hp->VK->Prop} {to:TE} (h:to σ H fun x H1=>tyV K T x H1/\r x [] H1 Q):tBM0 K T r to σ H Q:=h
end
section
variable {g:TG} {tb:TS} {D:Ends} {σ:St} {H:Hp}
def ForW (J:It) (g:TG) (tb:TS) (D:Ends) (σ:St) (H:Hp):Prop:=∃ W:Nat->Nat->St->Hp->Prop,(∃ m,W 0 m σ H)/\∀ i m σ H,W i m σ H ->
 (J.stop i H/\D.nx σ H)\/(J.go i H/\∃ N:St->Hp->Prop,(∀ σ' H',N σ' H'->∃ m',m' < m/\W (i + 1) m' σ' H')/\∀ x H',J.yld i H x H'->g x σ H' fun σ2 H2=>tb { D with nx:=N,ct:=N,bk:=D.nx } σ2 H2)
theorem s_for {wi:TI} (h:wi σ H fun J H1=>ForW J g tb D σ H1):tFor wi g tb D σ H:=h
theorem s_irng1 {ta:TA} {R:It->Hp->Prop} (h:ta σ H fun vs H1=>∃ j:Int,vs = [.int j]/\-(2 ^ 62) <= j/\j < 2 ^ 62/\R (Itr 0 j.toNat) H1):iRng1 ta σ H R:=h
theorem s_irng2 {ta:TA} {R:It->Hp->Prop} (h:ta σ H fun vs H1=>∃ i j:Int,vs = [.int i,.int j]/\(-(2 ^ 62) <= i/\i < 2 ^ 62/\-(2 ^ 62) <= j/\j < 2 ^ 62)/\R (Itr i (j - i).toNat) H1):iRng2 ta σ H R:=h
theorem s_ilist {K:PySem.W.Frag} {tl:TE} {R:It->Hp->Prop} (h:tl σ H fun x H1=>∃ a,x = .ref a/\(∃ xs,SqL K H1 a xs)/\R (Itl K a) H1):iList K tl σ H R:=h
theorem s_istr {tl:TE} {R:It->Hp->Prop} (h:tl σ H fun x H1=>∃ z,x = .str z/\R (Its z) H1):iStr tl σ H R:=h
theorem s_istrT {a:List Nat} {R:Str->Prop} (h:R ⟨a.toArray⟩):∃ z,tx a = .str z/\R z:=⟨_,rfl,h⟩
theorem for_rng {lo:Int} {n:Nat} (Pv:Nat->St->Hp->Prop) (h0:Pv 0 σ H)
  (hs:∀ i σ H,i < n->Pv i σ H->g (.int (lo + i)) σ H fun σ2 H2=>tb { D with nx:=Pv (i + 1),ct:=Pv (i + 1),bk:=D.nx } σ2 H2) (hd:∀ σ H,Pv n σ H->D.nx σ H):ForW (Itr lo n) g tb D σ H:=for_range Pv h0 hs hd
theorem for_of {J:It} {n:Nat} (Pv:Nat->St->Hp->Prop) (h0:Pv 0 σ H) (hgo:∀ i σ H,i < n->Pv i σ H->J.go i H) (hst:∀ σ H,Pv n σ H->J.stop n H)
  (hs:∀ i x σ H H',i < n->Pv i σ H->J.yld i H x H'->g x σ H' fun σ2 H2=>tb { D with nx:=Pv (i + 1),ct:=Pv (i + 1),bk:=D.nx } σ2 H2) (hd:∀ σ H,Pv n σ H->D.nx σ H):ForW J g tb D σ H:=by
 refine ⟨fun i m σ H=>m = n - i/\i <= n/\Pv i σ H,⟨n,by simp,Nat.zero_le _,h0⟩,?_⟩
 rintro i m σ H ⟨rfl,hi,p⟩
 by_cases hlt:i < n
 ·exact .inr ⟨hgo i σ H hlt p,Pv (i + 1),fun σ' H' p'=>⟨n - (i + 1),by omega,rfl,hlt,p'⟩,fun x H' y=>hs i x σ H H' hlt p y⟩
 ·have e:i = n:=by omega
  subst e
  exact .inl ⟨hst σ H p,hd σ H p⟩
theorem for_str {a:List Nat} (Pv:Nat->St->Hp->Prop) (h0:Pv 0 σ H)
  (hs:∀ i c σ H,a[i]? = some c->Pv i σ H->g (tx [c]) σ H fun σ2 H2=>tb { D with nx:=Pv (i + 1),ct:=Pv (i + 1),bk:=D.nx } σ2 H2) (hd:∀ σ H,Pv a.length σ H->D.nx σ H):ForW (Its ⟨a.toArray⟩) g tb D σ H:=by
 refine for_of (n:=a.length) Pv h0 (fun i σ H hi _=>by simpa [Its] using hi) (fun σ H _=>by simp [Its]) (fun i x σ H H' hi p y=>?_) hd
 obtain ⟨rfl,c,e,rfl⟩:=y
 exact hs i c σ H' (by simpa using e) p
def CW (D:Addr) (n:Nat) (Pv:Nat->List V->Hp->Prop) (i m:Nat) (H:Hp):Prop:=m = n - i/\i <= n/\∃ ys,H D = some (.lst ys)/\ys.length <= i/\Pv i ys H
def CompW (J : It) (own : List Str) (sel : List Nat) (σ : St) (g : TG) (tt : TT) (te : TE) (Q : VK) (H1 : Hp) : Prop := ∀ D, H1 D = none ->
 ∃ W : Nat -> Nat -> Hp -> Prop, (∃ m, W 0 m (upd H1 D (.lst []))) /\ ∀ i m H2, W i m H2 ->
  (J.stop i H2 /\ Q (.ref D) H2) \/ (J.go i H2 /\ ∀ x H3, J.yld i H2 x H3 -> g x (inSt own sel σ) H3 fun σ4 H4 => tt σ4 H4 fun b H5 =>
   if b = true then te σ4 H5 fun v H6 => ∃ ys, H6 D = some (.lst ys) /\ ys.length < sizeLine /\ ∃ m', m' < m /\ W (i + 1) m' (upd H6 D (.lst (ys ++ [v])))
   else ∃ m', m' < m /\ W (i + 1) m' H5)
theorem s_comp {own:List Str} {sel:List Nat} {wi:TI} {tt:TT} {te:TE} {Q:VK} (h:wi σ H fun J H1=>CompW J own sel σ g tt te Q H1):tComp own sel wi g tt te σ H Q:=h
theorem comp_of {J : It} {n : Nat} {own : List Str} {sel : List Nat} {tt : TT} {te : TE} {Q : VK} {H1 : Hp} (Pv : Addr -> Nat -> List V -> Hp -> Prop) (h0 : ∀ D, H1 D = none -> Pv D 0 [] (upd H1 D (.lst [])))
  (hgo : ∀ D i ys H, H1 D = none -> i < n -> H D = some (.lst ys) -> Pv D i ys H -> J.go i H) (hst : ∀ D ys H, H1 D = none -> H D = some (.lst ys) -> ys.length <= n -> Pv D n ys H -> J.stop n H /\ Q (.ref D) H)
  (hs : ∀ D i ys H x H3, H1 D = none -> i < n -> H D = some (.lst ys) -> ys.length <= i -> Pv D i ys H -> J.yld i H x H3 -> g x (inSt own sel σ) H3 fun σ4 H4 => tt σ4 H4 fun b H5 =>
   if b = true then te σ4 H5 fun v H6 => ∃ ys, H6 D = some (.lst ys) /\ ys.length < sizeLine /\ ∃ m', m' < n - i /\ CW D n (Pv D) (i + 1) m' (upd H6 D (.lst (ys ++ [v])))
   else ∃ m', m' < n - i /\ CW D n (Pv D) (i + 1) m' H5) : CompW J own sel σ g tt te Q H1 := by
 intro D hD
 refine ⟨CW D n (Pv D), ⟨n, by simp, Nat.zero_le _, [], upd_same, Nat.le_refl _, h0 D hD⟩, ?_⟩
 rintro i m H2 ⟨rfl, hi, ys, hy, hl, p⟩
 by_cases hlt : i < n
 ·exact .inr ⟨hgo D i ys H2 hD hlt hy p, fun x H3 y => hs D i ys H2 x H3 hD hlt hy hl p y⟩
 ·have e : i = n := by omega
  subst e
  exact .inl (hst D ys H2 hD hy hl p)
theorem comp_next {D:Addr} {n i:Nat} {Pv:Nat->List V->Hp->Prop} {ys:List V} {v:V} {H:Hp} (hi:i < n) (hn:n <= sizeLine) (hD:H D = some (.lst ys)) (hl:ys.length <= i) (p:Pv (i + 1) (ys ++ [v]) (upd H D (.lst (ys ++ [v])))) :
  ∃ ys,H D = some (.lst ys)/\ys.length < sizeLine/\∃ m',m' < n - i/\CW D n Pv (i + 1) m' (upd H D (.lst (ys ++ [v]))) :=
 ⟨ys,hD,by omega,n - (i + 1),by omega,rfl,hi,ys ++ [v],upd_same,by simp; omega,p⟩
theorem comp_skip {D:Addr} {n i:Nat} {Pv:Nat->List V->Hp->Prop} {ys:List V} {H:Hp} (hi:i < n) (hD:H D = some (.lst ys)) (hl:ys.length <= i) (p:Pv (i + 1) ys H) :
  ∃ m',m' < n - i/\CW D n Pv (i + 1) m' H:=⟨n - (i + 1),by omega,rfl,hi,ys,hD,by omega,p⟩
theorem s_yes {R:Bool->Hp->Prop} (h:R true H):tYes σ H R:=h
end
theorem small {n:Nat} (h:n <= 1000):n <= sizeLine:=Nat.le_of_lt (small1000 h)
theorem same_new {H:Hp} {p:Addr} (h:H p = none) (o:HO):Same H (upd H p o):=fun b u q=>by rw [upd_ne (ne_of_none q h)]; exact q
def SameBut1 (p:Addr) (H H':Hp):Prop:=∀ b o,H b = some o->b ≠ p->H' b = some o
theorem SameBut1.refl (p:Addr) (H:Hp):SameBut1 p H H:=fun _ _ h _=>h
theorem SameBut1.trans {p:Addr} {H H1 H2:Hp} (a:SameBut1 p H H1) (b:SameBut1 p H1 H2):SameBut1 p H H2:=fun c o h n=>b c o (a c o h n) n
theorem SameBut1.of {p:Addr} {H H':Hp} (a:Same H H'):SameBut1 p H H':=fun c o h _=>a c o h
theorem SameBut1.upd {p:Addr} {H:Hp} {o:HO}:SameBut1 p H (upd H p o):=fun c u h n=>by rw [upd_ne n]; exact h
end L2
namespace L2
open PySem PySem.Spec PyProof.Rows
def compOkB (osc:Scope) (N:List Str) (own:List Str) (sel:List Nat) (scope:Scope):Bool :=
 (scope.kind == .function) && scope.names.all (fun y=>y.2 != .cell) && scope.names.all (fun y=>y.2 != .local || scope.names.lookup y.1 == some .local) &&
 scope.names.all (fun y=>y.2 != .free || osc.names.lookup y.1 == some .cell || osc.names.lookup y.1 == some .free) &&
 sel.all (fun j=>decide (j < N.length) && scope.names.lookup (N.getD j Str.empty) == some .free && (osc.names.lookup (N.getD j Str.empty) == some .cell || osc.names.lookup (N.getD j Str.empty) == some .free))
theorem compOk_of {osc:Scope} {N:List Str} {own:List Str} {sel:List Nat} {scope:Scope} (h:compOkB osc N own sel scope = true):CompOk osc N own sel scope:=by
 unfold compOkB at h
 simp only [Bool.and_eq_true,List.all_eq_true] at h
 obtain ⟨⟨⟨⟨h1,h2⟩,h3⟩,h4⟩,h5⟩:=h
 refine ⟨by simpa using h1,fun y hy=>by simpa using h2 y hy,fun y hy e=>?_,fun y hy e=>?_,fun j hj=>?_⟩
 ·have:=h3 y hy
  simp only [Bool.or_eq_true,bne_iff_ne,beq_iff_eq] at this
  rcases this with q | q
  ·exact absurd e q
  ·exact q
 ·have:=h4 y hy
  simp only [Bool.or_eq_true,bne_iff_ne,beq_iff_eq] at this
  rcases this with (q | q) | q
  ·exact absurd e q
  ·exact .inl q
  ·exact .inr q
 ·have:=h5 j hj
  simp only [Bool.or_eq_true,beq_iff_eq,decide_eq_true_eq] at this
  exact ⟨this.1.1,this.1.2,this.2⟩
structure DefAt (K:PySem.W.Frag) (mg:Str->Option Value) (x:Str) (st:Stmt) (ps:List Str) (f:Addr) (fd:FuncData):Prop where
 F:Fun K x x st f fd
 m:mg x = some (.ref f)
 b:Binds K fd ps []
theorem DefAt.fnU {P:Program} {w:World} {K:PySem.W.Frag} {mg:Str->Option Value} {base:Heap} {x:Str} {st:Stmt} {ps:List Str} {f:Addr} {fd:FuncData} {k:Nat} {sp:Sp} (d:DefAt K mg x st ps f fd) (ok:FnOk P w K mg base CX0 k f fd ps sp):FnU P w K mg base k x ps sp :=
 ⟨f,fd,ok,d.m,d.F.kp,d.b⟩
def PoolAt (H:Hp) (p:Addr) (n:Nat):Prop:=∃ a b c:Int,H p = some (.lst [.int a,.int b,.int c])/\0 <= c/\c <= n
theorem PoolAt.ne {H:Hp} {p q:Addr} {n:Nat} (h:PoolAt H p n) (hq:H q = none):q ≠ p:=by
 obtain ⟨a,b,c,e,_⟩:=h
 exact (ne_of_none e hq).symm
theorem atI_0 {α:Type} (x:α) (r:List α):atI (x :: r) 0 = some x:=by simp [atI,ixN]
theorem s_setL {p:Addr} {xs:List V} {k:Int} {j:Nat} {v:V} {H:Hp} {R:Hp->Prop} (h:H p = some (.lst xs)) (e:ixN xs.length k = some j) (q:R (upd H p (.lst (xs.set j v)))):rSetL (.ref p) (.int k) v H R:=⟨p,xs,k,j,rfl,rfl,h,e,q⟩
def WN (Pv:St->Hp->Prop) (μ:St->Hp->Nat) (m:Nat):St->Hp->Prop:=fun σ' H'=>Pv σ' H'/\μ σ' H' < m
theorem while_of {c:TT} {tb:TS} {D:Ends} {σ:St} {H:Hp} (Pv:St->Hp->Prop) (μ:St->Hp->Nat) (h0:Pv σ H)
  (hs:∀ σ H,Pv σ H->c σ H fun b H1=>if b = true then ∃ N:St->Hp->Prop,(∀ σ' H',N σ' H'->∃ m',m' < μ σ H/\(m' = μ σ' H'/\Pv σ' H'))/\tb { D with nx:=N,ct:=N,bk:=D.nx } σ H1 else D.nx σ H1):tWhile c tb D σ H :=
 ⟨fun m σ H=>m = μ σ H/\Pv σ H,⟨_,rfl,h0⟩,fun m σ H ⟨e,p⟩=>by subst e; exact hs σ H p⟩
theorem wh_body {tb:TS} {D:Ends} {σ:St} {H1:Hp} {Pv:St->Hp->Prop} {μ:St->Hp->Nat} {m:Nat} (h:tb { D with nx:=WN Pv μ m,ct:=WN Pv μ m,bk:=D.nx } σ H1) :
  ∃ N:St->Hp->Prop,(∀ σ' H',N σ' H'->∃ m',m' < m/\(m' = μ σ' H'/\Pv σ' H'))/\tb { D with nx:=N,ct:=N,bk:=D.nx } σ H1 :=
 ⟨WN Pv μ m,fun σ' H' ⟨p,l⟩=>⟨_,l,rfl,p⟩,h⟩
theorem or_tests {t u:TT} {σ:St} {H:Hp} {R:Bool->Hp->Prop} {c d:Bool} (ht:∀ R:Bool->Hp->Prop,R c H->t σ H R) (hu:∀ R:Bool->Hp->Prop,R d H->u σ H R) (h:R (c || d) H):tOr t u σ H R:=by
 refine ht _ ?_
 cases c with
 | true=>rw [if_pos rfl]; exact h
 | false=>rw [if_neg Bool.false_ne_true]; exact hu _ h
theorem rel_of_abs {u:Value} {x:V} (h:absV u = some x):RelV x u:=by
 cases u <;> first
  | (cases h; rfl)
  | (cases h; exact ⟨_,rfl⟩)
  | (exact absurd h (by intro z; cases z))
def tupIs (its:Array Value) (xs:List V):Bool:=decide (its.toList.map absV = xs.map some)
theorem vals_of_abs : ∀ {xs : List V} {us : List Value}, us.map absV = xs.map some -> Vals xs us
  | [], [], _ => .nil
  | x :: xs, u :: us, h => by
    rw [List.map_cons, List.map_cons] at h
    injection h with h1 h2
    exact .cons (rel_of_abs h1) (vals_of_abs h2)
  | [], _ :: _, h => by cases h
  | _ :: _, [], h => by cases h
theorem tupIs_vals {its:Array Value} {xs:List V} (h:tupIs its xs = true):Vals xs its.toList:=vals_of_abs (of_decide_eq_true h)
theorem tupIs_size {its:Array Value} {xs:List V} (h:tupIs its xs = true) (hx:xs.length <= 1000):its.size <= sizeLine:=by
 have e:=(tupIs_vals h).length
 have e2:its.toList.length = its.size:=by simp
 exact Nat.le_of_lt (small1000 (by omega))
theorem ifd {c A B:Prop} [Decidable c] (h1:c->A) (h2:¬ c->B):if decide c = true then A else B:=by
 by_cases h:c
 ·rw [if_pos (decide_eq_true h)]; exact h1 h
 ·rw [if_neg (by rw [decide_eq_false h]; exact Bool.false_ne_true)]; exact h2 h
theorem ifp {c:Bool} {A B:Prop} (hc:c = true) (h:A):if c = true then A else B:=by rw [if_pos hc]; exact h
theorem ifq {c:Bool} {A B:Prop} (hc:c = false) (h:B):if c = true then A else B:=by rw [if_neg (by rw [hc]; exact Bool.false_ne_true)]; exact h
theorem atI_ints {ns:List Int} {k:Int} (h0:0 <= k) (h:k < (ns.length:Int)):∃ v:Int,atI (ns.map V.int) k = some (.int v):=by
 have hk:k.toNat < ns.length:=by omega
 have ek:k = ((k.toNat:Nat):Int):=by omega
 have q:atI (ns.map V.int) ((k.toNat:Nat):Int) = some (.int ns[k.toNat]):=atI_nat (by rw [List.getElem?_map,List.getElem?_eq_getElem hk]; rfl)
 rw [<- ek] at q
 exact ⟨_,q⟩
end L2
namespace BrM
open L2
def opn:List Nat:=[40,91,123,60]
def cls:List Nat:=[41,93,125,62]
def clo (c:Nat):Nat:=if c = 40 then 41 else if c = 91 then 93 else if c = 123 then 125 else 62
def stp (st:List Nat) (c:Nat):Option (List Nat) :=
 if c ∈ opn then some (clo c :: st) else match st with
  | d :: r=>if c = d then some r else none
  | []=>none
def run:List Nat->List Nat->Option (List Nat)
 | st,[]=>some st
 | st,c :: r=>(stp st c).bind fun s=>run s r
theorem run_append (st a b : List Nat) : run st (a ++ b) = (run st a).bind fun s => run s b := by
  induction a generalizing st with
  | nil => rfl
  | cons c r ih =>
    show (stp st c).bind _ = ((stp st c).bind _).bind _
    cases stp st c with
    | none => rfl
    | some s => exact ih s
theorem run_snoc {st a s:List Nat} (h:run st a = some s) (c:Nat):run st (a ++ [c]) = stp s c:=by
 rw [run_append,h]
 show (stp s c).bind (fun s=>some s) = stp s c
 cases stp s c <;> rfl
theorem stp_open {c:Nat} (h:c ∈ opn) (st:List Nat):stp st c = some (clo c :: st):=by unfold stp; rw [if_pos h]
theorem stp_close {d:Nat} (h:d ∉ opn) (r:List Nat):stp (d :: r) d = some r:=by unfold stp; rw [if_neg h]; simp
def Rt (row:List Nat):Prop:=run [] row = some []
def kin (k:Int) (c:Nat):Prop:=c ∈ opn.take k.toNat\/c ∈ cls.take k.toNat
theorem opn_at {i:Int} {k:Int} (h0:0 <= i) (h1:i < k) (hk:k <= 4):∃ c,atI [40,91,123,60] i = some c/\c ∈ opn/\c ∈ opn.take k.toNat/\atI [41,93,125,62] i = some (clo c)/\clo c ∈ cls.take k.toNat/\clo c ∉ opn:=by
 have:i = 0\/i = 1\/i = 2\/i = 3:=by omega
 have hk':k = 1\/k = 2\/k = 3\/k = 4:=by omega
 rcases hk' with rfl | rfl | rfl | rfl <;> rcases this with rfl | rfl | rfl | rfl <;> first
  | omega
  | exact ⟨40,by decide⟩
  | exact ⟨91,by decide⟩
  | exact ⟨123,by decide⟩
  | exact ⟨60,by decide⟩
theorem at3 {α:Type} (x y z:α) {i:Int} (h0:0 <= i) (h1:i < 3):∃ v,atI [x,y,z] i = some v/\(v = x\/v = y\/v = z):=by
 have:i = 0\/i = 1\/i = 2:=by omega
 rcases this with rfl | rfl | rfl
 ·exact ⟨x,rfl,.inl rfl⟩
 ·exact ⟨y,rfl,.inr (.inl rfl)⟩
 ·exact ⟨z,rfl,.inr (.inr rfl)⟩
theorem cut_tail {α:Type} (c:α) (r:List α):cutL (c :: r) (some 1) none = r:=by
 unfold cutL
 have e1:HT.sIx (c :: r).length 0 (some 1) = 1:=by
  show HT.sIx (r.length + 1) 0 (some ((1:Nat):Int)) = 1
  rw [HT.sIx_nat]; omega
 have e2:HT.sIx (c :: r).length (c :: r).length none = r.length + 1:=rfl
 rw [e1,e2]
 simp
end BrM
namespace BrM
open L2
def sg (c:Nat):Int:=if c ∈ opn then 1 else -1
def hg:List Nat->Int
 | []=>0
 | c :: r=>sg c + hg r
def ht (a:List Nat) (i:Nat):Int:=hg (a.take i)
def Pr (a:List Nat) (x y:Nat):Prop:=x < y/\y < a.length/\ht a (y + 1) = ht a x/\∀ m,x < m->m <= y->ht a x < ht a m
inductive WS (a:List Nat) (i:Nat):List Nat->List Nat->Prop where
 | nil:WS a i [] []
 | cons {w c:Nat} {ws st:List Nat}:w < i->a[w]? = some c->c ∈ opn->ht a w = ws.length->(∀ m,w < m->m <= i->ht a w < ht a m)->WS a i ws st->WS a i (w :: ws) (clo c :: st)
theorem WS.len {a ws st:List Nat} {i:Nat} (h:WS a i ws st):ws.length = st.length:=by
 induction h with
 | nil=>rfl
 | cons _ _ _ _ _ _ ih=>simp [ih]
structure MI (a:List Nat) (i:Nat) (st ws:List Nat) (xs:List V):Prop where
 rn:run [] (a.take i) = some st
 wk:WS a i ws st
 len:xs.length = a.length
 don:∀ k,k < i->k ∈ ws\/∃ p:Nat,xs[k]? = some (.int p)/\(Pr a k p\/Pr a p k)
theorem MI.top {a st:List Nat} {w:Nat} {ws:List Nat} {xs:List V} {i:Nat} (m:MI a i st (w :: ws) xs):∃ c r,a[w]? = some c/\c ∈ opn/\st = clo c :: r/\w < i:=by
 have h:=m.wk
 cases h with
 | cons h1 h2 h3 h4 h5 h6=>exact ⟨_,_,h2,h3,rfl,h1⟩
theorem eqVs_refl : ∀ {xs : List V}, xs.all flatV = true -> eqVs xs xs = true
  | [], _ => rfl
  | x :: xs, h => by
    rw [List.all_cons, Bool.and_eq_true] at h
    show (eqV x x && eqVs xs xs) = true
    rw [eqVs_refl h.2, Bool.and_true]
    cases x <;> first | rfl | (exact absurd h.1 Bool.false_ne_true) | exact beq_self_eq_true _
end BrM
namespace BrM
open L2 PySem
def plainTy:List String:=["NoneType","bool","int","str","list","tuple","dict"]
def spWhole (K:PySem.W.Frag):Sp:=fun vs H Q _=>∃ x T,vs = [x]/\TyOf K H x (.type T)/\T ∈ plainTy/\Q (.bl (decide (T = "int"))) H
theorem whole_int {K:PySem.W.Frag} {H:Hp} {i:Int} {Q:VK} {E:XK} (q:Q (.bl true) H):spWhole K ([.int i] ++ []) H Q E:=⟨.int i,"int",rfl,.int i,by decide,q⟩
def spKinds:Sp:=fun vs H Q _=>∃ k,vs = [.int k]/\1 <= k/\k <= 4/\Q .non H
theorem kinds_use {H:Hp} {k:Int} {Q:VK} {E:XK} (h1:1 <= k) (h2:k <= 4) (q:Q .non H):spKinds ([.int k] ++ []) H Q E:=⟨k,rfl,h1,h2,q⟩
def sgn (k:Int):List Nat:=opn.take k.toNat ++ cls.take k.toNat ++ [63]
def isRow (k:Int) (a:List Nat):Bool:=decide (a.length <= 40) && a.all fun c=>decide (c ∈ sgn k)
def spLine (K:PySem.W.Frag):Sp:=fun vs H Q _=>∃ k x,vs = [.int k,x]/\1 <= k/\k <= 4 /\
 ((∃ a,x = tx a/\a.length <= 1000/\∀ H',Same H H'->Q (.bl (isRow k a)) H')\/(∃ T,TyOf K H x (.type T)/\T ∈ plainTy/\T ≠ "str"/\Q (.bl false) H))
theorem line_use {K:PySem.W.Frag} {H:Hp} {k:Int} {a:List Nat} {Q:VK} {E:XK} (h1:1 <= k) (h2:k <= 4) (ha:a.length <= 1000) (q:∀ H',Same H H'->Q (.bl (isRow k a)) H'):spLine K ([.int k,tx a] ++ []) H Q E:=⟨k,_,rfl,h1,h2,.inl ⟨a,rfl,ha,q⟩⟩
def spCheckLine:Sp:=fun vs H Q _=>∃ k a,vs = [.int k,tx a]/\1 <= k/\k <= 4/\isRow k a = true/\∀ H',Same H H'->Q .non H'
theorem checkLine_use {H:Hp} {k:Int} {a:List Nat} {Q:VK} {E:XK} (h1:1 <= k) (h2:k <= 4) (ha:isRow k a = true) (q:∀ H',Same H H'->Q .non H'):spCheckLine ([.int k,tx a] ++ []) H Q E:=⟨k,a,rfl,h1,h2,ha,q⟩
instance (a:List Nat):Decidable (Rt a):=by unfold Rt; infer_instance
def spLaw (K:PySem.W.Frag):Sp:=fun vs H Q _=>∃ (a:Addr) (ns:List Int),vs = [.ref a]/\SqL K H a (ns.map V.int)/\ns.length <= 63/\∀ H',Q (.bl true) H'
theorem isRow_len {k:Int} {a:List Nat} (h:isRow k a = true):a.length <= 40:=by
 unfold isRow at h
 simp only [Bool.and_eq_true,decide_eq_true_eq] at h
 exact h.1
theorem mem_take_mono {α:Type} {l:List α} {i j:Nat} (h:i <= j) {x:α} (hx:x ∈ l.take i):x ∈ l.take j:=by
 have e:l.take i = (l.take j).take i:=by rw [List.take_take,Nat.min_eq_left h]
 rw [e] at hx
 exact List.mem_of_mem_take hx
theorem isRow_of {k kk:Int} {a:List Nat} (hk:kk <= k) (hl:a.length <= 40) (h:∀ c ∈ a,kin kk c):isRow k a = true:=by
 unfold isRow
 rw [Bool.and_eq_true]
 refine ⟨decide_eq_true hl,?_⟩
 rw [List.all_eq_true]
 intro c hc
 refine decide_eq_true ?_
 unfold sgn
 have hn:kk.toNat <= k.toNat:=by omega
 rcases h c hc with z | z
 ·exact List.mem_append_left _ (List.mem_append_left _ (mem_take_mono hn z))
 ·exact List.mem_append_left _ (List.mem_append_right _ (mem_take_mono hn z))
theorem cut_to {α:Type} (xs:List α) {k:Int} (h:0 <= k):cutL xs none (some k) = xs.take k.toNat:=by
 unfold cutL
 obtain ⟨n,rfl⟩:∃ n:Nat,k = n:=⟨k.toNat,by omega⟩
 rw [HT.sIx_nat,HT.sIx_none,List.drop_zero,Nat.sub_zero,Int.toNat_natCast]
 rcases Nat.le_total n xs.length with z | z
 ·rw [Nat.min_eq_left z]
 ·rw [Nat.min_eq_right z,List.take_length,List.take_of_length_le z]
theorem Same.but {H H1 H2:Hp} {p:Addr} (a:Same H H1) (b:SameBut1 p H1 H2) (h:H p = none):Same H H2:=fun c o z=>b c o (a c o z) (ne_of_none z h)
theorem SameBut1.at {H H1:Hp} {p b:Addr} {o:HO} (s:SameBut1 p H H1) (h:H b = some o) (n:b ≠ p):H1 b = some o:=s b o h n
end BrM
namespace BrM
open L2 PySem
def mx (a:List Nat):Nat->Int
 | 0=>0
 | i + 1=>if ht a (i + 1) > mx a i then ht a (i + 1) else mx a i
def deep (a:List Nat):Int:=mx a a.length
def piece (a:List Nat) (b e:Nat):List Nat:=cutL a (some (b:Int)) (some (e:Int))
def ct (a:List Nat):Nat->List (List Nat) × Nat
 | 0=>([],0)
 | i + 1=>if ht a (i + 1) = 0 then ((ct a i).1 ++ [piece a (ct a i).2 (i + 1)],i + 1) else ct a i
def pts (a:List Nat):List (List Nat):=(ct a a.length).1
end BrM
namespace BrM
open L2 PySem
theorem isRow_mem {k:Int} {a:List Nat} (h:isRow k a = true):∀ c ∈ a,c ∈ sgn k:=by
 unfold isRow at h
 simp only [Bool.and_eq_true,List.all_eq_true,decide_eq_true_eq] at h
 exact h.2
theorem isRow_mk {k:Int} {a:List Nat} (hl:a.length <= 40) (h:∀ c ∈ a,c ∈ sgn k):isRow k a = true:=by
 unfold isRow
 simp only [Bool.and_eq_true,List.all_eq_true,decide_eq_true_eq]
 exact ⟨hl,h⟩
theorem cut_from {α:Type} (xs:List α) (i:Nat):cutL xs (some (i:Int)) none = xs.drop i:=by
 unfold cutL
 rw [HT.sIx_nat,HT.sIx_none]
 rcases Nat.le_total i xs.length with h | h
 ·rw [Nat.min_eq_left h,List.take_of_length_le (by rw [List.length_drop]; omega)]
 ·rw [Nat.min_eq_right h,List.drop_of_length_le (Nat.le_refl _),List.drop_of_length_le h]; simp
end BrM
namespace BrR
open PySem PySem.Spec PyProof.Rows
open PySem.Builtin
theorem slot_rev_init:Slot "reversed" "__init__" "object.__init__" :=
 .of (owner:="object") (n:="__init__") (by rw [typeLookup_type,builtinLookup_eq_fast]; kernel_rfl) (by decide +kernel) (by decide +kernel) (by decide +kernel) (by first | exact .inl (by decide +kernel) | exact .inr (by decide +kernel)) (by rw [isSubtype_type]; kernel_rfl)
theorem slot_rev_next:Slot "reversed" "__next__" "reversed.__next__" :=
 .of (owner:="reversed") (n:="__next__") (by rw [typeLookup_type,builtinLookup_eq_fast]; kernel_rfl) (by decide +kernel) (by decide +kernel) (by decide +kernel) (by first | exact .inl (by decide +kernel) | exact .inr (by decide +kernel)) (by rw [isSubtype_type]; kernel_rfl)
theorem slot_rev_iter:Slot "reversed" "__iter__" "reversed.__iter__" :=
 .of (owner:="reversed") (n:="__iter__") (by rw [typeLookup_type,builtinLookup_eq_fast]; kernel_rfl) (by decide +kernel) (by decide +kernel) (by decide +kernel) (by first | exact .inl (by decide +kernel) | exact .inr (by decide +kernel)) (by rw [isSubtype_type]; kernel_rfl)
theorem called_rev:TypeCalled "reversed" "reversed.__new__" "object.__init__" :=
 ⟨by decide +kernel,by decide +kernel,⟨_,_,F.mro_reversed⟩,F.made_reversed,by decide +kernel,by rw [isSubtype_type]; kernel_rfl,slot_rev_init⟩
theorem entry_rev_next:entryFor table "reversed.__next__" = some Builtin.«reversed.__next__»:=entryFor_of_tree (by kernel_rfl)
theorem entry_rev_iter:entryFor table "reversed.__iter__" = some Builtin.«dict_keyiterator.__iter__» :=
 entryFor_alias (id':="dict_keyiterator.__iter__") (by kernel_rfl) (by first | rfl | decide +kernel | (unfold String.splitOn; simp +decide [String.splitOnAux])) (by decide +kernel) (by kernel_rfl)
theorem args_rev_next (a:Value):argsOk "reversed.__next__" ⟨[a],[]⟩:=by unfold argsOk; kernel_rfl
theorem args_rev_iter (a:Value):argsOk "reversed.__iter__" ⟨[a],[]⟩:=by unfold argsOk; kernel_rfl
theorem no_rev_str:typeLookup (.type "str") "__reversed__" = pure none:=by rw [typeLookup_type,builtinLookup_eq_fast]; kernel_rfl
theorem str_not_dict:isSubtype (.type "str") (.type "dict") = pure false:=by rw [isSubtype_type]; kernel_rfl
theorem meets_rev_new (x:Str) (t:Tok) (hx:x.length <= sizeLine) :
  Meets (Builtin.«reversed.__new__» ⟨[.type "reversed",.str x t],[]⟩) (fun _ R s=>∀ tk,R (.ok (.ret (.ref s.heap.objs.size))) { s with heap:=s.heap.push { cls:=.type "reversed",data:=.fields #[.str x t,rawInt ((x.length:Int) - 1)] },toks:=tk }) :=
 .of_wp fun prog w A R s h=>by
  have hl:=L2.line63
  unfold Builtin.«reversed.__new__»
  refine wpAny_bind (wpAny_of_eq (newClass_reversed _) ?_)
  try dsimp only
  refine wpAny_bind (wpAny_of_eq (a:=()) (by first | rfl | kernel_rfl) ?_)
  refine wpAny_bind (wpAny_of_eq (a:=()) (by first | rfl | kernel_rfl) ?_)
  try dsimp only
  refine wpAny_bind (wpAny_specialOf (typeIs_str _ _ _) no_rev_str ?_)
  try dsimp only
  refine wpAny_bind ?_
  show wpAny _ _ (isInstance (Value.str x t) (.type "dict") >>= _) _ _ _
  refine wpAny_bind (wpAny_isInstance (typeIs_str _ _ _) str_not_dict ?_)
  show wpAny _ _ (specialOf (Value.str x t) "__getitem__" >>= _) _ _ _
  refine wpAny_bind (wpAny_specialOf (typeIs_str _ _ _) F.slot_str_getitem.lookup ?_)
  refine wpAny_pure ?_
  show wpAny _ _ (call (Value.builtin "len") [Value.str x t] >>= _) _ _ _
  refine wpAny_bind (PySem.P.len_str (by omega) ?_)
  refine wpAny_bind (wpAny_of_eq (a:=some (x.length:Int)) (by rfl) ?_)
  show wpAny _ _ (SmallTypes.newRecord (Value.type "reversed") [Value.str x t,rawInt ((x.length:Int) - 1)] >>= _) _ _ _
  refine wpAny_bind ?_
  show wpAny _ _ (newObj (.type "reversed") (.fields [Value.str x t,rawInt ((x.length:Int) - 1)].toArray)) _ _ _
  exact wpAny_newObj_type (wpAny_pure ⟨_,rfl,h _⟩)
end BrR
namespace BrR
open PySem PySem.Spec PyProof.Rows L2
open PySem.Builtin
def IsRevS (h:Heap) (a:Addr) (x:Str) (t:Tok) (i:Int):Prop:=∃ o,h.get? a = some o/\o.cls = .type "reversed"/\o.data = .fields #[.str x t,rawInt i]
theorem IsRevS.typeIs {s:Shared} {a:Addr} {x:Str} {t:Tok} {i:Int} (y:IsRevS s.heap a x t i):s.TypeIs (.ref a) "reversed":=let ⟨o,ho,hc,_⟩:=y; ⟨o,ho,hc⟩
section
variable {prog:Program} {w:World} {A:Around} {E:Value->Shared->Prop} {s:Shared}
theorem call_revS {x:Str} {t:Tok} {Q:Value->Shared->Prop} (hx:x.length <= sizeLine)
  (h:∀ tk,Q (.ref s.heap.objs.size) { s with heap:=s.heap.push { cls:=.type "reversed",data:=.fields #[.str x t,rawInt ((x.length:Int) - 1)] },toks:=tk }) :
  wpAny (model prog w) A (call (.type "reversed") [.str x t]) Q E s:=by
 refine callType_new called_rev (by decide) (F.typeCall_reversed_1 _) (F.newCall_reversed_1 _) (fun obj=>F.args_object_init_2 obj _) F.entry_reversed_new (meets_rev_new x t hx) fun tk=>?_
 exact ⟨⟨_,Heap.get?_push_size _ rfl,rfl⟩,h tk⟩
theorem iter_revS {a:Addr} {x:Str} {t:Tok} {i:Int} {Q:Value->Shared->Prop} (y:IsRevS s.heap a x t i) (h:Q (.ref a) s):wpAny (model prog w) A (pyIter (.ref a)) Q E s:=by
 refine wpAny_pyIter_slot y.typeIs slot_rev_iter (wpAny_call_entry slot_rev_iter y.typeIs entry_rev_iter ?_ (args_rev_iter _))
 show wpAny _ _ (ret (.ref a)) _ _ s
 exact wpAny_pure ⟨_,rfl,"reversed",_,y.typeIs,slot_rev_next.lookup,h⟩
theorem next_revS {a:Addr} {x:Str} {t:Tok} {i c:Nat} {Q:Option Value->Shared->Prop} (y:IsRevS s.heap a x t (i:Int)) (hc:x.cps[i]? = some c) (hx:x.length <= sizeLine)
  (hQ:∀ h' tk u,IsRevS h' a x t ((i:Int) - 1)->Heap.SameBut a s.heap h'->Q (some (.str ⟨#[c]⟩ u)) { s with heap:=h',toks:=tk }):wpAny (model prog w) A (pyNext (.ref a)) Q E s:=by
 obtain ⟨o,ho,hcl,hd⟩:=id y
 have hl:=L2.line63
 have hi:i < x.cps.size:=(Array.getElem?_eq_some_iff.mp hc).1
 have hi':i < x.length:=hi
 unfold pyNext
 refine wpAny_bind (wpAny_attempt (wpAny_callSpecial?_slot (name:=Str.ofString "__next__") y.typeIs slot_rev_next (wpAny_call_entry slot_rev_next y.typeIs entry_rev_next ?_ (args_rev_next _))))
 unfold Builtin.«reversed.__next__»
 refine wpAny_bind (wpAny_of_eq (a:=(Value.ref a,[])) rfl ?_)
 try dsimp only
 refine wpAny_bind (wpAny_field ho hd (x:=.str x t) rfl ?_)
 refine wpAny_bind (wpAny_field ho hd (x:=rawInt (i:Int)) rfl ?_)
 show wpAny _ _ (if (i:Int) < 0 then _ else _) _ _ s
 rw [if_neg (by omega)]
 show wpAny _ _ (specialOf (Value.str x t) "__getitem__" >>= _) _ _ _
 refine wpAny_bind (wpAny_specialOf (typeIs_str _ _ _) F.slot_str_getitem.lookup ?_)
 show wpAny _ _ (mkInt (i:Int) >>= _) _ _ _
 refine wpAny_bind (wpAny_mkInt ?_)
 refine wpAny_bind (wpAny_attempt ?_)
 refine PySem.P.getItem_str (c:=c) (by simp; omega) (by rw [seqIndex_of (by omega) (by omega)]; simpa using hc) ?_
 show wpAny _ _ (field (Value.ref a) 1 >>= _) _ _ _
 refine wpAny_bind (wpAny_field ho hd (x:=rawInt (i:Int)) rfl ?_)
 show wpAny _ _ (setField (Value.ref a) 1 (rawInt ((i:Int) - 1)) >>= _) _ _ _
 refine wpAny_bind (wpAny_setField ho hd (by simp) (wpAny_pure ⟨_,rfl,wpAny_pure (hQ _ _ _ ?_ (Heap.SameBut.update ..))⟩))
 exact ⟨_,Heap.get?_update_self _ ho (Obj.isFreed_of_fields (Obj.data_mapFields hd _)),(Obj.cls_mapFields ..).trans hcl,by rw [Obj.data_mapFields hd]; simp⟩
theorem end_revS {a:Addr} {x:Str} {t:Tok} {Q:Option Value->Shared->Prop} (hh:A.handled = none) (y:IsRevS s.heap a x t (-1))
  (hQ:∀ h',Heap.ExtBut a s.heap h'->Q none { s with heap:=h' }):wpAny (model prog w) A (pyNext (.ref a)) Q E s:=by
 obtain ⟨o,ho,hcl,hd⟩:=id y
 unfold pyNext
 refine wpAny_bind (wpAny_attempt (wpAny_callSpecial?_slot (name:=Str.ofString "__next__") y.typeIs slot_rev_next (wpAny_call_entry slot_rev_next y.typeIs entry_rev_next ?_ (args_rev_next _))))
 unfold Builtin.«reversed.__next__»
 refine wpAny_bind (wpAny_of_eq (a:=(Value.ref a,[])) rfl ?_)
 try dsimp only
 refine wpAny_bind (wpAny_field ho hd (x:=.str x t) rfl ?_)
 refine wpAny_bind (wpAny_field ho hd (x:=rawInt (-1)) rfl ?_)
 show wpAny _ _ (if (-1:Int) < 0 then _ else _) _ _ s
 rw [if_pos (by decide)]
 refine wpAny_bind (wpAny_rule ?_)
 refine wpAny_bind ?_
 show wpAny _ _ (setField (Value.ref a) 1 (rawInt (-1)) >>= _) _ _ _
 refine wpAny_bind (wpAny_setField ho hd (by simp) ?_)
 have ho2:=Heap.get?_update_self (Obj.mapFields (·.setIfInBounds 1 (rawInt (-1)))) ho (Obj.isFreed_of_fields (Obj.data_mapFields hd _))
 refine wpAny_setField ho2 (Obj.data_mapFields hd _) (by simp) ?_
 refine wpAny_bind ?_
 show wpAny _ _ (newExc (.type "StopIteration") [] >>= _) _ _ _
 refine wpAny_bind ?_
 simp only [newExc,newTuple]
 refine wpAny_bind (wpAny_newObj_type ?_ (by size_fits))
 refine wpAny_bind (m:=firstArgMember _ _) (wpAny_of_eq (a:=Value.none) (by first | rfl | (simp only [firstArgMember]; rfl)) ?_)
 refine wpAny_newObj_type ?_ (by size_fits)
 simp only [raiseNew]
 refine wpAny_bind (wpAny_handled ?_)
 rw [show A.in1.handled = none from hh]
 refine wpAny_bind (wpAny_pure (wpAny_throw ?_))
 refine wpAny_bind (wpAny_isInstance (T:="StopIteration") (b:=true) ⟨_,Heap.get?_push_size _ rfl,rfl⟩ isSubtype_stop ?_)
 exact wpAny_pure (hQ _ ((((Heap.SameBut.update ..).trans (Heap.SameBut.update ..)).extBut.push _).push _))
end
def ItsR (x:Str):It:=⟨fun i _=>i < x.cps.size,fun i H v H'=>H' = H/\∃ c,x.cps[x.cps.size - 1 - i]? = some c/\v = .str ⟨#[c]⟩,fun i _=>i = x.cps.size⟩
theorem turn_revS {P:Program} {w:World} {K:PySem.W.Frag} {tg:Expr} {x:Str} {t:Tok} {it:Addr} (hx:x.length <= sizeLine) :
  Turn P w K tg (ItsR x) [it] it (fun i h=>i <= x.cps.size/\IsRevS h it x t ((x.cps.size:Int) - 1 - (i:Int))) where
 mem:=by simp
 obj:=fun i h st b hb=>by
  obtain ⟨_,o,ho,_,hd⟩:=st
  have e:b = it:=by simpa using hb
  subst e
  exact ⟨o,ho,fun v z=>by rw [hd] at z; cases z⟩
 keep:=fun i h h' st k=>by
  obtain ⟨hi,o,ho,r⟩:=st
  exact ⟨hi,o,k it (by simp) o ho,r⟩
 item:=by
  intro X hP hw hK hc i pins s σ H E I hf st hg
  subst hP hw hK
  have hi:i < x.cps.size:=hg
  obtain ⟨_,y⟩:=st
  have e:(x.cps.size:Int) - 1 - (i:Int) = ((x.cps.size - 1 - i:Nat):Int):=by omega
  rw [e] at y
  have hcx:x.cps[x.cps.size - 1 - i]? = some (x.cps[x.cps.size - 1 - i]'(by omega)):=Array.getElem?_eq_getElem (by omega)
  refine next_revS y hcx hx fun h' tk u y' sb=>?_
  have e2:((x.cps.size - 1 - i:Nat):Int) - 1 = (x.cps.size:Int) - 1 - ((i + 1:Nat):Int):=by omega
  rw [e2] at y'
  obtain ⟨o,ho,hcl,hd⟩:=id y'
  have I1:Inv X pins σ H { s with heap:=h',toks:=tk }:=I.turnedAll hf fun b ob hb q=>(sb.2 b (fun z=>hb (by simp [z]))).trans q
  exact ⟨_,rfl,go_of (s:={ s with heap:=h',toks:=tk }) (n:="reversed") ho hcl hd (by decide) ⟨.str ⟨#[x.cps[x.cps.size - 1 - i]'(by omega)]⟩,H,I1,⟨u,rfl⟩,⟨rfl,_,hcx,rfl⟩,⟨hi,y'⟩,fun b hb=>(hf b hb).1⟩⟩
 done:=by
  intro X hP hw hK hc i pins s σ H E I hf st hg
  subst hP hw hK
  have e:i = x.cps.size:=hg
  subst e
  obtain ⟨_,y⟩:=st
  have e2:(x.cps.size:Int) - 1 - (x.cps.size:Int) = -1:=by omega
  rw [e2] at y
  exact end_revS (I.ok.hd hc) y fun h' ex=>⟨rfl,I.turnedAll (t':=s.toks) hf fun b ob hb q=>ex b ob (fun z=>hb (by simp [z])) q⟩
 self:=fun A i s Q E st h=>iter_revS st.2 h
def iRev (ta:TA):TI:=fun σ H R=>ta σ H fun vs H1=>∃ a,vs = [tx a]/\a.length <= sizeLine/\R (ItsR ⟨a.toArray⟩) H1
theorem pi_revS {X : Cx} {tg a : Expr} {ta : TA} {p pos : Pos} (hg : Gl X "reversed") (hm : X.mg "reversed" = none) (ha : PA X [a] ta) (hs : starEach [a] X.env = [(false, eval a X.env)] := by rfl) : PI X tg (.Call (.Name "reversed" p) [a] [] pos) (iRev ta) := by
  intro pins s σ H R I h
  refine Call_ (ld_blt I hg hm PyProof.Rows.boot_reversed (PyProof.Rows.callWith_type1 (thn (ha pos pins s σ H _ I h) fun us s1 ⟨vs, H1, I1, r1, q1⟩ => ?_) hs rfl))
  obtain ⟨z, e, hz, q⟩ := q1
  subst e
  cases r1 with
  | cons r rr =>
    cases rr
    obtain ⟨t, rfl⟩ := r
    have hz' : (⟨z.toArray⟩ : Str).length <= sizeLine := by rw [tx_len]; exact hz
    refine call_revS hz' fun tk => ?_
    have I2 : Inv X pins σ H1 { s1 with heap := s1.heap.push { cls := .type "reversed", data := .fields #[.str ⟨z.toArray⟩ t, rawInt (((⟨z.toArray⟩ : Str).length : Int) - 1)] }, toks := tk } := I1.kept fun b o e => Heap.get?_push_of_some _ e
    have y : IsRevS (s1.heap.push { cls := .type "reversed", data := .fields #[.str ⟨z.toArray⟩ t, rawInt (((⟨z.toArray⟩ : Str).length : Int) - 1)] }) s1.heap.objs.size ⟨z.toArray⟩ t ((((⟨z.toArray⟩ : Str)).length : Int) - 1) := ⟨_, Heap.get?_push_size _ rfl, rfl, rfl⟩
    refine iter_revS y ⟨s1.heap.objs.size, [s1.heap.objs.size], _, _, H1, rfl, I2, turn_revS (t := t) hz', ⟨Nat.zero_le _, ?_⟩, fun b hb => ?_, q⟩
    · show IsRevS _ _ _ _ ((((⟨z.toArray⟩ : Str)).cps.size : Int) - 1 - ((0 : Nat) : Int))
      rw [show ((((⟨z.toArray⟩ : Str)).cps.size : Int) - 1 - ((0 : Nat) : Int)) = ((((⟨z.toArray⟩ : Str)).length : Int) - 1) from by show _ = (((⟨z.toArray⟩ : Str).cps.size : Nat) : Int) - 1; omega]
      exact y
    · have e : b = s1.heap.objs.size := by simpa using hb
      subst e
      exact I1.fpOk (Nat.le_refl _) (I1.hok.fresh (Nat.le_refl _))
end BrR
namespace L2
open PySem PySem.Spec PyProof.Rows BrR
section
variable {X:Cx}
theorem strs_of {xss : List (List Nat)} : ∀ {us : List Value}, Vals (xss.map tx) us -> StrsAre us (xss.map fun a => ⟨a.toArray⟩) := by
  induction xss with
  | nil => intro us r; cases r; exact .nil
  | cons a r ih =>
    intro us h
    cases h with
    | cons h1 h2 =>
      obtain ⟨t, rfl⟩ := h1
      exact .cons _ t (ih h2)
theorem join_flat : ∀ (xss : List (List Nat)), Str.join ⟨([] : List Nat).toArray⟩ (xss.map fun a => ⟨a.toArray⟩) = ⟨xss.flatten.toArray⟩
  | [] => rfl
  | [a] => by simp [Str.join]
  | a :: b :: r => by
    have ih := join_flat (b :: r)
    rw [List.map_cons, List.map_cons] at *
    show (⟨a.toArray⟩ : Str) ++ ⟨([] : List Nat).toArray⟩ ++ Str.join ⟨([] : List Nat).toArray⟩ (⟨b.toArray⟩ :: r.map fun a => ⟨a.toArray⟩) = _
    rw [ih]
    show (⟨a.toArray ++ ([] : List Nat).toArray ++ (b :: r).flatten.toArray⟩ : Str) = _
    simp
def rJoin (K:PySem.W.Frag):V->List V->Hp->VK->Prop:=fun x vs H Q=>∃ (p:Addr) (xss:List (List Nat)),x = tx []/\vs = [.ref p]/\SqL K H p (xss.map tx)/\xss.flatten.length + xss.length <= 1000000/\Q (tx xss.flatten) H
theorem mt_join (K:PySem.W.Frag) (hK:X.K = K:=by rfl):MtR X "str.join" (rJoin K):=by
 subst hK
 intro pins s σ H x vs v us Q I rx rv h
 obtain ⟨p,xss,rfl,rfl,hq,hw,q⟩:=h
 obtain ⟨t,rfl⟩:=rx
 obtain ⟨u,rfl,ru⟩:=rv.one
 cases ru
 obtain ⟨its,r,ht,hz⟩:=I.list hq
 have hs:((xss.map fun a=>(⟨a.toArray⟩:Str)).map (·.length)).sum = xss.flatten.length:=by
  rw [List.map_map,List.length_flatten]
  congr 1
 refine join_listW ht.isList (strs_of r) (by rw [tx_len]; decide) (by rw [hs,List.length_map]; omega) fun t' k=>?_
 have e:Txt.join ⟨([]:List Nat).toArray⟩ (xss.map fun a=>⟨a.toArray⟩) = ⟨xss.flatten.toArray⟩:=by
  show Builtin.Str.glued _ _ = _
  rw [StrLaws.glued_eq_join,join_flat]
 rw [e]
 exact ⟨tx xss.flatten,H,I.tok k,⟨t',rfl⟩,q⟩
def occ1 (l:List Nat) (c:Nat):Option Nat:=(Builtin.Str.occurrences ⟨l.toArray⟩ ⟨#[c]⟩ 0 (⟨l.toArray⟩:Str).length 1).head?
def rIdx:V->List V->Hp->VK->Prop:=fun x vs H Q=>∃ l c i,x = tx l/\vs = [tx [c]]/\occ1 l c = some i/\Q (.int (i:Nat)) H
theorem mt_index : MtR X "str.index" rIdx := by
  intro pins s σ H x vs v us Q I rx rv h
  obtain ⟨l, c, i, rfl, rfl, ho, q⟩ := h
  obtain ⟨t, rfl⟩ := rx
  obtain ⟨u, rfl, t2, rfl⟩ := rv.one
  unfold occ1 at ho
  cases e : Builtin.Str.occurrences ⟨l.toArray⟩ ⟨#[c]⟩ 0 (⟨l.toArray⟩ : Str).length 1 with
  | nil => rw [e] at ho; cases ho
  | cons j rest =>
    rw [e] at ho
    cases ho
    exact SC.index e ⟨.int (i : Nat), H, I.tok _, ⟨_, rfl⟩, q⟩
end
section
variable {σ:St} {H:Hp} {Q:VK} {K:PySem.W.Frag}
theorem s_tyT {a:List Nat} {P:Prop} (h:P):tyV K "str" (tx a) H/\P:=⟨rfl,h⟩
theorem s_join {p:Addr} {xss:List (List Nat)} (hq:SqL K H p (xss.map tx)) (hw:xss.flatten.length + xss.length <= 1000000) (h:Q (tx xss.flatten) H):rJoin K (tx []) [.ref p] H Q:=⟨p,xss,rfl,rfl,hq,hw,h⟩
theorem s_idx {l:List Nat} {c i:Nat} (he:occ1 l c = some i) (h:Q (.int (i:Nat)) H):rIdx (tx l) [tx [c]] H Q:=⟨l,c,i,rfl,rfl,he,h⟩
theorem s_irev {ta:TA} {R:It->Hp->Prop} (h:ta σ H fun vs H1=>∃ a,vs = [tx a]/\a.length <= sizeLine/\R (ItsR ⟨a.toArray⟩) H1):iRev ta σ H R:=h
theorem s_irevT {a:List Nat} {R:List Nat->Prop} (hz:a.length <= sizeLine) (h:R a):∃ b,[tx a] = [tx b]/\b.length <= sizeLine/\R b:=⟨a,rfl,hz,h⟩
theorem comp_str {a : List Nat} {own : List Str} {sel : List Nat} {g : TG} {tt : TT} {te : TE} (hn : a.length <= sizeLine) (Pv : Addr -> Nat -> List V -> Hp -> Prop) (h0 : ∀ D, H D = none -> Pv D 0 [] (upd H D (.lst [])))
  (hst : ∀ D ys H', H D = none -> H' D = some (.lst ys) -> Pv D a.length ys H' -> Q (.ref D) H')
  (hs : ∀ D i c ys H', H D = none -> a[i]? = some c -> i < a.length -> H' D = some (.lst ys) -> ys.length <= i -> Pv D i ys H' -> g (tx [c]) (inSt own sel σ) H' fun σ4 H4 => tt σ4 H4 fun b H5 =>
   if b = true then te σ4 H5 fun v H6 => ∃ ys, H6 D = some (.lst ys) /\ ys.length < sizeLine /\ ∃ m', m' < a.length - i /\ CW D a.length (Pv D) (i + 1) m' (upd H6 D (.lst (ys ++ [v])))
   else ∃ m', m' < a.length - i /\ CW D a.length (Pv D) (i + 1) m' H5) : CompW (Its ⟨a.toArray⟩) own sel σ g tt te Q H := by
 refine comp_of (n := a.length) Pv h0 (fun D i ys H' hD hi _ p => by simpa [Its] using hi) (fun D ys H' hD hy hl p => ⟨by simp [Its], hst D ys H' hD hy p⟩) (fun D i ys H' x H3 hD hi hy hl p y => ?_)
 obtain ⟨rfl, c, e, rfl⟩ := y
 exact hs D i c ys H3 hD (by simpa using e) hi hy hl p
theorem comp_rev {a : List Nat} {own : List Str} {sel : List Nat} {g : TG} {tt : TT} {te : TE} (hn : a.length <= sizeLine) (Pv : Addr -> Nat -> List V -> Hp -> Prop) (h0 : ∀ D, H D = none -> Pv D 0 [] (upd H D (.lst [])))
  (hst : ∀ D ys H', H D = none -> H' D = some (.lst ys) -> Pv D a.length ys H' -> Q (.ref D) H')
  (hs : ∀ D i c ys H', H D = none -> a.reverse[i]? = some c -> i < a.length -> H' D = some (.lst ys) -> ys.length <= i -> Pv D i ys H' -> g (tx [c]) (inSt own sel σ) H' fun σ4 H4 => tt σ4 H4 fun b H5 =>
   if b = true then te σ4 H5 fun v H6 => ∃ ys, H6 D = some (.lst ys) /\ ys.length < sizeLine /\ ∃ m', m' < a.length - i /\ CW D a.length (Pv D) (i + 1) m' (upd H6 D (.lst (ys ++ [v])))
   else ∃ m', m' < a.length - i /\ CW D a.length (Pv D) (i + 1) m' H5) : CompW (ItsR ⟨a.toArray⟩) own sel σ g tt te Q H := by
 refine comp_of (n := a.length) Pv h0 (fun D i ys H' hD hi _ p => by simpa [ItsR] using hi) (fun D ys H' hD hy hl p => ⟨by simp [ItsR], hst D ys H' hD hy p⟩) (fun D i ys H' x H3 hD hi hy hl p y => ?_)
 obtain ⟨rfl, c, e, rfl⟩ := y
 refine hs D i c ys H3 hD ?_ hi hy hl p
 rw [List.getElem?_reverse hi]
 simpa using e
theorem comp_rng {lo : Int} {n : Nat} {own : List Str} {sel : List Nat} {g : TG} {tt : TT} {te : TE} (hn : n <= sizeLine) (Pv : Addr -> Nat -> List V -> Hp -> Prop) (h0 : ∀ D, H D = none -> Pv D 0 [] (upd H D (.lst [])))
  (hst : ∀ D ys H', H D = none -> H' D = some (.lst ys) -> Pv D n ys H' -> Q (.ref D) H')
  (hs : ∀ D i ys H', H D = none -> i < n -> H' D = some (.lst ys) -> ys.length <= i -> Pv D i ys H' -> g (.int (lo + i)) (inSt own sel σ) H' fun σ4 H4 => tt σ4 H4 fun b H5 =>
   if b = true then te σ4 H5 fun v H6 => ∃ ys, H6 D = some (.lst ys) /\ ys.length < sizeLine /\ ∃ m', m' < n - i /\ CW D n (Pv D) (i + 1) m' (upd H6 D (.lst (ys ++ [v])))
   else ∃ m', m' < n - i /\ CW D n (Pv D) (i + 1) m' H5) : CompW (Itr lo n) own sel σ g tt te Q H := by
 refine comp_of (n := n) Pv h0 (fun D i ys H' hD hi _ p => hi) (fun D ys H' hD hy hl p => ⟨Nat.le_refl _, hst D ys H' hD hy p⟩) (fun D i ys H' x H3 hD hi hy hl p y => ?_)
 obtain ⟨rfl, rfl⟩ := y
 exact hs D i ys _ hD hi hy hl p
end
end L2
namespace BrM
open L2 PySem BrR
def all9:List Nat:=[40,91,123,60,63,62,125,93,41]
def oth (c:Nat):Nat:=if c = 40 then 41 else if c = 91 then 93 else if c = 123 then 125 else if c = 60 then 62 else if c = 41 then 40 else if c = 93 then 91 else if c = 125 then 123 else if c = 62 then 60 else c
def trn (a:List Nat):List Nat:=a.reverse.map oth
theorem trn_len (a:List Nat):(trn a).length = a.length:=by simp [trn]
theorem mem9 {c:Nat} (h:c ∈ all9):c = 40\/c = 91\/c = 123\/c = 60\/c = 63\/c = 62\/c = 125\/c = 93\/c = 41:=by simpa [all9] using h
theorem trn_app (a b:List Nat):trn (a ++ b) = trn b ++ trn a:=by simp [trn]
theorem trn_one (c:Nat):trn [c] = [oth c]:=rfl
theorem trn_snoc (a:List Nat) (c:Nat):trn (a ++ [c]) = [oth c] ++ trn a:=by rw [trn_app,trn_one]
theorem sgn9 {k:Int} {c:Nat} (h:c ∈ sgn k):c ∈ all9:=by
 unfold sgn at h
 rcases List.mem_append.mp h with z | z
 ·rcases List.mem_append.mp z with z | z
  ·have:=List.mem_of_mem_take z
   have:c = 40\/c = 91\/c = 123\/c = 60:=by simpa [opn] using this
   rcases this with rfl | rfl | rfl | rfl <;> decide
  ·have:=List.mem_of_mem_take z
   have:c = 41\/c = 93\/c = 125\/c = 62:=by simpa [cls] using this
   rcases this with rfl | rfl | rfl | rfl <;> decide
 ·rw [List.mem_singleton.mp z]; decide
theorem oth_sgn {k:Int} {c:Nat} (h1:1 <= k) (h4:k <= 4) (h:c ∈ sgn k):oth c ∈ sgn k:=by
 have hk:k = 1\/k = 2\/k = 3\/k = 4:=by omega
 have h9:=mem9 (sgn9 h)
 rcases hk with rfl | rfl | rfl | rfl <;> rcases h9 with rfl | rfl | rfl | rfl | rfl | rfl | rfl | rfl | rfl <;> revert h <;> decide
theorem isRow_trn {k:Int} {a:List Nat} (h1:1 <= k) (h4:k <= 4) (h:isRow k a = true):isRow k (trn a) = true:=by
 refine isRow_mk (by rw [trn_len]; exact isRow_len h) fun c hc=>?_
 unfold trn at hc
 obtain ⟨d,hd,rfl⟩:=List.mem_map.mp hc
 exact oth_sgn h1 h4 (isRow_mem h d (List.mem_reverse.mp hd))
def spOther:Sp:=fun vs H Q _=>∃ c,vs = [tx [c]]/\c ∈ all9/\Q (tx [oth c]) H
theorem other_use {H:Hp} {c:Nat} {Q:VK} {E:XK} (h:c ∈ all9) (q:Q (tx [oth c]) H):spOther ([tx [c]] ++ []) H Q E:=⟨c,rfl,h,q⟩
def spTurned:Sp:=fun vs H Q _=>∃ k a,vs = [.int k,tx a]/\1 <= k/\k <= 4/\isRow k a = true/\∀ H',Same H H'->Q (tx (trn a)) H'
theorem turned_use {H:Hp} {k:Int} {a:List Nat} {Q:VK} {E:XK} (h1:1 <= k) (h2:k <= 4) (ha:isRow k a = true) (q:∀ H',Same H H'->Q (tx (trn a)) H'):spTurned ([.int k,tx a] ++ []) H Q E:=⟨k,a,rfl,h1,h2,ha,q⟩
theorem at_mem {l:List Nat} {i:Int} (h0:0 <= i) (h1:i < (l.length:Int)):∃ c,atI l i = some c/\c ∈ l:=by
 have hk:i.toNat < l.length:=by omega
 have ek:i = ((i.toNat:Nat):Int):=by omega
 have q:atI l ((i.toNat:Nat):Int) = some l[i.toNat]:=atI_nat (List.getElem?_eq_getElem hk)
 rw [<- ek] at q
 exact ⟨_,q,List.getElem_mem hk⟩
theorem flat_ones (l:List Nat):(l.map fun c=>[c]).flatten = l:=by
 induction l with
 | nil=>rfl
 | cons c r ih=>rw [List.map_cons,List.flatten_cons,ih]; rfl
end BrM
namespace L2
open PySem PySem.Spec PyProof.Rows BrR
section
variable {X:Cx}
end
section
variable {σ:St} {H:Hp} {Q:VK} {K:PySem.W.Frag}
end
end L2
namespace BrM
open L2 PySem
structure PtsOk (a:List Nat):Prop where
 flat:(pts a).flatten = a
 form:∀ p ∈ pts a,∃ o M,p = [o] ++ M ++ [clo o]/\o ∈ opn/\Rt M
 le:∀ p ∈ pts a,deep p <= deep a
 top:deep a = 0\/∃ p ∈ pts a,deep p = deep a
 back:pts (trn a) = ((pts a).map trn).reverse
theorem len_mem_flat {p : List Nat} : ∀ {l : List (List Nat)}, p ∈ l -> p.length <= l.flatten.length
  | q :: r, h => by
    rw [List.flatten_cons, List.length_append]
    rcases List.mem_cons.mp h with z | z
    · subst z; omega
    · have := len_mem_flat z; omega
theorem PtsOk.len {a:List Nat} (h:PtsOk a) {p:List Nat} (hp:p ∈ pts a):p.length <= a.length:=by
 have:=len_mem_flat hp
 rwa [h.flat] at this
end BrM
namespace L2
open PySem PySem.Spec PyProof.Rows BrR
section
variable {σ:St} {H:Hp} {Q:VK} {K:PySem.W.Frag}
theorem comp_none {a:Addr} {xs:List V} {own:List Str} {sel:List Nat} {g:TG} {tt:TT} {te:TE} (ha:H a = some (.lst xs))
  (hst:∀ D H',H D = none->Same H H'->H' D = some (.lst [])->Q (.ref D) H')
  (hs:∀ (D:Addr) (i:Nat) (x:V) (H':Hp) (R:St->Bool->Hp->Prop),H D = none->xs[i]? = some x->Same H H'->(∀ σ4 H5,Same H' H5->R σ4 false H5)->g x (inSt own sel σ) H' fun σ4 H4=>tt σ4 H4 (R σ4)):CompW (Itl K a) own sel σ g tt te Q H:=by
 intro D hD
 refine ⟨fun i m H'=>m = xs.length - i/\i <= xs.length/\H' D = some (.lst [])/\Same H H',⟨_,rfl,Nat.zero_le _,upd_same,same_new hD _⟩,?_⟩
 rintro i m H2 ⟨rfl,hi,hy,sH⟩
 by_cases hlt:i < xs.length
 ·refine .inr ⟨⟨xs,xs[i],SqL.of (sH _ _ ha),List.getElem?_eq_getElem hlt⟩,fun x H3 y=>?_⟩
  obtain ⟨rfl,hx⟩:=y
  refine hs D i x H3 (fun σ4 b H5=>if b = true then te σ4 H5 fun v H6=>∃ ys,H6 D = some (.lst ys)/\ys.length < sizeLine/\∃ m',m' < xs.length - i/\(m' = xs.length - (i + 1)/\i + 1 <= xs.length/\(upd H6 D (.lst (ys ++ [v]))) D = some (.lst [])/\Same H (upd H6 D (.lst (ys ++ [v])))) else ∃ m',m' < xs.length - i/\(m' = xs.length - (i + 1)/\i + 1 <= xs.length/\H5 D = some (.lst [])/\Same H H5)) hD (hx _ (SqL.of (sH _ _ ha))) sH (fun σ4 H5 s5=>?_)
  rw [if_neg Bool.false_ne_true]
  exact ⟨xs.length - (i + 1),by omega,rfl,hlt,s5 _ _ hy,sH.trans s5⟩
 ·have e:i = xs.length:=by omega
  subst e
  exact .inl ⟨⟨_,SqL.of (sH _ _ ha),Nat.le_refl _⟩,hst D H2 hD sH hy⟩
end
end L2
namespace BrM
open L2 PySem
end BrM
namespace L2
open PySem PySem.Spec PyProof.Rows
section
variable {X:Cx}
end
end L2
namespace L2
open PySem PySem.Spec PyProof.Rows
section
variable {X:Cx} {tg:Expr}
end
section
variable {X:Cx}
end
section
variable {σ:St} {H:Hp} {Q:VK} {D:Ends} {K:PySem.W.Frag}
end
end L2
namespace L2
open PySem PySem.Spec PyProof.Rows
section
variable {X:Cx}
end
section
variable {σ:St} {H:Hp} {Q:VK} {K:PySem.W.Frag}
end
section
variable {σ:St} {H:Hp} {Q:VK} {K:PySem.W.Frag}
end
end L2
namespace BrC
def sm:Nat->(Nat->Int)->Int
 | 0,_=>0
 | n + 1,f=>sm n f + f n
theorem sm_congr {f g:Nat->Int}:∀ n,(∀ i,i < n->f i = g i)->sm n f = sm n g
 | 0,_=>rfl
 | n + 1,h=>by unfold sm; rw [sm_congr n fun i hi=>h i (Nat.lt_succ_of_lt hi),h n (Nat.lt_succ_self n)]
theorem sm_add (f g:Nat->Int):∀ n,sm n (fun i=>f i + g i) = sm n f + sm n g
 | 0=>rfl
 | n + 1=>by unfold sm; rw [sm_add f g n]; show sm n f + sm n g + (f n + g n) = _; omega
theorem sm_zero {f:Nat->Int}:∀ n,(∀ i,i < n->f i = 0)->sm n f = 0
 | 0,_=>rfl
 | n + 1,h=>by unfold sm; rw [sm_zero n fun i hi=>h i (Nat.lt_succ_of_lt hi),h n (Nat.lt_succ_self n)]; rfl
theorem sm_nonneg {f:Nat->Int}:∀ n,(∀ i,i < n->0 <= f i)->0 <= sm n f
 | 0,_=>Int.le_refl _
 | n + 1,h=>by unfold sm; have:=sm_nonneg n fun i hi=>h i (Nat.lt_succ_of_lt hi); have:=h n (Nat.lt_succ_self n); omega
theorem sm_mono {f g:Nat->Int}:∀ n,(∀ i,i < n->f i <= g i)->sm n f <= sm n g
 | 0,_=>Int.le_refl _
 | n + 1,h=>by unfold sm; have:=sm_mono n fun i hi=>h i (Nat.lt_succ_of_lt hi); have:=h n (Nat.lt_succ_self n); omega
theorem sm_const (c:Int):∀ n,sm n (fun _=>c) = n * c
 | 0=>by simp [sm]
 | n + 1=>by rw [sm,sm_const c n]; rw [Int.natCast_add,Int.add_mul]; simp
theorem sm_one {f : Nat -> Int} {n i : Nat} (hi : i < n) (h : ∀ j, j < n -> j ≠ i -> f j = 0) : sm n f = f i := by
  induction n with
  | zero => omega
  | succ n ih =>
    unfold sm
    by_cases e : i = n
    · subst e; rw [sm_zero i fun j hj => h j (by omega) (by omega)]; omega
    · rw [ih (by omega) fun j hj => h j (by omega), h n (by omega) (by omega)]; omega
theorem sm_ge {f : Nat -> Int} {n i : Nat} (hi : i < n) (h : ∀ j, j < n -> 0 <= f j) : f i <= sm n f := by
  induction n with
  | zero => omega
  | succ n ih =>
    unfold sm
    by_cases e : i = n
    · subst e; have := sm_nonneg (f := f) i fun j hj => h j (by omega); omega
    · have := ih (by omega) fun j hj => h j (by omega); have := h n (by omega); omega
def cv (P:Nat->Nat->Int) (k:Nat):Nat->Nat->List Nat->Int
 | 0,_,[]=>1
 | 0,_,_ :: _=>0
 | n + 1,i,st=>sm k (fun p=>P i (2 * p) * cv P k n (i + 1) (p :: st)) + (match st with | []=>0 | o :: r=>P i (2 * o + 1) * cv P k n (i + 1) r)
variable {P:Nat->Nat->Int} {k:Nat}
theorem cv_nil (n i:Nat):cv P k (n + 1) i [] = sm k (fun p=>P i (2 * p) * cv P k n (i + 1) [p]):=by
 rw [cv]; simp
theorem cv_cons (n i o:Nat) (st:List Nat):cv P k (n + 1) i (o :: st) = sm k (fun p=>P i (2 * p) * cv P k n (i + 1) (p :: o :: st)) + P i (2 * o + 1) * cv P k n (i + 1) st:=by
 rw [cv]
def pr (P:Nat->Nat->Int) (k i j:Nat):Int:=sm k fun p=>P i (2 * p) * P j (2 * p + 1)
theorem cv_bound {c : Int} (hc : 0 <= c) (h0 : ∀ i b, 0 <= P i b) (h1 : ∀ i b, P i b <= c) : ∀ (n i : Nat) (st : List Nat), 0 <= cv P k n i st /\ cv P k n i st <= (((k : Int) + 1) * c) ^ n
  | 0, i, [] => ⟨by simp [cv], by simp [cv]⟩
  | 0, i, _ :: _ => ⟨by simp [cv], by simp [cv]⟩
  | n + 1, i, st => by
    have ih := cv_bound hc h0 h1 n (i + 1)
    have hB : 0 <= (((k : Int) + 1) * c) ^ n := Int.le_trans (ih []).1 (ih []).2
    have tm : ∀ b s', 0 <= P i b * cv P k n (i + 1) s' /\ P i b * cv P k n (i + 1) s' <= c * (((k : Int) + 1) * c) ^ n := fun b s' =>
      ⟨Int.mul_nonneg (h0 i b) (ih s').1, Int.mul_le_mul (h1 i b) (ih s').2 (ih s').1 hc⟩
    have s1 : 0 <= sm k (fun p => P i (2 * p) * cv P k n (i + 1) (p :: st)) := sm_nonneg k fun p _ => (tm _ _).1
    have s2 : sm k (fun p => P i (2 * p) * cv P k n (i + 1) (p :: st)) <= k * (c * (((k : Int) + 1) * c) ^ n) := by
      rw [<- sm_const]; exact sm_mono k fun p _ => (tm _ _).2
    have e : (((k : Int) + 1) * c) ^ (n + 1) = k * (c * (((k : Int) + 1) * c) ^ n) + c * (((k : Int) + 1) * c) ^ n := by
      rw [Int.pow_succ, Int.mul_comm, Int.mul_assoc, Int.add_mul, Int.one_mul]
    have s3 : 0 <= c * (((k : Int) + 1) * c) ^ n := Int.mul_nonneg hc hB
    cases st with
    | nil => rw [cv_nil, e]; exact ⟨s1, by omega⟩
    | cons o r =>
      have := tm (2 * o + 1) r
      rw [cv_cons, e]; constructor <;> omega
end BrC
namespace BrC
end BrC
namespace BrC
variable {P:Nat->Nat->Int} {k:Nat}
end BrC
namespace BrS
open L2 PySem BrM BrC
abbrev iL (l:List Int):HO:=.lst (l.map V.int)
def Pls (H:Hp) (r:Addr) (ps:List (List Int)):Prop:=∃ ad:Nat->Addr,H r = some (.lst ((List.range ps.length).map fun i=>V.ref (ad i)))/\∀ i,i < ps.length->H (ad i) = some (iL (ps.getD i []))
def rwl (n:Nat) (f:Nat->Int):List V:=(List.range (n + 1)).map fun j=>V.int (f j)
theorem rwl_set {n j:Nat} {f:Nat->Int} {v:Int}:(rwl n f).set j (.int v) = rwl n (fun x=>if x = j then v else f x):=by
 apply List.ext_getElem?
 intro i
 unfold rwl
 rw [List.getElem?_set,List.getElem?_map,List.getElem?_map]
 by_cases e:j = i
 ·subst e
  by_cases hj:j < n + 1
  ·rw [List.getElem?_range hj]; simp [hj]
  ·rw [if_pos rfl,if_neg (by simpa using hj)]
   rw [List.getElem?_eq_none (by simpa using hj)]; rfl
 ·rw [if_neg e]
  by_cases hi:i < n + 1
  ·rw [List.getElem?_range hi]; simp [Ne.symm e]
  ·rw [List.getElem?_eq_none (by simpa using hi)]; rfl
theorem rwl_congr {n:Nat} {f g:Nat->Int} (h:∀ j,j <= n->f j = g j):rwl n f = rwl n g:=by
 unfold rwl
 refine List.map_congr_left fun j hj=>?_
 rw [h j (by have:=List.mem_range.mp hj; omega)]
structure Tb (H0 H:Hp) (s:Addr) (ad:Nat->Addr) (n:Nat) (T:Nat->Nat->Int):Prop where
 fs:H0 s = none
 fa:∀ i,i <= n->H0 (ad i) = none
 ns:∀ i,i <= n->ad i ≠ s
 inj:∀ i j,i <= n->j <= n->ad i = ad j->i = j
 top:H s = some (.lst ((List.range (n + 1)).map fun i=>V.ref (ad i)))
 row:∀ i,i <= n->H (ad i) = some (.lst (rwl n (T i)))
 sm:Same H0 H
section
variable {H0 H H':Hp} {s:Addr} {ad:Nat->Addr} {n:Nat} {T T':Nat->Nat->Int}
theorem Tb.congr (t:Tb H0 H s ad n T) (h:∀ i j,i <= n->j <= n->T i j = T' i j):Tb H0 H s ad n T':=⟨t.fs,t.fa,t.ns,t.inj,t.top,fun i hi=>by rw [t.row i hi,rwl_congr fun j hj=>h i j hi hj],t.sm⟩
theorem Tb.at (t:Tb H0 H s ad n T) {i:Nat} (hi:i <= n):((List.range (n + 1)).map fun i=>V.ref (ad i))[i]? = some (.ref (ad i)):=by
 rw [List.getElem?_map,List.getElem?_range (by omega)]; rfl
theorem Tb.set (t:Tb H0 H s ad n T) {i j:Nat} {v:Int} (hi:i <= n):Tb H0 (upd H (ad i) (.lst ((rwl n (T i)).set j (.int v)))) s ad n (fun a b=>if a = i/\b = j then v else T a b):=by
 refine ⟨t.fs,t.fa,t.ns,t.inj,by rw [upd_ne (Ne.symm (t.ns i hi))]; exact t.top,fun a ha=>?_,fun b o z=>?_⟩
 ·by_cases e:a = i
  ·subst e
   rw [upd_same,rwl_set]
   congr 2
   refine rwl_congr fun x _=>?_
   by_cases q:x = j <;> simp [q]
  ·rw [upd_ne (fun z=>e (t.inj a i ha hi z)),t.row a ha]
   congr 2
   refine rwl_congr fun x _=>?_
   simp [e]
 ·rw [upd_ne (ne_of_none z (t.fa i hi))]; exact t.sm b o z
end
def brs:List Nat:=[40,41,91,93,123,125,60,62]
def plw (w:List Int) (c:Nat):List Int:=if c = 63 then w else (brs.take w.length).map fun b=>if c = b then 1 else 0
theorem plw_len {w:List Int} {c:Nat} (h:w.length <= 8):(plw w c).length = w.length:=by
 unfold plw
 split
 ·rfl
 ·rw [List.length_map,List.length_take]; exact Nat.min_eq_left h
abbrev PP (ps:List (List Int)):Nat->Nat->Int:=fun i b=>(ps.getD i []).getD b 0
abbrev ones (k:Nat):List Int:=List.replicate (2 * k) 1
def top30:Int:=10 ^ 31
def Sm (l:List Int):Prop:=∀ v ∈ l,0 <= v/\v <= top30
theorem Sm.at {l:List Int} (h:Sm l) (b:Nat):0 <= l.getD b 0/\l.getD b 0 <= top30:=by
 rw [List.getD_eq_getElem?_getD]
 cases e:l[b]? with
 | none=>exact ⟨by simp,by simp [top30]⟩
 | some v=>exact h v (List.mem_of_getElem? e)
def tbl (P:Nat->Nat->Int) (k:Nat) (i j:Nat):Int:=if i <= j then cv P k (j - i) i [] else 0
theorem ones_sm (k:Nat):Sm (ones k):=fun v hv=>by
 obtain rfl:=List.eq_of_mem_replicate hv
 exact ⟨by decide,by decide⟩
theorem plw_sm {w:List Int} (h:Sm w) (c:Nat):Sm (plw w c):=by
 unfold plw
 split
 ·exact h
 ·intro v hv
  obtain ⟨b,_,rfl⟩:=List.mem_map.mp hv
  split <;> exact ⟨by decide,by decide⟩
theorem PP_bound {ps : List (List Int)} (h : ∀ l ∈ ps, Sm l) (i b : Nat) : 0 <= PP ps i b /\ PP ps i b <= top30 := by
  show 0 <= (ps.getD i []).getD b 0 /\ (ps.getD i []).getD b 0 <= top30
  cases e : ps[i]? with
  | none =>
    have q : ps.getD i [] = [] := by rw [List.getD_eq_getElem?_getD, e]; rfl
    rw [q]; exact ⟨by simp, by simp [top30]⟩
  | some l =>
    have q : ps.getD i [] = l := by rw [List.getD_eq_getElem?_getD, e]; rfl
    rw [q]; exact (h l (List.mem_of_getElem? e)).at b
theorem pow_mono {x y : Int} (h0 : 0 <= x) (h : x <= y) : ∀ n : Nat, 0 <= x ^ n /\ x ^ n <= y ^ n
  | 0 => by simp
  | n + 1 => by
    obtain ⟨a, b⟩ := pow_mono h0 h n
    rw [Int.pow_succ, Int.pow_succ]
    exact ⟨Int.mul_nonneg a h0, Int.mul_le_mul b h h0 (Int.le_trans a b)⟩
theorem pow_up {x : Int} (h1 : 1 <= x) {m n : Nat} (h : m <= n) : x ^ m <= x ^ n := by
  induction n with
  | zero => obtain rfl : m = 0 := by omega
            exact Int.le_refl _
  | succ n ih =>
    by_cases e : m = n + 1
    · subst e; exact Int.le_refl _
    · have h2 := ih (by omega)
      have h3 := (pow_mono (x := x) (y := x) (by omega) (Int.le_refl _) n).1
      rw [Int.pow_succ]
      have := Int.mul_le_mul (Int.le_refl (x ^ n)) h1 (by decide) h3
      omega
def cap:Int:=(5 * top30) ^ 40
theorem cv_cap {ps:List (List Int)} {k:Nat} (hk:k <= 4) (h:∀ l ∈ ps,Sm l) {n:Nat} (hn:n <= 40) (i:Nat) (st:List Nat):0 <= cv (PP ps) k n i st/\cv (PP ps) k n i st <= cap:=by
 obtain ⟨a,b⟩:=cv_bound (P:=PP ps) (k:=k) (c:=top30) (by decide) (fun i b=>(PP_bound h i b).1) (fun i b=>(PP_bound h i b).2) n i st
 refine ⟨a,Int.le_trans b ?_⟩
 have h1:(0:Int) <= ((k:Int) + 1) * top30:=Int.mul_nonneg (by omega) (by decide)
 have h2:((k:Int) + 1) * top30 <= 5 * top30:=Int.mul_le_mul_of_nonneg_right (by omega) (by decide)
 refine Int.le_trans (pow_mono h1 h2 n).2 (pow_up (by decide) hn)
end BrS
namespace BrS
open L2 PySem BrM BrC
theorem atI_end {α:Type} {xs:List α} {v:α} (h:0 < xs.length) (e:xs[xs.length - 1]? = some v):atI xs (-1) = some v:=by
 unfold atI ixN
 rw [if_neg (by omega),if_pos (by omega)]
 have:((-1:Int) + xs.length).toNat = xs.length - 1:=by omega
 simp only [this,Option.bind]
 exact e
end BrS
namespace BrS
open L2 PySem BrM BrC
end BrS
namespace BrS
open L2 PySem BrM BrC
section
variable {P:Nat->Nat->Int} {k i q j n:Nat}
end
end BrS
namespace BrS
open L2 PySem BrM BrC
theorem many_places {k:Nat} {a:List Nat} (hk:k <= 4):∀ l ∈ a.map (plw (ones k)),l.length = 2 * k/\Sm l:=fun l hl=>by
 obtain ⟨c,_,rfl⟩:=List.mem_map.mp hl
 exact ⟨by rw [plw_len (by rw [List.length_replicate]; omega),List.length_replicate],plw_sm (ones_sm k) c⟩
theorem rep_tx (n c:Nat):(List.replicate n [c]).flatten = List.replicate n c:=by
 induction n with
 | zero=>rfl
 | succ n ih=>rw [List.replicate_succ,List.flatten_cons,ih]; rfl
theorem isRow_unk {k:Int} {n:Nat} (h:n <= 40):isRow k (List.replicate n 63) = true:=by
 unfold isRow
 rw [Bool.and_eq_true]
 refine ⟨decide_eq_true (by rw [List.length_replicate]; exact h),List.all_eq_true.mpr fun c hc=>?_⟩
 rw [List.eq_of_mem_replicate hc]
 refine decide_eq_true ?_
 unfold sgn
 exact List.mem_append_right _ (List.mem_singleton.mpr rfl)
end BrS
namespace BrS
open L2 PySem BrM BrC
def Deck (H:Hp) (p:Addr):Prop:=∃ ds:List Int,H p = some (.lst (ds.map V.int))/\∀ d ∈ ds,0 <= d/\d < 2147483648
theorem Deck.keep {H H':Hp} {p r:Addr} (h:Deck H p) (s:SameBut1 r H H') (n:p ≠ r):Deck H' p:=by
 obtain ⟨ds,e,b⟩:=h
 exact ⟨ds,s _ _ e n,b⟩
theorem Deck.ne {H:Hp} {p q:Addr} (h:Deck H p) (hq:H q = none):q ≠ p:=by
 obtain ⟨ds,e,_⟩:=h
 exact (ne_of_none e hq).symm
theorem plw_unk (w:List Int):plw w 63 = w:=by unfold plw; rw [if_pos rfl]
end BrS
namespace BrS
open L2 PySem BrM BrC
section
variable {σ:St} {H:Hp} {Q:VK} {K:PySem.W.Frag}
end
theorem snoc_last {w:List Nat} (h:w ≠ []):∃ i d,w = i ++ [d]:=⟨w.dropLast,w.getLast h,(List.dropLast_concat_getLast h).symm⟩
theorem atI_snoc (i:List Nat) (d:Nat):atI (i ++ [d]) (-1) = some d:=atI_end (by simp) (by simp)
theorem cut_init (i:List Nat) (d:Nat):cutL (i ++ [d]) none (some (-1)) = i:=by
 unfold cutL
 have e1:HT.sIx (i ++ [d]).length (i ++ [d]).length (some (-1)) = i.length:=by
  unfold HT.sIx
  simp
  omega
 rw [HT.sIx_none,e1]
 simp
end BrS
namespace BrS
open L2 PySem BrM BrC
end BrS
namespace BrS
open L2 PySem BrM BrC
end BrS
namespace BrS
open L2 PySem BrM BrC
def pw (k c b:Nat):Int:=(plw (ones k) c).getD b 0
def ws (k:Nat):List Nat->List Nat->Int
 | [],[]=>1
 | [],_ :: _=>0
 | c :: r,st=>sm k (fun p=>pw k c (2 * p) * ws k r (p :: st)) + (match st with | []=>0 | o :: s'=>pw k c (2 * o + 1) * ws k r s')
variable {k:Nat}
theorem ws_nil (c:Nat) (r:List Nat):ws k (c :: r) [] = sm k (fun p=>pw k c (2 * p) * ws k r [p]):=by rw [ws]; simp
theorem ws_cons (c:Nat) (r:List Nat) (o:Nat) (st:List Nat):ws k (c :: r) (o :: st) = sm k (fun p=>pw k c (2 * p) * ws k r (p :: o :: st)) + pw k c (2 * o + 1) * ws k r st:=by rw [ws]
theorem pw_nonneg (k c b:Nat):0 <= pw k c b:=((plw_sm (ones_sm k) c).at b).1
theorem ws_nonneg : ∀ (a st : List Nat), 0 <= ws k a st
  | [], [] => by rw [ws]; decide
  | [], _ :: _ => by rw [ws]; decide
  | c :: r, st => by
    have s1 := sm_nonneg (f := fun p => pw k c (2 * p) * ws k r (p :: st)) k fun p _ => Int.mul_nonneg (pw_nonneg _ _ _) (ws_nonneg r _)
    cases st with
    | nil => rw [ws_nil]; exact s1
    | cons o s' => rw [ws_cons]; exact Int.add_nonneg s1 (Int.mul_nonneg (pw_nonneg _ _ _) (ws_nonneg r _))
theorem pw_unk {b:Nat} (h:b < 2 * k):pw k 63 b = 1:=by
 unfold pw
 rw [plw_unk]
 unfold ones
 rw [List.getD_eq_getElem?_getD,List.getElem?_replicate,if_pos h]; rfl
theorem brs_at {b c:Nat} (h:brs[b]? = some c):b < 8:=by
 have:=(List.getElem?_eq_some_iff.mp h).1
 exact this
theorem pw_at {b d c:Nat} (hb:b < 2 * k) (hb8:b < 8) (hd:brs[d]? = some c):pw k c b = if b = d then 1 else 0:=by
 have hd8:=brs_at hd
 have hn:c ≠ 63:=by
  rintro rfl
  revert hd
  have:d = 0\/d = 1\/d = 2\/d = 3\/d = 4\/d = 5\/d = 6\/d = 7:=by omega
  rcases this with rfl | rfl | rfl | rfl | rfl | rfl | rfl | rfl <;> decide
 unfold pw plw
 rw [if_neg hn,List.getD_eq_getElem?_getD,List.getElem?_map,List.getElem?_take]
 rw [if_pos (show b < (ones k).length by unfold ones; rw [List.length_replicate]; exact hb)]
 have hb':b = 0\/b = 1\/b = 2\/b = 3\/b = 4\/b = 5\/b = 6\/b = 7:=by omega
 have hd':d = 0\/d = 1\/d = 2\/d = 3\/d = 4\/d = 5\/d = 6\/d = 7:=by omega
 rcases hd' with rfl | rfl | rfl | rfl | rfl | rfl | rfl | rfl <;> (cases hd; rcases hb' with rfl | rfl | rfl | rfl | rfl | rfl | rfl | rfl <;> decide)
theorem sm_pairs (f:Nat->Int):∀ k,sm (2 * k) f = sm k fun p=>f (2 * p) + f (2 * p + 1)
 | 0=>rfl
 | k + 1=>by rw [show 2 * (k + 1) = 2 * k + 1 + 1 by omega,sm,sm,sm_pairs f k,sm]; omega
end BrS
namespace BrS
open L2 PySem BrM BrC
def clc (p:Nat):Nat:=cls.getD p 0
section
variable {k:Int}
end
end BrS
namespace BrS
open L2 PySem BrM BrC
section
variable {k:Int}
end
end BrS
namespace L2
open PySem PySem.Spec PyProof.Rows
section
variable {κ:Type} [DecidableEq κ]
def valV (kvs:List (κ × V)) (k:κ):Option V:=(kvs.find? fun kv=>decide (kv.1 = k)).map (·.2)
def putK (kvs:List (κ × V)) (k:κ) (v:V):List (κ × V) :=
 if (kvs.any fun kv=>decide (kv.1 = k)) = true then kvs.map (fun kv=>if kv.1 = k then (kv.1,v) else kv) else kvs ++ [(k,v)]
def dropK (kvs:List (κ × V)) (k:κ):List (κ × V):=kvs.filter fun kv=>decide (kv.1 ≠ k)
theorem valV_nil {k:κ}:valV ([]:List (κ × V)) k = none:=rfl
theorem valV_pos {p:κ × V} {r:List (κ × V)} {k:κ} (e:p.1 = k):valV (p :: r) k = some p.2:=by simp [valV,List.find?_cons,e]
theorem valV_neg {p:κ × V} {r:List (κ × V)} {k:κ} (e:¬ p.1 = k):valV (p :: r) k = valV r k:=by simp [valV,List.find?_cons,e]
theorem valV_any (k : κ) : ∀ kvs : List (κ × V), (kvs.any fun kv => decide (kv.1 = k)) = (valV kvs k).isSome
  | [] => rfl
  | p :: r => by
    rw [List.any_cons]
    by_cases e : p.1 = k
    · simp only [valV_pos e, decide_eq_true e, Bool.true_or, Option.isSome_some]
    · rw [valV_neg e, decide_eq_false e, Bool.false_or]; exact valV_any k r
theorem valV_map (k j : κ) (y : V) : ∀ kvs : List (κ × V), valV (kvs.map fun kv => if kv.1 = k then (kv.1, y) else kv) j = (valV kvs j).map fun x => if j = k then y else x
  | [] => rfl
  | p :: r => by
    have ih := valV_map k j y r
    rw [List.map_cons]
    by_cases h : p.1 = k
    · rw [if_pos h]
      by_cases e : p.1 = j
      · rw [valV_pos (p := (p.1, y)) e, valV_pos e, Option.map_some, if_pos (e.symm.trans h)]
      · rw [valV_neg (p := (p.1, y)) e, valV_neg e, ih]
    · rw [if_neg h]
      by_cases e : p.1 = j
      · rw [valV_pos (p := p) e, valV_pos e, Option.map_some, if_neg (fun z => h (e.trans z))]
      · rw [valV_neg (p := p) e, valV_neg e, ih]
theorem valV_snoc (k j : κ) (y : V) : ∀ kvs : List (κ × V), valV kvs k = none -> valV (kvs ++ [(k, y)]) j = if j = k then some y else valV kvs j
  | [], _ => by
    by_cases e : k = j
    · rw [if_pos e.symm]; exact valV_pos (p := (k, y)) e
    · rw [if_neg (fun z => e z.symm)]; exact valV_neg (p := (k, y)) e
  | p :: r, hn => by
    rw [List.cons_append]
    have hk : ¬ p.1 = k := fun z => by rw [valV_pos z] at hn; cases hn
    rw [valV_neg hk] at hn
    have ih := valV_snoc k j y r hn
    by_cases e : p.1 = j
    · rw [valV_pos e, valV_pos e, if_neg (fun z => hk (e.trans z))]
    · rw [valV_neg e, valV_neg e, ih]
theorem valV_put (kvs:List (κ × V)) (k j:κ) (y:V):valV (putK kvs k y) j = if j = k then some y else valV kvs j:=by
 unfold putK
 by_cases a:(kvs.any fun kv=>decide (kv.1 = k)) = true
 ·rw [if_pos a,valV_map]
  rw [valV_any] at a
  by_cases e:j = k
  ·obtain ⟨x,hx⟩:=Option.isSome_iff_exists.mp a
   rw [if_pos e,e,hx,Option.map_some,if_pos rfl]
  ·rw [if_neg e]
   cases valV kvs j with
   | none=>rfl
   | some x=>rw [Option.map_some,if_neg e]
 ·rw [if_neg a]
  refine valV_snoc k j y kvs ?_
  rw [valV_any] at a
  cases q:valV kvs k with
  | none=>rfl
  | some x=>rw [q] at a; exact (a rfl).elim
theorem length_putK (kvs:List (κ × V)) (k:κ) (v:V):(putK kvs k v).length <= kvs.length + 1:=by
 unfold putK
 split
 ·rw [List.length_map]; omega
 ·rw [List.length_append,List.length_cons,List.length_nil]; omega
theorem putK_new {kvs:List (κ × V)} {k:κ} (v:V) (h:valV kvs k = none):putK kvs k v = kvs ++ [(k,v)]:=by
 unfold putK
 rw [valV_any,h]
 exact if_neg (by decide)
theorem RelO.isSome_eq {o : Option V} {u : Option Value} (r : RelO o u) : o.isSome = u.isSome := by
  cases o with
  | none => cases u with
    | none => rfl
    | some _ => exact (show False from r).elim
  | some _ => cases u with
    | none => exact (show False from r).elim
    | some _ => rfl
theorem RelO.getD {o : Option V} {u : Option Value} {d : V} {d' : Value} (r : RelO o u) (rd : RelV d d') : RelV (o.getD d) (u.getD d') := by
  cases o with
  | none => cases u with
    | none => exact rd
    | some _ => exact (show False from r).elim
  | some _ => cases u with
    | none => exact (show False from r).elim
    | some _ => exact r
theorem KV.val {kvs : List (κ × V)} {vs : List (κ × Value)} (r : KV kvs vs) (k : κ) : RelO (valV kvs k) (valueAt vs k) := by
  unfold KV at r
  induction r with
  | nil => exact True.intro
  | @cons p q ps qs h t ih =>
    obtain ⟨h1, h2⟩ := h
    by_cases e : p.1 = k
    · have e' : q.1 = k := h1.symm.trans e
      have b : valueAt (q :: qs) k = some q.2 := by simp [valueAt, List.find?_cons, e']
      rw [valV_pos e, b]; exact h2
    · have e' : ¬ q.1 = k := fun z => e (h1.trans z)
      have b : valueAt (q :: qs) k = valueAt qs k := by simp [valueAt, List.find?_cons, e']
      rw [valV_neg e, b]; exact ih
theorem KV.any {kvs:List (κ × V)} {vs:List (κ × Value)} (r:KV kvs vs) (k:κ):(kvs.any fun kv=>decide (kv.1 = k)) = vs.any fun kv=>decide (kv.1 = k):=by
 unfold KV at r
 induction r with
 | nil=>rfl
 | cons h t ih=>rw [List.any_cons,List.any_cons,ih,h.1]
theorem KV.repl {kvs : List (κ × V)} {vs : List (κ × Value)} (r : KV kvs vs) (k : κ) {y : V} {u : Value} (ry : RelV y u) :
    KV (kvs.map fun kv => if kv.1 = k then (kv.1, y) else kv) (vs.map fun kv => if kv.1 = k then (kv.1, u) else kv) := by
  unfold KV at r ⊢
  induction r with
  | nil => exact .nil
  | @cons p q ps qs h t ih =>
    rw [List.map_cons, List.map_cons]
    refine .cons ?_ ih
    obtain ⟨h1, h2⟩ := h
    by_cases e : p.1 = k
    · rw [if_pos e, if_pos (h1.symm.trans e)]; exact ⟨h1, ry⟩
    · rw [if_neg e, if_neg (fun z => e (h1.trans z))]; exact ⟨h1, h2⟩
theorem KV.put {kvs:List (κ × V)} {vs:List (κ × Value)} (r:KV kvs vs) (k:κ) {y:V} {u:Value} (ry:RelV y u):KV (putK kvs k y) (stored vs k u):=by
 unfold putK stored
 rw [r.any k]
 by_cases e:(vs.any fun kv=>decide (kv.1 = k)) = true
 ·rw [if_pos e,if_pos e]; exact r.repl k ry
 ·rw [if_neg e,if_neg e]; exact Paired.snoc r ⟨rfl,ry⟩
theorem KV.drop {kvs : List (κ × V)} {vs : List (κ × Value)} (r : KV kvs vs) (k : κ) : KV (dropK kvs k) (without vs k) := by
  unfold KV at r ⊢
  unfold dropK without
  induction r with
  | nil => exact .nil
  | @cons p q ps qs h t ih =>
    obtain ⟨h1, h2⟩ := h
    rw [List.filter_cons, List.filter_cons]
    by_cases e : p.1 = k
    · have a : ¬ decide (p.1 ≠ k) = true := by simp [e]
      have b : ¬ decide (q.1 ≠ k) = true := by simp [h1.symm.trans e]
      rw [if_neg a, if_neg b]; exact ih
    · have e' : ¬ q.1 = k := fun z => e (h1.trans z)
      have a : decide (p.1 ≠ k) = true := by simp [e]
      have b : decide (q.1 ≠ k) = true := by simp [e']
      rw [if_pos a, if_pos b]; exact .cons ⟨h1, h2⟩ ih
theorem KV.keys {kvs:List (κ × V)} {vs:List (κ × Value)} (r:KV kvs vs):kvs.map (·.1) = vs.map (·.1):=by
 unfold KV at r
 induction r with
 | nil=>rfl
 | cons h t ih=>rw [List.map_cons,List.map_cons,ih,h.1]
theorem KV.length {kvs:List (κ × V)} {vs:List (κ × Value)} (r:KV kvs vs):kvs.length = vs.length:=Paired.length r
theorem dropK_le (kvs:List (κ × V)) (k:κ):(dropK kvs k).length <= kvs.length:=List.length_filter_le _ _
end
theorem kV_is {P:Program} {w:World} {k:Key} {u:Value} (r:RelV (kV k) u):(mixKind P w).is k u = true:=by
 cases k with
 | inl i=>obtain ⟨t,e⟩:=(show ∃ t,u = Value.int i t from r); subst e; exact mixKind_int P w i t
 | inr x=>obtain ⟨t,e⟩:=(show ∃ t,u = Value.str x t from r); subst e; exact mixKind_str P w x t
theorem items_are {P : Program} {w : World} : ∀ {ks : List Key} {us : List Value}, Vals (ks.map kV) us -> ItemsAre (mixKind P w) ks us
  | [], _, r => by rw [List.map_nil] at r; cases r; exact .nil
  | k :: ks, _, r => by
    rw [List.map_cons] at r
    cases r with
    | cons h t => exact .cons (kV_is h) (items_are t)
abbrev KT (H:Hp):List (List Key × V)->List (List Key × Addr × Value)->Prop:=Paired fun p q=>p.1 = q.1/\H q.2.1 = some (.tup (p.1.map kV))/\RelV p.2 q.2.2
theorem KT.val {H : Hp} {kvs : List (List Key × V)} {xs : List (List Key × Addr × Value)} (r : KT H kvs xs) (k : List Key) : RelO (valV kvs k) ((atKey xs k).map (·.2)) := by
  induction r with
  | nil => exact True.intro
  | @cons p q ps qs h t ih =>
    obtain ⟨h1, _, h2⟩ := h
    by_cases e : p.1 = k
    · have e' : q.1 = k := h1.symm.trans e
      have b : atKey (q :: qs) k = some q.2 := by simp [atKey, List.find?_cons, e']
      rw [valV_pos e, b]; exact h2
    · have e' : ¬ q.1 = k := fun z => e (h1.trans z)
      have b : atKey (q :: qs) k = atKey qs k := by simp [atKey, List.find?_cons, e']
      rw [valV_neg e, b]; exact ih
theorem KT.repl {H : Hp} {kvs : List (List Key × V)} {xs : List (List Key × Addr × Value)} (r : KT H kvs xs) (k : List Key) {y : V} {u : Value} (ry : RelV y u) :
    KT H (kvs.map fun kv => if kv.1 = k then (kv.1, y) else kv) (xs.map (putAt k u)) := by
  induction r with
  | nil => exact .nil
  | @cons p q ps qs h t ih =>
    rw [List.map_cons, List.map_cons]
    refine .cons ?_ ih
    obtain ⟨h1, h2, h3⟩ := h
    unfold putAt
    by_cases e : p.1 = k
    · rw [if_pos e, if_pos (h1.symm.trans e)]; exact ⟨h1, h2, ry⟩
    · rw [if_neg e, if_neg (fun z => e (h1.trans z))]; exact ⟨h1, h2, h3⟩
theorem KT.put {H:Hp} {kvs:List (List Key × V)} {xs:List (List Key × Addr × Value)} (r:KT H kvs xs) (k:List Key) {b:Addr} {y:V} {u:Value} (hb:H b = some (.tup (k.map kV))) (ry:RelV y u) :
  KT H (putK kvs k y) (storedH xs k b u):=by
 have e:(kvs.any fun kv=>decide (kv.1 = k)) = (atKey xs k).isSome:=by
  rw [valV_any,(r.val k).isSome_eq,Option.isSome_map]
 unfold putK storedH
 rw [e]
 by_cases q:(atKey xs k).isSome = true
 ·rw [if_pos q,if_pos q]; exact r.repl k ry
 ·rw [if_neg q,if_neg q]; exact Paired.snoc r ⟨rfl,hb,ry⟩
theorem KT.keeps {H H':Hp} {kvs:List (List Key × V)} {xs:List (List Key × Addr × Value)} (r:KT H kvs xs) (ht:∀ b ys,H b = some (.tup ys)->H' b = some (.tup ys)):KT H' kvs xs :=
 Paired.mapP r fun _ _ z=>⟨z.1,ht _ _ z.2.1,z.2.2⟩
section
variable {P:Program} {w:World} {H:Hp} {h:Heap} {a:Addr}
theorem rd_of {u:HO} (ok:HOk P w H h) (e:Rd H a u):ObjOk P w H h a u:=e.ok ok
theorem dk_rd {kvs:List (Key × V)} (ok:HOk P w H h) (e:Rd H a (.dK kvs)):kvs.length <= sizeLine/\(a == sysModules) = false/\∃ vs,KV kvs vs/\h.DictOf (mixKind P w) a vs :=
 show ObjOk P w H h a (.dK kvs) from rd_of ok e
theorem dk_of {kvs:List (Key × V)} (ok:HOk P w H h) (e:H a = some (.dK kvs)):kvs.length <= sizeLine/\(a == sysModules) = false/\∃ vs,KV kvs vs/\h.DictOf (mixKind P w) a vs:=dk_rd ok (.inl e)
theorem key_of {ks:List Key} (ok:HOk P w H h) (e:H a = some (.tup (ks.map kV))):(tupleKind (mixKind P w)).is h ks a:=by
 obtain ⟨_,its,r,o,h1,h2,n,h3⟩:=(show ObjOk P w H h a (.tup (ks.map kV)) from ok a _ e)
 exact ⟨o,its.toArray,n,h1,h2,h3,by simpa using items_are r⟩
theorem dt_rd {kvs : List (List Key × V)} (ok : HOk P w H h) (e : Rd H a (.dT kvs)) : kvs.length <= sizeLine /\ (a == sysModules) = false /\
    ∃ xs, KT H kvs xs /\ h.DictOfH (tupleKind (mixKind P w)) a xs := by
  obtain ⟨z, y, xs, r, o, es, ep, h1, h2, h3, h4, h5⟩ := (show ObjOk P w H h a (.dT kvs) from rd_of ok e)
  refine ⟨z, y, xs, r, o, es, ep, h1, h2, h3, h4, fun x hx => ?_, h5⟩
  have all : ∀ {l : List (List Key × V)} {m : List (List Key × Addr × Value)}, KT H l m -> ∀ x ∈ m, (tupleKind (mixKind P w)).is h x.1 x.2.1 := by
    intro l m q
    induction q with
    | nil => intro x hx; exact nomatch hx
    | @cons p q ps qs hq t ih =>
      intro x hx
      rcases List.mem_cons.mp hx with e | hx
      · subst e
        exact key_of ok (by rw [<- hq.1]; exact hq.2.1)
      · exact ih x hx
  exact all r x hx
theorem dt_of {kvs:List (List Key × V)} (ok:HOk P w H h) (e:H a = some (.dT kvs)):kvs.length <= sizeLine/\(a == sysModules) = false /\
  ∃ xs,KT H kvs xs/\h.DictOfH (tupleKind (mixKind P w)) a xs:=dt_rd ok (.inl e)
end
def DGet (H:Hp) (a:Addr) (y:V) (r:Option V):Prop :=
 (∃ kvs k,Rd H a (.dK kvs)/\y = kV k/\r = valV kvs k)\/∃ kvs k b,Rd H a (.dT kvs)/\y = .ref b/\H b = some (.tup (k.map kV))/\r = valV kvs k
def DPut (H:Hp) (a:Addr) (y v:V) (H':Hp):Prop :=
 (∃ kvs k,H a = some (.dK kvs)/\y = kV k/\kvs.length < sizeLine/\H' = upd H a (.dK (putK kvs k v))) \/
 ∃ kvs k b,H a = some (.dT kvs)/\y = .ref b/\H b = some (.tup (k.map kV))/\kvs.length < sizeLine/\H' = upd H a (.dT (putK kvs k v))
theorem DGet.k {H:Hp} {a:Addr} {kvs:List (Key × V)} {k:Key} (e:H a = some (.dK kvs)):DGet H a (kV k) (valV kvs k):=.inl ⟨kvs,k,.inl e,rfl,rfl⟩
theorem DGet.t {H:Hp} {a b:Addr} {kvs:List (List Key × V)} {k:List Key} (e:H a = some (.dT kvs)) (eb:H b = some (.tup (k.map kV))):DGet H a (.ref b) (valV kvs k):=.inr ⟨kvs,k,b,.inl e,rfl,eb,rfl⟩
theorem DPut.k {H:Hp} {a:Addr} {kvs:List (Key × V)} {k:Key} {v:V} (e:H a = some (.dK kvs)) (hl:kvs.length < sizeLine):DPut H a (kV k) v (upd H a (.dK (putK kvs k v))):=.inl ⟨kvs,k,e,rfl,hl,rfl⟩
theorem DPut.t {H:Hp} {a b:Addr} {kvs:List (List Key × V)} {k:List Key} {v:V} (e:H a = some (.dT kvs)) (eb:H b = some (.tup (k.map kV))) (hl:kvs.length < sizeLine) :
  DPut H a (.ref b) v (upd H a (.dT (putK kvs k v))):=.inr ⟨kvs,k,b,e,rfl,eb,hl,rfl⟩
section
variable {X:Cx} {pins:List (Addr × Obj)} {σ:St} {H:Hp} {s:Shared} {a:Addr} {y v:V} {u r:Value} {o:Option V} {A:Around} {E:Value->Shared->Prop}
theorem Inv.big (I:Inv X pins σ H s):sysModules < s.heap.objs.size:=by
 have h:mainGlobals < s.heap.objs.size:=(I.mod.glob.keeps I.bk).lt
 exact Nat.lt_trans (by decide) h
theorem d_getItem {Q:Value->Shared->Prop} (hu:A.units + 1 < cLine) (I:Inv X pins σ H s) (g:DGet H a y (some v)) (ry:RelV y u) (h:∀ w' s',Inv X pins σ H s'->RelV v w'->Q w' s') :
  wpAny (model X.prog X.w) A (getItem (.ref a) u) Q E s:=by
 rcases g with ⟨kvs,k,e,ey,l⟩ | ⟨kvs,k,b,e,ey,eb,l⟩
 ·subst ey
  obtain ⟨z,hd,vs,rel,dd⟩:=dk_rd I.hok e
  obtain ⟨w',hw,rw'⟩:=RelO.some_of (v:=v) (o:=valueAt vs k) (by rw [l]; exact rel.val k)
  exact wpAny_getItem_of (kV_is ry) dd.mapOf hw (h w' _ (I.tok _) rw')
 ·subst ey
  cases (show u = Value.ref b from ry)
  obtain ⟨z,hd,xs,rel,dd⟩:=dt_rd I.hok e
  obtain ⟨w',hw,rw'⟩:=RelO.some_of (v:=v) (o:=(atKey xs k).map (·.2)) (by rw [l]; exact rel.val k)
  obtain ⟨p,hp,hp2⟩:=Option.map_eq_some_iff.mp hw
  refine wpAny_getItem_heap (tupleKind_room_in1 hu) (key_of I.hok eb) dd hp ?_
  rw [hp2]
  exact h w' _ (I.tok _) rw'
theorem d_in {Q:Value->Shared->Prop} (hu:A.units + 1 < cLine) (I:Inv X pins σ H s) (g:DGet H a y o) (ry:RelV y u) (h:∀ s',Inv X pins σ H s'->Q (.bool o.isSome) s') :
  wpAny (model X.prog X.w) A (compareOp .In u (.ref a)) Q E s:=by
 rcases g with ⟨kvs,k,e,ey,l⟩ | ⟨kvs,k,b,e,ey,eb,l⟩
 ·subst ey
  obtain ⟨z,hd,vs,rel,dd⟩:=dk_rd I.hok e
  refine wpAny_in_of (kV_is ry) hd dd.mapOf ?_
  rw [<- (rel.val k).isSome_eq,<- l]
  exact h _ (I.tok _)
 ·subst ey
  cases (show u = Value.ref b from ry)
  obtain ⟨z,hd,xs,rel,dd⟩:=dt_rd I.hok e
  refine wpAny_in_heap (tupleKind_room_in1 hu) (key_of I.hok eb) hd dd ?_
  have q:=(rel.val k).isSome_eq
  rw [Option.isSome_map] at q
  rw [<- q,<- l]
  exact h _ (I.tok _)
theorem d_notIn {Q:Value->Shared->Prop} (hu:A.units + 1 < cLine) (I:Inv X pins σ H s) (g:DGet H a y o) (ry:RelV y u) (h:∀ s',Inv X pins σ H s'->Q (.bool (!o.isSome)) s') :
  wpAny (model X.prog X.w) A (compareOp .NotIn u (.ref a)) Q E s:=by
 rcases g with ⟨kvs,k,e,ey,l⟩ | ⟨kvs,k,b,e,ey,eb,l⟩
 ·subst ey
  obtain ⟨z,hd,vs,rel,dd⟩:=dk_rd I.hok e
  refine wpAny_notIn_of (kV_is ry) hd dd.mapOf ?_
  rw [<- (rel.val k).isSome_eq,<- l]
  exact h _ (I.tok _)
 ·subst ey
  cases (show u = Value.ref b from ry)
  obtain ⟨z,hd,xs,rel,dd⟩:=dt_rd I.hok e
  refine wpAny_notIn_heap (tupleKind_room_in1 hu) (key_of I.hok eb) hd dd ?_
  have q:=(rel.val k).isSome_eq
  rw [Option.isSome_map] at q
  rw [<- q,<- l]
  exact h _ (I.tok _)
theorem d_write {h':Heap} {t':Nat} {ob:HO} (I:Inv X pins σ H s) (mu:Mut (H a)) (hs:Heap.SameBut a s.heap h') (he:∃ q,h'.get? a = some q) (new:ObjOk X.prog X.w (upd H a ob) h' a ob) :
  Inv X pins σ (upd H a ob) { s with heap:=h',toks:=t' } :=
 I.write (x:=a) (e:=a) mu (.inl rfl) (fun b q hb z=>(hs.2 b hb).trans z) he new
theorem dk_new {P:Program} {w:World} {H':Hp} {h':Heap} {kvs:List (Key × V)} {vs:List (Key × Value)} (z:kvs.length <= sizeLine) (hd:(a == sysModules) = false) (rel:KV kvs vs) (dd:h'.DictOf (mixKind P w) a vs) :
  ObjOk P w H' h' a (.dK kvs):=⟨z,hd,vs,rel,dd⟩
theorem d_setItem {H':Hp} {Q:Unit->Shared->Prop} (hu:A.units + 1 < cLine) (I:Inv X pins σ H s) (g:DPut H a y v H') (ry:RelV y u) (rv:RelV v r) (h:∀ s',Inv X pins σ H' s'->Q () s') :
  wpAny (model X.prog X.w) A (setItem (.ref a) u r) Q E s:=by
 rcases g with ⟨kvs,k,e,ey,l,eH⟩ | ⟨kvs,k,b,e,ey,eb,l,eH⟩
 ·subst ey eH
  obtain ⟨z,hd,vs,rel,dd⟩:=dk_of I.hok e
  have hz:vs.length <= sizeLine:=by rw [<- rel.length]; exact z
  have hl:(putK kvs k v).length <= sizeLine:=by have:=length_putK kvs k v; omega
  refine wpAny_setItem_pairs (hsz:=hz) (kV_is ry) dd fun h' dd' hs=>h _ ?_
  have he:∃ q,h'.get? a = some q:=let ⟨q,_,_,hq,_⟩:=dd'; ⟨q,hq⟩
  exact d_write I (by rw [e]; exact True.intro) hs he (dk_new hl hd (rel.put k rv) dd')
 ·subst ey eH
  cases (show u = Value.ref b from ry)
  obtain ⟨z,hd,xs,rel,dd⟩:=dt_of I.hok e
  have hz:xs.length <= sizeLine:=by rw [<- Paired.length rel]; exact z
  have hl:(putK kvs k v).length <= sizeLine:=by have:=length_putK kvs k v; omega
  refine wpAny_setItem_heap (hsz:=hz) (tupleKind_room_in1 hu) (key_of I.hok eb) dd fun h' dd' hs=>h _ ?_
  obtain ⟨q,es,ep,hq,h2,h3,h4,_,h5⟩:=dd'
  refine d_write I (by rw [e]; exact True.intro) hs ⟨q,hq⟩ ⟨hl,hd,_,(rel.put k eb rv).keeps fun c ys ec=>?_,q,es,ep,hq,h2,h3,h4,h5⟩
  rw [upd_ne (ne_of ec e (fun z=>nomatch z))]
  exact ec
end
section
variable {X:Cx} {pins:List (Addr × Obj)} {σ:St} {H:Hp} {s:Shared} {a:Addr} {kvs:List (Key × V)} {k:Key} {u:Value} {A:Around} {E:Value->Shared->Prop}
theorem d_pop {v:V} {more:List Value} {Q:Value->Shared->Prop} (I:Inv X pins σ H s) (e:H a = some (.dK kvs)) (ry:RelV (kV k) u) (l:valV kvs k = some v) (hm:more = []\/∃ x,more = [x])
  (h:∀ w' s',Inv X pins σ (upd H a (.dK (dropK kvs k))) s'->RelV v w'->Q w' s'):wpAny (model X.prog X.w) A (call (.builtin "dict.pop") (.ref a :: u :: more)) Q E s:=by
 obtain ⟨z,hd,vs,rel,dd⟩:=dk_of I.hok e
 obtain ⟨w',hw,rw'⟩:=RelO.some_of (v:=v) (o:=valueAt vs k) (by rw [<- l]; exact rel.val k)
 have hp:(keyPart u).isSome = true:=by
  cases k with
  | inl i=>obtain ⟨t,q⟩:=(show ∃ t,u = Value.int i t from ry); subst q; rfl
  | inr x=>obtain ⟨t,q⟩:=(show ∃ t,u = Value.str x t from ry); subst q; rfl
 have ha:argsOk "dict.pop" ⟨.ref a :: u :: more,[]⟩:=by
  rcases hm with q | ⟨x,q⟩
  ·subst q; exact PySem.F.args_dict_pop_2 _ _
  ·subst q; exact PySem.F.args_dict_pop_3 _ _ _
 refine call_meetsIn PySem.F.slot_dict_pop dd.typeIs PySem.F.entry_dict_pop ha (meets_dict_pop_there (mixKind X.prog X.w) a (kV_is ry) more hm hp)
  ⟨vs,w',dd,by rw [<- rel.length]; exact z,hw,fun h' dd' hs=>h w' _ ?_ rw'⟩
 have he:∃ q,h'.get? a = some q:=let ⟨q,_,_,hq,_⟩:=dd'; ⟨q,hq⟩
 exact d_write I (by rw [e]; exact True.intro) hs he (dk_new (Nat.le_trans (dropK_le kvs k) z) hd (rel.drop k) dd')
end
def NoSl (i:Expr):Prop:=∀ ov iv,subscripted i false ov iv = operate [ov,iv] (getItem ov iv)
theorem subD_of {prog:Program} {w:World} {A:Around} {E:Value->Shared->Prop} {s:Shared} {env:Env} {value slice:Expr} {pos:Pos} {T id:String} {Q:Value->Shared->Prop}
  (hl:typeLookup (.type T) "__getitem__" = pure (some (.builtin id))) (hs:NoSl slice)
  (h:wpAny (model prog w) A (eval value env) (fun o s₁=>wpAny (model prog w) A (eval slice env) (fun i s₂=>s₂.TypeIs o T/\wpAny (model prog w) A (getItem o i) Q E s₂) E s₁) E s) :
  wpAny (model prog w) A (eval (.Subscript value slice pos) env) Q E s:=by
 refine Subscript_ (wpAny_mono h (fun o s₁ h₁=>wpAny_mono h₁ (fun i s₂ h₂=>?_) fun _ _ x=>x) fun _ _ x=>x)
 obtain ⟨hT,h₂⟩:=h₂
 unfold subscriptTail
 refine wpAny_bind ?_
 rw [getitemInPython_of_ne hT.not_modules]
 refine wpAny_bind (wpAny_specialOf hT hl ?_)
 have fin:wpAny (model prog w) A (subscripted slice false o i) (fun r s₃=>wpAny (model prog w) A (letTemporaryGo value o r >>= fun _=>pure r) Q E s₃) E s₂:=by
  rw [hs o i]
  exact wpAny_operating (wpAny_mono h₂ (fun r s₃ h₃=>wpAny_bind (wpAny_letTemporaryGo (wpAny_pure h₃))) fun _ _ x=>x)
 first
  | exact wpAny_pure (wpAny_bind fin)
  | exact wpAny_bind (wpAny_pure (wpAny_bind fin))
  | exact wpAny_bind fin
theorem dict_typeIs {X:Cx} {pins:List (Addr × Obj)} {σ:St} {H:Hp} {s:Shared} {a:Addr} {y:V} {o:Option V} (I:Inv X pins σ H s) (g:DGet H a y o):s.TypeIs (.ref a) "dict":=by
 rcases g with ⟨kvs,k,e,_,_⟩ | ⟨kvs,k,b,e,_,_,_⟩
 ·obtain ⟨_,_,vs,_,dd⟩:=dk_rd I.hok e
  exact dd.typeIs
 ·obtain ⟨_,_,xs,_,dd⟩:=dt_rd I.hok e
  exact dd.typeIs
def tDGet (td ty:TE):TE:=fun σ H Q=>td σ H fun x H1=>ty σ H1 fun y H2=>∃ a v,x = .ref a/\DGet H2 a y (some v)/\Q v H2
def tDIn (ty td:TE):TE:=fun σ H Q=>ty σ H fun y H1=>td σ H1 fun x H2=>∃ a o,x = .ref a/\DGet H2 a y o/\Q (.bl o.isSome) H2
def tDNotIn (ty td:TE):TE:=fun σ H Q=>ty σ H fun y H1=>td σ H1 fun x H2=>∃ a o,x = .ref a/\DGet H2 a y o/\Q (.bl (!o.isSome)) H2
def sDPut (td ty tv:TE):TS:=fun D σ H=>tv σ H fun v H1=>td σ H1 fun x H2=>ty σ H2 fun y H3=>∃ a H4,x = .ref a/\DPut H3 a y v H4/\D.nx σ H4
section
variable {X:Cx} {o i e value:Expr} {pos pos' tpos:Pos} {td ty tv:TE}
theorem pe_dget (hu:X.A.units + 1 < cLine) (ho:PE X o td) (hi:PE X i ty) (hs:NoSl i):PE X (.Subscript o i pos) (tDGet td ty):=by
 intro pins s σ H Q I h
 refine subD_of PySem.F.slot_dict_getitem.lookup hs (thn (ho pins s σ H _ I h) fun u s1 ⟨x,H1,I1,rx,q1⟩=>thn (hi pins s1 σ H1 _ I1 q1) fun iv s2 ⟨y,H2,I2,ry,a,v,ex,g,q2⟩=>?_)
 subst ex
 obtain rfl:u = Value.ref a:=rx
 exact ⟨dict_typeIs I2 g,d_getItem hu I2 g ry fun w' s3 I3 rw'=>⟨v,H2,I3,rw',q2⟩⟩
theorem pc_din (hu:X.A.units + 1 < cLine) (hi:PE X i ty) (ho:PE X o td):PC X .In i o (tDIn ty td):=by
 intro pins s σ H Q I h
 refine thn (hi pins s σ H _ I h) fun iv s1 ⟨y,H1,I1,ry,q1⟩=>thn (ho pins s1 σ H1 _ I1 q1) fun u s2 ⟨x,H2,I2,rx,a,ov,ex,g,q2⟩=>?_
 subst ex
 obtain rfl:u = Value.ref a:=rx
 exact d_in hu I2 g ry fun s3 I3=>⟨.bl ov.isSome,H2,I3,rfl,q2⟩
theorem pc_dnotin (hu:X.A.units + 1 < cLine) (hi:PE X i ty) (ho:PE X o td):PC X .NotIn i o (tDNotIn ty td):=by
 intro pins s σ H Q I h
 refine thn (hi pins s σ H _ I h) fun iv s1 ⟨y,H1,I1,ry,q1⟩=>thn (ho pins s1 σ H1 _ I1 q1) fun u s2 ⟨x,H2,I2,rx,a,ov,ex,g,q2⟩=>?_
 subst ex
 obtain rfl:u = Value.ref a:=rx
 exact d_notIn hu I2 g ry fun s3 I3=>⟨.bl (!ov.isSome),H2,I3,rfl,q2⟩
theorem ps_dput (hu:X.A.units + 1 < cLine) (ho:PE X o td) (hi:PE X i ty) (hv:PE X value tv) (hs:swapsWith value (some (.Subscript o i pos')) pos.line X.env = pure false) :
  PS X (.Assign [.Subscript o i pos'] value pos) (sDPut td ty tv):=by
 intro pins s σ H D I h
 refine wpAny_Assign_Subscript (thn (hv pins s σ H _ I h) fun r s1 ⟨v,H1,I1,rv,q1⟩=>thn (ho pins s1 σ H1 _ I1 q1) fun u s2 ⟨x,H2,I2,rx,q2⟩=>thn (hi pins s2 σ H2 _ I2 q2) fun iv s3 ⟨y,H3,I3,ry,a,H4,ex,g,q3⟩=>?_) hs
 subst ex
 obtain rfl:u = Value.ref a:=rx
 exact d_setItem hu I3 g ry rv fun s4 I4=>⟨σ,H4,I4,q3⟩
end
theorem dk_empty {P:Program} {w:World} {H:Hp} (h:Heap) (hb:sysModules < h.objs.size):ObjOk P w H (h.push { cls:=.type "dict",data:=.dict #[] }) h.objs.size (.dK []) :=
 ⟨Nat.zero_le _,beq_eq_false_iff_ne.mpr (Ne.symm (Nat.ne_of_lt hb)),[],.nil,Heap.DictOf.new h⟩
def tDNewK:TE:=fun _ H Q=>∀ p,H p = none->Q (.ref p) (upd H p (.dK []))
section
variable {X:Cx} {pos:Pos}
theorem pe_dnewK:PE X (.Dict [] [] pos) tDNewK:=fun pins s σ H Q I h =>
 wpAny_Dict_empty ⟨.ref s.heap.objs.size,_,I.laid (a:=s.heap.objs.size) (o:=.dK []) (t':=s.toks) (fun _ _ q=>Heap.get?_push_of_some _ q) (Nat.le_refl _) (dk_empty s.heap I.big),rfl,h _ (I.hok.fresh (Nat.le_refl _))⟩
end
def tPairs:List (TE × TE)->St->Hp->(List (V × V)->Hp->Prop)->Prop
 | [],_,H,Q=>Q [] H
 | (tk,tv) :: r,σ,H,Q=>tk σ H fun x H1=>tv σ H1 fun y H2=>tPairs r σ H2 fun ps H3=>Q ((x,y) :: ps) H3
abbrev VV:List (V × V)->List (Value × Value)->Prop:=Paired fun p q=>RelV p.1 q.1/\RelV p.2 q.2
def PPs (X:Cx) (pos:Pos) (keys:List (Option Expr)) (values:List Expr) (trs:List (TE × TE)):Prop :=
 ∀ (pins:List (Addr × Obj)) (s:Shared) (σ:St) (H:Hp) (Q:List (V × V)->Hp->Prop),Inv X pins σ H s->tPairs trs σ H Q ->
  wpAny (model X.prog X.w) X.A (evalPairs (pairTrees keys values X.env pos)) (fun vs s'=>∃ ps H',Inv X pins σ H' s'/\VV ps vs/\Q ps H') X.xe s
theorem pps_nil {X:Cx} {pos:Pos}:PPs X pos [] [] []:=fun pins s σ H Q I h=>pairTrees_nil_walk ⟨[],H,I,.nil,h⟩
theorem pps_cons {X:Cx} {pos:Pos} {k v:Expr} {ks:List (Option Expr)} {vs:List Expr} {tk tv:TE} {trs:List (TE × TE)} (hk:PE X k tk) (hv:PE X v tv) (hr:PPs X pos ks vs trs) :
  PPs X pos (some k :: ks) (v :: vs) ((tk,tv) :: trs):=fun pins s σ H Q I h =>
 pairTrees_cons_walk (thn (hk pins s σ H _ I h) fun u s1 ⟨x,H1,I1,rx,q1⟩=>thn (hv pins s1 σ H1 _ I1 q1) fun w2 s2 ⟨y,H2,I2,ry,q2⟩ =>
  thn (hr pins s2 σ H2 _ I2 q2) fun ws s3 ⟨ps,H3,I3,rel,q3⟩=>⟨(x,y) :: ps,H3,I3,.cons ⟨rx,ry⟩ rel,q3⟩)
def mergeK (kvs more:List (Key × V)):List (Key × V):=more.foldl (fun acc kv=>putK acc kv.1 kv.2) kvs
theorem KV.merge : ∀ {more : List (Key × V)} {rs : List (Key × Value)} {kvs : List (Key × V)} {vs : List (Key × Value)}, KV more rs -> KV kvs vs -> KV (mergeK kvs more) (merged vs rs) := by
  intro more rs kvs vs r
  unfold KV at r
  induction r generalizing kvs vs with
  | nil => intro q; exact q
  | @cons p q ps qs h t ih =>
    intro r0
    have e : KV (putK kvs p.1 p.2) (stored vs q.1 q.2) := by
      have := r0.put p.1 h.2
      rw [<- h.1]; exact this
    exact ih e
theorem length_mergeK : ∀ (more kvs : List (Key × V)), (mergeK kvs more).length <= kvs.length + more.length
  | [], kvs => by show kvs.length <= kvs.length + 0; omega
  | p :: r, kvs => by
    have h1 := length_mergeK r (putK kvs p.1 p.2)
    have h2 := length_putK kvs p.1 p.2
    show (mergeK (putK kvs p.1 p.2) r).length <= _
    rw [List.length_cons]; omega
theorem carries_of {P : Program} {w : World} : ∀ {kvs : List (Key × V)} {ws : List (Value × Value)}, VV (kvs.map fun kv => (kV kv.1, kv.2)) ws -> ∃ rs, Carries (mixKind P w) ws rs /\ KV kvs rs
  | [], _, r => by rw [List.map_nil] at r; cases r; exact ⟨[], True.intro, .nil⟩
  | p :: kvs, _, r => by
    rw [List.map_cons] at r
    cases r with
    | @cons a b as bs h t =>
      obtain ⟨rs, c, q⟩ := carries_of (P := P) (w := w) t
      obtain ⟨b1, b2⟩ := b
      exact ⟨(p.1, b2) :: rs, ⟨kV_is h.1, rfl, c⟩, .cons ⟨rfl, h.2⟩ q⟩
def tDisp (trs:List (TE × TE)):TE:=fun σ H Q=>∀ p,H p = none->tPairs trs σ (upd H p (.dK [])) fun ps H2=>H2 p = some (.dK [])/\∃ kvs:List (Key × V),ps = kvs.map (fun kv=>(kV kv.1,kv.2))/\kvs.length <= 15/\Q (.ref p) (upd H2 p (.dK (mergeK [] kvs)))
theorem pe_disp {X:Cx} {pos:Pos} {keys:List (Option Expr)} {values:List Expr} {trs:List (TE × TE)} (h:PPs X pos keys values trs) (hall:keys.all (·.isSome) = true) (hl:keys.length = values.length) (h0:keys ≠ [])
  (h15:keys.length <= 15):PE X (.Dict keys values pos) (tDisp trs):=by
 intro pins s σ H Q I q
 have hn:=I.hok.fresh (Nat.le_refl s.heap.objs.size)
 have I1:=I.laid (a:=s.heap.objs.size) (o:=.dK []) (h':=s.heap.push { cls:=.type "dict",data:=.dict #[] }) (t':=s.toks) (fun _ _ q=>Heap.get?_push_of_some _ q) (Nat.le_refl _) (dk_empty s.heap I.big)
 refine wpAny_Dict_walk (knd:=mixKind X.prog X.w) hall hl h0 h15 (thn (h pins _ σ _ _ I1 (q _ hn)) fun ws s2 ⟨ps,H2,I2,rel,e,kvs,ep,lk,q2⟩=>?_)
 subst ep
 obtain ⟨rs,c,rk⟩:=carries_of (P:=X.prog) (w:=X.w) rel
 obtain ⟨z,hd,vs0,r0,dd⟩:=dk_of I2.hok e
 cases r0
 refine ⟨rs,c,dd,fun h' dd' hs=>⟨.ref s.heap.objs.size,_,?_,rfl,q2⟩⟩
 have hz:(mergeK [] kvs).length <= sizeLine:=by
  have h1:=length_mergeK kvs []
  rw [List.length_nil] at h1
  rw [sizeLine_eq]; omega
 have he:∃ q,h'.get? s.heap.objs.size = some q:=let ⟨q,_,_,hq,_⟩:=dd'; ⟨q,hq⟩
 exact d_write I2 (by rw [e]; exact True.intro) hs he (dk_new hz hd (rk.merge .nil) dd')
structure M1 (X:Cx) (o:Expr) (m:Str) (apos:Pos) (e:Expr) (cpos:Pos):Prop where
 base:attributeBase o m X.env (eval o X.env) = eval o X.env
 few:((backTo cpos (starEach [e] X.env)).all (fun x=>!x.1) && (backToKw cpos (keywordEach [] X.env)).all (fun x=>x.1.isSome)
  && decide (([e]:List Expr).length + ([]:List Keyword).length + (if ([]:List Keyword).isEmpty then 0 else 1) < 30)) = true
 line:(apos.endLine == cpos.line) = true
 trees:backTo cpos (starEach [e] X.env) = [(false,eval e X.env)]
def IsD (H:Hp) (a:Addr):Prop:=(∃ kvs,Rd H a (.dK kvs))\/∃ kvs,Rd H a (.dT kvs)
theorem isD_at {X:Cx} {pins:List (Addr × Obj)} {σ:St} {H:Hp} {s:Shared} {a:Addr} (I:Inv X pins σ H s) (d:IsD H a) :
  s.TypeIs (.ref a) "dict"/\(∀ b,Value.ref a = .ref b->∃ ob,s.heap.get? b = some ob/\ob.dict = none)/\(a == sysModules) = false:=by
 rcases d with ⟨kvs,e⟩ | ⟨kvs,e⟩
 ·obtain ⟨_,hd,vs,_,dd⟩:=dk_rd I.hok e
  refine ⟨dd.typeIs,fun b q=>?_,hd⟩
  cases q
  obtain ⟨ob,_,_,h1,h2,_⟩:=dd
  exact ⟨ob,h1,h2.2.1⟩
 ·obtain ⟨_,hd,xs,_,dd⟩:=dt_rd I.hok e
  refine ⟨dd.typeIs,fun b q=>?_,hd⟩
  cases q
  obtain ⟨ob,_,_,h1,h2,_⟩:=dd
  exact ⟨ob,h1,h2.2.1⟩
section
variable {X:Cx} {pins:List (Addr × Obj)} {σ:St} {H:Hp} {s:Shared} {a:Addr} {y d:V} {u r:Value} {o:Option V} {A:Around} {E:Value->Shared->Prop}
end
def tDPop1 (td ty:TE):TE:=fun σ H Q=>td σ H fun x H1=>∃ a,x = .ref a/\IsD H1 a/\ty σ H1 fun y H2=>∃ kvs k v,H2 a = some (.dK kvs)/\y = kV k/\valV kvs k = some v/\Q v (upd H2 a (.dK (dropK kvs k)))
section
variable {X:Cx} {o e f:Expr} {apos cpos:Pos} {td ty tx:TE}
theorem pe_dpop1 (ho:PE X o td) (he:PE X e ty) (m:M1 X o "pop" apos e cpos):PE X (.Call (.Attribute o "pop" apos) [e] [] cpos) (tDPop1 td ty):=by
 intro pins s σ H Q I h
 refine wpAny_Call_method m.base m.few m.line PySem.F.plainAttrs_dict PySem.F.slot_dict_pop PySem.F.type_dict_pop (thn (ho pins s σ H _ I h) fun u s1 ⟨x,H1,I1,rx,a,ex,d,q1⟩=>?_)
 subst ex
 obtain rfl:u = Value.ref a:=rx
 obtain ⟨t1,t2,_⟩:=isD_at I1 d
 refine ⟨t1,t2,?_⟩
 rw [m.trees]
 refine Calls.callWith_builtin rfl (Calls.evalArgs_plain (Calls.spliced_cons (thn (he pins s1 σ H1 _ I1 q1) fun iv s2 ⟨y,H2,I2,ry,kvs,k,v,ea,ey,l,q2⟩=>Calls.spliced_nil ?_)))
 subst ey
 exact d_pop I2 ea ry l (.inl rfl) fun w' s3 I3 rw'=>⟨v,_,I3,rw',q2⟩
end
section
variable {X:Cx} {pins:List (Addr × Obj)} {σ:St} {H:Hp} {s:Shared} {a:Addr} {kvs:List (Key × V)} {A:Around} {E:Value->Shared->Prop}
end
section
variable {X:Cx} {pins:List (Addr × Obj)} {σ:St} {H:Hp} {s:Shared} {a:Addr} {y:V} {u:Value} {A:Around} {E:Value->Shared->Prop}
end
end L2
namespace L2
open PySem PySem.Spec PyProof.Rows
section
variable {κ:Type} [DecidableEq κ]
theorem valV_not {kvs:List (κ × V)} {k:κ} (h:valV kvs k = none):¬ k ∈ kvs.map (·.1):=by
 intro m
 obtain ⟨p,hp,e⟩:=List.mem_map.mp m
 have q:(kvs.any fun kv=>decide (kv.1 = k)) = true:=List.any_eq_true.mpr ⟨p,hp,decide_eq_true e⟩
 rw [valV_any,h] at q
 exact absurd q (by simp)
theorem dropK_mem {kvs:List (κ × V)} {k:κ} {p:κ × V} (h:p ∈ dropK kvs k):p ∈ kvs:=(List.mem_filter.mp h).1
end
end L2
namespace L2
open PySem PySem.Spec PyProof.Rows
inductive Sc:V->PyData->Prop
 | non:Sc .non .none
 | bl (b:Bool):Sc (.bl b) (.bool b)
 | int (i:Int):Sc (.int i) (.int i)
 | str (x:Str):Sc (.str x) (.str x)
def Sck (p:Key × V) (q:PyData × PyData):Prop:=Sc (kV p.1) q.1/\Sc p.2 q.2
section
variable {X:Cx} {pins:List (Addr × Obj)} {σ:St} {H:Hp} {s:Shared}
end
def ShOk (d:PyData):Prop:=d.showable = true/\d.shown.length <= sizeLine/\d.depth <= 20
def Low (a:List Nat):Prop:=∀ c ∈ a,c < 16 ^ 8
end L2
namespace L2
open PySem PySem.Spec PyProof.Rows
section
variable {X:Cx}
end
inductive PSb (X:Cx) (st:Stmt) (t:TS):Prop
 | mk (h:PS X st t):PSb X st t
theorem PSb.ps {X:Cx} {st:Stmt} {t:TS} (h:PSb X st t):PS X st t:=h.casesOn fun h=>h
end L2
namespace BrM
open L2 PySem
def Fine (a:List Nat):Prop:=Low a/\a.length <= 1000
inductive Th (p:Addr) (H:Hp):V->Prop
 | txt (a:List Nat) (h:Fine a):Th p H (tx a)
 | non:Th p H .non
 | int (i:Int) (h:i = 0\/i = 7):Th p H (.int i)
 | bl (b:Bool):Th p H (.bl b)
 | lst {q:Addr} {l:List (List Nat)} (h:H q = some (.lst (l.map tx))) (n:q ≠ p) (f:∀ a ∈ l,Fine a) (z:l.length <= 1100):Th p H (.ref q)
 | tup {q:Addr} {l:List (List Nat)} (h:H q = some (.tup (l.map tx))) (n:q ≠ p) (f:∀ a ∈ l,Fine a) (z:l.length <= 1):Th p H (.ref q)
 | dc0 {q:Addr} (h:H q = some (.dK [])) (n:q ≠ p):Th p H (.ref q)
 | dc1 {q:Addr} {a:List Nat} (h:H q = some (.dK [(.inr ⟨a.toArray⟩,.int 1)])) (n:q ≠ p) (f:Fine a):Th p H (.ref q)
theorem Th.keep {p:Addr} {H H':Hp} {v:V} (t:Th p H v) (s:SameBut1 p H H'):Th p H' v:=by
 cases t with
 | txt a h=>exact .txt a h
 | non=>exact .non
 | int i h=>exact .int i h
 | bl b=>exact .bl b
 | lst h n f z=>exact .lst (s _ _ h n) n f z
 | tup h n f z=>exact .tup (s _ _ h n) n f z
 | dc0 h n=>exact .dc0 (s _ _ h n) n
 | dc1 h n f=>exact .dc1 (s _ _ h n) n f
theorem Th.kind {K:PySem.W.Frag} {p:Addr} {H:Hp} {v:V} (t:Th p H v):(∃ a,v = tx a/\Fine a)\/∃ T,TyOf K H v (.type T)/\T ∈ plainTy/\T ≠ "str":=by
 cases t with
 | txt a h=>exact .inl ⟨a,rfl,h⟩
 | non=>exact .inr ⟨_,.non,by decide,by decide⟩
 | int i h=>exact .inr ⟨_,.int i,by decide,by decide⟩
 | bl b=>exact .inr ⟨_,.bl b,by decide,by decide⟩
 | lst h n f z=>exact .inr ⟨_,.lst h,by decide,by decide⟩
 | tup h n f z=>exact .inr ⟨_,.tup h,by decide,by decide⟩
 | dc0 h n=>exact .inr ⟨_,.dK h,by decide,by decide⟩
 | dc1 h n f=>exact .inr ⟨_,.dK h,by decide,by decide⟩
def Nw (H:Hp) (v:V):Prop:=∀ q,v = .ref q->H q = none
theorem Th.upd {p D:Addr} {H:Hp} {v:V} {o:HO} (t:Th p H v) (n:v ≠ .ref D):Th p (upd H D o) v:=by
 cases t with
 | txt a h=>exact .txt a h
 | non=>exact .non
 | int i h=>exact .int i h
 | bl b=>exact .bl b
 | lst h m f z=>exact .lst (by rw [upd_ne (fun e=>n (by rw [e]))]; exact h) m f z
 | tup h m f z=>exact .tup (by rw [upd_ne (fun e=>n (by rw [e]))]; exact h) m f z
 | dc0 h m=>exact .dc0 (by rw [upd_ne (fun e=>n (by rw [e]))]; exact h) m
 | dc1 h m f=>exact .dc1 (by rw [upd_ne (fun e=>n (by rw [e]))]; exact h) m f
end BrM
namespace BrM
open L2 PySem
theorem all_cons {p:Addr} {H:Hp} {x:V} {l:List V} (h1:Th p H x) (h2:∀ v ∈ l,Th p H v):∀ v ∈ x :: l,Th p H v:=fun v hv=>(List.mem_cons.mp hv).elim (fun e=>e ▸ h1) (h2 v)
end BrM
namespace L2
open PySem PySem.Spec PyProof.Rows
abbrev veTail:List Value:=[.type "ValueError",.type "Exception",.type "BaseException",.type "object"]
structure ECls (K:PySem.W.Frag) (C:Addr):Prop where
 ex:PySem.W.excIn K C veTail "ValueError.__new__" = true
 ty:PySem.W.typeIn K (.ref C) = some (.type "type")
 cs:∃ cd,PySem.W.clsIn K C = some cd
 bs:PySem.W.mroIn K C (.type "BaseException") = some true
 ob:PySem.W.mroIn K C (.type "object") = some true
 ga:PySem.W.findIn K (.ref C) "__getattribute__" = some (some (.builtin "BaseException.__getattribute__"))
 gk:PySem.W.findIn K (.ref C) "__getattr__" = some none
 ca:PySem.W.findIn K (.ref C) "__class__" = some (some (.builtin "object.__class__"))
 cn:PySem.W.specialIn K (.builtin "object.__class__") "__get__" = some (some (.builtin "getset_descriptor.__get__"))
 ct:PySem.W.takesIn K (.builtin "object.__class__") = some true
def ExcAt (x C:Addr) (h:Heap):Prop:=∃ o vs,h.get? x = some o/\o.cls = .ref C/\o.data = .fields vs
theorem ExcAt.type {x C:Addr} {h:Heap} {M:Model} (e:ExcAt x C h):PySem.W.Looks M h (typeOf (.ref x)) (.ref C):=by
 obtain ⟨o,vs,h1,h2,_⟩:=e
 exact h2 ▸ (PySem.W.Looks.ld h1).andThen .now
section
variable {prog:Program} {w:World} {A:Around} {E:Value->Shared->Prop} {s:Shared} {K:PySem.W.Frag} {x C:Addr}
open Builtin Builtin.ObjectAttr Builtin.Getset_descriptor in
theorem exc_gs {R:Result->Shared->Prop} {tp:Value} (Z:ECls K C) (X:K.In s.heap) (e:ExcAt x C s.heap) (h:R (.ok (.ret (.ref C))) s) :
  codeAny (model prog w) A (.call (.builtin "getset_descriptor.__get__") ⟨[.builtin "object.__class__",.ref x,tp],[]⟩) R s:=by
 obtain ⟨hp,gn,dr,tk,os⟩:=s
 have La:=e.type (M:=model prog w); have Lb:=PySem.W.looks_mroIn (M:=model prog w) X Z.ob
 refine codeAny_call_builtin PySem.W.KF.slot_gs.plain PySem.W.KF.entry_gs (PySem.W.KF.slot_gs.check _ _ _ _ _ _ _ _ PySem.W.KF.type_class (PySem.W.KF.args_gs _ _ _) ?_)
 unfold Builtin.«getset_descriptor.__get__» descrGet; rw [PySem.W.dga_obj]; refine wpAny_bind (wpAny_pure ?_)
 unfold descrGetter descrCheckInstance descrNameAndClass isInstance; simp only [PySem.W.KF.owner_class]; repeat lk
 refine ⟨Code.quiet_builtin _ (by decide +kernel),codeAny_builtin PySem.W.KF.entry_class ?_⟩; unfold Builtin.«object.__class__» shownTypeOf; repeat lk
 exact h
open Builtin Builtin.ObjectAttr in
theorem exc_find {M:Model} {h:Heap} (Z:ECls K C) (X:K.In h):PySem.W.Looks M h (find (.ref x) (.ref C) "__class__") (.bind (.builtin "getset_descriptor.__get__") (.builtin "object.__class__")):=by
 have L1:=PySem.W.looks_findIn (M:=M) X Z.ca
 have L2:PySem.W.Looks M h (getOf (some (.builtin "object.__class__"))) (some (.builtin "getset_descriptor.__get__")):=PySem.W.looks_specialIn X Z.cn
 have L3:=PySem.W.looks_takesIn (M:=M) X Z.ct
 refine L1.andThen (L2.andThen ?_)
 exact (show PySem.W.Looks M h (dataDescriptor? (some (.builtin "object.__class__")) (some (.builtin "getset_descriptor.__get__"))) (some (_,_)) from L3.andThen .now).andThen (PySem.W.Looks.tag .now)
theorem exc_ga {h:Heap} {g:Array GenState} {d:Drawn} {t:Nat} {os:OsState} {tk:Tok} {R:Result->Shared->Prop} (Z:ECls K C) (X:K.In h) (e:ExcAt x C h) (hq:R (.ok (.ret (.ref C))) ⟨h,g,d,t,os⟩) :
  codeAny (model prog w) A (.call (.builtin "BaseException.__getattribute__") ⟨[.ref x,.str "__class__" tk],[]⟩) R ⟨h,g,d,t,os⟩:=by
 have L0:=e.type (M:=model prog w)
 have L1:=exc_find (x:=x) (M:=model prog w) Z X
 have L2:=PySem.W.looks_mroIn (M:=model prog w) X Z.bs
 have hk:builtinKind "BaseException.__getattribute__" = some .slot:=by decide +kernel
 have hsplit:splitId "BaseException.__getattribute__" = some ("BaseException","__getattribute__"):=by decide +kernel
 have ha:=F.args_bexc_ga (.ref x) (.str "__class__" tk)
 refine codeAny_call_builtin F.attr_ValueError.ga.plain F.entry_bexc_ga ?_
 simp only [checkBuiltinCall,hk,hsplit]
 refine wpAny_bind ?_
 unfold isInstance
 refine wpAny_bind (L0.at (L2.at ?_))
 simp only [Bool.not_true,Bool.false_eq_true,if_false]
 have body:wpAny (model prog w) A.in1 (Builtin.«object.__getattribute__» ⟨[.ref x,.str "__class__" tk],[]⟩) (fun fin s'=>match fin with | .done f=>R (.ok f) s' | .again c'=>c'.quiet = true/\codeAny (model prog w) A c' R s')
   (fun e s'=>R (.error e) s') ⟨h,g,d,t,os⟩:=by
  refine wpAny_bind (wpAny_pure (wpAny_bind (wpAny_pure (wpAny_bind (L0.at (wpAny_bind (L1.at ?_)))))))
  show wpAny _ _ (holding [_] (call (.builtin "getset_descriptor.__get__") [.builtin "object.__class__",.ref x,.ref C]) >>= ret) _ _ _
  exact wpAny_bind (wpAny_holding (wpAny_call (exc_gs (s:=⟨h,g,d,t,os⟩) Z X e (wpAny_pure hq))))
 repeat (any_goals (first | assumption | wp_step))
theorem exc_class {Q:Option Value->Shared->Prop} (Z:ECls K C) (X:K.In s.heap) (e:ExcAt x C s.heap) (h:Q (some (.ref C)) { s with toks:=s.toks + 1 }):wpAny (model prog w) A (getAttr? (.ref x) "__class__") Q E s:=by
 obtain ⟨hh,g,d,t,os⟩:=s
 have L0:=e.type (M:=model prog w)
 have L1:=PySem.W.looks_findIn (M:=model prog w) X Z.ga
 have L2:=PySem.W.looks_findIn (M:=model prog w) X Z.gk
 have hb:=F.attr_ValueError.ga.bind (.ref x)
 have hx2:(Value.builtin "BaseException.__getattribute__" == Value.builtin "object.__getattribute__") = false:=by decide +kernel
 unfold getAttr? getAttrBy? getAttrBy
 refine wpAny_bind (wpAny_mkText (wpAny_bind (wpAny_attempt (wpAny_holding (wpAny_bind (L0.at (wpAny_bind (L1.at ?_))))))))
 dsimp only
 rw [if_neg (by rw [hx2]; simp)]
 unfold getAttrByItsOwn hookBefore callGetattribute boundAndCalled
 refine wpAny_bind (L2.at (wpAny_bind (wpAny_attempt (wpAny_holding ?_))))
 rw [if_neg (by simp)]
 rw [hb]
 refine wpAny_bind (wpAny_pure (wpAny_call (exc_ga Z X e ?_)))
 exact PySem.W.handed_on rfl (wpAny_pure h)
theorem kitx_exc (Z:ECls K C):PySem.W.KitX K (.ref x) (.ref C) (ExcAt x C) where
 ty:=fun _ _ _ e=>e.type
 it:=fun _ _ X _=>by
  obtain ⟨cd,hcd⟩:=Z.cs
  unfold PySem.W.clsIn at hcd
  split at hcd
  ·rename_i ho
   intro A' Q' E' s' k q
   unfold isType loadHead
   exact wpAny_bind (wpAny_loadPart (k _ _ (X _ _ ho)) (wpAny_pure q))
  ·cases hcd
 ne:=fun h tp dd its n sl X htp=>by
  obtain ⟨cd,hcd⟩:=Z.cs
  refine Bool.eq_false_iff.mpr fun q=>?_
  have e:C = tp:=Value.ref.inj (beq_iff_eq.mp q)
  subst e
  unfold PySem.W.clsIn at hcd
  split at hcd
  ·rename_i ho
   exact nomatch (X _ _ ho).symm.trans htp
  ·cases hcd
 ca:=fun X e k=>exc_class Z X e k
end
def excO (ob:Obj) (x C:Addr):HO:=.frz ob (.ext (ExcAt x C))
theorem ObjOk.here {P:Program} {w:World} {H:Hp} {h:Heap} {a:Addr} {o:HO} (x:ObjOk P w H h a o):∃ ob,h.get? a = some ob:=by
 cases o with
 | lst xs=>obtain ⟨_,_,_,_,e⟩:=x; exact ⟨_,e⟩
 | tup xs=>obtain ⟨_,_,_,_,e,_⟩:=x; exact ⟨_,e⟩
 | dK kvs=>obtain ⟨_,_,_,_,_,_,_,e,_⟩:=x; exact ⟨_,e⟩
 | dT kvs=>obtain ⟨_,_,_,_,_,_,_,e,_⟩:=x; exact ⟨_,e⟩
 | set S n=>obtain ⟨_,_,_,_,e,_⟩:=x; exact ⟨_,e⟩
 | ins C dx fs=>obtain ⟨_,_,_,e,_⟩:=x; exact ⟨_,e⟩
 | own y=>exact x
 | xd fs=>obtain ⟨_,⟨_,_,_,e,_⟩,_⟩:=x; exact ⟨_,e⟩
 | rng lo hi=>obtain ⟨_,_,_,e⟩:=x; exact ⟨_,e⟩
 | frz ob u=>obtain ⟨e,_⟩:=x; exact ⟨_,e⟩
 | tbl ps=>exact ⟨_,(show h.get? a = some _ from x)⟩
 | met f y=>exact ⟨_,(show h.get? a = some _ from x)⟩
 | ext φ=>obtain ⟨_,e,_⟩:=x; exact e
theorem exc_ok {P:Program} {w:World} {H:Hp} {h:Heap} {x C:Addr} {ob:Obj} (g:h.get? x = some ob) (e:ExcAt x C h):ObjOk P w H h x (excO ob x C):=by
 refine ⟨g,e,?_,fun h1 h2 p k=>?_⟩
 ·obtain ⟨o,_,q,_⟩:=e
  exact ⟨o,q⟩
 ·obtain ⟨o,vs,q1,q2⟩:=p
  exact ⟨o,vs,k _ q1,q2⟩
end L2
namespace L2
open PySem PySem.Spec PyProof.Rows
structure Aloft (P:Program) (w:World) (l:List Env) (H:Hp) (h:Heap) (x C:Addr) (a0:Value) (H':Hp) (B h':Heap):Prop where
 un:Un (frs l) [] H H' h h'
 ok:HOk P w H' B
 stay:∀ b o,h.get? b = some o->H b = none->b ∉ frs l->B.get? b = some o
 here:∀ b o,h.get? b = some o->b ∉ frs l->∃ o',B.get? b = some o'
 fl:Heap.FlyingW B l x (.ref C) a0 h'
def CXE (P:Program) (w:World):CXT:=fun outer H s E e s'=>∃ (x C:Addr) (a0:Value) (H':Hp) (B:Heap),e = .ref x/\s'.os = s.os/\AllBare s'.gens/\Aloft P w outer H s.heap x C a0 H' B s'.heap/\E (.ref C) (some x) H'
abbrev XR:=Addr->Addr->St->Hp->Prop
def xk (R:XR) (σ:St):XK:=fun c xo H'=>∃ C x,c = .ref C/\xo = some x/\R C x σ H'
def XF (X:Cx) (R:XR) (e:Value) (s':Shared):Prop:=∃ (pins:List (Addr × Obj)) (σ:St) (H:Hp) (s:Shared),Inv X pins σ H s/\CXE X.prog X.w X.stack H s (xk R σ) e s'
def XM (X:Cx) (R:XR) (e:Value) (s':Shared):Prop:=∃ (pins:List (Addr × Obj)) (σ:St) (H:Hp) (s:Shared) (x C:Addr) (args:List Value),e = .ref x/\Inv X pins σ H s/\Heap.MadeExcOf s.heap s'.heap x (.ref C) args /\
 s'.os = s.os/\AllBare s'.gens/\R C x σ H
section
variable {P:Program} {w:World} {l:List Env} {H H':Hp} {h h' h2 B:Heap} {x C:Addr} {a0:Value}
theorem Aloft.newx (q : Aloft P w l H h x C a0 H' B h') : h.get? x = none := by
  cases e : h.get? x with
  | none => rfl
  | some o =>
    by_cases hm : x ∈ frs l
    · obtain ⟨_, o', h1, h2⟩ := q.fl.2.2.1.mem hm
      obtain ⟨oe, vs, h3, _, h4, _⟩ := q.fl.first
      rw [h1] at h3; cases h3
      exact absurd h4 (h2 vs)
    · obtain ⟨o', h1⟩ := q.here x o e hm
      rw [q.fl.2.1] at h1; cases h1
theorem Aloft.nox (q : Aloft P w l H h x C a0 H' B h') : H' x = none := by
  cases e : H' x with
  | none => rfl
  | some o =>
    obtain ⟨ob, h1⟩ := (q.ok x o e).here
    rw [q.fl.2.1] at h1; cases h1
theorem Aloft.on (q:Aloft P w l H h x C a0 H' B h') (up:h'.UpToSlots h2) (fl:Heap.FlyingW B l x (.ref C) a0 h2) (fr:∀ b ∈ frs l,H b = none):Aloft P w l H h x C a0 H' B h2 where
 ok:=q.ok
 stay:=q.stay
 here:=q.here
 fl:=fl
 un:={
  keep:=fun b o e n hb _=>fl.1 b o (q.stay b o e n hb)
  slot:=fun b o e n hb hx=>by
   obtain ⟨sl,e1⟩:=q.un.slot b o e n hb hx
   obtain ⟨_,o1,e2,nf⟩:=q.fl.2.2.1.mem hb
   rw [e1] at e2; cases e2
   obtain ⟨sl2,e3⟩:=up b _ e1 nf
   exact ⟨sl2,e3⟩
  free:=q.un.free
  there:=fun b o e hx=>by
   by_cases hb:b ∈ frs l
   ·obtain ⟨sl,e1⟩:=q.un.slot b o e (fr b hb) hb hx
    obtain ⟨_,o1,e2,nf⟩:=q.fl.2.2.1.mem hb
    rw [e1] at e2; cases e2
    obtain ⟨sl2,e3⟩:=up b _ e1 nf
    exact ⟨_,e3⟩
   ·obtain ⟨o',e1⟩:=q.here b o e hb
    exact ⟨o',fl.1 b o' e1⟩
  tups:=q.un.tups
  frzs:=q.un.frzs
  tbls:=q.un.tbls }
theorem Aloft.caught (q:Aloft P w l H h x C a0 H' B h'):∃ ob,Un (frs l) [] H (upd H' x (excO ob x C)) h h'/\HOk P w (upd H' x (excO ob x C)) h':=by
 have nx:=q.newx
 have n':=q.nox
 have bgB:∃ b o,1 < b/\h'.get? b = some o:=by
  obtain ⟨b,o,l,e⟩:=q.ok.bg
  exact ⟨b,o,l,q.fl.1 _ _ e⟩
 obtain ⟨oe,vs,g1,g2,g3,_⟩:=q.fl.first
 refine ⟨oe,⟨q.un.keep,q.un.slot,fun b o e n hx=>?_,q.un.there,fun b xs e=>?_,fun b o u e=>?_,fun b ps e=>?_⟩,⟨fun b u e=>?_,fun u e=>?_,bgB⟩⟩
 ·rw [upd_ne (fun z=>by rw [z,nx] at e; cases e)]
  exact q.un.free b o e n hx
 ·have e':=q.un.tups b xs e
  rw [upd_ne (ne_of_none e' n')]; exact e'
 ·have e':=q.un.frzs b o u e
  rw [upd_ne (ne_of_none e' n')]; exact e'
 ·obtain ⟨more,e'⟩:=q.un.tbls b ps e
  exact ⟨more,by rw [upd_ne (ne_of_none e' n')]; exact e'⟩
 ·by_cases hb:b = x
  ·subst hb
   rw [upd_same] at e; cases e
   exact exc_ok g1 ⟨oe,vs,g1,g2,g3⟩
  ·rw [upd_ne hb] at e
   exact (q.ok b u e).stay (fun c v _ r=>q.fl.1 c v r) (fun c r=>by rw [upd_ne (ne_of_none r n')]; exact r) fun c xs r=>by rw [upd_ne (ne_of_none r n')]; exact r
 ·by_cases hb:sysModules = x
  ·rw [hb,upd_same] at e; cases e; exact ⟨_,_,rfl⟩
  ·rw [upd_ne hb] at e; exact q.ok.sm u e
end
section
variable {X:Cx} {R:XR} {e:Value} {s':Shared}
structure Cx.Top (X:Cx):Prop where
 stk:X.stack = X.env :: X.outer
 fr:X.env.frame = some X.env.locals
 ex:X.ex = []
theorem Inv.old {pins:List (Addr × Obj)} {σ:St} {H:Hp} {s:Shared} (I:Inv X pins σ H s) {b:Addr} {o:Obj} (e:X.s₀.heap.get? b = some o) (hb:b ∉ X.fs):b ∉ frs X.stack:=fun z=>by
 rcases List.mem_cons.mp (I.stkSub b z) with q | q
 ·exact absurd (Heap.lt_size e) (by rw [q]; exact Nat.not_lt.mpr I.ok.above)
 ·exact hb q
theorem Inv.oldfs {pins:List (Addr × Obj)} {σ:St} {H:Hp} {s:Shared} (T:X.Top) {b:Addr} (hb:b ∈ X.fs):b ∈ frs X.stack:=by
 rw [T.stk]
 unfold frs
 rw [List.filterMap_cons,T.fr]
 exact List.mem_cons_of_mem _ hb
theorem Aloft.leave {pins:List (Addr × Obj)} {σ:St} {H H':Hp} {s:Shared} {x C:Addr} {a0:Value} {B h1 h':Heap} (T:X.Top) (I:Inv X pins σ H s) (q:Aloft X.prog X.w X.stack H s.heap x C a0 H' B h1)
  (up:h1.UpToSlots h') (fl:Heap.FlyingW B X.outer x (.ref C) a0 h'):Aloft X.prog X.w X.outer X.H₀ X.s₀.heap x C a0 H' B h':=by
 have nex:∀ b:Addr,b ∉ X.ex:=fun b=>by rw [T.ex]; simp
 have stay:∀ b o,X.s₀.heap.get? b = some o->X.H₀ b = none->b ∉ X.fs->B.get? b = some o:=fun b o e n hb=>q.stay b o (I.base.keep b o e n hb (nex b)) (I.base.free b o e n (nex b)) (I.old e hb)
 have here:∀ b o,X.s₀.heap.get? b = some o->b ∉ X.fs->∃ o',B.get? b = some o':=fun b o e hb=>by
  obtain ⟨o1,e1⟩:=I.base.there b o e (nex b)
  exact q.here b o1 e1 (I.old e hb)
 have slot:∀ b o,X.s₀.heap.get? b = some o->X.H₀ b = none->b ∈ X.fs->∃ sl,h'.get? b = some { o with slots:=sl }:=fun b o e n hb=>by
  obtain ⟨sl,e1⟩:=I.base.slot b o e n hb (nex b)
  obtain ⟨sl2,e2⟩:=q.un.any e1 (I.base.free b o e n (nex b)) (by simp)
  obtain ⟨_,o3,e3,nf⟩:=q.fl.2.2.1.mem (Inv.oldfs (pins:=pins) (σ:=σ) (H:=H) (s:=s) T hb)
  rw [e2] at e3; cases e3
  obtain ⟨sl4,e4⟩:=up b _ e2 nf
  exact ⟨sl4,e4⟩
 refine ⟨⟨fun b o e n hb _=>fl.1 b o (stay b o e n hb),fun b o e n hb _=>slot b o e n hb,fun b o e n _=>?_,fun b o e _=>?_,fun b xs e=>q.un.tups b xs (I.base.tups b xs e),fun b o u e=>q.un.frzs b o u (I.base.frzs b o u e),fun b ps e=>?_⟩,q.ok,stay,here,fl⟩
 ·have n1:=I.base.free b o e n (nex b)
  obtain ⟨o1,e1⟩:=I.base.there b o e (nex b)
  exact q.un.free b o1 e1 n1 (by simp)
 ·by_cases hb:b ∈ X.fs
  ·obtain ⟨sl,e1⟩:=slot b o e (I.ok.frf b hb) hb
   exact ⟨_,e1⟩
  ·obtain ⟨o1,e1⟩:=here b o e hb
   exact ⟨o1,fl.1 b o1 e1⟩
 ·obtain ⟨m1,e1⟩:=I.base.tbls b ps e
  obtain ⟨m2,e2⟩:=q.un.tbls b _ e1
  exact ⟨m1 ++ m2,by rw [e2,Array.append_assoc]⟩
theorem Inv.aloft {pins:List (Addr × Obj)} {σ:St} {H:Hp} {s:Shared} (I:Inv X pins σ H s):HOk X.prog X.w H (PySem.W.hideAll s.heap (frs X.stack)):=by
 refine ⟨?_,I.hok.sm,?_⟩
 rotate_left
 ·obtain ⟨o,_,_,e,_⟩:=I.ok.mod.glob
  refine ⟨mainGlobals,o,by decide,PySem.W.hideAll_get _ (I.bk _ _ e) fun z=>?_⟩
  rw [(I.stack.mem z).1] at e; cases e
 exact fun a o q=>(I.hok a o q).stay (fun b u hb e=>PySem.W.hideAll_get _ e fun z=>by
  have n:=I.stkFree b z
  rcases hb with rfl | hb
  ·rw [q] at n; cases n
  ·rw [hb] at n; cases n) (fun _ z=>z) fun _ _ z=>z
theorem xf_leaves {E':Value->Shared->Prop} (T:X.Top) (h:XF X R e s') :
  wpAny (model X.prog X.w) X.A (leaving X.env e) (fun _ s2=>CXE X.prog X.w X.outer X.H₀ X.s₀ (fun c xo H'=>∃ C x σ,c = .ref C/\xo = some x/\R C x σ H') e s2) E' s':=by
 obtain ⟨pins,σ,H,s,I,x,C,a0,H',B,rfl,os,bare,q,C',x',e1,e2,r⟩:=h
 refine wpAny_leaves_onW (by rw [I.ok.frames,T.stk]) T.fr (by rw [<- T.stk]; exact q.fl) fun h' fl up=>?_
 exact ⟨x,_,a0,H',B,rfl,os.trans I.os,bare,q.leave T I up fl,C',x',σ,e1,e2,r⟩
theorem xm_leaves {E':Value->Shared->Prop} (T:X.Top) (h:XM X R e s') :
  wpAny (model X.prog X.w) X.A (leaving X.env e) (fun _ s2=>CXE X.prog X.w X.outer X.H₀ X.s₀ (fun c xo H'=>∃ C x σ,c = .ref C/\xo = some x/\R C x σ H') e s2) E' s':=by
 obtain ⟨pins,σ,H,s,x,C,args,rfl,I,mk,os,bare,r⟩:=h
 have nex:∀ b:Addr,b ∉ X.ex:=fun b=>by rw [T.ex]; simp
 have hin:∀ env ∈ (X.env :: X.outer),∀ b,env.frame = some b->b ∈ frs X.stack:=fun env he b hb=>by rw [T.stk]; exact List.mem_filterMap.mpr ⟨env,he,hb⟩
 refine wpAny_leaves_madeW (base:=PySem.W.hideAll s.heap (frs X.stack)) (h:=s.heap) (by rw [I.ok.frames,T.stk]) T.fr (fun b o q=>PySem.W.of_hideAll _ q) (PySem.W.funFrames_hide (by rw [<- T.stk]; exact I.stack) hin) mk fun h' t fl _ _ up=>?_
 have stay:∀ b o,X.s₀.heap.get? b = some o->X.H₀ b = none->b ∉ X.fs->(PySem.W.hideAll s.heap (frs X.stack)).get? b = some o:=fun b o e n hb=>PySem.W.hideAll_get _ (I.base.keep b o e n hb (nex b)) (I.old e hb)
 have here:∀ b o,X.s₀.heap.get? b = some o->b ∉ X.fs->∃ o',(PySem.W.hideAll s.heap (frs X.stack)).get? b = some o':=fun b o e hb=>by
  obtain ⟨o1,e1⟩:=I.base.there b o e (nex b)
  exact ⟨o1,PySem.W.hideAll_get _ e1 (I.old e hb)⟩
 have slot:∀ b o,X.s₀.heap.get? b = some o->X.H₀ b = none->b ∈ X.fs->∃ sl,h'.get? b = some { o with slots:=sl }:=fun b o e n hb=>by
  obtain ⟨sl,e1⟩:=I.base.slot b o e n hb (nex b)
  obtain ⟨_,o3,e3,nf⟩:=I.stack.mem (Inv.oldfs (pins:=pins) (σ:=σ) (H:=H) (s:=s) T hb)
  rw [e1] at e3; cases e3
  obtain ⟨sl4,e4⟩:=up b _ (mk.keeps _ _ e1) nf
  exact ⟨sl4,e4⟩
 refine ⟨x,C,_,H,_,rfl,os.trans I.os,bare,⟨⟨fun b o e n hb _=>fl.1 b o (stay b o e n hb),fun b o e n hb _=>slot b o e n hb,fun b o e n _=>I.base.free b o e n (nex b),fun b o e _=>?_,I.base.tups,I.base.frzs,I.base.tbls⟩,I.aloft,stay,here,fl⟩,C,x,σ,rfl,rfl,r⟩
 by_cases hb:b ∈ X.fs
 ·obtain ⟨sl,e1⟩:=slot b o e (I.ok.frf b hb) hb
  exact ⟨_,e1⟩
 ·obtain ⟨o1,e1⟩:=here b o e hb
  exact ⟨o1,fl.1 b o1 e1⟩
end
end L2
namespace L2
open PySem PySem.Spec PyProof.Rows
theorem exc_cls {K:PySem.W.Frag} {h:Heap} {C:Addr} (X:K.In h) (q:PySem.W.excIn K C veTail "ValueError.__new__" = true) :
  ∃ bm N nm qn bs hdct sn sub ab col dd k0 k1 k2 k3 k5 mN,h.get? C = some (excClassObj nm qn C N bs bm hdct sn sub ab col dd k0 k1 k2 k3 k5 "ValueError.__new__")/\h.Ns N mN/\mN "__init__" = none/\OwnTail h veTail bm:=by
 unfold PySem.W.excIn at q
 split at q
 ·rename_i dd cd sl ho
  split at q
  ·rename_i C1 bm k0 k1 k2 k3 n k5 hm hs
   simp only [Bool.and_eq_true,beq_iff_eq,Bool.not_eq_true'] at q
   obtain ⟨⟨⟨⟨⟨rfl,rfl⟩,hdel⟩,ht⟩,hok⟩,hni⟩:=q
   obtain ⟨nm,bs,mro,ns,qn,hd,sn,sub,ab,col,del⟩:=cd
   dsimp only at hm hdel hok hni; subst hm hdel
   obtain ⟨sl⟩:=sl
   have e:sl = [k0,k1,k2,k3,some (.builtin "ValueError.__new__"),k5]:=hs
   subst e
   exact ⟨bm,ns,nm,qn,bs,hd,sn,sub,ab,col,dd,k0,k1,k2,k3,k5,_,X _ _ ho,.of_isNs (PySem.W.isNs_of_in X hok),PySem.W.nsMap_none_of_in X hok hni,PySem.W.tail_of_in X ht⟩
  ·cases q
 ·cases q
section
variable {X:Cx} {R:XR} {C:Addr} {x:Str} {e:Expr} {es:List Expr} {t:TA} {np cpos pos p:Pos}
def tRaise (C:Addr) (R:XR) (t:TA):TS:=fun _ σ H=>t σ H fun vs H1=>vs.length <= sizeLine/\∀ y,H1 y = none->R C y σ H1
theorem ps_raise (Z : ECls X.K C) (hm : X.mg x = some (.ref C)) (hh : X.A.handled = none) (hx : ∀ e s', XM X R e s' -> X.xe e s') (ha : PA X (e :: es) t) (hg : Gl X x := by rfl) (hd : (x == ("__debug__" : Str)) = false := by decide)
    (he : starEach (e :: es) X.env = (false, eval e X.env) :: starEach es X.env := by rfl) (hpl : (backTo cpos (starEach es X.env)).any (·.1) = false := by rfl) :
    PS X (.Raise (some (.Call (.Name x np) (e :: es) [] cpos)) none pos) (tRaise C R t) := by
  intro pins s σ H D I h
  obtain ⟨bm, N, nm, qn, bs, hdct, sn, sub, ab, col, dd, k0, k1, k2, k3, k5, mN, hC, hN, hni, TL⟩ := exc_cls I.ok.mod.kin Z.ex
  refine wpAny_Raise_call_subU (C := C) (nm := nm) (q := qn) (N := N) (bs := bs) (bm := bm) (hdct := hdct) (sn := sn) (sub := sub) (ab := ab) (col := col) (dd := dd) (k0 := k0) (k1 := k1) (k2 := k2) (k3 := k3) (k5 := k5)
    F.excBase_ValueError rfl F.excBase_ValueError (mN := mN) (TL.hasType F.excBase_ValueError.hasBase) hh ?_ hni (ld_glob I hg hm ⟨rfl, ?_⟩ hd)
  · rw [he]; show (false || (backTo cpos (starEach es X.env)).any (·.1)) = false; rw [hpl]; rfl
  · have w := ha cpos pins s σ H _ I h
    rw [he] at w ⊢
    refine Calls.evalArgs_plain (thn w fun us s2 ⟨vs, H1, I1, rv, hl, r⟩ => ⟨rfl, by show us.length <= _; rw [<- rv.length]; exact hl, I1.bk _ _ hC, hN.keeps I1.bk, TL.keeps I1.bk, fun h' y mk => hx _ _ ?_⟩)
    refine ⟨pins, σ, H1, s2, y, C, _, rfl, I1, mk, rfl, I1.bare, r y ?_⟩
    cases q : H1 y with
    | none => rfl
    | some o =>
      obtain ⟨ob, h1⟩ := (I1.hok y o q).here
      rw [mk.new] at h1; cases h1
structure FnUE (P:Program) (w:World) (K:PySem.W.Frag) (mg:Str->Option Value) (base:Heap) (k:Nat) (x:Str) (ps:List Str) (sp:Sp):Prop where
 ex:∃ f fd,FnOk P w K mg base (CXE P w) k f fd ps sp/\mg x = some (.ref f)/\PySem.W.keepIn K (.ref f) = true/\Binds K fd ps []
theorem FnUE.mono {P:Program} {w:World} {K:PySem.W.Frag} {mg:Str->Option Value} {base:Heap} {j k:Nat} {ps:List Str} {sp:Sp} (U:FnUE P w K mg base j x ps sp) (h:j <= k):FnUE P w K mg base k x ps sp:=by
 obtain ⟨f,fd,F,r⟩:=U.ex
 exact ⟨f,fd,F.mono h,r⟩
def tCallE (sp:Sp) (R:XR) (t:TA):TE:=fun σ H Q=>t σ H fun vs H1=>sp vs H1 Q (xk R σ)
theorem pe_fnE {k : Nat} {ps : List Str} {sp : Sp} (U : FnUE X.prog X.w X.K X.mg X.base k x ps sp) (hr : Room k X.A) (hx : ∀ e s', XF X R e s' -> X.xe e s') (ha : PA X (e :: es) t) (hg : Gl X x := by rfl)
    (hdb : (x == ("__debug__" : Str)) = false := by decide) (he : starEach (e :: es) X.env = (false, eval e X.env) :: starEach es X.env := by rfl) (hpl : (backTo pos (starEach es X.env)).any (·.1) = false := by rfl) :
    PE X (.Call (.Name x p) (e :: es) [] pos) (tCallE sp R t) := by
  obtain ⟨f, fd, F, hm, hk, hb⟩ := U.ex
  intro pins s σ H Q I h
  refine wpAny_Call_Name_kw (ld_glob I hg hm ?_ hdb)
  refine PySem.W.callWith_K (h₀ := X.base) I.ok.mod.kin hk (thn (ha pos pins s σ H _ I h) fun us s1 ⟨vs, H1, I1, r, q⟩ => ⟨I1.kIn, ?_⟩) he hpl
  have hl : us.length = ps.length := by rw [<- r.length]; exact F.len _ _ _ _ q
  refine wpAny_call (codeAny_mono (F.run X.A X.stack s1 H1 ⟨us, []⟩ us vs Q (xk R σ) hr I1.env0 ?_ r q) fun res s' hq => ?_)
  · have z := hb s1 us I1.kIn (by rw [List.append_nil]; exact hl)
    rw [List.append_nil] at z; exact z
  · cases res with
    | error ev => exact hx _ _ ⟨pins, σ, H1, s1, I1, hq⟩
    | ok fl =>
      cases fl with
      | ret u => exact I1.after hq
      | next => exact False.elim hq
      | brk => exact False.elim hq
      | cont => exact False.elim hq
end
section
variable {P:Program} {w:World} {K:PySem.W.Frag} {mg:Str->Option Value} {base:Heap}
def rOf (E:XK):XR:=fun C x _ H'=>E (.ref C) (some x) H'
abbrev cxE (P:Program) (w:World) (K:PySem.W.Frag) (mg:Str->Option Value) (base:Heap) (N:List Str) (qual:Str) (st:Stmt) (f:Addr) (cdv:Value) (A:Around) (outer:List Env) (s:Shared) (H:Hp) (E:XK):Cx :=
 cxOf (CXE P w) P w K mg base N qual (defScope st) f cdv A outer s H E
theorem cxE_top {N:List Str} {qual:Str} {st:Stmt} {f:Addr} {cdv:Value} {A:Around} {outer:List Env} {s:Shared} {H:Hp} {E:XK}:(cxE P w K mg base N qual st f cdv A outer s H E).Top:=⟨rfl,rfl,rfl⟩
theorem cxe_mono {l:List Env} {H:Hp} {s s':Shared} {E E':XK} {e:Value} (h:CXE P w l H s E e s') (k:∀ c x H',E c x H'->E' c x H'):CXE P w l H s E' e s':=by
 obtain ⟨x,C,a0,H',B,e1,e2,e3,q,r⟩:=h
 exact ⟨x,C,a0,H',B,e1,e2,e3,q,k _ _ _ r⟩
theorem cxE_xf {N:List Str} {qual:Str} {st:Stmt} {f:Addr} {cdv:Value} {A:Around} {outer:List Env} {s:Shared} {H:Hp} {E:XK} (e:Value) (s':Shared)
  (h:XF (cxE P w K mg base N qual st f cdv A outer s H E) (rOf E) e s'):(cxE P w K mg base N qual st f cdv A outer s H E).xe e s' :=
 wpAny_mono (xf_leaves (E':=fun _ _=>False) cxE_top h) (fun _ _ q=>cxe_mono q fun c x H' ⟨C,y,σ,e1,e2,r⟩=>by subst e1; subst e2; exact r) fun _ _ z=>z.elim
theorem cxE_xm {N:List Str} {qual:Str} {st:Stmt} {f:Addr} {cdv:Value} {A:Around} {outer:List Env} {s:Shared} {H:Hp} {E:XK} (e:Value) (s':Shared)
  (h:XM (cxE P w K mg base N qual st f cdv A outer s H E) (rOf E) e s'):(cxE P w K mg base N qual st f cdv A outer s H E).xe e s' :=
 wpAny_mono (xm_leaves (E':=fun _ _=>False) cxE_top h) (fun _ _ q=>cxe_mono q fun c x H' ⟨C,y,σ,e1,e2,r⟩=>by subst e1; subst e2; exact r) fun _ _ z=>z.elim
theorem Fun.okE {x qual : Str} {st : Stmt} {f : Addr} {fd : FuncData} {N ps : List Str} {k : Nat} {sp : Sp} (F : Fun K x qual st f fd) (S : FnScope N ps (defScope st)) (len : ∀ vs H Q E, sp vs H Q E -> vs.length = ps.length)
  (hbody : ∀ (cdv : Value) (A : Around) (outer : List Env) (s : Shared) (H : Hp) (vs : List V) (Q : VK) (E : XK), Room k (A.deeper (envOfC qual (defScope st) s.heap.objs.size f cdv)) -> sp vs H Q E ->
   ∃ t, PSs (cxE P w K mg base N qual st f cdv A outer s H E) (defBody st) t /\ t { nx := fun _ H' => Q .non H', rt := Q } (start N vs) H) : FnOk P w K mg base (CXE P w) (k + 1) f fd ps sp := by
 obtain ⟨oc, od, kV, doc, pm, an, cdv, ct, osl, rfl, lk, hcd⟩ := F.ex
 exact fn_of lk hcd S len fun A outer s H vs Q E hr hsp => hbody cdv A outer s H vs Q E hr hsp
theorem FnU.e {k:Nat} {x:Str} {ps:List Str} {sp:Sp} (U:FnU P w K mg base k x ps sp):FnUE P w K mg base k x ps sp:=by
 obtain ⟨f,fd,F,r⟩:=U.ex
 exact ⟨f,fd,⟨F.len,fun A outer s H args us vs Q E h1 h2 h3 h4 h5=>codeAny_mono (F.run A outer s H args us vs Q E h1 h2 h3 h4 h5) fun res s' q=>by
  cases res with
  | error ev=>exact False.elim q
  | ok fl=>cases fl <;> exact q⟩,r⟩
theorem DefAt.fnUE {x:Str} {st:Stmt} {ps:List Str} {f:Addr} {fd:FuncData} {k:Nat} {sp:Sp} (d:DefAt K mg x st ps f fd) (ok:FnOk P w K mg base (CXE P w) k f fd ps sp):FnUE P w K mg base k x ps sp :=
 ⟨f,fd,ok,d.m,d.F.kp,d.b⟩
end
end L2
namespace L2
open PySem PySem.Spec PyProof.Rows
section
variable {M:Model} {A:Around} {E:Value->Shared->Prop} {K:PySem.W.Frag} {x C CR:Addr}
theorem exc_type {h:Heap} (Z:ECls K C) (X:K.In h):PySem.W.Looks M h (isType (.ref C)) true:=by
 obtain ⟨cd,hcd⟩:=Z.cs
 unfold PySem.W.clsIn at hcd
 split at hcd
 ·rename_i ho
  intro A' Q' E' s' k q
  unfold isType loadHead
  exact wpAny_bind (wpAny_loadPart (k _ _ (X _ _ ho)) (wpAny_pure q))
 ·cases hcd
theorem exc_matches {s : Shared} {b : Bool} {Q : Bool -> Shared -> Prop} (ZR : ECls K CR) (X : K.In s.heap) (hb : PySem.W.mroIn K C (.ref CR) = some b) (e : ExcAt x C s.heap) (h : Q b s) : wpAny M A (excMatches (.ref x) (.ref CR)) Q E s := by
  obtain ⟨hp, g, d, tk, os⟩ := s
  have L0 := e.type (M := M)
  have L1 := PySem.W.looks_typeIn (M := M) X ZR.ty
  have L2 := exc_type (M := M) ZR X
  have L3 := PySem.W.looks_mroIn (M := M) X ZR.bs
  have L4 := PySem.W.looks_mroIn (M := M) X hb
  have f := tc_notTuple
  unfold excMatches isInstance
  refine wpAny_bind (wpAny_bind (L1.at ?_))
  rw [f]
  refine wpAny_pure ?_
  simp only [Bool.false_eq_true, if_false]
  refine wpAny_bind (wpAny_pure ?_)
  rw [List.forIn_cons]
  unfold isExcClass
  refine wpAny_bind (wpAny_bind (wpAny_bind (wpAny_bind (L2.at ?_))))
  simp only [if_true]
  refine L3.at ?_
  simp only [Bool.not_true, Bool.false_eq_true, if_false]
  refine wpAny_pure ?_
  refine wpAny_pure (wpAny_bind (L0.at ?_))
  rw [List.forIn_cons]
  refine wpAny_bind (wpAny_bind (wpAny_bind (L4.at ?_)))
  cases b with
  | true =>
    simp only [if_true]
    exact wpAny_pure (wpAny_pure (wpAny_pure h))
  | false =>
    simp only [Bool.false_eq_true, if_false]
    exact wpAny_pure (wpAny_pure (wpAny_pure h))
end
abbrev Cx.held (X:Cx) (e:Value):Cx:={ X with A:=X.A.mark (some e),calm:=false,xe:=fun _ _=>False }
abbrev Cx.tried (X:Cx) (pn:List (Addr × Obj)) (xe:Value->Shared->Prop):Cx:={ X with pn:=pn,xe:=xe }
section
variable {X:Cx} {pins:List (Addr × Obj)} {σ:St} {H:Hp} {s:Shared}
theorem Cx.Ok.held (ok:X.Ok) (e:Value):(X.held e).Ok :=
 ⟨ok.mod,ok.kind,ok.glob,ok.blt,ok.above,ok.inj,ok.has,ok.cab,fun z=>(nomatch z),ok.frames,ok.stk,ok.exf,ok.bs,ok.bsz,ok.noex,ok.exfs,ok.funs,ok.frf⟩
theorem Inv.held (I:Inv X pins σ H s) (e:Value):Inv (X.held e) pins σ H s:=⟨I.ok.held e,I.os,I.bare,I.base,I.loc,I.cell,I.free,I.freeC,I.pin,I.hok,I.len⟩
theorem Inv.unheld {e:Value} (ok:X.Ok) (I:Inv (X.held e) pins σ H s):Inv X pins σ H s:=⟨ok,I.os,I.bare,I.base,I.loc,I.cell,I.free,I.freeC,I.pin,I.hok,I.len⟩
theorem Cx.Ok.tried (ok:X.Ok) (pn:List (Addr × Obj)) (xe:Value->Shared->Prop):(X.tried pn xe).Ok :=
 ⟨ok.mod,ok.kind,ok.glob,ok.blt,ok.above,ok.inj,ok.has,ok.cab,ok.hd,ok.frames,ok.stk,ok.exf,ok.bs,ok.bsz,ok.noex,ok.exfs,ok.funs,ok.frf⟩
theorem Inv.tried (I:Inv X pins σ H s) (xe:Value->Shared->Prop):Inv (X.tried (X.pn ++ pins) xe) [] σ H s :=
 ⟨I.ok.tried _ _,I.os,I.bare,I.base,I.loc,I.cell,I.free,I.freeC,fun p hp=>I.pin p (by simpa using hp),I.hok,I.len⟩
theorem Inv.untried {pins':List (Addr × Obj)} {xe:Value->Shared->Prop} (ok:X.Ok) (I:Inv (X.tried (X.pn ++ pins) xe) pins' σ H s):Inv X pins σ H s :=
 ⟨ok,I.os,I.bare,I.base,I.loc,I.cell,I.free,I.freeC,fun p hp=>I.pin p (List.mem_append_left _ hp),I.hok,I.len⟩
theorem SP.untried {D:Ends} {f:Flow} {xe:Value->Shared->Prop} (ok:X.Ok) (h:SP (X.tried (X.pn ++ pins) xe) [] D f s):SP X pins D f s:=by
 cases f with
 | next=>obtain ⟨σ',H',I,q⟩:=h; exact ⟨σ',H',I.untried ok,q⟩
 | brk=>obtain ⟨σ',H',I,q⟩:=h; exact ⟨σ',H',I.untried ok,q⟩
 | cont=>obtain ⟨σ',H',I,q⟩:=h; exact ⟨σ',H',I.untried ok,q⟩
 | ret u=>obtain ⟨v,σ',H',I,r,q⟩:=h; exact ⟨v,σ',H',I.untried ok,r,q⟩
theorem Inv.gone {i:Nat} {n:Str} {h':Heap} {v:Option Value} {m:Str->Option Value} {tk:Nat} (I:Inv X pins σ H s) (hN:X.N.Nodup) (hi:X.N[i]? = some n)
  (hl:∀ (i:Nat) (x:Str) (v:V),X.N[i]? = some x->σ[i]? = some (some v)->Vis X.env.scope x->∃ u,RelV v u/\Look X.env s.heap m x u)
  (hn:h'.Ns X.env.locals (fun x=>if x = n then v else m x)) (hs:Heap.SameBut X.env.locals s.heap h'):Inv X pins (σ.set i none) H { s with heap:=h',toks:=tk }:=by
 have ne0:∀ b o,X.s₀.heap.get? b = some o->b ≠ X.env.locals:=fun b o e=>Nat.ne_of_lt (Nat.lt_of_lt_of_le (Heap.lt_size e) I.ok.above)
 have tr:∀ b u,H b = some u->b ≠ X.env.locals:=fun b u e z=>by rw [z,I.free] at e; cases e
 refine ⟨I.ok,I.os,I.bare,⟨fun b o e q hb hx=>?_,fun b o e q hb hx=>?_,I.base.free,fun b o e hx=>?_,I.base.tups,I.base.frzs,I.base.tbls⟩,⟨_,hn,fun j y w e1 e2 e3=>?_⟩,fun y c e=>?_,I.free,I.freeC,fun p hp=>?_,⟨fun b u e=>?_,I.hok.sm,let ⟨o,_,_,e,_⟩:=I.ok.mod.glob; ⟨mainGlobals,o,by decide,(hs.2 _ (ne0 _ o (I.ok.bs _ _ e).1)).trans (I.bk _ _ e)⟩⟩,by simpa using I.len⟩
 ·exact (hs.2 b (ne0 b o e)).trans (I.base.keep b o e q hb hx)
 ·obtain ⟨sl,e1⟩:=I.base.slot b o e q hb hx
  exact ⟨sl,(hs.2 b (ne0 b o e)).trans e1⟩
 ·obtain ⟨o',e1⟩:=I.base.there b o e hx
  exact ⟨o',(hs.2 b (ne0 b o e)).trans e1⟩
 ·have hj:j ≠ i:=fun z=>by
   subst z
   by_cases hlt:j < σ.length
   ·rw [List.getElem?_set_self hlt] at e2; cases e2
   ·rw [List.getElem?_eq_none (by rw [List.length_set]; omega)] at e2; cases e2
  rw [List.getElem?_set_ne (Ne.symm hj)] at e2
  obtain ⟨u,r,q⟩:=hl j y w e1 e2 e3
  refine ⟨u,r,?_⟩
  have ny:y ≠ n:=fun z=>hj (nodup_ix hN e1 (z ▸ hi))
  rcases q with ⟨k,e⟩ | ⟨k,c,e,z⟩
  ·exact .inl ⟨k,by show (if y = n then v else m y) = some u; rw [if_neg ny]; exact e⟩
  ·exact .inr ⟨k,c,e,z.sameBut hs (I.cne y c e)⟩
 ·obtain ⟨w',z⟩:=I.cell y c e
  exact ⟨w',z.sameBut hs (I.cne y c e)⟩
 ·obtain ⟨e,q,ne,nf,d⟩:=I.pin p hp
  exact ⟨(hs.2 p.1 ne).trans e,q,ne,nf,d⟩
 ·refine (I.hok b u e).stay (fun c w' hc r=>(hs.2 c ?_).trans r) (fun _ z=>z) fun _ _ z=>z
  rcases hc with rfl | hc
  ·exact tr _ _ e
  ·exact tr _ _ hc
end
section
variable {X:Cx} {cn en:Str} {CR:Addr} {i:Nat} {body suite:List Stmt} {b₀:Stmt} {np hpos pos:Pos} {tb:XR->TS} {ts:TS}
def endsOff (i:Nat) (D:Ends):Ends:={ nx:=fun σ H=>D.nx (σ.set i none) H,rt:=D.rt,bk:=fun σ H=>D.bk (σ.set i none) H,ct:=fun σ H=>D.ct (σ.set i none) H }
def tTry (K:PySem.W.Frag) (i:Nat) (CR:Addr) (tb:XR->TS) (ts:TS):TS:=fun D σ H =>
 tb (fun C x σ' H'=>PySem.W.mroIn K C (.ref CR) = some true/\∀ ob,ts (endsOff i D) (σ'.set i (some (.ref x))) (upd H' x (excO ob x C))) D σ H
theorem ps_try (ZR:ECls X.K CR) (hm:X.mg cn = some (.ref CR)) (T:X.Top) (hN:X.N.Nodup) (hi:X.N[i]? = some en) (hl:X.env.scope.names.lookup en = some .local)
  (hb:∀ (pn:List (Addr × Obj)) (xe:Value->Shared->Prop) (R:XR),(∀ e s',XF (X.tried pn xe) R e s'->xe e s')->PSs (X.tried pn xe) body (tb R))
  (hs:∀ e:Value,PSs (X.held e) (b₀ :: suite) ts) (hg:Gl X cn:=by rfl) (hd:(cn == ("__debug__" : Str)) = false:=by decide) :
  PS X (.Try body [.ExceptHandler (some (.Name cn np)) (some en) (b₀ :: suite) hpos] [] [] pos) (tTry X.K i CR tb ts):=by
 intro pins s σ H D I h
 refine wpAny_Try_except ?_
 refine wpAny_mono (hb (X.pn ++ pins) _ _ (fun e s1 z=>?_) [] s σ H D (I.tried _) h) (fun f s1 q=>?_) fun e s1 z=>z
 ·obtain ⟨pins1,σ1,H1,s1',I1,x,C,a0,H',B,rfl,os,bare,q,C',x',e1,e2,hsub,r⟩:=z
  cases e1; cases e2
  have I1:=I1.untried I.ok
  refine wpAny_looks_onW (by rw [I.ok.frames,T.stk]) T.fr (by rw [<- T.stk]; exact q.fl) fun h4 held4 up4=>?_
  refine wpAny_landsW held4 fun h5 fl5 up5=>?_
  have q5:=q.on (up4.trans up5) (by rw [T.stk]; exact fl5) I1.stkFree
  have I5:Inv X pins σ1 H' { s1 with heap:=h5 }:=I1.call' (ch:=[]) os q5.un (q5.ok.kept q5.fl.1) bare (fun b z=>absurd z (by simp))
  have X5:ExcAt x C h5:=by
   obtain ⟨oe,vs,g1,g2,g3,_⟩:=q5.fl.first
   exact ⟨oe,vs,g1,g2,g3⟩
  refine wpAny_handleBy_cons (codeAny_handlers_test (ld_glob (X:=X.held (.ref x)) (I5.held _) hg hm ?_ hd)) (by intro z; cases z)
  refine exc_matches ZR I5.kIn hsub X5 ?_
  refine codeAny_handlers_suite_as ?_
  refine lands_againW (base:=B) (l:=X.env :: X.outer) (by rw [<- T.stk]; exact q5.fl) fun h6 fl6 up6=>?_
  have q6:=q5.on up6 (by rw [T.stk]; exact fl6) I1.stkFree
  obtain ⟨ob,c6⟩:=q6.caught
  have I6:Inv X pins σ1 (upd H' x (excO ob x C)) { s1 with heap:=h6 }:=I1.call' (ch:=[]) os c6.1 c6.2 bare (fun b z=>absurd z (by simp))
  refine store_ok (X:=X.held (.ref x)) (I6.held _) hN hi (.inl hl) (v:=.ref x) rfl (fun s7 I7=>?_) (.inr hl)
  refine wpAny_mono (hs (.ref x) pins s7 _ _ (endsOff i D) I7 (r ob)) (fun f s8 q8=>?_) fun _ _ z=>z.elim
  have go:∀ {σ8:St} {H8:Hp},Inv (X.held (.ref x)) pins σ8 H8 s8->(∀ s9,Inv X pins (σ8.set i none) H8 s9->SP X pins D f s9)->wpAny (model X.prog X.w) X.A (do bindName X.env en .none; unbindBehindTheSuite X.env en hpos) (fun _ s9=>SP X pins D f s9) X.xe s8:=fun {σ8 H8} I8 k=>by
   have I8:=I8.unheld I.ok
   obtain ⟨m,hn,hlk⟩:=id I8.loc
   refine wpAny_nameGoes_keeps hl hn ?_ fun h9 v hn9 hs9=>k _ (I8.gone hN hi hlk hn9 hs9)
   rw [I.ok.kind]; rfl
  cases f with
  | next=>obtain ⟨σ8,H8,I8,q9⟩:=q8; exact go I8 fun s9 I9=>⟨_,_,I9,q9⟩
  | brk=>obtain ⟨σ8,H8,I8,q9⟩:=q8; exact go I8 fun s9 I9=>⟨_,_,I9,q9⟩
  | cont=>obtain ⟨σ8,H8,I8,q9⟩:=q8; exact go I8 fun s9 I9=>⟨_,_,I9,q9⟩
  | ret u=>obtain ⟨v,σ8,H8,I8,rv,q9⟩:=q8; exact go I8 fun s9 I9=>⟨_,_,_,I9,rv,q9⟩
 ·have q:=q.untried I.ok
  cases f with
  | next=>exact wpAny_execs_nil q
  | brk=>exact q
  | cont=>exact q
  | ret u=>exact q
end
end L2
namespace L2
open PySem PySem.Spec PyProof.Rows PySem.SeqAt
section
variable {X:Cx}
theorem exc_at {pins:List (Addr × Obj)} {σ:St} {H:Hp} {s:Shared} {x C:Addr} {ob:Obj} (I:Inv X pins σ H s) (h:H x = some (excO ob x C)):ExcAt x C s.heap:=by
 obtain ⟨_,p,_⟩:=(show ObjOk X.prog X.w H s.heap x (.frz ob (.ext (ExcAt x C))) from I.hok x _ h)
 exact p
def rIsiE (K:PySem.W.Frag):List V->Hp->VK->Prop:=fun xs H Q=>rIsi K xs H Q \/
 (∃ x ob C T b,xs = [.ref x,.ty T]/\H x = some (excO ob x C)/\ECls K C/\PySem.W.kitOne K (.ref C) (.type T) = some b/\Q (.bl b) H) \/
 (∃ x ob C D b,xs = [.ref x,.ref D]/\H x = some (excO ob x C)/\ECls K C/\PySem.W.kitOne K (.ref C) (.ref D) = some b/\Q (.bl b) H) \/
 ∃ x ob C tp,∃ cs:List Addr,∃ b,xs = [.ref x,.ref tp]/\H x = some (excO ob x C)/\ECls K C/\H tp = some (.tup (cs.map V.ref))/\PySem.W.kitAny K (.ref C) (cs.map Value.ref) = some b/\Q (.bl b) H
theorem vals_refs:∀ {cs:List Addr} {us:List Value},Vals (cs.map V.ref) us->us = cs.map Value.ref
 | [],_,.nil=>rfl
 | _ :: _,_,.cons r t=>by rw [show _ = Value.ref _ from r,vals_refs t]; rfl
theorem vals_bls:∀ {bs:List Bool} {us:List Value},Vals (bs.map V.bl) us->us = bs.map Value.bool
 | [],_,.nil=>rfl
 | _ :: _,_,.cons r t=>by rw [show _ = Value.bool _ from r,vals_bls t]; rfl
theorem call_isiE (K:PySem.W.Frag) (hK:X.K = K:=by rfl):CallR X (.builtin "isinstance") (rIsiE K):=by
 intro pins s σ H xs us Q I r h
 rcases h with h | ⟨x,ob,C,T,b,rfl,hx,Z,e,q⟩ | ⟨x,ob,C,D,b,rfl,hx,Z,e,q⟩ | ⟨x,ob,C,tp,cs,b,rfl,hx,Z,ht,e,q⟩
 ·exact call_isiA K hK pins s σ H xs us Q I r h
 ·subst hK
  obtain ⟨u,v,rfl,ru,rv⟩:=vals2 r
  cases (show u = Value.ref x from ru); cases (show v = Value.type T from rv)
  exact PySem.W.kia_one (kitx_exc Z) I.kIn (exc_at I hx) e (fun z=>nomatch z) fun tk=>⟨.bl b,H,I.tok _,rfl,q⟩
 ·subst hK
  obtain ⟨u,v,rfl,ru,rv⟩:=vals2 r
  cases (show u = Value.ref x from ru); cases (show v = Value.ref D from rv)
  exact PySem.W.kia_one (kitx_exc Z) I.kIn (exc_at I hx) e (fun z=>nomatch z) fun tk=>⟨.bl b,H,I.tok _,rfl,q⟩
 ·subst hK
  obtain ⟨u,v,rfl,ru,rv⟩:=vals2 r
  cases (show u = Value.ref x from ru); cases (show v = Value.ref tp from rv)
  obtain ⟨_,its,rv,⟨oc,od,oda,osl⟩,e1,e2,n,e3⟩:=(show ObjOk X.prog X.w H s.heap tp (.tup (cs.map V.ref)) from I.hok tp _ ht)
  dsimp only at e2 e3; subst e2; subst e3
  exact PySem.W.kia_tup (kitx_exc Z) I.kIn (exc_at I hx) e1 (by rw [vals_refs rv]; exact e) (fun z=>nomatch z) fun tk=>⟨.bl b,H,I.tok _,rfl,q⟩
theorem s_isiT {K:PySem.W.Frag} {H:Hp} {Q:VK} {x C:Addr} {ob:Obj} {T:String} {b:Bool} (hx:H x = some (excO ob x C)) (Z:ECls K C) (e:PySem.W.kitOne K (.ref C) (.type T) = some b) (h:Q (.bl b) H):rIsiE K [.ref x,.ty T] H Q :=
 .inr (.inl ⟨x,ob,C,T,b,rfl,hx,Z,e,h⟩)
theorem s_isiC {K:PySem.W.Frag} {H:Hp} {Q:VK} {x C D:Addr} {ob:Obj} {b:Bool} (hx:H x = some (excO ob x C)) (Z:ECls K C) (e:PySem.W.kitOne K (.ref C) (.ref D) = some b) (h:Q (.bl b) H):rIsiE K [.ref x,.ref D] H Q :=
 .inr (.inr (.inl ⟨x,ob,C,D,b,rfl,hx,Z,e,h⟩))
theorem s_isiU {K:PySem.W.Frag} {H:Hp} {Q:VK} {x C tp:Addr} {ob:Obj} {cs:List Addr} {b:Bool} (hx:H x = some (excO ob x C)) (Z:ECls K C) (ht:H tp = some (.tup (cs.map V.ref))) (e:PySem.W.kitAny K (.ref C) (cs.map Value.ref) = some b) (h:Q (.bl b) H) :
  rIsiE K [.ref x,.ref tp] H Q:=.inr (.inr (.inr ⟨x,ob,C,tp,cs,b,rfl,hx,Z,ht,e,h⟩))
def rCountB:V->List V->Hp->VK->Prop:=fun x vs H Q=>∃ l,∃ bs:List Bool,∃ k,x = .ref l/\vs = [.bl k]/\H l = some (.lst (bs.map V.bl))/\Q (.int (bs.count k:Nat)) H
theorem eq_bl (k:Bool) {bs:List Bool} {A:Around} {s:Shared}:∀ y ∈ bs.map Value.bool,EqAt A s y (.bool k) (isBoolOf k y):=fun y hy=>by
 obtain ⟨b,_,rfl⟩:=List.mem_map.mp hy
 exact EqAt.bool_bool b k
theorem mt_countB:MtM X "list.count" rCountB:=by
 intro pins s σ H x vs v us Q I rx rv h
 obtain ⟨l,bs,k,rfl,rfl,hH,q⟩:=h
 cases rx
 obtain ⟨u,rfl,ru⟩:=rv.one
 cases (show u = Value.bool k from ru)
 obtain ⟨z,its,n,r,hl,e⟩:=I.lstM hH
 have ei:=vals_bls r
 subst ei
 refine call_meets F.slot_list_count ⟨_,e,rfl⟩ F.entry_list_count (F.args_list_count_2 _ _) (list_countAt l _ n none #[] (.bool k) (isBoolOf k)) ⟨e,fun y hy=>eq_bl k y (by simpa using hy),?_⟩
 have ec:(bs.map Value.bool).toArray.toList.countP (isBoolOf k) = bs.count k:=by
  show (bs.map Value.bool).countP (isBoolOf k) = bs.count k
  rw [List.countP_map,List.count]
  rfl
 rw [ec]
 exact ⟨.int (bs.count k:Nat),H,I.tok _,⟨_,rfl⟩,q⟩
def rIndexB:V->List V->Hp->VK->Prop:=fun x vs H Q=>∃ l,∃ bs:List Bool,∃ k,∃ j:Nat,x = .ref l/\vs = [.bl k]/\H l = some (.lst (bs.map V.bl))/\bs[j]? = some k/\(∀ m,m < j->bs[m]? ≠ some k)/\bs.length <= 1000/\Q (.int j) H
theorem mt_indexB:MtM X "list.index" rIndexB:=by
 intro pins s σ H x vs v us Q I rx rv h
 obtain ⟨l,bs,k,j,rfl,rfl,hH,hj,hno,hz,q⟩:=h
 cases rx
 obtain ⟨u,rfl,ru⟩:=rv.one
 cases (show u = Value.bool k from ru)
 obtain ⟨z,its,n,r,hl,e⟩:=I.lstM hH
 have ei:=vals_bls r
 subst ei
 obtain ⟨hlt,ej⟩:=List.getElem?_eq_some_iff.mp hj
 refine call_meets F.slot_list_index ⟨_,e,rfl⟩ F.entry_list_index (F.args_list_index_2 _ _) (list_indexAt l _ n none #[] (.bool k) (isBoolOf k) j (by simpa using hlt) (by omega) ?_ ?_) ⟨e,fun y hy=>eq_bl k y (by simpa using hy),?_⟩
 ·simp only [List.getElem_toArray,List.getElem_map,isBoolOf,ej,beq_self_eq_true]
 ·intro m hm hmj
  have hm':m < bs.length:=by simpa using hm
  have:=hno m hmj
  rw [List.getElem?_eq_getElem hm'] at this
  simp only [List.getElem_toArray,List.getElem_map,isBoolOf]
  exact beq_eq_false_iff_ne.mpr fun z=>this (by rw [z])
 ·exact ⟨.int j,H,I.tok _,⟨_,rfl⟩,q⟩
end
structure RoomH (k:Nat) (A:Around):Prop where
 dp:A.depth + 3 * k + 5 < recursionLimit
 un:A.units + 16 * k + 200 < cLine
 gd:A.guards = some []
theorem Room.h {k:Nat} {A:Around} (r:Room k A) (e:Value):RoomH k (A.mark (some e)):=⟨r.dp,r.un,r.gd⟩
theorem RoomH.deeper {k:Nat} {A:Around} (r:RoomH (k + 1) A) (env:Env):RoomH k (A.deeper env) :=
 ⟨by have:=r.dp; show A.depth + 1 + 3 * k + 5 < _; omega,by have:=r.un; show A.units + 3 + 16 * k + 200 < _; omega,by first | exact r.gd | simpa [Around.deeper,Around.under,Code.guards,Code.isGuard,guardIds,pushGuards] using r.gd⟩
section
variable {P:Program} {w:World} {K:PySem.W.Frag} {mg:Str->Option Value} {base:Heap}
end
end L2
namespace L2
open PySem PySem.Spec PyProof.Rows
mutual
inductive Sd (p:Addr) (H:Hp):V->PyData->Prop
 | sc {x:V} {d:PyData} (h:Sc x d):Sd p H x d
 | lst {a:Addr} {xs:List V} {ds:List PyData} (h:H a = some (.lst xs)) (n:a ≠ p) (r:Sds p H xs ds):Sd p H (.ref a) (.list ds)
 | tup {a:Addr} {xs:List V} {ds:List PyData} (h:H a = some (.tup xs)) (n:a ≠ p) (r:Sds p H xs ds):Sd p H (.ref a) (.tuple ds)
 | dct {a:Addr} {kvs:List (Key × V)} {ds:List (PyData × PyData)} (h:H a = some (.dK kvs)) (n:a ≠ p) (r:Paired Sck kvs ds):Sd p H (.ref a) (.dict ds)
inductive Sds (p:Addr) (H:Hp):List V->List PyData->Prop
 | nil:Sds p H [] []
 | cons {x:V} {d:PyData} {xs:List V} {ds:List PyData} (h:Sd p H x d) (t:Sds p H xs ds):Sds p H (x :: xs) (d :: ds)
end
mutual
theorem Sd.keep {p:Addr} {H H':Hp} (s:SameBut1 p H H'):∀ {x:V} {d:PyData},Sd p H x d->Sd p H' x d
 | _,_,.sc h=>.sc h
 | _,_,.lst h n r=>.lst (s _ _ h n) n (Sds.keep s r)
 | _,_,.tup h n r=>.tup (s _ _ h n) n (Sds.keep s r)
 | _,_,.dct h n r=>.dct (s _ _ h n) n r
theorem Sds.keep {p:Addr} {H H':Hp} (s:SameBut1 p H H'):∀ {xs:List V} {ds:List PyData},Sds p H xs ds->Sds p H' xs ds
 | _,_,.nil=>.nil
 | _,_,.cons h t=>.cons (Sd.keep s h) (Sds.keep s t)
end
section
variable {X:Cx} {pins:List (Addr × Obj)} {σ:St} {H:Hp} {s:Shared}
end
end L2
namespace L2
open PySem PySem.Spec PyProof.Rows
def Fit (n m:Nat) (d:PyData):Prop:=d.showable = true/\d.shown.length <= n/\d.depth <= m
theorem Fit.ok {n m:Nat} {d:PyData} (h:Fit n m d) (hn:n <= 16777216) (hm:m <= 20):ShOk d:=⟨h.1,Nat.le_trans h.2.1 (by rw [sizeLine_eq]; omega),Nat.le_trans h.2.2 hm⟩
def Dt (p:Addr) (n m:Nat) (H:Hp) (v:V):Prop:=∃ d,Sd p H v d/\Fit n m d
theorem Dt.keep {p:Addr} {n m:Nat} {H H':Hp} {v:V} (h:Dt p n m H v) (s:SameBut1 p H H'):Dt p n m H' v:=let ⟨d,a,b⟩:=h; ⟨d,a.keep s,b⟩
end L2
namespace L2
open PySem PySem.Spec PyProof.Rows BrM BrR BrS BrC
structure Cs where
 RowError:Addr
 NoKinds:Addr
 NoLine:Addr
 NotRight:Addr
 NoTree:Addr
 NoNumber:Addr
 NoWeights:Addr
 NoPlace:Addr
 NoFilling:Addr
 TooMany:Addr
 NoName:Addr
 NoRow:Addr
def eclsB (K:PySem.W.Frag) (C:Addr):Bool:=PySem.W.excIn K C veTail "ValueError.__new__" && (PySem.W.typeIn K (.ref C) == some (.type "type")) && (PySem.W.clsIn K C).isSome && (PySem.W.mroIn K C (.type "BaseException") == some true) &&
 (PySem.W.mroIn K C (.type "object") == some true) && (PySem.W.findIn K (.ref C) "__getattribute__" == some (some (.builtin "BaseException.__getattribute__"))) && (PySem.W.findIn K (.ref C) "__getattr__" == some none) &&
 (PySem.W.findIn K (.ref C) "__class__" == some (some (.builtin "object.__class__"))) && (PySem.W.specialIn K (.builtin "object.__class__") "__get__" == some (some (.builtin "getset_descriptor.__get__"))) && (PySem.W.takesIn K (.builtin "object.__class__") == some true)
theorem ecls_of {K:PySem.W.Frag} {C:Addr} (h:eclsB K C = true):ECls K C:=by
 unfold eclsB at h
 simp only [Bool.and_eq_true,beq_iff_eq] at h
 obtain ⟨⟨⟨⟨⟨⟨⟨⟨⟨h1,h2⟩,h3⟩,h4⟩,h5⟩,h6⟩,h7⟩,h8⟩,h9⟩,h10⟩:=h
 exact ⟨h1,h2,Option.isSome_iff_exists.mp h3,h4,h5,h6,h7,h8,h9,h10⟩
theorem pe_cl {X:Cx} {x:Str} {C:Addr} {pos:Pos} (h:X.mg x = some (.ref C)) (hg:Gl X x:=by rfl) (hd:(x == ("__debug__" : Str)) = false:=by decide):PE X (.Name x pos) (tC (.ref C)):=pe_gl (v:=.ref C) ⟨_,h,rfl⟩ hg hd
theorem boot_ValueError:bootBuiltins "ValueError" = some (.type "ValueError"):=by decide +kernel
def rNo:XR:=fun _ _ _ _=>False
theorem xf_no {X:Cx} (e:Value) (s':Shared) (h:XF X rNo e s'):X.xe e s':=by
 obtain ⟨_,_,_,_,_,_,_,_,_,_,_,_,_,_,_,_,_,_,r⟩:=h
 exact r.elim
theorem nox_ex {X:Cx} {b:List Stmt} {R:TS->Prop} (h:∃ t,PSs X.nox b t/\R t):∃ t,PSs X b t/\R t:=let ⟨t,p,r⟩:=h; ⟨t,p.nox,r⟩
section
variable {σ:St} {H:Hp} {Q:VK} {D:Ends}
theorem s_callE {sp:Sp} {R:XR} {t:TA} (h:t σ H fun vs H1=>sp vs H1 Q (xk R σ)):tCallE sp R t σ H Q:=h
theorem s_raise {C:Addr} {R:XR} {t:TA} (h:t σ H fun vs H1=>vs.length <= sizeLine/\∀ y,H1 y = none->R C y σ H1):tRaise C R t D σ H:=h
theorem s_try {K:PySem.W.Frag} {i:Nat} {CR:Addr} {tb:XR->TS} {ts:TS}
  (h:tb (fun C x σ' H'=>PySem.W.mroIn K C (.ref CR) = some true/\∀ ob,ts (endsOff i D) (σ'.set i (some (.ref x))) (upd H' x (excO ob x C))) D σ H):tTry K i CR tb ts D σ H:=h
end
def Ref (E:XK) (C:Addr) (H:Hp):Prop:=∀ y H',Same H H'->H y = none->E (.ref C) (some y) H'
theorem Ref.pass {E:XK} {C:Addr} {H H1:Hp} {σ:St} (r:Ref E C H) (s:Same H H1):Ref (xk (rOf E) σ) C H1:=fun y H' s' h=>⟨C,y,rfl,rfl,r y H' (s.trans s') (s.free h)⟩
theorem same_exc {H H':Hp} {y:Addr} {o:HO} (s:Same H H') (n:H y = none):Same H (upd H' y o):=fun b u z=>by rw [upd_ne (ne_of_none z n)]; exact s b u z
theorem ref_of {R:XR} {σ:St} {C:Addr} {H:Hp} (h:∀ y H',Same H H'->H y = none->R C y σ H'):Ref (xk R σ) C H:=fun y H' s n=>⟨C,y,rfl,rfl,h y H' s n⟩
def NoN (K:PySem.W.Frag) (lo hi:Int) (H:Hp) (v:V):Prop:=∃ ty,TyOf K H v (.type ty)/\ty ∈ plainTy/\∀ i,v = .int i->i < lo\/hi < i
abbrev NoK (K:PySem.W.Frag):Hp->V->Prop:=NoN K 1 4
def NoL (K:PySem.W.Frag) (k:Int) (H:Hp) (v:V):Prop:=(∃ a,v = tx a/\a.length <= 1000/\isRow k a = false)\/∃ ty,TyOf K H v (.type ty)/\ty ∈ plainTy/\ty ≠ "str"
theorem TyOf.keep {K:PySem.W.Frag} {p:Addr} {H H':Hp} {v:V} {t:Value} (h:TyOf K H v t) (n:∀ a,v = .ref a->a ≠ p) (s:SameBut1 p H H'):TyOf K H' v t:=by
 cases h with
 | non=>exact .non
 | bl x=>exact .bl x
 | int i=>exact .int i
 | str x=>exact .str x
 | flt x=>exact .flt x
 | lst e=>exact .lst (s _ _ e (n _ rfl))
 | frz e=>exact .frz (s _ _ e (n _ rfl))
 | tup e=>exact .tup (s _ _ e (n _ rfl))
 | dK e=>exact .dK (s _ _ e (n _ rfl))
 | dT e=>exact .dT (s _ _ e (n _ rfl))
 | ins e cl ha hn htk hm=>exact .ins (s _ _ e (n _ rfl)) cl ha hn htk hm
theorem Dt.ne {p:Addr} {n m:Nat} {H:Hp} {v:V} (h:Dt p n m H v) (a:Addr) (e:v = .ref a):a ≠ p:=by
 obtain ⟨d,h,_⟩:=h
 subst e
 cases h with
 | sc c=>cases c
 | lst _ n _=>exact n
 | tup _ n _=>exact n
 | dct _ n _=>exact n
theorem TyOf.int_of {K:PySem.W.Frag} {H:Hp} {v:V} {t:Value} (h:TyOf K H v t) (e:t = .type "int"):∃ i,v = .int i:=by
 cases h <;> first | exact ⟨_,rfl⟩ | (injection e with e; exact absurd e (by decide)) | cases e
theorem NoN.keep {K:PySem.W.Frag} {lo hi:Int} {p:Addr} {n m:Nat} {H H':Hp} {v:V} (h:NoN K lo hi H v) (d:Dt p n m H v) (s:SameBut1 p H H'):NoN K lo hi H' v:=let ⟨ty,a,b⟩:=h; ⟨ty,a.keep d.ne s,b⟩
theorem NoL.keep {K:PySem.W.Frag} {k:Int} {p:Addr} {n m:Nat} {H H':Hp} {v:V} (h:NoL K k H v) (d:Dt p n m H v) (s:SameBut1 p H H'):NoL K k H' v:=h.elim .inl fun ⟨ty,a,b⟩=>.inr ⟨ty,a.keep d.ne s,b⟩
def Gate (K:PySem.W.Frag) (cs:Cs) (H:Hp) (E:XK) (kv v:V):Prop:=(NoK K H kv/\Ref E cs.NoKinds H)\/∃ k:Int,kv = .int k/\1 <= k/\k <= 4/\NoL K k H v/\Ref E cs.NoLine H
def spKindsE (K:PySem.W.Frag) (cs:Cs):Sp:=fun vs H Q E=>spKinds vs H Q E\/∃ v,vs = [v]/\NoK K H v/\Ref E cs.NoKinds H
def spLineE (K:PySem.W.Frag) (cs:Cs):Sp:=fun vs H Q E=>spLine K vs H Q E\/∃ kv v,vs = [kv,v]/\NoK K H kv/\Ref E cs.NoKinds H
def spGateE (K:PySem.W.Frag) (cs:Cs) (sp:Sp):Sp:=fun vs H Q E=>sp vs H Q E\/∃ kv v,vs = [kv,v]/\Gate K cs H E kv v
theorem noRow_use' {K:PySem.W.Frag} {cs:Cs} {H:Hp} {Q:VK} {E:XK} {k:Int} {v:V} (h1:1 <= k) (h2:k <= 4) (n:NoL K k H v) (q:∀ H',Same H H'->Q (.bl false) H'):spLineE K cs [.int k,v] H Q E:=by
 refine .inl ⟨k,v,rfl,h1,h2,?_⟩
 rcases n with ⟨a,rfl,ha,hr⟩ | ⟨ty,a,b,c⟩
 ·exact .inl ⟨a,rfl,ha,fun H' s=>by rw [hr]; exact q H' s⟩
 ·exact .inr ⟨ty,a,b,c,q H (Same.refl H)⟩
end L2
namespace L2
open PySem PySem.Spec PyProof.Rows
def CDivB (i j:Int):Prop:=0 < j/\j < 2 ^ 200
theorem op_fdivB {X:Cx}:OpR X (binaryOp .FloorDiv) (rI CDivB fun i j=>.int (i / j)):=opI fun i j _ _ _ _ _ hc q=>by
 have h1:(0:Int) < j:=hc.1
 have h2:j < 2 ^ 200:=hc.2
 refine floordiv_int (by omega) (by rw [Int.fdiv_eq_ediv_of_nonneg i (by omega)]; exact q) (.inl (PyProof.noPylong_of_log2 ?_))
 have h3:j.natAbs ≠ 0:=by omega
 have h4:j.natAbs < 2 ^ 200:=by omega
 exact Nat.lt_trans ((Nat.log2_lt h3).mpr h4) (by decide)
theorem SqL.ty {K:PySem.W.Frag} {H:Hp} {p:Addr} {xs:List V} (h:SqL K H p xs):tyV K "list" (.ref p) H:=.inl ⟨rfl,_,h⟩
end L2
namespace BrS
open L2 PySem BrM BrC BrR
def Po (H:Hp) (p:Addr):Prop:=∃ a b c:Int,H p = some (.lst [.int a,.int b,.int c])
theorem Po.same {H H':Hp} {p:Addr} (h:Po H p) (s:Same H H'):Po H' p:=let ⟨a,b,c,e⟩:=h; ⟨a,b,c,s _ _ e⟩
theorem Po.keep {H H':Hp} {p q:Addr} (h:Po H p) (s:SameBut1 q H H') (n:p ≠ q):Po H' p:=let ⟨a,b,c,e⟩:=h; ⟨a,b,c,s _ _ e n⟩
theorem Po.ne {H:Hp} {p q:Addr} (h:Po H p) (hq:H q = none):q ≠ p:=let ⟨_,_,_,e⟩:=h; (ne_of_none e hq).symm
theorem Po.new {H:Hp} {p:Addr} {a b c:Int}:Po (upd H p (.lst [.int a,.int b,.int c])) p:=⟨a,b,c,upd_same⟩
def spPoolD (K:PySem.W.Frag):Sp:=fun vs H Q _=>∃ (a:Addr) (ns:List Int) (k:Int),vs = [.ref a,.int k]/\SqL K H a (ns.map V.int)/\0 <= k/\k <= 63/\∀ p H',H p = none->Same H H'->Po H' p->Q (.ref p) H'
def spDraw:Sp:=fun vs H Q _=>∃ p m,vs = [.ref p,.int m]/\Po H p/\0 < m/\m < 2 ^ 200/\∀ r H',0 <= r->r < m->Po H' p->SameBut1 p H H'->Q (.int r) H'
theorem draw_use {H:Hp} {p:Addr} {m:Int} {Q:VK} {E:XK} (hp:Po H p) (h0:0 < m) (h1:m < 2 ^ 200) (q:∀ r H',0 <= r->r < m->Po H' p->SameBut1 p H H'->Q (.int r) H'):spDraw ([.ref p,.int m] ++ []) H Q E:=⟨p,m,rfl,hp,h0,h1,q⟩
theorem put1 {p a:Addr} {H H':Hp} {o:HO} (s:SameBut1 p H H') (h:H a = none):SameBut1 p H (upd H' a o):=fun b u z n=>by rw [upd_ne (ne_of_none z h)]; exact s b u z n
theorem flat_one (a:List Nat):(a.map fun c=>[c]).flatten = a:=by
 induction a with
 | nil=>rfl
 | cons c r ih=>rw [List.map_cons,List.flatten_cons,ih]; rfl
def spRightD:Sp:=fun vs H Q _=>∃ (p:Addr) (k h:Int),vs = [.ref p,.int k,.int h]/\Po H p/\1 <= k/\k <= 4/\0 <= h/\h <= 20 /\
 ∀ row H',Rt row->(row.length:Int) = 2 * h->(∀ c ∈ row,kin k c)->Po H' p->SameBut1 p H H'->Q (tx row) H'
theorem rightD_use {H:Hp} {p:Addr} {k h:Int} {Q:VK} {E:XK} (hd:Po H p) (h1:1 <= k) (h2:k <= 4) (h3:0 <= h) (h4:h <= 20)
  (q:∀ row H',Rt row->(row.length:Int) = 2 * h->(∀ c ∈ row,kin k c)->Po H' p->SameBut1 p H H'->Q (tx row) H'):spRightD ([.ref p,.int k,.int h] ++ []) H Q E:=⟨p,k,h,rfl,hd,h1,h2,h3,h4,q⟩
end BrS
namespace BrS
open L2 PySem BrM BrC BrR
end BrS
namespace BrS
open L2 PySem BrM BrC
abbrev En:=List Nat × List Nat
def exB (n at' c : Nat) (e : En) (b : Nat) : List En :=
  if c = 63 \/ c = brs.getD b 0 then
    (if b % 2 = 0 then (if e.2.length + at' + 1 < n then [(e.1 ++ [brs.getD b 0], b / 2 :: e.2)] else [])
     else match e.2 with
       | [] => []
       | p :: r => if p = b / 2 then [(e.1 ++ [brs.getD b 0], r)] else [])
  else []
def exs (k n at' c:Nat) (e:En):List En:=(List.range (2 * k)).flatMap (exB n at' c e)
def fls (k:Nat) (a:List Nat):Nat->List En
 | 0=>[([],[])]
 | i + 1=>(fls k a i).flatMap (exs k a.length i (a.getD i 0))
def res (k:Nat) (a:List Nat):List (List Nat):=((fls k a a.length).filter fun e=>decide (e.2 = [])).map (·.1)
def wt (k:Nat) (r:List Nat) (L:List En):Int:=(L.map fun e=>ws k r e.2).sum
def sts (t:List Nat):List Nat:=(t.map clc).reverse
inductive Ens (H:Hp):List Addr->List En->Prop
 | nil:Ens H [] []
 | cons {a:Addr} {e:En} {as:List Addr} {es:List En} (h:H a = some (.tup [tx e.1,tx (sts e.2)])) (r:Ens H as es):Ens H (a :: as) (e :: es)
theorem Ens.len {H:Hp} {as:List Addr} {es:List En} (h:Ens H as es):as.length = es.length:=by
 induction h with
 | nil=>rfl
 | cons _ _ ih=>rw [List.length_cons,List.length_cons,ih]
theorem Ens.get {H : Hp} {as : List Addr} {es : List En} (h : Ens H as es) : ∀ {i : Nat} {a : Addr}, as[i]? = some a -> ∃ e, es[i]? = some e /\ H a = some (.tup [tx e.1, tx (sts e.2)]) := by
  induction h with
  | nil => intro i a z; simp at z
  | cons h r ih =>
    intro i a z
    cases i with
    | zero => simp at z; subst z; exact ⟨_, rfl, h⟩
    | succ i => simpa using ih (by simpa using z)
theorem Ens.there {H : Hp} {as : List Addr} {es : List En} (h : Ens H as es) : ∀ a ∈ as, ∃ o, H a = some o := by
  induction h with
  | nil => intro a z; cases z
  | cons h r ih =>
    intro a z
    rcases List.mem_cons.mp z with rfl | z
    · exact ⟨_, h⟩
    · exact ih a z
end BrS
namespace BrS
open L2 PySem BrM BrC
structure Gr (H1 H':Hp) (lo:Addr) (as:List Addr) (L:List En):Prop where
 fl:H1 lo = none
 sm:Same H1 H'
 at':H' lo = some (.lst (as.map V.ref))
 en:Ens H' as L
 ni:lo ∉ as
theorem Gr.len {H1 H':Hp} {lo:Addr} {as:List Addr} {L:List En} (g:Gr H1 H' lo as L):as.length = L.length:=g.en.len
end BrS
namespace BrS
open L2 PySem BrM BrC BrR
def gd:V->Bool
 | .int i=>decide (0 <= i)
 | _=>false
def Pln (K:PySem.W.Frag) (H:Hp) (v:V):Prop:=∃ ty,TyOf K H v (.type ty)/\ty ∈ plainTy
def NoW (K:PySem.W.Frag) (k:Int) (H:Hp) (v:V):Prop:=(∃ ty,TyOf K H v (.type ty)/\ty ∈ plainTy/\ty ≠ "list") \/
 ∃ q xs,v = .ref q/\H q = some (.lst xs)/\xs.length <= 1000/\((xs.length:Int) ≠ 2 * k\/((∀ x ∈ xs,Pln K H x)/\∃ x ∈ xs,gd x = false))
def NoB (K:PySem.W.Frag) (k:Int) (H:Hp) (v:V):Prop:=(∃ a,v = tx a/\a.length <= 1000/\∀ c,a = [c]->c ∉ brs.take (2 * k).toNat)\/∃ ty,TyOf K H v (.type ty)/\ty ∈ plainTy/\ty ≠ "str"
theorem sm_zero (k:Nat):sm k (fun _=>0) = 0:=by
 induction k with
 | zero=>rfl
 | succ k ih=>rw [sm,ih]; rfl
theorem sd_ne {p:Addr} {H:Hp} {v:V} {d:PyData} (h:Sd p H v d) (a:Addr) (e:v = .ref a):a ≠ p:=by
 subst e
 cases h with
 | sc c=>cases c
 | lst _ n _=>exact n
 | tup _ n _=>exact n
 | dct _ n _=>exact n
theorem sds_ne {p : Addr} {H : Hp} : ∀ {xs : List V} {ds : List PyData}, Sds p H xs ds -> ∀ x ∈ xs, ∀ a, x = .ref a -> a ≠ p
  | _, _, .nil, _, h => nomatch h
  | _, _, .cons h t, x, hx => by
    rcases List.mem_cons.mp hx with rfl | z
    · exact sd_ne h
    · exact sds_ne t x z
theorem dt_nes {p q:Addr} {n m:Nat} {H:Hp} {xs:List V} (h:Dt p n m H (.ref q)) (e:H q = some (.lst xs)):∀ x ∈ xs,∀ a,x = .ref a->a ≠ p:=by
 obtain ⟨d,h,_⟩:=h
 cases h with
 | sc c=>cases c
 | lst h n r=>rw [e] at h; cases h; exact sds_ne r
 | tup h n r=>rw [e] at h; cases h
 | dct h n r=>rw [e] at h; cases h
theorem Pln.keep {K:PySem.W.Frag} {p:Addr} {H H':Hp} {v:V} (h:Pln K H v) (n:∀ a,v = .ref a->a ≠ p) (s:SameBut1 p H H'):Pln K H' v:=let ⟨ty,a,b⟩:=h; ⟨ty,a.keep n s,b⟩
theorem NoW.keep {K:PySem.W.Frag} {k:Int} {p:Addr} {n m:Nat} {H H':Hp} {v:V} (h:NoW K k H v) (d:Dt p n m H v) (s:SameBut1 p H H'):NoW K k H' v:=by
 rcases h with ⟨ty,a,b⟩ | ⟨q,xs,rfl,h,l,c⟩
 ·exact .inl ⟨ty,a.keep d.ne s,b⟩
 ·exact .inr ⟨q,xs,rfl,s _ _ h (d.ne q rfl),l,c.elim .inl fun ⟨a,b⟩=>.inr ⟨fun x hx=>(a x hx).keep (dt_nes d h x hx) s,b⟩⟩
theorem NoB.keep {K:PySem.W.Frag} {k:Int} {p:Addr} {n m:Nat} {H H':Hp} {v:V} (h:NoB K k H v) (d:Dt p n m H v) (s:SameBut1 p H H'):NoB K k H' v:=h.elim .inl fun ⟨ty,a,b⟩=>.inr ⟨ty,a.keep d.ne s,b⟩
end BrS
namespace L2
open PySem PySem.Spec PyProof.Rows
def ExcOne (x C t0:Addr) (m:Str) (tk:Tok) (h:Heap):Prop:=(∃ o vs,h.get? x = some o/\o.cls = .ref C/\o.data = .fields vs/\vs[0]? = some (.ref t0))/\∃ o k,h.get? t0 = some o/\o.data = .seq (#[.str m tk]) k
theorem ExcOne.at {x C t0:Addr} {m:Str} {tk:Tok} {h:Heap} (e:ExcOne x C t0 m tk h):ExcAt x C h:=let ⟨⟨o,vs,a,b,c,_⟩,_⟩:=e; ⟨o,vs,a,b,c⟩
section
variable {prog:Program} {w:World} {A:Around} {E:Value->Shared->Prop} {s:Shared} {K:PySem.W.Frag} {x C t0:Addr} {m:Str} {tk:Tok}
end
section
variable {X:Cx} {C:Addr} {x:Str} {e:Expr} {te:TE} {np cpos sp pos:Pos}
end
end L2
namespace L2
open PySem PySem.Spec PyProof.Rows
section
variable {X:Cx}
end
end L2
namespace L2
open PySem PySem.Spec PyProof.Rows BrR
section
variable {σ:St} {H:Hp} {Q:VK} {K:PySem.W.Frag}
end
end L2
namespace BrS
open L2 PySem BrM BrC BrR
end BrS
namespace BrS
open L2 PySem BrM BrC BrR
def sgb (k:Int):List Nat:=opn.take k.toNat ++ cls.take k.toNat
theorem sgb_sgn {k:Int} {c:Nat} (h:c ∈ sgb k):c ∈ sgn k:=List.mem_append_left _ h
theorem sgb_len {k:Int} (h1:1 <= k) (h4:k <= 4):(sgb k).length = (2 * k).toNat:=by
 unfold sgb; rw [List.length_append,List.length_take,List.length_take]; simp [opn,cls]; omega
def spSignsG:Sp:=fun vs H Q _=>∃ k,vs = [.int k]/\1 <= k/\k <= 4/\Q (tx (sgb k)) H
theorem signsG_use {H:Hp} {k:Int} {Q:VK} {E:XK} (h1:1 <= k) (h2:k <= 4) (q:Q (tx (sgb k)) H):spSignsG ([.int k] ++ []) H Q E:=⟨k,rfl,h1,h2,q⟩
def spBentG:Sp:=fun vs H Q _=>∃ (p:Addr) (k:Int) (row:List Nat) (o:Int),vs = [.ref p,.int k,tx row,.int o]/\Po H p/\1 <= k/\k <= 4/\isRow k row = true/\0 <= o/\o <= 1000 /\
 ∀ row' H',row'.length <= row.length->isRow k row' = true->Po H' p->SameBut1 p H H'->Q (tx row') H'
theorem bentG_use {H:Hp} {p:Addr} {k o:Int} {row:List Nat} {Q:VK} {E:XK} (hp:Po H p) (h1:1 <= k) (h2:k <= 4) (hr:isRow k row = true) (h3:0 <= o) (h4:o <= 1000)
  (q:∀ row' H',row'.length <= row.length->isRow k row' = true->Po H' p->SameBut1 p H H'->Q (tx row') H'):spBentG ([.ref p,.int k,tx row,.int o] ++ []) H Q E:=⟨p,k,row,o,rfl,hp,h1,h2,hr,h3,h4,q⟩
def spLineG:Sp:=fun vs H Q _=>∃ (p:Addr) (k m:Int),vs = [.ref p,.int k,.int m]/\Po H p/\1 <= k/\k <= 4/\1 <= m/\m <= 40 /\
 ∀ row H',(row.length:Int) <= m->isRow k row = true->Po H' p->SameBut1 p H H'->Q (tx row) H'
theorem lineG_use {H:Hp} {p:Addr} {k m:Int} {Q:VK} {E:XK} (hp:Po H p) (h1:1 <= k) (h2:k <= 4) (h3:1 <= m) (h4:m <= 40)
  (q:∀ row H',(row.length:Int) <= m->isRow k row = true->Po H' p->SameBut1 p H H'->Q (tx row) H'):spLineG ([.ref p,.int k,.int m] ++ []) H Q E:=⟨p,k,m,rfl,hp,h1,h2,h3,h4,q⟩
end BrS
namespace L2
open PySem PySem.Spec PyProof.Rows
section
variable {X:Cx} {pins:List (Addr × Obj)} {σ:St} {H:Hp} {s:Shared} {a:Addr}
end
theorem is_rel {P:Program} {w:World} {k:Key} {v:Value} (h:(mixKind P w).is k v = true):RelV (kV k) v:=by
 rcases keyIs_shape h with ⟨i,t,rfl,rfl⟩ | ⟨x,t,rfl,rfl⟩
 ·exact ⟨t,rfl⟩
 ·exact ⟨t,rfl⟩
section
variable {K:PySem.W.Frag} {g:TG} {tb:TS} {D:Ends} {σ:St} {H:Hp} {Q:VK}
end
end L2
namespace L2
open PySem PySem.Spec PyProof.Rows
section
variable {K:PySem.W.Frag} {σ:St} {H:Hp} {Q:VK} {D:Ends}
theorem s_dget {td ty:TE} (h:td σ H fun x H1=>ty σ H1 fun y H2=>∃ a v,x = .ref a/\DGet H2 a y (some v)/\Q v H2):tDGet td ty σ H Q:=h
theorem s_dput {td ty tv:TE} (h:tv σ H fun v H1=>td σ H1 fun x H2=>ty σ H2 fun y H3=>∃ a H4,x = .ref a/\DPut H3 a y v H4/\D.nx σ H4):sDPut td ty tv D σ H:=h
end
end L2
namespace BrS
open L2 PySem BrM BrC BrR
def Ok4 (st:List Nat):Prop:=∀ p ∈ st,p < 4
abbrev Es:=List (List Nat × Int)
structure Wf (es:Es):Prop where
 nd:(es.map (·.1)).Nodup
 ok:∀ e ∈ es,Ok4 e.1
 pos:∀ e ∈ es,1 <= e.2
theorem Wf.nil:Wf []:=⟨by simp,(fun _ h=>nomatch h),(fun _ h=>nomatch h)⟩
theorem Wf.tail {e:List Nat × Int} {r:Es} (w:Wf (e :: r)):Wf r:=⟨(List.nodup_cons.mp w.nd).2,fun x h=>w.ok x (List.mem_cons_of_mem _ h),fun x h=>w.pos x (List.mem_cons_of_mem _ h)⟩
def stp (k s:Nat) (f:List Nat->Int) (st:List Nat):Int:=sm k (fun p=>pw k s (2 * p) * f (p :: st)) + (match st with | []=>0 | o :: s'=>pw k s (2 * o + 1) * f s')
theorem units1 {k:Nat} {A:Around} (r:Room k A):A.units + 1 < cLine:=by have:=r.un; omega
end BrS
namespace BrT
open PySem
def Rise (a:Array Nat):Prop:=a.toList.Pairwise (· < ·)
def Tb (l:Bool) (t:SetTable):Prop:=Rise t.place/\t.led = l
theorem Tb.plain {l:Bool} {t:SetTable} (h:Tb l t):Tb l { t with plain:=false }:=h
end BrT
namespace BrT
open PySem PySem.Spec PyProof.Rows
def keyOf (e:Int × Value):Int:=match e.2 with | .int k _=>k | _=>0
section
variable {prog:Program} {w:World} {A:Around} {E:Value->Shared->Prop} {s:Shared}
def SO (prog:Program) (w:World) (l:Bool) (es:Array (Int × Value)) (t:SetTable) (ms:List Int):Prop :=
 ElemsOf (intKind prog w) es.toList/\(es.toList.map keyOf).Nodup/\(∀ k,k ∈ es.toList.map keyOf ↔ k ∈ ms)/\es.size <= ms.length/\t.fits es.size = true/\Tb l t
def SI (prog:Program) (w:World) (l:Bool) (h:Heap) (a:Addr) (ms:List Int):Prop :=
 ∃ o es ep t,h.get? a = some o/\o.ExactSet/\o.data = .set es ep t/\SO prog w l es t ms
theorem SI.at {l:Bool} {h h':Heap} {a:Addr} {ms:List Int} (i:SI prog w l h a ms) (k:∀ o,h.get? a = some o->h'.get? a = some o):SI prog w l h' a ms :=
 let ⟨o,es,ep,t,ho,r⟩:=i; ⟨o,es,ep,t,k o ho,r⟩
theorem stored {l:Bool} {h:Heap} {a:Addr} {o:Obj} {es es':Array (Int × Value)} {ep:Nat} {t t':SetTable} {ms:List Int} (ho:h.get? a = some o) (hex:o.ExactSet) (hd:o.data = .set es ep t) (i:SO prog w l es' t' ms) :
  (h.update a (Obj.putSet es' t')).get? a = some { o with data:=.set es' (ep + 1) t' }/\SI prog w l (h.update a (Obj.putSet es' t')) a ms:=by
 have g:=Heap.get?_update_self (Obj.putSet es' t') ho (by rw [putSet_of es' t' hd]; rfl)
 rw [putSet_of es' t' hd] at g
 exact ⟨g,_,es',ep + 1,t',g,hex,rfl,i⟩
end
end BrT
namespace BrT
open PySem PySem.Spec PyProof.Rows
section
variable {prog:Program} {w:World} {A:Around} {E:Value->Shared->Prop} {s:Shared}
def byT (w:World):Bool:=w.params.followText "set-order"
end
end BrT
namespace BrT
open PySem PySem.Spec PyProof.Rows
section
variable {prog:Program} {w:World} {A:Around} {E:Value->Shared->Prop} {s:Shared}
structure It (h:Heap) (I:Addr) (f:Value) (i:Nat) (S:Addr) (n ep:Nat):Prop where
 at_:∃ o,h.get? I = some o/\o.cls = .type "set_iterator"/\o.data = .fields #[f,.int i 0,.ref S,.int n 0,.int ep 0]
theorem It.ty {I:Addr} {f:Value} {i:Nat} {S:Addr} {n ep:Nat} (x:It s.heap I f i S n ep):s.TypeIs (.ref I) "set_iterator":=let ⟨o,ho,hc,_⟩:=x.at_; ⟨o,ho,hc⟩
theorem It.keep {h h':Heap} {I:Addr} {f:Value} {i:Nat} {S:Addr} {n ep:Nat} (x:It h I f i S n ep) (k:∀ o,h.get? I = some o->h'.get? I = some o):It h' I f i S n ep:=let ⟨o,ho,r⟩:=x.at_; ⟨o,k o ho,r⟩
def Seto (h:Heap) (S:Addr) (es:Array (Int × Value)) (ep:Nat) (t:SetTable):Prop:=∃ o,h.get? S = some o/\o.ExactSet/\o.data = .set es ep t/\t.fits es.size = true
theorem Seto.keep {h h':Heap} {S:Addr} {es:Array (Int × Value)} {ep:Nat} {t:SetTable} (x:Seto h S es ep t) (k:∀ o,h.get? S = some o->h'.get? S = some o):Seto h' S es ep t:=let ⟨o,ho,r⟩:=x; ⟨o,k o ho,r⟩
def slotP (t:SetTable) (i:Nat):Nat:=if i = 0 then 0 else t.place.getD (i - 1) 0 + 1
inductive Way (w:World) (S:Addr) (h:Heap) (es:Array (Int × Value)) (ep:Nat) (t:SetTable):(Nat->Value)->List Value->Prop
 | places (hb:byT w = false) (hp:t.plain = true\/es.size <= 1) (hl:t.led = true) (r:Rise t.place):Way w S h es ep t (fun i=>rawInt (slotP t i:Nat)) (es.toList.map (·.2))
 | text (hb:byT w = true):Way w S h es ep t (fun _=>rawInt (0:Nat)) ((pickOrder (w.params.setOrder S ep) es).toList.map (·.2))
 | draws (T:Addr) (ps:List Nat) (o:Obj) (hT:h.get? T = some o) (hd:∃ n,o.data = .seq (ps.map fun (i:Nat)=>rawInt i).toArray n) (hp:ps.Perm (List.range es.size)):Way w S h es ep t (fun _=>.ref T) (ps.map fun i=>(es.getD i (0,.none)).2)
end
end BrT
namespace BrT
open PySem PySem.Spec PyProof.Rows
section
variable {prog:Program} {w:World} {A:Around} {E:Value->Shared->Prop} {s:Shared}
theorem Way.at {S:Addr} {h h':Heap} {es:Array (Int × Value)} {ep:Nat} {t:SetTable} {f:Nat->Value} {ys:List Value} (x:Way w S h es ep t f ys) (k:∀ T,f 0 = .ref T->∀ o,h.get? T = some o->h'.get? T = some o):Way w S h' es ep t f ys:=by
 cases x with
 | places hb hp hl r=>exact .places hb hp hl r
 | text hb=>exact .text hb
 | draws T ps o hT hd hp=>exact .draws T ps o (k T rfl o hT) hd hp
end
end BrT
namespace BrT
open PySem PySem.Spec PyProof.Rows
section
variable {prog:Program} {w:World} {A:Around} {E:Value->Shared->Prop} {s:Shared}
end
end BrT
namespace L2
open PySem PySem.Spec PyProof.Rows
section
variable {X:Cx} {e:Expr} {te:TE} {np cpos sp pos:Pos}
end
end L2
namespace BrT
open PySem PySem.Spec PyProof.Rows
section
variable {prog:Program} {w:World} {A:Around} {E:Value->Shared->Prop} {s:Shared}
end
end BrT
namespace L2
open PySem PySem.Spec PyProof.Rows
section
variable {X:Cx} {e:Expr} {te:TE} {np cpos sp pos:Pos}
end
end L2
namespace BrC
variable {P:Nat->Nat->Int} {k:Nat}
end BrC
namespace L2
open PySem PySem.Spec PyProof.Rows BrR
section
variable {σ:St} {H:Hp} {Q:VK} {K:PySem.W.Frag}
end
end L2
namespace BrS
open L2 PySem BrM BrC BrR
def F14 (k:Nat) (a:List Nat) (b e:Nat):Int:=cv (PP (a.map (plw (ones k)))) k (e - b) b []
def ky (b e:Nat):List Key:=[.inl (b:Int),.inl (e:Int)]
def DW (k:Nat) (a:List Nat) (kvs:List (List Key × V)) (E q:Nat):Prop :=
 (∀ b e:Nat,valV kvs (ky b e) = if b <= e/\(e - b) % 2 = 0/\(e < E\/(e = E/\E < b + 2 * q)) then some (.int (F14 k a b e)) else none)/\kvs.length <= E * 41 + q
theorem DW.get {k:Nat} {a:List Nat} {kvs:List (List Key × V)} {E q b e:Nat} (h:DW k a kvs E q) (h1:b <= e) (h2:(e - b) % 2 = 0) (h3:e < E\/(e = E/\E < b + 2 * q)):valV kvs (ky b e) = some (.int (F14 k a b e)):=by
 rw [h.1,if_pos ⟨h1,h2,h3⟩]
theorem DW.at {k:Nat} {a:List Nat} {kvs:List (List Key × V)} {E q b e:Nat} {H:Hp} {d T:Addr} (h:DW k a kvs E q) (gd:H d = some (.dT kvs)) (hT:H T = none) (h1:b <= e) (h2:(e - b) % 2 = 0) (h3:e < E):DGet (upd H T (.tup [.int (b:Int),.int (e:Int)])) d (.ref T) (some (.int (F14 k a b e))):=by
 rw [<- h.get h1 h2 (.inl h3)]
 exact DGet.t (k:=ky b e) (by rw [upd_ne (ne_of_none gd hT)]; exact gd) upd_same
theorem DW.zero {k:Nat} {a:List Nat}:DW k a [] 0 0:=⟨fun b e=>by rw [valV_nil,if_neg (by omega)],by simp⟩
end BrS
namespace L2
open PySem PySem.Spec PyProof.Rows
section
variable {prog:Program} {w:World} {A:Around} {R:Result->Shared->Prop} {s:Shared}
end
section
variable {Y:Cx}
end
section
variable {X:Cx}
end
end L2
namespace L2
open PySem PySem.Spec PyProof.Rows BrR
section
variable {X:Cx}
end
end L2
namespace BrS
open L2 PySem BrM BrC BrR
def Go (k:Nat):List Nat->List Nat->List Nat->Prop
 | [],s,t=>s = t
 | c :: a,s,t=>(∃ p,p < k/\0 < pw k c (2 * p)/\Go k a (p :: s) t)\/(∃ o r,s = o :: r/\0 < pw k c (2 * o + 1)/\Go k a r t)
variable {k:Nat}
theorem Go.split : ∀ {a b s t : List Nat}, Go k (a ++ b) s t -> ∃ u, Go k a s u /\ Go k b u t
  | [], _, _, _, h => ⟨_, rfl, h⟩
  | c :: a, b, s, t, h => by
    rcases h with ⟨p, h1, h2, h3⟩ | ⟨o, r, h1, h2, h3⟩
    · obtain ⟨u, x, y⟩ := Go.split h3; exact ⟨u, .inl ⟨p, h1, h2, x⟩, y⟩
    · obtain ⟨u, x, y⟩ := Go.split h3; exact ⟨u, .inr ⟨o, r, h1, h2, x⟩, y⟩
theorem go_ws (r : List Nat) : ∀ (a s : List Nat), 0 < ws k (a ++ r) s ↔ ∃ t, Go k a s t /\ 0 < ws k r t
  | [], s => ⟨fun h => ⟨s, rfl, h⟩, fun ⟨t, h, g⟩ => by cases h; exact g⟩
  | c :: a, s => by
    have nn := fun s => ws_nonneg (k := k) (a ++ r) s
    have po := fun b => pw_nonneg k c b
    have key : ∀ f : Nat -> Int, (∀ p, 0 <= f p) -> (0 < sm k f ↔ ∃ p, p < k /\ 0 < f p) := by
      intro f hf
      constructor
      · intro h
        refine Classical.byContradiction fun z => ?_
        have : sm k f = 0 := BrC.sm_zero k fun p hp => by
          have h1 := hf p
          have h2 : ¬ 0 < f p := fun y => z ⟨p, hp, y⟩
          omega
        omega
      · rintro ⟨p, hp, h⟩
        have := sm_ge (f := f) hp fun j _ => hf j
        omega
    have mul : ∀ {x y : Int}, 0 <= x -> 0 <= y -> (0 < x * y ↔ 0 < x /\ 0 < y) := by
      intro x y hx hy
      constructor
      · intro h
        constructor
        · rcases Int.lt_or_eq_of_le hx with z | z
          · exact z
          · rw [<- z] at h; simp at h
        · rcases Int.lt_or_eq_of_le hy with z | z
          · exact z
          · rw [<- z] at h; simp at h
      · rintro ⟨a, b⟩; exact Int.mul_pos a b
    have k1 := key (fun p => pw k c (2 * p) * ws k (a ++ r) (p :: s)) fun p => Int.mul_nonneg (po _) (nn _)
    have f1 : (0 < sm k (fun p => pw k c (2 * p) * ws k (a ++ r) (p :: s))) ↔ ∃ p, p < k /\ 0 < pw k c (2 * p) /\ ∃ t, Go k a (p :: s) t /\ 0 < ws k r t := by
      rw [k1]
      constructor
      · rintro ⟨p, hp, h⟩
        obtain ⟨h1, h2⟩ := (mul (po _) (nn _)).mp h
        exact ⟨p, hp, h1, (go_ws r a (p :: s)).mp h2⟩
      · rintro ⟨p, hp, h1, h2⟩
        exact ⟨p, hp, (mul (po _) (nn _)).mpr ⟨h1, (go_ws r a (p :: s)).mpr h2⟩⟩
    have s1 : 0 <= sm k (fun p => pw k c (2 * p) * ws k (a ++ r) (p :: s)) := sm_nonneg k fun p _ => Int.mul_nonneg (po _) (nn _)
    cases s with
    | nil =>
      rw [List.cons_append, ws_nil, f1]
      constructor
      · rintro ⟨p, hp, h1, t, h2, h3⟩; exact ⟨t, .inl ⟨p, hp, h1, h2⟩, h3⟩
      · rintro ⟨t, (⟨p, hp, h1, h2⟩ | ⟨o, q, e, _⟩), h3⟩
        · exact ⟨p, hp, h1, t, h2, h3⟩
        · cases e
    | cons o q =>
      rw [List.cons_append, ws_cons]
      have s2 : 0 <= pw k c (2 * o + 1) * ws k (a ++ r) q := Int.mul_nonneg (po _) (nn _)
      have f2 : 0 < pw k c (2 * o + 1) * ws k (a ++ r) q ↔ 0 < pw k c (2 * o + 1) /\ ∃ t, Go k a q t /\ 0 < ws k r t := by
        rw [mul (po _) (nn _), go_ws r a q]
      constructor
      · intro h
        by_cases h1 : 0 < sm k (fun p => pw k c (2 * p) * ws k (a ++ r) (p :: o :: q))
        · obtain ⟨p, hp, h1, t, h2, h3⟩ := f1.mp h1; exact ⟨t, .inl ⟨p, hp, h1, h2⟩, h3⟩
        · obtain ⟨h4, t, h5, h6⟩ := f2.mp (by omega); exact ⟨t, .inr ⟨o, q, rfl, h4, h5⟩, h6⟩
      · rintro ⟨t, (⟨p, hp, h1, h2⟩ | ⟨o', q', e, h1, h2⟩), h3⟩
        · have := f1.mpr ⟨p, hp, h1, t, h2, h3⟩; omega
        · cases e
          have := f2.mpr ⟨h1, t, h2, h3⟩; omega
theorem go_right (a:List Nat):Go k a [] [] ↔ 0 < ws k a []:=by
 have:=go_ws (k:=k) [] a []
 rw [List.append_nil] at this
 rw [this]
 constructor
 ·intro h; exact ⟨[],h,by show (0:Int) < 1; decide⟩
 ·rintro ⟨t,h1,h2⟩
  cases t with
  | nil=>exact h1
  | cons o r=>exact absurd h2 (by show ¬ (0:Int) < 0; decide)
def Dep (k:Nat) (a:List Nat) (x:Int):Prop:=∃ t,Go k a [] t/\(t.length:Int) = x
theorem Dep.zero (a:List Nat):Dep k a 0 ↔ 0 < ws k a []:=by
 rw [<- go_right]
 constructor
 ·rintro ⟨t,h,e⟩
  have:t = []:=List.eq_nil_of_length_eq_zero (by omega)
  subst this; exact h
 ·intro h; exact ⟨[],h,rfl⟩
end BrS
namespace L2
open PySem PySem.Spec PyProof.Rows BrR
section
variable {σ:St} {H:Hp} {Q:VK} {K:PySem.W.Frag}
end
end L2
namespace BrS
open L2 PySem BrM BrC BrR
structure PlA (H H':Hp) (r:Addr) (ad:Nat->Addr) (L:List (List Int)):Prop where
 fr:H r = none
 fa:∀ i,i < L.length->H (ad i) = none
 top:H' r = some (.lst ((List.range L.length).map fun i=>V.ref (ad i)))
 row:∀ i,i < L.length->H' (ad i) = some (iL (L.getD i []))
 sm:Same H H'
theorem PlA.pls {H H':Hp} {r:Addr} {ad:Nat->Addr} {L:List (List Int)} (h:PlA H H' r ad L):Pls H' r L:=⟨ad,h.top,h.row⟩
def Goes (k:Nat) (a:List Nat):Prop:=∃ t,Go k a [] t
noncomputable def goB (k:Nat) (a:List Nat):Bool:=@decide (Goes k a) (Classical.propDecidable _)
theorem Goes.take {k:Nat} {a:List Nat} (h:Goes k a) (i:Nat):Goes k (a.take i):=by
 obtain ⟨t,ht⟩:=h
 rw [<- List.take_append_drop i a] at ht
 obtain ⟨u,hu,_⟩:=Go.split ht
 exact ⟨u,hu⟩
end BrS
namespace L2
open PySem PySem.Spec PyProof.Rows
section
variable {X:Cx}
def rEqD (K:PySem.W.Frag):R2:=fun x y H Q=>∃ d e kvs,x = .ref d/\y = .ref e/\Rd H d (.dK kvs)/\Rd H e (.dK [])/\Q (.bl (decide (kvs = []))) H
theorem op_eqD (K : PySem.W.Frag) (hu : X.A.units < cLine) : OpR X (compareOp .Eq) (rEqD K) := by
  intro pins s σ H x y v u Q I rx ry ⟨d, e, kvs, e1, e2, h1, h2, q⟩
  subst e1 e2
  cases rx
  cases ry
  obtain ⟨_, hd1, vs, r1, o1⟩ := dk_rd I.hok h1
  obtain ⟨_, hd2, ws, r2, o2⟩ := dk_rd I.hok h2
  have l1 := r1.length
  have l2 := r2.length
  simp only [List.length_nil] at l2
  have ew : ws = [] := List.eq_nil_of_length_eq_zero l2.symm
  subst ew
  refine PySem.W.keq_eq (knd := mixKind X.prog X.w) (r := true) hd1 hd2 o1 o2 hu (fun z => ?_) ⟨.bl _, H, I, rfl, ?_⟩
  · have ev : vs = [] := List.eq_nil_of_length_eq_zero (by simpa using z)
    subst ev; exact .nil
  · have eb : (vs.length == ([] : List (Key × Value)).length && true) = decide (kvs = []) := by
      cases kvs with
      | nil => have : vs = [] := List.eq_nil_of_length_eq_zero (by simpa using l1.symm)
               subst this; rfl
      | cons p r => cases vs with
        | nil => simp at l1
        | cons _ _ => simp
    rw [eb]
    exact q
section
variable {σ:St} {H:Hp} {Q:VK} {K:PySem.W.Frag}
end
end
end L2
namespace BrS
open L2 PySem BrM BrC BrR
end BrS
namespace L2
open PySem PySem.Spec PyProof.Rows
structure MeU (P:Program) (w:World) (K:PySem.W.Frag) (mg:Str->Option Value) (base:Heap) (k:Nat) (C:Addr) (m:Str) (ps:List Str) (sp:Sp):Prop where
 ex:∃ f fd,FnOk P w K mg base CX0 k f fd ps sp/\Meth K C m f/\Binds K fd ps []
theorem MeU.mono {P:Program} {w:World} {K:PySem.W.Frag} {mg:Str->Option Value} {base:Heap} {j k:Nat} {C:Addr} {m:Str} {ps:List Str} {sp:Sp} (U:MeU P w K mg base j C m ps sp) (h:j <= k):MeU P w K mg base k C m ps sp :=
 let ⟨f,fd,F,a,b⟩:=U.ex; ⟨f,fd,F.mono h,a,b⟩
structure MkU (P:Program) (w:World) (K:PySem.W.Frag) (mg:Str->Option Value) (base:Heap) (k:Nat) (C:Addr) (ps:List Str) (sp:Sp):Prop where
 ex:∃ j f fd,j + 1 <= k/\FnOk P w K mg base CX0 j f fd ps sp/\Mk K C f/\Binds K fd ps []
theorem MkU.mono {P:Program} {w:World} {K:PySem.W.Frag} {mg:Str->Option Value} {base:Heap} {j k:Nat} {C:Addr} {ps:List Str} {sp:Sp} (U:MkU P w K mg base j C ps sp) (h:j <= k):MkU P w K mg base k C ps sp :=
 let ⟨i,f,fd,hi,F,a,b⟩:=U.ex; ⟨i,f,fd,Nat.le_trans hi h,F,a,b⟩
section
variable {X:Cx} {k:Nat} {C:Addr} {m x:Str} {ps:List Str} {sp:Sp} {e o value:Expr} {es:List Expr} {ta tv:TE} {t:TA} {p pos apos pos' tpos:Pos} {f:Str}
theorem pe_mth0 {pl : Sem Bool} (c : Cls X.K C) (U : MeU X.prog X.w X.K X.mg X.base k C m ps sp) (hr : Room k X.A) (he : PE X o ta)
  (ht : eval (.Call (.Attribute o m apos) [] [] pos) X.env = (do
   let ov <- eval o X.env
   standAt apos.atName
   let (f, first) <- holding [ov] (getMethod ov m pl)
   callWith pos f first (backTo pos (starEach [] X.env)) (backToKw pos (keywordEach [] X.env))) := by rfl) :
  PE X (.Call (.Attribute o m apos) [] [] pos) (tMeth C m sp [] E0 ta tNil) :=
 let ⟨_, _, F, hm, hb⟩ := U.ex; pe_meth0 he c hm F hr hb .nil pass0 ht
theorem pe_fldK (K:PySem.W.Frag) (he:PE X e ta) (hK:X.K = K:=by rfl) (hb:attributeBase e f X.env (eval e X.env) = eval e X.env:=by rfl):PE X (.Attribute e f pos) (tFld K ta f):=by subst hK; exact pe_fld he hb
theorem ps_fldK (K:PySem.W.Frag) (ha:PE X o ta) (hv:PE X value tv) (hK:X.K = K:=by rfl) (hs:swapsWith value (some (.Attribute o f pos')) pos.line X.env = pure false:=by rfl):PS X (.Assign [.Attribute o f pos'] value pos) (sFld K ta tv f):=by subst hK; exact ps_fld ha hv hs
end
section
variable {σ:St} {H:Hp} {Q:VK} {K:PySem.W.Frag} {D:Ends} {C:Addr} {m f:Str} {sp:Sp} {E:XK} {ta tv:TE} {t:TA} {rd:V->V->Hp->VK->Prop}
theorem s_meth (h:ta σ H fun x H1=>∃ a dx fs,x = .ref a/\H1 a = some (.ins C dx fs)/\fs.lookup m = none/\t σ H1 fun vs H2=>sp (x :: (vs ++ [])) H2 Q E):tMeth C m sp [] E ta t σ H Q:=h
theorem s_make (h:t σ H fun vs H1=>∀ x dx,H1 x = none->H1 dx = none->dx ≠ x->sp (.ref x :: (vs ++ [])) (upd (upd H1 dx (.own x)) x (.ins C dx [])) (fun v H2=>v = .non/\Q (.ref x) H2) E):tMake C sp [] E t σ H Q:=h
theorem s_fldT (h:ta σ H fun x H1=>∃ a C dx fs v,x = .ref a/\H1 a = some (.ins C dx fs)/\Cls K C/\NoAttr K C f/\fs.lookup f = some v/\Q v H1):tFld K ta f σ H Q:=h
theorem s_fldS (h:tv σ H fun y H1=>ta σ H1 fun x H2=>∃ a C dx fs,x = .ref a/\H2 a = some (.ins C dx fs)/\Cls K C/\NoAttr K C f/\fs.length < 1000/\D.nx σ (upd H2 a (.ins C dx (putF f y fs)))):sFld K ta tv f D σ H:=h
end
section
variable {X:Cx}
end
end L2
namespace L2
open PySem PySem.Spec PyProof.Rows
section
variable {X:Cx}
theorem IntsAre.at {P : Nat -> Value -> Prop} : ∀ {ks : List Int} {vs : List Value}, vs.length = ks.length -> (∀ (j : Nat) (v : Value), vs[j]? = some v -> ∃ (k : Int) (t : Tok), ks[j]? = some k /\ v = .int k t) -> IntsAre vs ks
  | [], [], _, _ => .nil
  | [], _ :: _, h, _ => by cases h
  | _ :: _, [], h, _ => by cases h
  | k :: ks, v :: vs, h, hp => by
    obtain ⟨k2, t, e, ev⟩ := hp 0 v rfl
    cases e
    subst ev
    exact .cons k t (IntsAre.at (P := P) (by simpa using h) fun j v hv => hp (j + 1) v hv)
theorem collect_dict {prog : Program} {w : World} {A : Around} {E : Value -> Shared -> Prop} {s : Shared} {d : Addr} {vs : List (Key × Value)} {ep : Nat} {R : List Value -> Shared -> Prop} (hd : (d == sysModules) = false) (hh : A.handled = none)
    (hat : s.heap.DictAt (mixKind prog w) d vs ep) (hn : vs.length <= sizeLine)
    (q : ∀ h' tk ys, s.heap.objs.size <= h'.objs.size -> (∀ b o, s.heap.get? b = some o -> h'.get? b = some o) -> ys.length = vs.length -> (∀ (j : Nat) (v : Value), ys[j]? = some v -> ∃ k x, vs[j]? = some (k, x) /\ (mixKind prog w).is k v = true) -> R ys { s with heap := h', toks := tk }) :
    wpAny (model prog w) A (collect (.ref d)) R E s := by
  have src := PySem.W.kdl_dict (knd := mixKind prog w) (kvs := vs) (ep := ep) hd
  have hlt := (src.there _ hat).1
  unfold collect
  refine wpAny_bind (wpAny_runValue (codeAny_builtin F.entry_proto_collect ?_))
  rw [Around.under_plainId F.plain_proto_collect _]
  show wpAny _ A.in1 (newList [] >>= fun l => again (.builtin "list.__iadd__" ⟨[l, .ref d], []⟩)) _ _ s
  refine wpAny_bind (wpAny_newObj_type (wpAny_pure ⟨plainId_quiet F.plain_list_iadd _, codeAny_builtin F.entry_list_iadd ?_⟩))
  rw [Around.under_plainId F.plain_list_iadd _]
  have gL : (s.heap.push { cls := .type "list", data := .seq ([] : List Value).toArray }).get? s.heap.objs.size = some { cls := .type "list", data := .seq #[] } := Heap.get?_push_size _ rfl
  show wpAny _ A.in1 (Builtin.List.listExtendWith (.ref s.heap.objs.size) (.ref d) (.ref s.heap.objs.size)) _ _ _
  let R0 : Result -> Shared -> Prop := fun r s' => ∃ h' tk acc c, r = .ok (.ret (.ref s.heap.objs.size)) /\ s' = { s with heap := h', toks := tk } /\ (∀ b o, s.heap.get? b = some o -> h'.get? b = some o) /\
    h'.get? s.heap.objs.size = some { cls := .type "list", dict := none, data := .seq acc c, slots := #[] } /\ ItemsOf (fun i v => ∃ k x, vs[i]? = some (k, x) /\ (mixKind prog w).is k v = true) acc vs.length
  refine wpAny_mono (PySem.W.kdl_extend (A := A) (s := { s with heap := s.heap.push { cls := .type "list", data := .seq ([] : List Value).toArray } }) (R := R0) src hh (src.keep _ _ hat fun b _ o e => Heap.get?_push_of_some _ e)
    s.heap.objs.size (Nat.ne_of_gt hlt) (Nat.ne_of_gt hlt) (.ref s.heap.objs.size) 0 gL
    (fun h' tk acc c hk hS ha => ⟨h', tk, acc, c, rfl, rfl, fun b o e => hk b o (Nat.ne_of_lt (Heap.lt_size e)) (Heap.get?_push_of_some _ e), hS, ha⟩) hn) (fun fin s' x => ?_) fun e s' x => ?_
  · cases fin with
    | done f =>
      obtain ⟨h', tk, acc, c, e, rfl, hk, hS, ha⟩ := x
      cases e
      refine wpAny_bind (wpAny_load hS (wpAny_pure (q h' tk acc.toList (Nat.le_of_lt (Heap.lt_size hS)) hk (by rw [Array.length_toList]; exact ha.1) fun j v hv => ha.2 j v (by rw [<- Array.getElem?_toList]; exact hv))))
    | again c1 =>
      refine ⟨x.1, codeAny_mono x.2 fun r s2 y => ?_⟩
      obtain ⟨h', tk, acc, c, rfl, rfl, hk, hS, ha⟩ := y
      refine wpAny_bind (wpAny_load hS (wpAny_pure (q h' tk acc.toList (Nat.le_of_lt (Heap.lt_size hS)) hk (by rw [Array.length_toList]; exact ha.1) fun j v hv => ha.2 j v (by rw [<- Array.getElem?_toList]; exact hv))))
  · obtain ⟨_, _, _, _, e', _⟩ := x
    cases e'
end
end L2
namespace BrS
open L2 PySem BrM BrC BrR
abbrev pa_ (k:Nat) (a:List Nat):Nat->Nat->Int:=PP (a.map (plw (ones k)))
def W (k:Nat) (a:List Nat) (i:Nat) (st:List Nat):Int:=cv (pa_ k a) k (a.length - i) i st
def rowW (k:Nat) (a:List Nat) (st:List Nat):List Int:=(List.range (a.length + 1)).map fun i=>W k a i st
theorem W_cap {k:Nat} {a:List Nat} (hk:k <= 4) (ha:a.length <= 40) (i:Nat) (st:List Nat):0 <= W k a i st/\W k a i st <= cap:=cv_cap hk (fun l hl=>(many_places hk l hl).2) (by omega) i st
def clsV (st:List Nat):List V:=st.reverse.map fun p:Nat=>V.int (2 * (p:Int) + 1)
def cf (pl sm cl rs:Addr) (at':Int):List (Str × V):=[("places",.ref pl),("sums",.ref sm),("at",.int at'),("closings",.ref cl),("rests",.ref rs)]
structure CoS (C:Addr) (H0 H:Hp) (co:Addr) (k:Nat) (a:List Nat) (at':Nat) (st:List Nat) (dx pl sm cl rs:Addr) (Hz Hb:Hp) (ad:Nat->Addr) (ra:List Addr):Prop where
 ob:H co = some (.ins C dx (cf pl sm cl rs at'))
 pls:Pls Hb pl (a.map (plw (ones k)))
 tb:Tb Hz Hb sm ad a.length (tbl (pa_ k a) k)
 keep:SameBut1 co Hb H
 nco:∀ xs,Hb co ≠ some (.lst xs)
 ncl:Hb cl = none
 nrs:Hb rs = none
 ne:cl ≠ rs
 clo:H cl = some (.lst (clsV st))
 res:H rs = some (.lst (ra.map V.ref))
 ral:ra.length = st.length + 1
 rows:∀ (j:Nat) x,ra[j]? = some x->H x = some (iL (rowW k a (st.drop (st.length - j))))/\x ≠ cl/\x ≠ rs
 h0:Same H0 H
 h0co:H0 co = none
 h0cl:H0 cl = none
 h0rs:H0 rs = none
 len:a.length <= 40
 hk:k <= 4
section
variable {C:Addr} {H0 H:Hp} {co:Addr} {k:Nat} {a:List Nat} {at':Nat} {st:List Nat} {dx pl sm cl rs:Addr} {Hz Hb:Hp} {ad:Nat->Addr} {ra:List Addr}
theorem CoS.lst (c:CoS C H0 H co k a at' st dx pl sm cl rs Hz Hb ad ra) {b:Addr} {xs:List V} (h:Hb b = some (.lst xs)):H b = some (.lst xs):=c.keep _ _ h fun z=>c.nco xs (by rw [<- z]; exact h)
theorem CoS.top (c:CoS C H0 H co k a at' st dx pl sm cl rs Hz Hb ad ra):∃ x,atI (ra.map V.ref) (-1) = some (.ref x)/\H x = some (iL (rowW k a st)):=by
 obtain ⟨x,hx⟩:∃ x,ra[st.length]? = some x:=⟨_,List.getElem?_eq_getElem (by rw [c.ral]; omega)⟩
 refine ⟨x,atI_end (by rw [List.length_map,c.ral]; omega) (by rw [List.length_map,c.ral,List.getElem?_map,Nat.add_sub_cancel,hx]; rfl),?_⟩
 have:=(c.rows _ x hx).1
 rwa [Nat.sub_self,List.drop_zero] at this
end
def mw (k:Nat) (a:List Nat) (i:Nat) (st:List Nat) (b:Nat):Int:=if b % 2 = 0 then pa_ k a i b * W k a (i + 1) (b / 2 :: st) else match st with | []=>0 | o :: s'=>if 2 * o + 1 = b then pa_ k a i b * W k a (i + 1) s' else 0
def stb (st:List Nat) (b:Nat):List Nat:=if b % 2 = 0 then b / 2 :: st else st.tail
end BrS
namespace L2
open PySem PySem.Spec PyProof.Rows
end L2
namespace BrS
open L2 PySem BrM BrC BrR
theorem pa_top {k:Nat} {a:List Nat} (hk:k <= 4) (i b:Nat):0 <= pa_ k a i b/\pa_ k a i b <= top30:=PP_bound (fun l hl=>(many_places hk l hl).2) i b
end BrS
namespace BrS
open L2 PySem BrM BrC BrR
theorem pa_01 {k : Nat} {a : List Nat} (hk : k <= 4) {i b : Nat} (hi : i < a.length) : pa_ k a i b = 0 \/ pa_ k a i b = 1 := by
  show ((a.map (plw (ones k))).getD i []).getD b 0 = 0 \/ ((a.map (plw (ones k))).getD i []).getD b 0 = 1
  rw [List.getD_eq_getElem?_getD (l := a.map (plw (ones k))), List.getElem?_map, List.getElem?_eq_getElem hi]
  show (plw (ones k) a[i]).getD b 0 = 0 \/ (plw (ones k) a[i]).getD b 0 = 1
  unfold plw
  rw [List.getD_eq_getElem?_getD]
  split
  · cases e : (ones k)[b]? with
    | none => exact .inl rfl
    | some v =>
      have := List.mem_of_getElem? e
      rw [List.eq_of_mem_replicate this]
      exact .inr rfl
  · rw [List.getElem?_map]
    cases e : (brs.take (ones k).length)[b]? with
    | none => exact .inl rfl
    | some v =>
      show (if a[i] = v then (1 : Int) else 0) = 0 \/ (if a[i] = v then (1 : Int) else 0) = 1
      split
      · exact .inr rfl
      · exact .inl rfl
end BrS
namespace BrS
open L2 PySem BrM BrC BrR
section
variable {C:Addr} {H0 H:Hp} {co:Addr} {k:Nat} {a:List Nat} {i:Nat} {st:List Nat} {dx pl sm cl rs:Addr} {Hz Hb:Hp} {ad:Nat->Addr} {ra:List Addr}
theorem CoS.nl (c:CoS C H0 H co k a i st dx pl sm cl rs Hz Hb ad ra) {b:Addr} {xs:List V} (h:H b = some (.lst xs)):b ≠ co:=fun z=>by rw [z,c.ob] at h; cases h
theorem CoS.at (c:CoS C H0 H co k a i st dx pl sm cl rs Hz Hb ad ra) (j:Nat):CoS C H0 (upd H co (.ins C dx (cf pl sm cl rs j))) co k a j st dx pl sm cl rs Hz Hb ad ra :=
 {ob:=upd_same,pls:=c.pls,tb:=c.tb,keep:=c.keep.trans SameBut1.upd,nco:=c.nco,ncl:=c.ncl,nrs:=c.nrs,ne:=c.ne
  clo:=by rw [upd_ne (c.nl c.clo)]; exact c.clo
  res:=by rw [upd_ne (c.nl c.res)]; exact c.res
  ral:=c.ral
  rows:=fun n x hx=>⟨by rw [upd_ne (c.nl (c.rows n x hx).1)]; exact (c.rows n x hx).1,(c.rows n x hx).2⟩
  h0:=fun b o z=>by rw [upd_ne (ne_of_none z c.h0co)]; exact c.h0 _ _ z
  h0co:=c.h0co,h0cl:=c.h0cl,h0rs:=c.h0rs,len:=c.len,hk:=c.hk }
end
end BrS
namespace BrS
open L2 PySem BrM BrC BrR
theorem mw_nonneg {k : Nat} {a : List Nat} (hk : k <= 4) (ha : a.length <= 40) (i : Nat) (st : List Nat) (b : Nat) : 0 <= mw k a i st b := by
  unfold mw
  split
  · exact Int.mul_nonneg (pa_top hk _ _).1 (W_cap hk ha _ _).1
  · cases st with
    | nil => exact Int.le_refl _
    | cons o s' =>
      show 0 <= (if 2 * o + 1 = b then pa_ k a i b * W k a (i + 1) s' else 0)
      split
      · exact Int.mul_nonneg (pa_top hk _ _).1 (W_cap hk ha _ _).1
      · exact Int.le_refl _
def cwq (k:Nat) (a:List Nat) (i:Nat):List Nat->Nat->Int
 | [],_=>0
 | o :: s',p=>if o = p then pa_ k a i (2 * p + 1) * W k a (i + 1) s' else 0
theorem mw_all {k : Nat} {a : List Nat} {i : Nat} {st : List Nat} (hi : i < a.length) (hst : ∀ o ∈ st, o < k) : sm (2 * k) (mw k a i st) = W k a i st := by
  rw [sm_pairs]
  have e1 : ∀ p, mw k a i st (2 * p) = pa_ k a i (2 * p) * W k a (i + 1) (p :: st) := fun p => by
    unfold mw
    rw [if_pos (by omega), show 2 * p / 2 = p by omega]
  have e2 : ∀ p, mw k a i st (2 * p + 1) = cwq k a i st p := fun p => by
    unfold mw
    rw [if_neg (by omega)]
    cases st with
    | nil => rfl
    | cons o s' =>
      show (if 2 * o + 1 = 2 * p + 1 then _ else _) = (if o = p then _ else _)
      by_cases h : o = p
      · rw [if_pos h, if_pos (by omega)]
      · rw [if_neg h, if_neg (by omega)]
  obtain ⟨m, hm⟩ : ∃ m, a.length - i = m + 1 := ⟨a.length - i - 1, by omega⟩
  have hm2 : a.length - (i + 1) = m := by omega
  rw [sm_congr k fun p _ => by rw [e1, e2], sm_add]
  unfold W
  rw [hm, hm2]
  cases st with
  | nil => rw [cv_nil, BrC.sm_zero (f := fun i_1 => cwq k a i [] i_1) k (fun _ _ => rfl), Int.add_zero]
  | cons o s' =>
    rw [cv_cons]
    congr 1
    have ho := hst o List.mem_cons_self
    rw [sm_one (f := fun i_1 => cwq k a i (o :: s') i_1) ho]
    · show (if o = o then pa_ k a i (2 * o + 1) * W k a (i + 1) s' else 0) = _
      rw [if_pos rfl]
      unfold W
      rw [hm2]
    · intro j hj hne
      show (if o = j then _ else _) = (0 : Int)
      rw [if_neg (fun z => hne z.symm)]
def NF (k:Nat) (a:List Nat):Nat->List Nat->Int->List Nat->Prop
 | i,_,l,[]=>i = a.length/\l = 0
 | i,st,l,b :: bs=>b < 2 * k/\sm b (mw k a i st) <= l/\l < sm (b + 1) (mw k a i st)/\NF k a (i + 1) (stb st b) (l - sm b (mw k a i st)) bs
def brt (bs:List Nat):List Nat:=bs.map fun b=>brs.getD b 0
end BrS
namespace BrS
open L2 PySem BrM BrC BrR
theorem cum_mono {k : Nat} {a : List Nat} (hk : k <= 4) (ha : a.length <= 40) (i : Nat) (st : List Nat) {b c : Nat} (h : b <= c) : sm b (mw k a i st) <= sm c (mw k a i st) := by
  induction c with
  | zero => rw [show b = 0 by omega]; exact Int.le_refl _
  | succ c ih =>
    by_cases e : b = c + 1
    · rw [e]; exact Int.le_refl _
    · have h1 := ih (by omega)
      have h2 := mw_nonneg hk ha i st c
      show _ <= sm c (mw k a i st) + mw k a i st c
      omega
theorem mw_pos {k : Nat} {a : List Nat} (hk : k <= 4) (ha : a.length <= 40) {i : Nat} (hi : i < a.length) {st : List Nat} {b : Nat} (hst : ∀ o ∈ st, o < k) (hb : b < 2 * k) (h : 0 < mw k a i st b) : mw k a i st b = W k a (i + 1) (stb st b) /\ (b % 2 = 1 -> st ≠ []) /\ (∀ o ∈ stb st b, o < k) /\ (stb st b).length <= st.length + 1 := by
  have h01 : pa_ k a i b ≠ 0 -> pa_ k a i b = 1 := fun z => (pa_01 hk hi).resolve_left z
  by_cases hev : b % 2 = 0
  · have e : mw k a i st b = pa_ k a i b * W k a (i + 1) (b / 2 :: st) := by unfold mw; rw [if_pos hev]
    have es : stb st b = b / 2 :: st := by unfold stb; rw [if_pos hev]
    rw [e] at h ⊢
    have h1 := h01 fun z => by rw [z, Int.zero_mul] at h; exact absurd h (Int.lt_irrefl _)
    rw [es, h1, Int.one_mul]
    refine ⟨rfl, by omega, fun o ho => ?_, by simp⟩
    rcases List.mem_cons.mp ho with z | z
    · omega
    · exact hst o z
  · have es : stb st b = st.tail := by unfold stb; rw [if_neg hev]
    rw [es]
    cases st with
    | nil =>
      unfold mw at h
      rw [if_neg hev] at h
      exact absurd h (Int.lt_irrefl _)
    | cons o s' =>
      have e : mw k a i (o :: s') b = if 2 * o + 1 = b then pa_ k a i b * W k a (i + 1) s' else 0 := by unfold mw; rw [if_neg hev]
      rw [e] at h ⊢
      by_cases ho : 2 * o + 1 = b
      · rw [if_pos ho] at h ⊢
        have h1 := h01 fun z => by rw [z, Int.zero_mul] at h; exact absurd h (Int.lt_irrefl _)
        rw [h1, Int.one_mul]
        exact ⟨rfl, fun _ => by simp, fun x hx => hst x (List.mem_cons_of_mem _ hx), by simp; omega⟩
      · rw [if_neg ho] at h
        exact absurd h (Int.lt_irrefl _)
theorem W_end (k:Nat) (a:List Nat) (st:List Nat):W k a a.length st = if st = [] then 1 else 0:=by
 unfold W
 rw [Nat.sub_self]
 cases st <;> rfl
end BrS
namespace BrS
open L2 PySem BrM BrC BrR
def num (k:Nat) (a:List Nat):Nat->List Nat->List Nat->Int
 | _,_,[]=>0
 | i,st,b :: bs=>sm b (mw k a i st) + num k a (i + 1) (stb st b) bs
theorem NF.num {k : Nat} {a : List Nat} : ∀ {bs : List Nat} {i : Nat} {st : List Nat} {l : Int}, NF k a i st l bs -> num k a i st bs = l
  | [], _, _, _, h => h.2.symm
  | b :: bs, i, st, l, h => by
    have := NF.num h.2.2.2
    show sm b (mw k a i st) + BrS.num k a (i + 1) (stb st b) bs = l
    omega
theorem NF.first {k:Nat} {a:List Nat} (hk:k <= 4) (ha:a.length <= 40) {i:Nat} {st:List Nat} {l m:Int} {b c:Nat} (hl:l <= m) (h1:sm b (mw k a i st) <= l) (h2:m < sm (c + 1) (mw k a i st)):b <= c:=by
 rcases Nat.lt_or_ge c b with z | z
 ·have:=cum_mono hk ha i st (show c + 1 <= b from z)
  omega
 ·exact z
def Fi (k:Nat) (a:List Nat):Nat->List Nat->List Nat->Prop
 | i,st,[]=>i = a.length/\st = []
 | i,st,b :: bs=>b < 2 * k/\pa_ k a i b = 1/\(b % 2 = 1->∃ s',st = b / 2 :: s')/\Fi k a (i + 1) (stb st b) bs
theorem Fi.len {k : Nat} {a : List Nat} : ∀ {bs : List Nat} {i : Nat} {st : List Nat}, Fi k a i st bs -> i + bs.length = a.length
  | [], _, _, h => h.1
  | b :: bs, i, st, h => by
    have := Fi.len h.2.2.2
    rw [List.length_cons]
    omega
theorem Fi.pos {k : Nat} {a : List Nat} (hk : k <= 4) (ha : a.length <= 40) : ∀ {bs : List Nat} {i : Nat} {st : List Nat}, (∀ o ∈ st, o < k) -> Fi k a i st bs -> NF k a i st (BrS.num k a i st bs) bs /\ 0 <= BrS.num k a i st bs /\ BrS.num k a i st bs < W k a i st
  | [], i, st, hst, h => by
    obtain ⟨h1, h2⟩ := h
    subst h1 h2
    refine ⟨⟨rfl, rfl⟩, Int.le_refl _, ?_⟩
    rw [W_end, if_pos rfl]
    exact Int.zero_lt_one
  | b :: bs, i, st, hst, h => by
    obtain ⟨h1, h2, h3, h4⟩ := h
    have hi : i < a.length := by have := Fi.len h4; omega
    have hst' : ∀ o ∈ stb st b, o < k := by
      unfold stb
      split
      · intro o ho
        rcases List.mem_cons.mp ho with z | z
        · omega
        · exact hst o z
      · intro o ho
        exact hst o (List.mem_of_mem_tail ho)
    obtain ⟨g1, g2, g3⟩ := Fi.pos hk ha hst' h4
    have ew : mw k a i st b = W k a (i + 1) (stb st b) := by
      unfold mw stb
      by_cases hev : b % 2 = 0
      · rw [if_pos hev, if_pos hev, h2, Int.one_mul]
      · obtain ⟨s', rfl⟩ := h3 (by omega)
        rw [if_neg hev, if_neg hev]
        show (if 2 * (b / 2) + 1 = b then pa_ k a i b * W k a (i + 1) s' else 0) = _
        rw [if_pos (by omega), h2, Int.one_mul]
        rfl
    have hs : sm (b + 1) (mw k a i st) = sm b (mw k a i st) + mw k a i st b := rfl
    have h0 : 0 <= sm b (mw k a i st) := sm_nonneg b fun j _ => mw_nonneg hk ha i st j
    have en : BrS.num k a i st (b :: bs) = sm b (mw k a i st) + BrS.num k a (i + 1) (stb st b) bs := rfl
    have hm := cum_mono hk ha i st (show b + 1 <= 2 * k by omega)
    rw [mw_all hi hst] at hm
    rw [en]
    refine ⟨⟨h1, by omega, by omega, ?_⟩, by omega, by omega⟩
    rw [show sm b (mw k a i st) + BrS.num k a (i + 1) (stb st b) bs - sm b (mw k a i st) = BrS.num k a (i + 1) (stb st b) bs by omega]
    exact g1
theorem NF.fl {k : Nat} {a : List Nat} (hk : k <= 4) (ha : a.length <= 40) : ∀ {bs : List Nat} {i : Nat} {st : List Nat} {l : Int}, i + bs.length = a.length -> (∀ o ∈ st, o < k) -> 0 <= l -> l < W k a i st -> NF k a i st l bs -> Fi k a i st bs
  | [], i, st, l, hn, hst, l0, l1, h => by
    have e : i = a.length := h.1
    subst e
    rw [W_end] at l1
    refine ⟨rfl, ?_⟩
    by_cases z : st = []
    · exact z
    · rw [if_neg z] at l1; omega
  | b :: bs, i, st, l, hn, hst, l0, l1, h => by
    obtain ⟨h1, h2, h3, h4⟩ := h
    rw [List.length_cons] at hn
    have hi : i < a.length := by omega
    have hs : sm (b + 1) (mw k a i st) = sm b (mw k a i st) + mw k a i st b := rfl
    obtain ⟨ew, hodd, hst', _⟩ := mw_pos hk ha hi hst h1 (by omega)
    have hp : 0 < mw k a i st b := by omega
    refine ⟨h1, (pa_01 hk hi).resolve_left fun z => ?_, fun ho => ?_, NF.fl hk ha (by omega) hst' (by omega) (by omega) h4⟩
    · unfold mw at hp
      rw [z] at hp
      split at hp
      · rw [Int.zero_mul] at hp; omega
      · cases st with
        | nil => exact absurd hp (Int.lt_irrefl _)
        | cons o s' =>
          have hp : 0 < (if 2 * o + 1 = b then 0 * W k a (i + 1) s' else 0) := hp
          split at hp
          · rw [Int.zero_mul] at hp; omega
          · omega
    · cases st with
      | nil => exact absurd rfl (hodd ho)
      | cons o s' =>
        unfold mw at hp
        rw [if_neg (by omega)] at hp
        have hp : 0 < (if 2 * o + 1 = b then pa_ k a i b * W k a (i + 1) s' else 0) := hp
        split at hp
        · rename_i e
          exact ⟨s', by rw [show b / 2 = o by omega]⟩
        · omega
end BrS
namespace BrS
open L2 PySem BrM BrC BrR
end BrS
namespace L2
open PySem PySem.Spec PyProof.Rows
def fnd (l:List Nat) (c:Nat):Int:=Txt.find ⟨l.toArray⟩ ⟨#[c]⟩
def rFnd:V->List V->Hp->VK->Prop:=fun x vs H Q=>∃ l c,x = tx l/\vs = [tx [c]]/\Q (.int (fnd l c)) H
theorem mt_find {X:Cx}:MtR X "str.find" rFnd:=by
 intro pins s σ H x vs v us Q I rx rv h
 obtain ⟨l,c,rfl,rfl,q⟩:=h
 obtain ⟨t,rfl⟩:=rx
 obtain ⟨u,rfl,t2,rfl⟩:=rv.one
 exact SC.find ⟨.int (fnd l c),H,I.tok _,⟨_,rfl⟩,q⟩
theorem s_fnd {l:List Nat} {c:Nat} {H:Hp} {Q:VK} (h:Q (.int (fnd l c)) H):rFnd (tx l) [tx [c]] H Q:=⟨l,c,rfl,rfl,h⟩
end L2
namespace BrS
open L2 PySem BrM BrC BrR
theorem fnd_brs:∀ b,b < 8->fnd brs (brs.getD b 0) = b:=by decide +kernel
end BrS
namespace PySem.SeqAt
open AutoSeq1 (wpAny_loadPart')
open MeetsSeq MeetsSeq2 MeetsSeq3 SeqRoads2
section
variable {prog:Program} {w:World} {A:Around} {E:Value->Shared->Prop} {s:Shared}
end
end PySem.SeqAt
namespace L2
open PySem PySem.Spec PyProof.Rows BrS
end L2
namespace PySem
open Sem (wp)
structure ZAp (z TI TO i1 i2:Addr) (fp1 fp2:List Addr):Prop where
 TIz:TI ≠ z
 TOz:TO ≠ z
 TITO:TI ≠ TO
 TIi1:TI ≠ i1
 TIi2:TI ≠ i2
 z1:z ∉ fp1
 z2:z ∉ fp2
 o1:TO ∉ fp1
 o2:TO ∉ fp2
 a12:i1 ∉ fp2
 a21:i2 ∉ fp1
 m1:i1 ∈ fp1
 m2:i2 ∈ fp2
section
variable {prog:Program} {w:World} {A:Around} {E:Value->Shared->Prop} {s:Shared}
variable {z TI TO i1 i2:Addr} {fp1 fp2:List Addr} {n1 n2 i:Nat} {P1 P2:Nat->Value->Prop} {S1 S2:Nat->Heap->Prop} {a b:Value}
theorem ZAp.i1z (D:ZAp z TI TO i1 i2 fp1 fp2):i1 ≠ z:=fun e=>D.z1 (e ▸ D.m1)
theorem ZAp.i2z (D:ZAp z TI TO i1 i2 fp1 fp2):i2 ≠ z:=fun e=>D.z2 (e ▸ D.m2)
theorem ZAp.i1o (D:ZAp z TI TO i1 i2 fp1 fp2):i1 ≠ TO:=fun e=>D.o1 (e ▸ D.m1)
theorem ZAp.i2o (D:ZAp z TI TO i1 i2 fp1 fp2):i2 ≠ TO:=fun e=>D.o2 (e ▸ D.m2)
theorem Draws.but {it c:Addr} {fp:List Addr} {n:Nat} {P:Nat->Value->Prop} {S:Nat->Heap->Prop} {h h':Heap} (D:Draws prog w A it fp n P S) (st:S i h) (k:Heap.ExtBut c h h') (hc:c ∉ fp):S i h':=D.frame _ _ _ st fun x hx o e=>k x o (fun q=>hc (q ▸ hx)) e
theorem zipD_next_item {Q : Value -> Shared -> Prop} (D : ZAp z TI TO i1 i2 fp1 fp2) (D1 : Draws prog w A i1 fp1 n1 P1 S1) (D2 : Draws prog w A i2 fp2 n2 P2 S2)
  (hz : IsZip s.heap z TI TO .none) (hTI : IsPair s.heap TI (.ref i1) (.ref i2)) (hTO : IsPair s.heap TO a b) (h1 : S1 i s.heap) (h2 : S2 i s.heap) (l1 : i < n1) (l2 : i < n2)
  (hQ : ∀ x y h' tk, P1 i x -> P2 i y -> IsZip h' z TI TO (rawInt s.heap.objs.size) -> IsPair h' TO x y -> S1 (i + 1) h' -> S2 (i + 1) h' -> IsPair h' s.heap.objs.size x y -> h'.objs.size = s.heap.objs.size + 1 ->
   (∀ c o, c ≠ z -> c ≠ TO -> c ≠ i1 -> c ≠ i2 -> s.heap.get? c = some o -> h'.get? c = some o) -> Q (.ref s.heap.objs.size) { s with heap := h', toks := tk }) :
  wpAny (model prog w) A (Builtin.«zip.__next__» ⟨[.ref z], []⟩) (fun fin s' => ∃ v, fin = .done (.ret v) /\ Q v s') E s := by
 obtain ⟨hp, g, d, tk₀, os⟩ := s
 show wpAny _ _ (field (.ref z) 2 >>= _) _ _ _
 refine wpAny_bind (wpAny_field hz rfl (x := .bool false) rfl ?_)
 show wpAny _ _ (field (.ref z) 3 >>= _) _ _ _
 refine wpAny_bind (wpAny_field hz rfl (x := .ref TI) rfl ?_)
 refine wpAny_bind (wpAny_seqItems hTI rfl ?_)
 show wpAny _ _ (Builtin.SmallTypes.ownedTupleIsFree (.ref z) >>= _) _ _ _
 refine wpAny_bind ?_
 unfold Builtin.SmallTypes.ownedTupleIsFree
 refine wpAny_bind (wpAny_field hz rfl (x := .none) rfl (wpAny_pure ?_))
 simp only [if_true]
 refine wpAny_bind (wpAny_rule ?_)
 refine wpAny_bind (wpAny_field hz rfl (x := .ref TO) rfl ?_)
 refine wpAny_bind (wpAny_setField_rec hz (by simp) fun h₁ hz₁ hs₁ => ?_)
 replace hz₁ : IsZip h₁ z TI TO .ellipsis := hz₁
 replace hs₁ : Heap.SameBut z hp h₁ := hs₁
 refine wpAny_bind ?_
 simp only [List.zipIdx_cons, List.zipIdx_nil, List.forIn_cons, List.forIn_nil]
 refine wpAny_bind (wpAny_bind (wpAny_onRaise ?_))
 show wpAny _ _ (Builtin.SmallTypes.nextOf (.ref i1) >>= _) _ _ _
 refine wpAny_bind (D1.item i _ _ _ l1 (D1.but h1 hs₁.extBut D.z1) fun x h₂ tk₂ hx h1₂ hs₂ => wpAny_pure ?_)
 replace hs₂ : Heap.SameBut i1 h₁ h₂ := hs₂
 have hTO₂ : IsPair h₂ TO a b := hs₂.extBut _ _ D.i1o.symm (hs₁.extBut _ _ D.TOz hTO)
 refine wpAny_bind (wpAny_seqItems hTO₂ rfl ?_)
 refine wpAny_bind (wpAny_updateSeq_pair hTO₂ fun h₃ hTO₃ hs₃ => ?_)
 replace hTO₃ : IsPair h₃ TO x b := hTO₃
 replace hs₃ : Heap.SameBut TO h₂ h₃ := hs₃
 refine wpAny_bind (wpAny_letGo (wpAny_pure ?_))
 refine wpAny_bind (wpAny_bind (wpAny_onRaise ?_))
 show wpAny _ _ (Builtin.SmallTypes.nextOf (.ref i2) >>= _) _ _ _
 refine wpAny_bind (D2.item i _ _ _ l2 (D2.but (D2.but (D2.but h2 hs₁.extBut D.z2) hs₂.extBut D.a12) hs₃.extBut D.o2) fun y h₄ tk₄ hy h2₄ hs₄ => wpAny_pure ?_)
 replace hs₄ : Heap.SameBut i2 h₃ h₄ := hs₄
 have hTO₄ : IsPair h₄ TO x b := hs₄.extBut _ _ D.i2o.symm hTO₃
 refine wpAny_bind (wpAny_seqItems hTO₄ rfl ?_)
 refine wpAny_bind (wpAny_updateSeq_pair hTO₄ fun h₅ hTO₅ hs₅ => ?_)
 replace hTO₅ : IsPair h₅ TO x y := hTO₅
 replace hs₅ : Heap.SameBut TO h₄ h₅ := hs₅
 refine wpAny_bind (wpAny_letGo (wpAny_pure (wpAny_pure ?_)))
 refine wpAny_bind (wpAny_seqItems hTO₅ rfl ?_)
 refine wpAny_bind (wpAny_newTuple ?_)
 have hsz : h₅.objs.size = hp.objs.size := by rw [hs₅.1, hs₄.1, hs₃.1, hs₂.1, hs₁.1]
 have hz₅ : IsZip h₅ z TI TO .ellipsis := hs₅.extBut _ _ D.TOz.symm (hs₄.extBut _ _ D.i2z.symm (hs₃.extBut _ _ D.TOz.symm (hs₂.extBut _ _ D.i1z.symm hz₁)))
 have hk₅ : ∀ c o, c ≠ z -> c ≠ TO -> c ≠ i1 -> c ≠ i2 -> hp.get? c = some o -> h₅.get? c = some o := fun c o c1 c2 c3 c4 e =>
  hs₅.extBut _ _ c2 (hs₄.extBut _ _ c4 (hs₃.extBut _ _ c2 (hs₂.extBut _ _ c3 (hs₁.extBut _ _ c1 e))))
 have h1₅ : S1 (i + 1) h₅ := D1.but (D1.but (D1.but h1₂ hs₃.extBut D.o1) hs₄.extBut D.a21) hs₅.extBut D.o1
 have h2₅ : S2 (i + 1) h₅ := D2.but h2₄ hs₅.extBut D.o2
 have hzlt : z < h₅.objs.size := Heap.lt_size hz₅
 show wpAny _ _ (Builtin.SmallTypes.ownedTupleHandOut (.ref z) (.ref h₅.objs.size) >>= _) _ _ _
 refine wpAny_bind ?_
 unfold Builtin.SmallTypes.ownedTupleHandOut
 have hz₆ : IsZip (h₅.push { cls := .type "tuple", data := .seq #[x, y] }) z TI TO .ellipsis := Heap.get?_push_of_some _ hz₅
 refine wpAny_bind (wpAny_setField_rec hz₆ (by simp) fun h₇ hz₇ hs₇ => ?_)
 replace hz₇ : IsZip h₇ z TI TO (rawInt h₅.objs.size) := hz₇
 replace hs₇ : Heap.SameBut z (h₅.push { cls := .type "tuple", data := .seq #[x, y] }) h₇ := hs₇
 refine wpAny_setField_rec hz₇ (by simp) fun h₈ hz₈ hs₈ => ?_
 replace hz₈ : IsZip h₈ z TI TO (rawInt h₅.objs.size) := hz₈
 replace hs₈ : Heap.SameBut z h₇ h₈ := hs₈
 have up : ∀ c o, c ≠ z -> h₅.get? c = some o -> h₈.get? c = some o := fun c o c1 e => hs₈.extBut _ _ c1 (hs₇.extBut _ _ c1 (Heap.get?_push_of_some _ e))
 have hT₈ : IsPair h₈ h₅.objs.size x y := hs₈.extBut _ _ (Nat.ne_of_gt hzlt) (hs₇.extBut _ _ (Nat.ne_of_gt hzlt) (Heap.get?_push_size _ rfl))
 have hz8 : h₈.objs.size = h₅.objs.size + 1 := by rw [hs₈.1, hs₇.1, Heap.size_push]
 rw [hsz] at hz₈ hT₈ hz8
 refine wpAny_pure ⟨_, rfl, ?_⟩
 show Q (.ref h₅.objs.size) _
 rw [hsz]
 exact hQ x y h₈ _ hx hy hz₈ (up _ _ D.TOz hTO₅) (D1.frame _ _ _ h1₅ fun c hc o e => up c o (fun q => D.z1 (q ▸ hc)) e) (D2.frame _ _ _ h2₅ fun c hc o e => up c o (fun q => D.z2 (q ▸ hc)) e) hT₈ hz8 fun c o c1 c2 c3 c4 e => up c o c1 (hk₅ c o c1 c2 c3 c4 e)
theorem zipD_next_end {Q:Fin->Shared->Prop} (D:ZAp z TI TO i1 i2 fp1 fp2) (D1:Draws prog w A i1 fp1 n1 P1 S1) (D2:Draws prog w A i2 fp2 n2 P2 S2)
  (hz:IsZip s.heap z TI TO .none) (hTI:IsPair s.heap TI (.ref i1) (.ref i2)) (hTO:IsPair s.heap TO a b) (h1:S1 i s.heap) (h2:S2 i s.heap) (hend:i = n1\/(i < n1/\i = n2))
  (hE:∀ h' tk e,(∀ c o,c ≠ z->c ≠ TO->c ≠ i1->c ≠ i2->s.heap.get? c = some o->h'.get? c = some o)->(∃ o,h'.get? e = some o/\o.cls = .type "StopIteration")->E (.ref e) { s with heap:=h',toks:=tk }) :
  wpAny (model prog w) A (Builtin.«zip.__next__» ⟨[.ref z],[]⟩) Q E s:=by
 obtain ⟨hp,g,d,tk₀,os⟩:=s
 show wpAny _ _ (field (.ref z) 2 >>= _) _ _ _
 refine wpAny_bind (wpAny_field hz rfl (x:=.bool false) rfl ?_)
 show wpAny _ _ (field (.ref z) 3 >>= _) _ _ _
 refine wpAny_bind (wpAny_field hz rfl (x:=.ref TI) rfl ?_)
 refine wpAny_bind (wpAny_seqItems hTI rfl ?_)
 show wpAny _ _ (Builtin.SmallTypes.ownedTupleIsFree (.ref z) >>= _) _ _ _
 refine wpAny_bind ?_
 unfold Builtin.SmallTypes.ownedTupleIsFree
 refine wpAny_bind (wpAny_field hz rfl (x:=.none) rfl (wpAny_pure ?_))
 simp only [if_true]
 refine wpAny_bind (wpAny_rule ?_)
 refine wpAny_bind (wpAny_field hz rfl (x:=.ref TO) rfl ?_)
 refine wpAny_bind (wpAny_setField_rec hz (by simp) fun h₁ hz₁ hs₁=>?_)
 replace hz₁:IsZip h₁ z TI TO .ellipsis:=hz₁
 replace hs₁:Heap.SameBut z hp h₁:=hs₁
 refine wpAny_bind ?_
 simp only [List.zipIdx_cons,List.zipIdx_nil,List.forIn_cons,List.forIn_nil]
 refine wpAny_bind (wpAny_bind (wpAny_onRaise ?_))
 show wpAny _ _ (Builtin.SmallTypes.nextOf (.ref i1) >>= _) _ _ _
 rcases hend with rfl | ⟨l1,rfl⟩
 ·refine wpAny_bind (D1.done _ _ _ (D1.but h1 hs₁.extBut D.z1) fun h₂ e hs₂ he=>?_)
  replace hs₂:Heap.ExtBut i1 h₁ h₂:=hs₂
  obtain ⟨oe,hoe,hce⟩:=he
  have hz₂:IsZip h₂ z TI TO .ellipsis:=hs₂ _ _ D.i1z.symm hz₁
  have hez:e ≠ z:=fun x=>by subst x; rw [hz₂] at hoe; cases hoe; simp at hce
  refine wpAny_setField_rec hz₂ (by simp) fun h₃ _ hs₃=>?_
  replace hs₃:Heap.SameBut z h₂ h₃:=hs₃
  exact hE h₃ _ e (fun c o c1 _ c3 _ x=>hs₃.extBut _ _ c1 (hs₂ _ _ c3 (hs₁.extBut _ _ c1 x))) ⟨oe,hs₃.extBut _ _ hez hoe,hce⟩
 ·refine wpAny_bind (D1.item i _ _ _ l1 (D1.but h1 hs₁.extBut D.z1) fun x h₂ tk₂ hx h1₂ hs₂=>wpAny_pure ?_)
  replace hs₂:Heap.SameBut i1 h₁ h₂:=hs₂
  have hTO₂:IsPair h₂ TO a b:=hs₂.extBut _ _ D.i1o.symm (hs₁.extBut _ _ D.TOz hTO)
  refine wpAny_bind (wpAny_seqItems hTO₂ rfl ?_)
  refine wpAny_bind (wpAny_updateSeq_pair hTO₂ fun h₃ hTO₃ hs₃=>?_)
  replace hs₃:Heap.SameBut TO h₂ h₃:=hs₃
  refine wpAny_bind (wpAny_letGo (wpAny_pure ?_))
  refine wpAny_bind (wpAny_bind (wpAny_onRaise ?_))
  show wpAny _ _ (Builtin.SmallTypes.nextOf (.ref i2) >>= _) _ _ _
  refine wpAny_bind (D2.done _ _ _ (D2.but (D2.but (D2.but h2 hs₁.extBut D.z2) hs₂.extBut D.a12) hs₃.extBut D.o2) fun h₄ e hs₄ he=>?_)
  replace hs₄:Heap.ExtBut i2 h₃ h₄:=hs₄
  obtain ⟨oe,hoe,hce⟩:=he
  have hz₄:IsZip h₄ z TI TO .ellipsis:=hs₄ _ _ D.i2z.symm (hs₃.extBut _ _ D.TOz.symm (hs₂.extBut _ _ D.i1z.symm hz₁))
  have hez:e ≠ z:=fun x=>by subst x; rw [hz₄] at hoe; cases hoe; simp at hce
  refine wpAny_setField_rec hz₄ (by simp) fun h₅ _ hs₅=>?_
  replace hs₅:Heap.SameBut z h₄ h₅:=hs₅
  exact hE h₅ _ e (fun c o c1 c2 c3 c4 x=>hs₅.extBut _ _ c1 (hs₄ _ _ c4 (hs₃.extBut _ _ c2 (hs₂.extBut _ _ c3 (hs₁.extBut _ _ c1 x))))) ⟨oe,hs₅.extBut _ _ hez hoe,hce⟩
theorem pyNext_zipD {Q : Option Value -> Shared -> Prop} (D : ZAp z TI TO i1 i2 fp1 fp2) (D1 : Draws prog w A.in1 i1 fp1 n1 P1 S1) (D2 : Draws prog w A.in1 i2 fp2 n2 P2 S2)
  (hz : IsZip s.heap z TI TO .none) (hTI : IsPair s.heap TI (.ref i1) (.ref i2)) (hTO : IsPair s.heap TO a b) (h1 : S1 i s.heap) (h2 : S2 i s.heap) (l1 : i < n1) (l2 : i < n2)
  (hQ : ∀ x y h' tk, P1 i x -> P2 i y -> IsZip h' z TI TO (rawInt s.heap.objs.size) -> IsPair h' TO x y -> S1 (i + 1) h' -> S2 (i + 1) h' -> IsPair h' s.heap.objs.size x y -> h'.objs.size = s.heap.objs.size + 1 ->
   (∀ c o, c ≠ z -> c ≠ TO -> c ≠ i1 -> c ≠ i2 -> s.heap.get? c = some o -> h'.get? c = some o) -> Q (some (.ref s.heap.objs.size)) { s with heap := h', toks := tk }) :
  wpAny (model prog w) A (pyNext (.ref z)) Q E s := by
 have hT : s.TypeIs (.ref z) "zip" := ⟨_, hz, rfl⟩
 unfold pyNext
 exact wpAny_bind (wpAny_attempt (wpAny_callSpecial?_slot (name := Str.ofString "__next__") hT F.slot_zip_next
  (wpAny_call_entry F.slot_zip_next hT F.entry_zip_next
   (zipD_next_item D D1 D2 hz hTI hTO h1 h2 l1 l2 fun x y h' tk p1 p2 a1 a2 a3 a4 a5 a6 a7 => wpAny_pure (hQ x y h' tk p1 p2 a1 a2 a3 a4 a5 a6 a7)) (F.args_zip_next_1 _))))
theorem pyNext_zipD_end {Q:Option Value->Shared->Prop} (D:ZAp z TI TO i1 i2 fp1 fp2) (D1:Draws prog w A.in1 i1 fp1 n1 P1 S1) (D2:Draws prog w A.in1 i2 fp2 n2 P2 S2)
  (hz:IsZip s.heap z TI TO .none) (hTI:IsPair s.heap TI (.ref i1) (.ref i2)) (hTO:IsPair s.heap TO a b) (h1:S1 i s.heap) (h2:S2 i s.heap) (hend:i = n1\/(i < n1/\i = n2))
  (hQ:∀ h' tk,(∀ c o,c ≠ z->c ≠ TO->c ≠ i1->c ≠ i2->s.heap.get? c = some o->h'.get? c = some o)->Q none { s with heap:=h',toks:=tk }):wpAny (model prog w) A (pyNext (.ref z)) Q E s:=by
 have hT:s.TypeIs (.ref z) "zip":=⟨_,hz,rfl⟩
 unfold pyNext
 refine wpAny_bind (wpAny_attempt (wpAny_callSpecial?_slot (name:=Str.ofString "__next__") hT F.slot_zip_next
  (wpAny_call_entry F.slot_zip_next hT F.entry_zip_next (zipD_next_end D D1 D2 hz hTI hTO h1 h2 hend fun h' tk e hk he=>?_) (F.args_zip_next_1 _))))
 obtain ⟨o,ho,hc⟩:=he
 refine wpAny_bind (wpAny_isInstance (T:="StopIteration") (b:=true) ⟨o,ho,hc⟩ isSubtype_stop ?_)
 exact wpAny_pure (hQ _ _ hk)
end
end PySem
namespace L2
open PySem PySem.Spec PyProof.Rows
section
variable {P:Program} {w:World} {K:PySem.W.Frag} {elts:List Expr} {k:Nat} {tpos:Pos}
theorem zip_item {X:Cx} {pins:List (Addr × Obj)} {σ:St} {H:Hp} {s:Shared} {E:Value->Shared->Prop} {z TI TO i1 i2:Addr} {fp1 fp2:List Addr} {n1 n2 i:Nat} {P1 P2:Nat->Value->Prop} {S1 S2:Nat->Heap->Prop} {a b:Value} {Qx Qy:Value->V->Prop} {tn:Heap->Prop}
  (D:ZAp z TI TO i1 i2 fp1 fp2) (D1:Draws X.prog X.w X.A.in1 i1 fp1 n1 P1 S1) (D2:Draws X.prog X.w X.A.in1 i2 fp2 n2 P2 S2) (I:Inv X pins σ H s) (hf:∀ b ∈ [z,TI,TO,i1,i2],FpOk X pins H b)
  (hz:IsZip s.heap z TI TO .none) (hTI:IsPair s.heap TI (.ref i1) (.ref i2)) (hTO:IsPair s.heap TO a b) (h1:S1 i s.heap) (h2:S2 i s.heap) (l1:i < n1) (l2:i < n2)
  (tnk:∀ h' x y,IsZip h' z TI TO .none->IsPair h' TI (.ref i1) (.ref i2)->IsPair h' TO x y->S1 (i + 1) h'->S2 (i + 1) h'->tn h') (y1:∀ v,P1 i v->∃ q,RelV q v/\Qx v q) (y2:∀ v,P2 i v->∃ q,RelV q v/\Qy v q) :
  wpAny (model X.prog X.w) X.A (pyNext (.ref z)) (fun r s1=>∃ u,r = some u/\wpAny (model X.prog X.w) X.A (letOwnedTupleGo (.Tuple elts k tpos) (.ref z) u) (fun _ s2=>∃ x H',Inv X pins σ H' s2/\RelV x u /\
   (∃ T q1 q2 v1 v2,H T = none/\Qx v1 q1/\Qy v2 q2/\x = .ref T/\H' = upd H T (.tup [q1,q2]))/\tn s2.heap/\∀ b ∈ [z,TI,TO,i1,i2],H' b = none) E s1) E s:=by
 refine pyNext_zipD D D1 D2 hz hTI hTO h1 h2 l1 l2 fun x y h1' tk p1 p2 a1 a2 a3 a4 a5 a6 a7=>⟨_,rfl,wpAny_letOwnedTupleGo_zip a1 fun h2' hz2 hs2=>?_⟩
 replace hs2:Heap.SameBut z h1' h2':=hs2
 obtain ⟨q1,r1,e1⟩:=y1 x p1
 obtain ⟨q2,r2,e2⟩:=y2 y p2
 have hzl:z < s.heap.objs.size:=Heap.lt_size hz
 have hT2:h2'.get? s.heap.objs.size = some { cls:=.type "tuple",data:=.seq #[x,y] }:=(hs2.2 _ (Nat.ne_of_gt hzl)).trans a5
 have ob:ObjOk X.prog X.w (upd H s.heap.objs.size (.tup [q1,q2])) h2' s.heap.objs.size (.tup [q1,q2]):=⟨(by show 2 <= sizeLine; decide),[x,y],.cons r1 (.cons r2 .nil),⟨_,hT2,rfl,_,rfl⟩⟩
 have I2:Inv X pins σ (upd H s.heap.objs.size (.tup [q1,q2])) { s with heap:=h2',toks:=tk }:=I.turnedLaid hf (fun b u hb q=>(hs2.2 b (fun z=>hb (by simp [z]))).trans (a7 b u (fun z=>hb (by simp [z])) (fun z=>hb (by simp [z])) (fun z=>hb (by simp [z])) (fun z=>hb (by simp [z])) q)) (Nat.le_refl _) ob
 have up:∀ c o,c ≠ z->h1'.get? c = some o->h2'.get? c = some o:=fun c o hc e=>(hs2.2 c hc).trans e
 refine ⟨.ref s.heap.objs.size,_,I2,rfl,⟨s.heap.objs.size,q1,q2,x,y,I.hok.fresh (Nat.le_refl _),e1,e2,rfl,rfl⟩,tnk h2' x y hz2 (up _ _ D.TIz (a7 _ _ D.TIz D.TITO D.TIi1 D.TIi2 hTI)) (up _ _ D.TOz a2) (D1.frame _ _ _ a3 fun c hc o e=>up c o (fun q=>D.z1 (q ▸ hc)) e) (D2.frame _ _ _ a4 fun c hc o e=>up c o (fun q=>D.z2 (q ▸ hc)) e),fun b hb=>?_⟩
 have hlt:b < s.heap.objs.size:=by
  simp only [List.mem_cons,List.not_mem_nil,or_false] at hb
  rcases hb with e | e | e | e | e
  ·rw [e]; exact hzl
  ·rw [e]; exact Heap.lt_size hTI
  ·rw [e]; exact Heap.lt_size hTO
  ·rw [e]; obtain ⟨_,q⟩:=D1.live _ _ h1; exact Heap.lt_size q
  ·rw [e]; obtain ⟨_,q⟩:=D2.live _ _ h2; exact Heap.lt_size q
 rw [upd_ne (Nat.ne_of_lt hlt)]
 exact (hf b hb).1
end
section
variable {X:Cx} {a b:Expr} {ta:TA} {p pos:Pos} {elts:List Expr} {k:Nat} {tpos:Pos}
theorem fresh5 {pins:List (Addr × Obj)} {σ:St} {H:Hp} {s:Shared} (I:Inv X pins σ H s):∀ b ∈ [s.heap.objs.size + 4,s.heap.objs.size + 2,s.heap.objs.size + 3,s.heap.objs.size,s.heap.objs.size + 1],FpOk X pins H b:=fun b hb=>by
 have:s.heap.objs.size <= b:=by
  simp only [List.mem_cons,List.not_mem_nil,or_false] at hb
  rcases hb with e | e | e | e | e <;> omega
 exact I.fpOk this (I.hok.fresh this)
theorem zap5 (n:Nat):ZAp (n + 4) (n + 2) (n + 3) n (n + 1) [n] [n + 1]:=by
 constructor <;> simp <;> omega
end
end L2
namespace L2
open PySem PySem.Spec PyProof.Rows
section
variable {σ:St} {H:Hp} {Q:VK} {K:PySem.W.Frag}
end
end L2
namespace BrS
open L2 PySem BrM BrC BrR
theorem brs_get {b:Nat} (h:b < 8):brs[b]? = some (brs.getD b 0):=by
 match b,h with
 | 0,_=>rfl
 | 1,_=>rfl
 | 2,_=>rfl
 | 3,_=>rfl
 | 4,_=>rfl
 | 5,_=>rfl
 | 6,_=>rfl
 | 7,_=>rfl
theorem brs_evn:∀ o,o < 4->brs.getD (2 * o) 0 ∈ opn/\clo (brs.getD (2 * o) 0) = brs.getD (2 * o + 1) 0/\brs.getD (2 * o + 1) 0 ∉ opn:=by decide
theorem brs_ne:∀ b,b < 8->brs.getD b 0 ≠ 63:=by decide
def cl_ (st:List Nat):List Nat:=st.map fun o=>brs.getD (2 * o + 1) 0
theorem Fi.run {k : Nat} {a : List Nat} (hk : k <= 4) : ∀ {bs : List Nat} {i : Nat} {st : List Nat}, (∀ o ∈ st, o < k) -> Fi k a i st bs -> run (cl_ st) (brt bs) = some []
  | [], i, st, hst, h => by
    obtain ⟨_, rfl⟩ := h
    rfl
  | b :: bs, i, st, hst, h => by
    obtain ⟨h1, h2, h3, h4⟩ := h
    have e : brt (b :: bs) = brs.getD b 0 :: brt bs := rfl
    rw [e]
    show (BrM.stp (cl_ st) (brs.getD b 0)).bind _ = _
    by_cases hev : b % 2 = 0
    · obtain ⟨q1, q2, q3⟩ := brs_evn (b / 2) (by omega)
      rw [show 2 * (b / 2) = b by omega] at q1 q2 q3
      rw [stp_open q1, q2]
      have es : stb st b = b / 2 :: st := by unfold stb; rw [if_pos hev]
      rw [es] at h4
      have := Fi.run hk (st := b / 2 :: st) (fun o ho => by
        rcases List.mem_cons.mp ho with z | z
        · omega
        · exact hst o z) h4
      have ec : cl_ (b / 2 :: st) = brs.getD (b + 1) 0 :: cl_ st := by
        show brs.getD (2 * (b / 2) + 1) 0 :: cl_ st = _
        rw [show 2 * (b / 2) = b by omega]
      rw [ec] at this
      exact this
    · obtain ⟨s', rfl⟩ := h3 (by omega)
      obtain ⟨q1, q2, q3⟩ := brs_evn (b / 2) (by omega)
      have eb : 2 * (b / 2) + 1 = b := by omega
      rw [eb] at q3
      have ec : cl_ (b / 2 :: s') = brs.getD b 0 :: cl_ s' := by
        show brs.getD (2 * (b / 2) + 1) 0 :: cl_ s' = _
        rw [eb]
      rw [ec, stp_close q3]
      have es : stb (b / 2 :: s') b = s' := by unfold stb; rw [if_neg hev]; rfl
      rw [es] at h4
      exact Fi.run hk (fun o ho => hst o (List.mem_cons_of_mem _ ho)) h4
theorem pw_one {k c b:Nat} (hk:k <= 4) (hb:b < 2 * k) (h:pw k c b = 1):c = 63\/c = brs.getD b 0:=by
 by_cases hc:c = 63
 ·exact .inl hc
 ·refine .inr ?_
  unfold pw plw at h
  rw [if_neg hc,List.getD_eq_getElem?_getD,List.getElem?_map,List.getElem?_take,if_pos (show b < (ones k).length by unfold ones; rw [List.length_replicate]; exact hb),brs_get (by omega)] at h
  have h:(if c = brs.getD b 0 then (1:Int) else 0) = 1:=h
  split at h
  ·assumption
  ·cases h
theorem pa_pw {k:Nat} {a:List Nat} {i c:Nat} (h:a[i]? = some c) (b:Nat):pa_ k a i b = pw k c b:=by
 show ((a.map (plw (ones k))).getD i []).getD b 0 = _
 have e:(a.map (plw (ones k))).getD i [] = plw (ones k) c:=by rw [List.getD_eq_getElem?_getD,List.getElem?_map,h]; rfl
 rw [e]; rfl
def Fll (k:Nat):List Nat->List Nat->List Nat->Prop
 | [],st,[]=>st = []
 | c :: r,st,b :: bs=>b < 2 * k/\pw k c b = 1/\(b % 2 = 1->∃ s',st = b / 2 :: s')/\Fll k r (stb st b) bs
 | _,_,_=>False
theorem Fi.l {k : Nat} {a : List Nat} : ∀ {bs : List Nat} {i : Nat} {st : List Nat}, Fi k a i st bs -> Fll k (a.drop i) st bs
  | [], i, st, h => by
    obtain ⟨rfl, rfl⟩ := h
    rw [List.drop_length]
    rfl
  | b :: bs, i, st, h => by
    have hi : i < a.length := by have := h.len; rw [List.length_cons] at this; omega
    obtain ⟨h1, h2, h3, h4⟩ := h
    rw [List.drop_eq_getElem_cons hi]
    rw [pa_pw (List.getElem?_eq_getElem hi)] at h2
    exact ⟨h1, h2, h3, Fi.l h4⟩
theorem Fll.fl {k : Nat} {a : List Nat} : ∀ {bs : List Nat} {i : Nat} {st : List Nat}, i <= a.length -> Fll k (a.drop i) st bs -> Fi k a i st bs
  | [], i, st, hi, h => by
    cases e : a.drop i with
    | nil =>
      rw [e] at h
      have := List.drop_eq_nil_iff.mp e
      exact ⟨by omega, h⟩
    | cons c r => rw [e] at h; exact h.elim
  | b :: bs, i, st, hi, h => by
    by_cases hi' : i < a.length
    · rw [List.drop_eq_getElem_cons hi'] at h
      obtain ⟨h1, h2, h3, h4⟩ := h
      exact ⟨h1, by rw [pa_pw (List.getElem?_eq_getElem hi')]; exact h2, h3, Fll.fl hi' h4⟩
    · rw [List.drop_eq_nil_iff.mpr (by omega)] at h
      exact h.elim
theorem Fll.len {k:Nat}:∀ {a st bs:List Nat},Fll k a st bs->bs.length = a.length
 | [],_,[],_=>rfl
 | c :: r,st,b :: bs,h=>by rw [List.length_cons,List.length_cons,Fll.len h.2.2.2]
 | [],_,_ :: _,h=>h.elim
 | _ :: _,_,[],h=>h.elim
theorem Fll.at {k : Nat} : ∀ {a st bs : List Nat}, Fll k a st bs -> ∀ {i c b : Nat}, a[i]? = some c -> bs[i]? = some b -> b < 2 * k /\ pw k c b = 1
  | c :: r, st, b :: bs, h, 0, c', b', h1, h2 => by
    obtain rfl : c = c' := Option.some.inj h1
    obtain rfl : b = b' := Option.some.inj h2
    exact ⟨h.1, h.2.1⟩
  | c :: r, st, b :: bs, h, i + 1, c', b', h1, h2 => Fll.at h.2.2.2 (i := i) h1 h2
  | [], _, _, _, i, _, _, h1, _ => by simp at h1
  | _ :: _, _, [], _, i, _, _, _, h2 => by simp at h2
def exk (p q o:Nat):Nat:=if o = p then q else if o = q then p else o
def exb (p q b:Nat):Nat:=2 * exk p q (b / 2) + b % 2
def exc (p q c:Nat):Nat:=if c = 63 then 63 else brs.getD (exb p q (fnd brs c).toNat) 0
theorem exk_lt {p q o k:Nat} (hp:p < k) (hq:q < k) (ho:o < k):exk p q o < k:=by unfold exk; split; exact hq; split; exact hp; exact ho
theorem exb_lt {p q b k:Nat} (hp:p < k) (hq:q < k) (hb:b < 2 * k):exb p q b < 2 * k:=by
 have:=exk_lt hp hq (show b / 2 < k by omega)
 unfold exb
 omega
theorem exb_half (p q b:Nat):exb p q b / 2 = exk p q (b / 2):=by unfold exb; omega
theorem exb_mod (p q b:Nat):exb p q b % 2 = b % 2:=by unfold exb; omega
theorem exc_brs {p q b:Nat} (h:b < 8):exc p q (brs.getD b 0) = brs.getD (exb p q b) 0:=by
 unfold exc
 rw [if_neg (brs_ne b h),fnd_brs b h,Int.toNat_natCast]
theorem Fll.ex {p q k : Nat} (hk : k <= 4) (hp : p < k) (hq : q < k) : ∀ {a st bs : List Nat}, Fll k a st bs -> Fll k (a.map (exc p q)) (st.map (exk p q)) (bs.map (exb p q))
  | [], st, [], h => by
    have h : st = [] := h
    subst h
    rfl
  | c :: r, st, b :: bs, h => by
    obtain ⟨h1, h2, h3, h4⟩ := h
    have hb' := exb_lt hp hq h1
    have es : stb (st.map (exk p q)) (exb p q b) = (stb st b).map (exk p q) := by
      unfold stb
      rw [exb_mod, exb_half]
      split
      · rfl
      · rw [List.map_tail]
    refine ⟨hb', ?_, fun ho => ?_, ?_⟩
    · rcases pw_one hk h1 h2 with rfl | rfl
      · exact pw_unk hb'
      · show pw k (exc p q (brs.getD b 0)) _ = 1
        rw [exc_brs (by omega), pw_at hb' (by omega) (brs_get (by omega)), if_pos rfl]
    · rw [exb_mod] at ho
      obtain ⟨s', rfl⟩ := h3 ho
      exact ⟨s'.map (exk p q), by rw [exb_half]; rfl⟩
    · rw [es]
      exact Fll.ex hk hp hq h4
  | [], _, _ :: _, h => h.elim
  | _ :: _, _, [], h => h.elim
end BrS
namespace BrS
open L2 PySem BrM BrC BrR
end BrS
namespace BrS
open L2 PySem BrM BrC BrR
end BrS
namespace BrS
open L2 PySem BrM BrC BrR
end BrS
namespace L2
open PySem PySem.Spec PyProof.Rows
section
variable {σ:St} {H:Hp} {Q:VK} {K:PySem.W.Frag}
end
end L2
namespace L2
open PySem
end L2
namespace L2
open PySem PySem.Spec PyProof.Rows
structure MeUE (P:Program) (w:World) (K:PySem.W.Frag) (mg:Str->Option Value) (base:Heap) (k:Nat) (C:Addr) (m:Str) (ps:List Str) (sp:Sp):Prop where
 ex:∃ f fd,FnOk P w K mg base (CXE P w) k f fd ps sp/\Meth K C m f/\Binds K fd ps []
theorem MeUE.mono {P:Program} {w:World} {K:PySem.W.Frag} {mg:Str->Option Value} {base:Heap} {j k:Nat} {C:Addr} {m:Str} {ps:List Str} {sp:Sp} (U:MeUE P w K mg base j C m ps sp) (h:j <= k):MeUE P w K mg base k C m ps sp :=
 let ⟨f,fd,F,a,b⟩:=U.ex; ⟨f,fd,F.mono h,a,b⟩
def tMethE (C:Addr) (m:Str) (sp:Sp) (R:XR) (ta:TE) (t:TA):TE:=fun σ H Q=>ta σ H fun x H1=>∃ a dx fs,x = .ref a/\H1 a = some (.ins C dx fs)/\fs.lookup m = none/\t σ H1 fun vs H2=>sp (x :: vs) H2 Q (xk R σ)
section
variable {X:Cx} {R:XR} {k:Nat} {f C:Addr} {fd:FuncData} {ps:List Str} {sp:Sp} {x m:Str} {p pos apos:Pos} {e o:Expr} {es:List Expr} {ta:TE} {t:TA}
theorem run_fnE {pins : List (Addr × Obj)} {σ : St} {H : Hp} {s : Shared} {Q : VK} {us : List Value} {vs : List V} (F : FnOk X.prog X.w X.K X.mg X.base (CXE X.prog X.w) k f fd ps sp) (hr : Room k X.A) (hb : Binds X.K fd ps []) (hx : ∀ e s', XF X R e s' -> X.xe e s')
    (I : Inv X pins σ H s) (r : Vals vs us) (h : sp vs H Q (xk R σ)) : wpAny (model X.prog X.w) X.A (call (.ref f) us) (EP X pins σ Q) X.xe s := by
  have hl : us.length = ps.length := by rw [<- r.length]; exact F.len _ _ _ _ h
  refine wpAny_call (codeAny_mono (F.run X.A X.stack s H ⟨us, []⟩ us vs Q (xk R σ) hr I.env0 ?_ r h) fun res s' hq => ?_)
  · have z := hb s us I.kIn (by rw [List.append_nil]; exact hl)
    rw [List.append_nil] at z; exact z
  · cases res with
    | error ev => exact hx _ _ ⟨pins, σ, H, s, I, hq⟩
    | ok fl =>
      cases fl with
      | ret u => exact I.after hq
      | next => exact False.elim hq
      | brk => exact False.elim hq
      | cont => exact False.elim hq
theorem pe_mthE {pl : Sem Bool} (c : Cls X.K C) (U : MeUE X.prog X.w X.K X.mg X.base k C m ps sp) (hr : Room k X.A) (hx : ∀ e s', XF X R e s' -> X.xe e s') (he : PE X o ta) (ha : PA X (e :: es) t)
  (hst : starEach (e :: es) X.env = (false, eval e X.env) :: starEach es X.env := by rfl) (hpl : (backTo pos (starEach es X.env)).any (·.1) = false := by rfl)
  (ht : eval (.Call (.Attribute o m apos) (e :: es) [] pos) X.env = (do
   let ov <- eval o X.env
   standAt apos.atName
   let (f, first) <- holding [ov] (getMethod ov m pl)
   callWith pos f first (backTo pos (starEach (e :: es) X.env)) (backToKw pos (keywordEach [] X.env))) := by rfl) :
  PE X (.Call (.Attribute o m apos) (e :: es) [] pos) (tMethE C m sp R ta t) := by
 obtain ⟨f, fd, F, hm, hb⟩ := U.ex
 intro pins s σ H Q I h
 refine PySem.W.methodCall_KW (pl := pl) (thn (he pins s σ H _ I h) fun u s1 ⟨x, H1, I1, rx, a, dx, fs, ex, ea, l, q⟩ => ?_) ht
 subst ex
 obtain rfl : u = Value.ref a := rx
 refine getmeth_ok I1 ea c hm l ?_
 refine PySem.W.callWith_K (first := [.ref a]) (h₀ := X.base) I.ok.mod.kin hm.kp (thn (ha pos pins s1 σ H1 _ I1 q) fun us s2 ⟨vs, H2, I2, r, q2⟩ => ⟨I2.kIn, ?_⟩) hst hpl
 exact run_fnE (us := .ref a :: us) (vs := .ref a :: vs) F hr hb hx I2 (.cons rfl r) q2
end
section
variable {σ:St} {H:Hp} {Q:VK} {C:Addr} {m:Str} {sp:Sp} {R:XR} {ta:TE} {t:TA}
theorem s_methE (h:ta σ H fun x H1=>∃ a dx fs,x = .ref a/\H1 a = some (.ins C dx fs)/\fs.lookup m = none/\t σ H1 fun vs H2=>sp (x :: vs) H2 Q (xk R σ)):tMethE C m sp R ta t σ H Q:=h
end
end L2
namespace BrB
open BrM BrC
def cl:List Nat->Nat->Option (List Nat)
 | [],_=>none
 | p :: s,q=>if p = q then some s else none
def nx (k:Nat) (st:List Nat) (b:Nat):Option (List Nat):=if b < 2 * k then (if b % 2 = 0 then some (b / 2 :: st) else cl st (b / 2)) else none
def go (k:Nat):List Nat->List Nat->Option (List Nat)
 | st,[]=>some st
 | st,b :: r=>(nx k st b).bind fun s=>go k s r
theorem go_nil {k:Nat} (st:List Nat):go k st [] = some st:=by rw [go]
def Rg (k:Nat) (l:List Nat):Prop:=go k [] l = some []
theorem lt_tri (a b:List Nat):a < b\/a = b\/b < a:=by
 by_cases h:a < b
 ·exact .inl h
 ·by_cases h2:b < a
  ·exact .inr (.inr h2)
  ·exact .inr (.inl (List.le_antisymm (List.not_lt.mp h2) (List.not_lt.mp h)))
theorem nlt_trans {a b c:List Nat} (h1:¬ b < a) (h2:¬ c < b):¬ c < a:=fun h=>by
 rcases lt_tri b c with z | z | z
 ·exact h1 (List.lt_trans z h)
 ·exact h1 (z ▸ h)
 ·exact h2 z
abbrev O:=Option (Int × List Nat)
def lik:O->O->O
 | none,b=>b
 | some a,none=>some a
 | some (x,l),some (y,m)=>if x = y then (if l < m then some (x,l) else some (y,m)) else if x > y then some (x,l) else some (y,m)
def Best (S:List Nat->Prop) (f:List Nat->Int):O->Prop
 | none=>∀ l,S l->f l <= 0
 | some (w,l)=>S l/\f l = w/\0 < w/\∀ m,S m->f m < w\/(f m = w/\¬ m < l)
theorem Best.un {S S' : List Nat -> Prop} {f : List Nat -> Int} : ∀ {a b : O}, Best S f a -> Best S' f b -> Best (fun l => S l \/ S' l) f (lik a b)
  | none, none, h, g => fun l hl => hl.elim (h l) (g l)
  | none, some (v, m), h, ⟨g1, g2, g3, g4⟩ => ⟨.inr g1, g2, g3, fun x hx => hx.elim (fun z => .inl (by have := h x z; omega)) (g4 x)⟩
  | some (w, l), none, ⟨h1, h2, h3, h4⟩, g => ⟨.inl h1, h2, h3, fun x hx => hx.elim (h4 x) (fun z => .inl (by have := g x z; omega))⟩
  | some (w, l), some (v, m), ⟨h1, h2, h3, h4⟩, ⟨g1, g2, g3, g4⟩ => by
    show Best _ f (if w = v then (if l < m then some (w, l) else some (v, m)) else if w > v then some (w, l) else some (v, m))
    by_cases e : w = v
    · subst e
      rw [if_pos rfl]
      by_cases e2 : l < m
      · rw [if_pos e2]
        refine ⟨.inl h1, h2, h3, fun x hx => hx.elim (h4 x) fun z => (g4 x z).imp id fun ⟨a, b⟩ => ⟨a, nlt_trans (fun t => List.lt_irrefl _ (List.lt_trans t e2)) b⟩⟩
      · rw [if_neg e2]
        refine ⟨.inr g1, g2, g3, fun x hx => hx.elim (fun z => (h4 x z).imp id fun ⟨a, b⟩ => ⟨a, nlt_trans e2 b⟩) (g4 x)⟩
    · rw [if_neg e]
      by_cases e2 : w > v
      · rw [if_pos e2]
        exact ⟨.inl h1, h2, h3, fun x hx => hx.elim (h4 x) fun z => .inl (by rcases g4 x z with y | ⟨y, _⟩ <;> omega)⟩
      · rw [if_neg e2]
        exact ⟨.inr g1, g2, g3, fun x hx => hx.elim (fun z => .inl (by rcases h4 x z with y | ⟨y, _⟩ <;> omega)) (g4 x)⟩
theorem Best.pos {S:List Nat->Prop} {f:List Nat->Int} {w:Int} {l:List Nat} (h:Best S f (some (w,l))):0 < w:=h.2.2.1
def Dn (k s t:Nat) (l:List Nat):Prop:=Rg k l/\s + l.length = t
def Sq (k s q t:Nat) (l:List Nat):Prop:=∃ j p u v,j < q/\p < k/\l = 2 * p :: (u ++ (2 * p + 1) :: v)/\Rg k u/\u.length = 2 * j/\Rg k v/\s + 2 + 2 * j + v.length = t
def Nw (k s q t:Nat) (l:List Nat):Prop:=∃ p u v,p < k/\l = 2 * p :: (u ++ (2 * p + 1) :: v)/\Rg k u/\u.length = 2 * q/\Rg k v/\s + 2 + 2 * q + v.length = t
theorem Sq.zero (k s t:Nat) (l:List Nat):¬ Sq k s 0 t l:=fun ⟨j,_,_,_,h,_⟩=>absurd h (Nat.not_lt_zero _)
theorem Sq.len {k s q t:Nat} {l:List Nat} (h:Sq k s q t l):s + l.length = t:=by
 obtain ⟨j,p,u,v,_,_,rfl,_,hu,_,e⟩:=h
 simp only [List.length_cons,List.length_append]; omega
theorem Nw.len {k s q t:Nat} {l:List Nat} (h:Nw k s q t l):s + l.length = t:=by
 obtain ⟨p,u,v,_,rfl,_,hu,_,e⟩:=h
 simp only [List.length_cons,List.length_append]; omega
theorem Dn.nil (k s:Nat) (l:List Nat):Dn k s s l ↔ l = []:=by
 constructor
 ·rintro ⟨_,e⟩; exact List.eq_nil_of_length_eq_zero (by omega)
 ·rintro rfl; exact ⟨by unfold Rg; rw [go_nil],rfl⟩
end BrB
namespace PySem.SeqAt
open AutoSeq1 (wpAny_loadPart')
open MeetsSeq MeetsSeq2 MeetsSeq3 SeqRoads2
section
variable {prog:Program} {w:World} {A:Around} {E:Value->Shared->Prop} {s:Shared}
end
end PySem.SeqAt
namespace L2
open PySem PySem.Spec PyProof.Rows
abbrev nL (bs:List Nat):List V:=bs.map fun b:Nat=>V.int (b:Int)
end L2
namespace L2
open PySem PySem.Spec PyProof.Rows
section
variable {X:Cx}
def gTupL (K:PySem.W.Frag) (n:Nat) (t:TGs):TG:=fun v σ H Q=>∃ a xs,v = .ref a/\SqL K H a xs/\xs.length = n/\t xs σ H Q
theorem pg_tupL (K:PySem.W.Frag) {es:List Expr} {k:Nat} {t:TGs} {n:Nat} {pos:Pos} (hc:X.calm = true) (h:PGs X es t)
  (hn:(assignEach es X.env).length = n:=by rfl) (hst:(assignEach es X.env).findIdx? (·.1) = none:=by rfl) (hK:X.K = K:=by rfl):PG X (.Tuple es k pos) (gTupL K n t):=by
 subst hK
 intro pins s σ H v u Q I r hw
 obtain ⟨a,xs,e1,hq,hl,hw⟩:=hw
 subst e1
 cases r
 obtain ⟨its,rv,ht,hz⟩:=I.list hq
 have hln:=rv.length
 rw [assign_Tuple]
 refine wpAny_bind (wpAny_standAt ?_)
 unfold unpack
 rw [show (assignEach es X.env).length = its.toArray.size by rw [hn,List.size_toArray]; omega,hst]
 refine wpAny_bind (wpAny_holding (PySem.W.kun_itemsOf (I.ok.hd hc) ht.isList fun h' hx=>?_))
 have I1:Inv X pins σ H { s with heap:=h' }:=I.kept (t':=s.toks) fun b o e=>hx b o (Nat.ne_of_lt (Heap.lt_size e)) e
 exact h pins _ σ H xs _ Q I1 (by simpa using rv) hw
end
end L2
namespace BrS
open L2 PySem BrM BrC BrB
def Bt (F:Addr->Prop) (H:Hp) (v:V):O->Prop
 | none=>v = .non
 | some (w,l)=>∃ T a,v = .ref T/\F T/\F a/\H T = some (.tup [.int w,.ref a])/\H a = some (.lst (nL l))
theorem Bt.keep {F:Addr->Prop} {H H':Hp} {v:V} {o:O} (h:Bt F H v o) (k:∀ b x,F b->H b = some x->H' b = some x):Bt F H' v o:=by
 match o,h with
 | none,h=>exact h
 | some (w,l),⟨T,a,e,f1,f2,g1,g2⟩=>exact ⟨T,a,e,f1,f2,k _ _ f1 g1,k _ _ f2 g2⟩
theorem Bt.imp {F G:Addr->Prop} {H:Hp} {v:V} {o:O} (h:Bt F H v o) (k:∀ b x,F b->H b = some x->G b):Bt G H v o:=by
 match o,h with
 | none,h=>exact h
 | some (w,l),⟨T,a,e,f1,f2,g1,g2⟩=>exact ⟨T,a,e,k _ _ f1 g1,k _ _ f2 g2,g1,g2⟩
def rwv (n:Nat) (f:Nat->V):List V:=(List.range (n + 1)).map f
theorem rwv_set {n j:Nat} {f:Nat->V} {v:V}:(rwv n f).set j v = rwv n (fun x=>if x = j then v else f x):=by
 apply List.ext_getElem?
 intro i
 unfold rwv
 rw [List.getElem?_set,List.getElem?_map,List.getElem?_map]
 by_cases e:j = i
 ·subst e
  by_cases hj:j < n + 1
  ·rw [List.getElem?_range hj]; simp [hj]
  ·rw [if_pos rfl,if_neg (by simpa using hj)]
   rw [List.getElem?_eq_none (by simpa using hj)]; rfl
 ·rw [if_neg e]
  by_cases hi:i < n + 1
  ·rw [List.getElem?_range hi]; simp [Ne.symm e]
  ·rw [List.getElem?_eq_none (by simpa using hi)]; rfl
structure Tv (H0 H1 H:Hp) (s:Addr) (ad:Nat->Addr) (n:Nat) (T:Nat->Nat->V):Prop where
 fs:H0 s = none
 fa:∀ i,i <= n->H0 (ad i) = none
 ns:∀ i,i <= n->ad i ≠ s
 inj:∀ i j,i <= n->j <= n->ad i = ad j->i = j
 old:∀ i,i <= n->H1 (ad i) ≠ none
 top:H s = some (.lst ((List.range (n + 1)).map fun i=>V.ref (ad i)))
 row:∀ i,i <= n->H (ad i) = some (.lst (rwv n (T i)))
 sm:Same H0 H
 gr:∀ b,H b = none->H1 b = none
section
variable {H0 H1 H H':Hp} {s:Addr} {ad:Nat->Addr} {n:Nat} {T T':Nat->Nat->V}
theorem Tv.at (t:Tv H0 H1 H s ad n T) {i:Nat} (hi:i <= n):((List.range (n + 1)).map fun i=>V.ref (ad i))[i]? = some (.ref (ad i)):=by
 rw [List.getElem?_map,List.getElem?_range (by omega)]; rfl
theorem Tv.set (t:Tv H0 H1 H s ad n T) {i j:Nat} {v:V} (hi:i <= n):Tv H0 H1 (upd H (ad i) (.lst ((rwv n (T i)).set j v))) s ad n (fun a b=>if a = i then (if b = j then v else T a b) else T a b):=by
 refine ⟨t.fs,t.fa,t.ns,t.inj,t.old,by rw [upd_ne (Ne.symm (t.ns i hi))]; exact t.top,fun a ha=>?_,fun b o z=>?_,fun b z=>?_⟩
 ·by_cases e:a = i
  ·subst e
   rw [upd_same,rwv_set]
   simp
  ·rw [upd_ne (fun z=>e (t.inj a i ha hi z)),t.row a ha]
   simp [e]
 ·rw [upd_ne (ne_of_none z (t.fa i hi))]; exact t.sm b o z
 ·by_cases e:b = ad i
  ·subst e; rw [upd_same] at z; cases z
  ·rw [upd_ne e] at z; exact t.gr b z
theorem Tv.keep (t:Tv H0 H1 H s ad n T) {i:Nat} (hi:i <= n) {o:HO} (b:Addr) (x:HO) (f:H1 b = none) (z:H b = some x):(upd H (ad i) o) b = some x:=by
 have ne:b ≠ ad i:=fun e=>t.old i hi (by rw [<- e]; exact f)
 rw [upd_ne ne]; exact z
end
end BrS
namespace PySem
open Sem (wp)
abbrev lit (l:Addr):Obj:={ cls:=.type "list_iterator",data:=.fields #[.ref l,.int 0 0] }
end PySem
namespace L2
open PySem PySem.Spec PyProof.Rows
section
variable {P:Program} {w:World} {K:PySem.W.Frag} {elts:List Expr} {k:Nat} {tpos:Pos}
end
section
variable {X:Cx} {a b:Expr} {ta:TA} {p pos:Pos} {elts:List Expr} {k:Nat} {tpos:Pos}
end
end L2
namespace BrB
open BrM BrC BrS
abbrev Fe:=List Nat × List Nat
end BrB
namespace BrS
open L2 PySem BrM BrC BrB BrR
def Fs (fu:Addr) (H:Hp) (vs:List V) (es:List Fe):Prop:=vs.length = es.length/\∀ (i:Nat) (e:Fe),es[i]? = some e->∃ T p s:Addr,vs[i]? = some (V.ref T)/\T ≠ fu/\p ≠ fu/\s ≠ fu/\H T = some (.tup [.ref p,.ref s])/\H p = some (.lst (nL e.1))/\H s = some (.lst (nL e.2.reverse))
theorem Fs.keep {fu:Addr} {H H':Hp} {vs:List V} {es:List Fe} (h:Fs fu H vs es) (k:SameBut1 fu H H'):Fs fu H' vs es:=⟨h.1,fun i e he=>by
 obtain ⟨T,p,s,a1,a2,a3,a4,a5,a6,a7⟩:=h.2 i e he
 exact ⟨T,p,s,a1,a2,a3,a4,k _ _ a5 a2,k _ _ a6 a3,k _ _ a7 a4⟩⟩
theorem Fs.nil (fu:Addr) (H:Hp):Fs fu H [] []:=⟨rfl,fun i e he=>by simp at he⟩
end BrS
namespace L2
open PySem PySem.Spec PyProof.Rows
section
variable {σ:St} {H:Hp} {Q:VK} {K:PySem.W.Frag}
end
end L2
namespace BrS
open L2 PySem BrM BrC BrB BrR
end BrS
namespace BrS
open L2 PySem PyProof.Rows BrM BrC BrB BrR
end BrS
namespace BrB
open BrM BrC BrS
end BrB
namespace BrB
open BrM BrC BrS
end BrB
namespace BrS
open L2 PySem PySem.Spec PyProof.Rows BrM BrC BrB BrR
end BrS
namespace BrI
open BrM BrC BrS
section
variable {P:Nat->Nat->Int} {k n:Nat}
theorem tb_self (i:Nat):tbl P k i i = 1:=by unfold tbl; rw [if_pos (Nat.le_refl _),Nat.sub_self]; rfl
theorem tb_gt {i j:Nat} (h:j < i):tbl P k i j = 0:=by unfold tbl; rw [if_neg (by omega)]
def Of (P:Nat->Nat->Int) (k n:Nat):Nat->Nat->Nat->Int
 | 0,_,_=>0
 | f + 1,t,j=>(if j = n then tbl P k 0 t else 0) + sm n (fun u=>tbl P k (u + 1) t * (pr P k u j * sm (n + 1) (fun s=>Of P k n f u s * tbl P k (j + 1) s)))
theorem Of_next : ∀ (f t j : Nat), t < f -> Of P k n f t j = Of P k n (f + 1) t j
  | 0, t, j, h => absurd h (Nat.not_lt_zero _)
  | f + 1, t, j, h => by
    rw [Of, Of.eq_def (n := n) (P := P) (k := k) (f + 1 + 1)]
    simp only
    congr 1
    refine sm_congr n fun u hu => ?_
    by_cases e : u < t
    · congr 2
      exact sm_congr (n + 1) fun s _ => by rw [Of_next f u s (by omega)]
    · rw [tb_gt (i := u + 1) (j := t) (by omega)]; simp
def Oo (P:Nat->Nat->Int) (k n t j:Nat):Int:=Of P k n (n + 1) t j
def out (P:Nat->Nat->Int) (k n u j:Nat):Int:=sm (n + 1) (fun s=>Oo P k n u s * tbl P k (j + 1) s)
theorem Oo_eq {t j:Nat} (h:t <= n):Oo P k n t j = (if j = n then tbl P k 0 t else 0) + sm n (fun u=>tbl P k (u + 1) t * (pr P k u j * out P k n u j)):=by
 unfold Oo out
 rw [Of]
 congr 1
 refine sm_congr n fun u hu=>?_
 by_cases e:u < t
 ·congr 2
  refine sm_congr (n + 1) fun s _=>?_
  unfold Oo
  rw [Of_next n u s (by omega)]
 ·rw [tb_gt (i:=u + 1) (j:=t) (by omega)]; simp
theorem Oo_zero (j:Nat):Oo P k n 0 j = if j = n then 1 else 0:=by
 rw [Oo_eq (Nat.zero_le _),tb_self,sm_zero n fun u _=>by rw [tb_gt (i:=u + 1) (j:=0) (by omega)]; simp]
 omega
end
section
variable {P P':Nat->Nat->Int} {k n i:Nat}
end
end BrI
namespace BrI
open BrM BrC BrS
section
variable {P:Nat->Nat->Int} {k n:Nat} {c:Int}
end
end BrI
namespace BrS
open L2 PySem BrM BrC BrB BrI BrR
def rst (P:Nat->Nat->Int) (k n s e:Nat):Int:=tbl P k (s + 1) e * out P k n s e
def Fp (P:Nat->Nat->Int) (k n:Nat) (H:Hp) (vs:List V) (L:List (Nat × Nat)):Prop:=vs.length = L.length/\∀ (m:Nat) (x:Nat × Nat),L[m]? = some x->∃ T:Addr,vs[m]? = some (V.ref T)/\H T = some (.tup [.int x.1,.int x.2,.int (rst P k n x.1 x.2)])
theorem Fp.lst {P:Nat->Nat->Int} {k n:Nat} {H:Hp} {vs:List V} {L:List (Nat × Nat)} {a:Addr} {xs:List V} {o:HO} (h:Fp P k n H vs L) (ha:H a = some (.lst xs)):Fp P k n (upd H a o) vs L:=⟨h.1,fun m x hx=>by
 obtain ⟨T,e,b⟩:=h.2 m x hx
 exact ⟨T,e,by rw [upd_ne (ne_of b ha (fun z=>by cases z))]; exact b⟩⟩
def ot (P:Nat->Nat->Int) (k n s q r i j:Nat):Int :=
 if i <= s then Oo P k n i j else
  sm s (fun u=>Oo P k n u j * (pr P k u (i - 1) * tbl P k (u + 1) (i - 1))) +
  (if s < i - 1/\(i - 1 < s + 1 + 2 * q\/(i - 1 = s + 1 + 2 * q/\j < r)) then Oo P k n s j * (pr P k s (i - 1) * tbl P k (s + 1) (i - 1)) else 0) +
  (if i = s + 1/\j < s + 1 + 2 * q then pr P k s j * out P k n s j else 0)
def OkT (P:Nat->Nat->Int) (k n s q r:Nat) (T:Nat->Nat->Int):Prop:=∀ i j,i <= j->j <= n->(j - i) % 2 = 0->T i j = ot P k n s q r i j
theorem OkT.zero {P:Nat->Nat->Int} {k n:Nat} {T:Nat->Nat->Int} (h:∀ i j,T i j = if i = 0/\j = n then 1 else 0):OkT P k n 0 0 0 T:=by
 intro i j h1 h2 h3
 rw [h]
 unfold ot
 by_cases e:i = 0
 ·subst e
  rw [if_pos (Nat.le_refl _),Oo_zero]
  by_cases z:j = n
  ·rw [if_pos ⟨rfl,z⟩,if_pos z]
  ·rw [if_neg (fun w=>z w.2),if_neg z]
 ·rw [if_neg (fun w=>e w.1),if_neg (by omega),if_neg (by omega),if_neg (by omega)]; rfl
theorem OkT.row {P:Nat->Nat->Int} {k n s q r j:Nat} {T:Nat->Nat->Int} (h:OkT P k n s q r T) (h1:s <= j) (h2:j <= n) (h3:(j - s) % 2 = 0):T s j = Oo P k n s j:=by
 rw [h s j h1 h2 h3]; unfold ot; rw [if_pos (Nat.le_refl _)]
section
variable {ps:List (List Int)} {k n:Nat}
end
def rw2 (m:Nat) (f:Nat->Int):List V:=(List.range m).map fun j=>V.int (f j)
theorem rw2_set {m j:Nat} {f:Nat->Int} {v:Int}:(rw2 m f).set j (.int v) = rw2 m (fun x=>if x = j then v else f x):=by
 apply List.ext_getElem?
 intro i
 unfold rw2
 rw [List.getElem?_set,List.getElem?_map,List.getElem?_map]
 by_cases e:j = i
 ·subst e
  by_cases hj:j < m
  ·rw [List.getElem?_range hj]; simp [hj]
  ·rw [if_pos rfl,if_neg (by simpa using hj)]
   rw [List.getElem?_eq_none (by simpa using hj)]; rfl
 ·rw [if_neg e]
  by_cases hi:i < m
  ·rw [List.getElem?_range hi]; simp [Ne.symm e]
  ·rw [List.getElem?_eq_none (by simpa using hi)]; rfl
theorem rw2_congr {m:Nat} {f g:Nat->Int} (h:∀ j,j < m->f j = g j):rw2 m f = rw2 m g:=by
 unfold rw2
 refine List.map_congr_left fun j hj=>?_
 rw [h j (List.mem_range.mp hj)]
structure Tw (H0 H:Hp) (s:Addr) (ad:Nat->Addr) (n m:Nat) (T:Nat->Nat->Int):Prop where
 fs:H0 s = none
 fa:∀ i,i < n->H0 (ad i) = none
 ns:∀ i,i < n->ad i ≠ s
 inj:∀ i j,i < n->j < n->ad i = ad j->i = j
 top:H s = some (.lst ((List.range n).map fun i=>V.ref (ad i)))
 row:∀ i,i < n->H (ad i) = some (.lst (rw2 m (T i)))
 sm:Same H0 H
section
variable {H0 H H':Hp} {s:Addr} {ad:Nat->Addr} {n m:Nat} {T T':Nat->Nat->Int}
theorem Tw.congr (t:Tw H0 H s ad n m T) (h:∀ i j,i < n->j < m->T i j = T' i j):Tw H0 H s ad n m T':=⟨t.fs,t.fa,t.ns,t.inj,t.top,fun i hi=>by rw [t.row i hi,rw2_congr fun j hj=>h i j hi hj],t.sm⟩
theorem Tw.at (t:Tw H0 H s ad n m T) {i:Nat} (hi:i < n):((List.range n).map fun i=>V.ref (ad i))[i]? = some (.ref (ad i)):=by
 rw [List.getElem?_map,List.getElem?_range hi]; rfl
theorem Tw.set (t:Tw H0 H s ad n m T) {i j:Nat} {v:Int} (hi:i < n):Tw H0 (upd H (ad i) (.lst ((rw2 m (T i)).set j (.int v)))) s ad n m (fun a b=>if a = i/\b = j then v else T a b):=by
 refine ⟨t.fs,t.fa,t.ns,t.inj,by rw [upd_ne (Ne.symm (t.ns i hi))]; exact t.top,fun a ha=>?_,fun b o z=>?_⟩
 ·by_cases e:a = i
  ·subst e
   rw [upd_same,rw2_set]
   congr 2
   refine rw2_congr fun x _=>?_
   by_cases q:x = j <;> simp [q]
  ·rw [upd_ne (fun z=>e (t.inj a i ha hi z)),t.row a ha]
   congr 2
   refine rw2_congr fun x _=>?_
   simp [e]
 ·rw [upd_ne (ne_of_none z (t.fa i hi))]; exact t.sm b o z
end
section
variable {K:PySem.W.Frag} {σ:St} {H:Hp} {Q:VK}
end
end BrS
namespace PySem
open Sem (wp)
end PySem
namespace L2
open PySem PySem.Spec PyProof.Rows
section
variable {P:Program} {w:World} {K:PySem.W.Frag} {elts:List Expr} {k:Nat} {tpos:Pos}
theorem zap_m {z TI TO i1 i2 x l:Addr} (D:ZAp z TI TO i1 i2 [i1] [i2]) (h1:l ≠ z) (h2:l ≠ TO) (h3:l ≠ i1) (g1:x ≠ z) (g2:x ≠ TO) (g3:x ≠ i2):ZAp z TI TO i1 i2 [i1,x] [i2,l] :=
 ⟨D.TIz,D.TOz,D.TITO,D.TIi1,D.TIi2,by have:=D.z1; simp at this ⊢; exact ⟨this,g1.symm⟩,by have:=D.z2; simp at this ⊢; exact ⟨this,h1.symm⟩,by have:=D.o1; simp at this ⊢; exact ⟨this,g2.symm⟩,by have:=D.o2; simp at this ⊢; exact ⟨this,h2.symm⟩,by have:=D.a12; simp at this ⊢; exact ⟨this,h3.symm⟩,by have:=D.a21; simp at this ⊢; exact ⟨this,g3.symm⟩,by simp,by simp⟩
end
section
variable {X:Cx} {a b:Expr} {ta:TA} {p pos:Pos} {elts:List Expr} {k:Nat} {tpos:Pos}
end
end L2
namespace L2
open PySem PySem.Spec PyProof.Rows
end L2
namespace BrS
open L2 PySem PySem.Spec PyProof.Rows BrM BrC BrB BrI BrR
section
variable {σ:L2.St} {H:Hp} {Q:VK}
end
end BrS
namespace L2
open PySem PySem.Spec PyProof.Rows
section
variable {X:Cx} {pins:List (Addr × Obj)} {σ:St} {H:Hp} {s:Shared} {a:Addr} {kvs:List (Key × V)} {k:Key} {v:V} {u r:Value} {A:Around} {E:Value->Shared->Prop}
end
section
variable {prog:Program} {w:World} {A:Around} {R:Result->Shared->Prop} {s:Shared}
end
section
variable {X:Cx}
end
end L2
namespace L2
open PySem PySem.Spec PyProof.Rows PySem.SeqAt
end L2
namespace BrS
open L2 PySem PySem.Spec PyProof.Rows BrM BrC BrB BrI BrR
def Prl (H:Hp) (vs:List V) (L:List (Nat × Nat)):Prop:=vs.length = L.length/\∀ (m:Nat) (x:Nat × Nat),L[m]? = some x->∃ T:Addr,vs[m]? = some (V.ref T)/\H T = some (.tup [.int x.1,.int x.2])
theorem Prl.lst {H:Hp} {vs:List V} {L:List (Nat × Nat)} {a:Addr} {xs:List V} {o:HO} (h:Prl H vs L) (ha:H a = some (.lst xs)):Prl (upd H a o) vs L:=⟨h.1,fun m x hx=>by
 obtain ⟨T,e,b⟩:=h.2 m x hx
 exact ⟨T,e,by rw [upd_ne (ne_of b ha (fun z=>by cases z))]; exact b⟩⟩
def Sll (H:Hp) (vs:List V) (L:List (Nat × Nat)):Prop:=vs.length = L.length/\∀ (m:Nat) (x:Nat × Nat),L[m]? = some x->∃ T:Addr,vs[m]? = some (V.ref T)/\H T = some (.tup [.int x.1,tx [brs.getD x.2 0]])
theorem Sll.lst {H:Hp} {vs:List V} {L:List (Nat × Nat)} {a:Addr} {xs:List V} {o:HO} (h:Sll H vs L) (ha:H a = some (.lst xs)):Sll (upd H a o) vs L:=⟨h.1,fun m x hx=>by
 obtain ⟨T,e,b⟩:=h.2 m x hx
 exact ⟨T,e,by rw [upd_ne (ne_of b ha (fun z=>by cases z))]; exact b⟩⟩
end BrS
namespace L2
open PySem PySem.Spec PyProof.Rows
section
variable {X:Cx}
end
section
variable {X:Cx}
def gSlc (to:TE) (tl th:TO):TG:=fun v σ H Q=>to σ H fun o H1=>tl σ H1 fun l H2=>th σ H2 fun u H3=>∃ p b xs zs,o = .ref p/\v = .ref b/\p ≠ b/\H3 p = some (.lst xs)/\H3 b = some (.lst zs)/\xs.length + zs.length <= sizeLine /\
 ∀ ys,ys.length <= xs.length + zs.length->Q σ (upd H3 p (.lst ys))
theorem list_cut_set {prog:Program} {w:World} {A:Around} {E:Value->Shared->Prop} {s:Shared} {l b sl:Addr} {its its2:List Value} {n n2:Nat} {vl vu:Value} {lo hi:Option Int} {Q:Unit->Shared->Prop}
  (hl:s.heap.get? l = some { cls:=.type "list",data:=.seq its.toArray n }) (hb:s.heap.get? b = some { cls:=.type "list",data:=.seq its2.toArray n2 }) (hne:l ≠ b)
  (hs:s.heap.IsSliceOf sl vl vu .none) (pl:IsPart vl lo) (pu:IsPart vu hi) (hz:its.length + its2.length <= sizeLine)
  (h:∀ i j:Nat,i <= j->Q () { s with heap:=s.heap.update l (Obj.mapSeq fun xs=>xs.extract 0 i ++ its2.toArray ++ xs.extract j xs.size) }):wpAny (model prog w) A (setItem (.ref l) (.ref sl) (.ref b)) Q E s:=by
 have hL:s.heap.IsList l its.toArray:=PySem.IsL.isList (n:=n) hl
 obtain ⟨os,hos,hcs,hds⟩:=id hs
 have hTs:s.TypeIs (.ref sl) "slice":=⟨os,hos,hcs⟩
 unfold setItem
 try with_reducible refine wpAny_holding ?_
 first | refine wpAny_bind (wpAny_pure ?_) | skip
 refine wpAny_bind (wpAny_sequenceKey hL.typeIs (by decide) ?_)
 refine wpAny_bind (wpAny_callSpecial?_slot (name:=Str.ofString "__setitem__") hL.typeIs slot_list_setitem
  (wpAny_call_entry slot_list_setitem hL.typeIs entry_list_setitem ?_ (args_list_setitem _ _ _)))
 show wpAny _ _ (Builtin.List.listSubscript? (.ref sl) >>= _) _ _ s
 refine wpAny_bind ?_
 unfold Builtin.List.listSubscript?
 refine wpAny_bind (wpAny_specialOf hTs slice_no_index ?_)
 simp only [Option.isNone_none,if_true]
 refine wpAny_pure ?_
 show wpAny _ _ (typeOf (.ref sl) >>= _) _ _ s
 refine wpAny_bind (wpAny_typeOf hTs ?_)
 rw [if_neg (by decide)]
 rw [listSliceParts_eq]
 refine wpAny_bind (wpAny_bind (wpAny_field hos hds (x:=.none) rfl (wpAny_bind (wpAny_listPart .none ?_))))
 rw [if_neg (by exact Bool.false_ne_true)]
 refine wpAny_bind (wpAny_field hos hds (x:=vl) rfl (wpAny_bind (wpAny_listPart pl ?_)))
 refine wpAny_bind (wpAny_field hos hds (x:=vu) rfl (wpAny_bind (wpAny_listPart pu (wpAny_pure ?_))))
 rw [if_neg (show ¬ Builtin.List.listSameRef (Value.ref l) (Value.ref b) = true by simp [Builtin.List.listSameRef,hne])]
 unfold Builtin.List.listAllItems
 refine wpAny_bind (wpAny_bind (wpAny_typeOf (T:="list") ⟨_,hb,rfl⟩ ?_))
 rw [if_pos (by decide)]
 refine listItems_at hb rfl ?_
 refine wpAny_bind (listItems_at hl rfl ?_)
 refine wpAny_bind (wpAny_of_eq (sliceIndices_raw lo hi none its.toArray.size (by simp)) ?_)
 obtain ⟨b1,b2,b3⟩:=slice_bounds lo hi its.toArray.size
 rw [if_pos (by rw [b3]; rfl)]
 refine wpAny_bind (wpAny_rule ?_)
 rw [if_neg (by rw [notLongL (by simp; omega)]; exact Bool.false_ne_true)]
 refine wpAny_bind (listUpdate_at hl rfl ?_ (hsz2:=?_))
 ·exact wpAny_bind (wpAny_letGo (wpAny_pure ⟨_,rfl,wpAny_pure (h _ _ (by omega))⟩))
 ·simp only [Array.size_append,Array.size_extract,List.size_toArray]
  omega
theorem pg_slc {o : Expr} {lo hi : Option Expr} {p2 pos : Pos} {to : TE} {tl th : TO} (ho : PE X o to) (hl : PO X lo tl) (hu : PO X hi th)
  (ha : ∀ v, assign (.Subscript o (.Slice lo hi none p2) pos) X.env v = (do
   let ov <- holding [v] (eval o X.env)
   let iv <- holding [v, ov] (eval (.Slice lo hi none p2) X.env)
   standAt pos
   holding [v, ov, iv] (setItem ov iv v)
   release [iv, v, ov] []) := by intro _; rfl) : PG X (.Subscript o (.Slice lo hi none p2) pos) (gSlc to tl th) := by
 intro pins s σ H v u Q I r h
 rw [ha]
 refine wpAny_bind (wpAny_holding (thn (ho pins s σ H _ I h) fun ov s1 ⟨x, H1, I1, r1, q1⟩ => ?_))
 refine wpAny_bind (wpAny_holding (wpAny_Slice (thn (hl pins s1 σ H1 _ I1 q1) fun vl s2 ⟨l, H2, I2, pl, q2⟩ => thn (hu pins s2 σ H2 _ I2 q2) fun vu s3 ⟨uu, H3, I3, pu, q3⟩ => ?_)))
 rw [evalPart_none]
 refine wpAny_pure ?_
 obtain ⟨p, b, xs, zs, rfl, rfl, hpb, hp, hb, hz, q⟩ := q3
 cases r1
 cases r
 have I4 : Inv X pins σ H3 { s3 with heap := s3.heap.push { cls := .type "slice", data := .fields #[vl, vu, .none] } } := I3.kept (t' := s3.toks) fun b ob q => Heap.get?_push_of_some _ q
 obtain ⟨z1, its, n, r1, l1, e1⟩ := I4.lstM hp
 obtain ⟨z2, its2, n2, r2, l2, e2⟩ := I4.lstM hb
 refine wpAny_bind (wpAny_standAt (wpAny_bind (wpAny_holding (list_cut_set e1 e2 hpb (Heap.IsSliceOf.new ..) pl pu (by omega) fun i j hij => ?_))))
 refine wpAny_release ⟨σ, _, I4.lset (its' := its.take i ++ its2 ++ its.drop j) (ys := xs.take i ++ zs ++ xs.drop j) hp e1 (by simp; exact List.take_of_length_le (by simp)) (((r1.take i).append r2).append (r1.drop j)) ?_, q _ ?_⟩
 ·simp only [List.length_append, List.length_take, List.length_drop]; omega
 ·simp only [List.length_append, List.length_take, List.length_drop]; omega
theorem s_slc {to:TE} {tl th:TO} {v:V} {σ:St} {H:Hp} {Q:St->Hp->Prop} (h:to σ H fun o H1=>tl σ H1 fun l H2=>th σ H2 fun u H3=>∃ p b xs zs,o = .ref p/\v = .ref b/\p ≠ b/\H3 p = some (.lst xs)/\H3 b = some (.lst zs)/\xs.length + zs.length <= sizeLine /\
 ∀ ys,ys.length <= xs.length + zs.length->Q σ (upd H3 p (.lst ys))):gSlc to tl th v σ H Q:=h
end
end L2
namespace L2
open PySem PySem.Spec PyProof.Rows BrM
theorem vals_strs:∀ {us:List Value} {ss:List Str},StrsAre us ss->Vals (ss.map fun x=>tx x.cps.toList) us
 | _,_,.nil=>.nil
 | _,_,.cons x t h=>.cons ⟨t,rfl⟩ (vals_strs h)
theorem StrsAre.at {ks : List Str} : ∀ {vs : List Value}, vs.length = ks.length -> (∀ (j : Nat) (v : Value), vs[j]? = some v -> ∃ (k : Str) (t : Tok), ks[j]? = some k /\ v = .str k t) -> StrsAre vs ks := by
  induction ks with
  | nil => intro vs h _; match vs, h with | [], _ => exact .nil
  | cons k ks ih =>
    intro vs h hp
    match vs, h with
    | v :: vs, h =>
      obtain ⟨k2, t, e, ev⟩ := hp 0 v rfl
      cases e
      subst ev
      exact .cons k t (ih (by simpa using h) fun j v hv => hp (j + 1) v hv)
section
variable {X:Cx}
def rSortT (K:PySem.W.Frag):List V->Hp->VK->Prop:=fun xs H Q=>∃ (d:Addr) (kvs:List (Key × V)) (ss:List Str),xs = [.ref d]/\Rd H d (.dK kvs)/\kvs.map (·.1) = ss.map Sum.inr/\ss.length < 64 /\
 ∀ (p:Addr) (ts:List Str),H p = none->ts.Perm ss->sortedS ts = true->Q (.ref p) (upd H p (.lst (ts.map fun x=>tx x.cps.toList)))
theorem call_sortT (K:PySem.W.Frag) (hc:X.calm = true) (hK:X.K = K:=by rfl):CallR X (.builtin "sorted") (rSortT K):=by
 subst hK
 intro pins s σ H xs us Q I rv ⟨d,kvs,ss,e,hD,hks,h64,q⟩
 subst e
 obtain ⟨u,rfl,ru⟩:=rv.one
 cases ru
 obtain ⟨z,hd,vs,rel,dd⟩:=dk_rd I.hok hD
 obtain ⟨ep,hat⟩:=dd.dictAt
 have hkl:kvs.length = ss.length:=by have:=congrArg List.length hks; simpa using this
 have hvl:vs.length = ss.length:=by rw [<- rel.length]; exact hkl
 have hkeys:=rel.keys
 refine Calls.call_function_entry kind_sorted plain_sorted entry_sorted (args_sorted1 _) ?_
 unfold Builtin.«sorted»
 refine wpAny_bind (m:=checkCount "sorted" 1 1 _) (wpAny_pure ?_)
 refine wpAny_bind (collect_dict (A:=X.A.in1) hd (I.ok.hd hc) hat (by rw [sizeLine_eq]; omega) fun h' tk ys hle hk hyl0 hacc=>?_)
 have hal:ys.length = ss.length:=by rw [hyl0,hvl]
 have hI:StrsAre ys ss:=StrsAre.at hal fun j v hv=>by
  obtain ⟨k,x,hx,hkk⟩:=hacc j v hv
  have h1:(vs.map (·.1))[j]? = some k:=by rw [List.getElem?_map,hx]; rfl
  rw [<- hkeys,hks,List.getElem?_map] at h1
  obtain ⟨kz,h2,h3⟩:=Option.map_eq_some_iff.mp h1
  subst h3
  obtain ⟨t,et⟩:=(is_rel hkk:∃ t,v = Value.str kz t)
  exact ⟨kz,t,h2,et⟩
 have hyl:ys.length < 64:=by omega
 refine wpAny_bind (wpAny_newList ?_ (by rw [sizeLine_eq]; omega))
 have gL:(h'.push (seqObj "list" ys.toArray 0)).get? h'.objs.size = some (seqObj "list" ys.toArray 0):=Heap.get?_push_size _ rfl
 refine wpAny_bind (wpAny_holding (wpAny_call_entry slot_list_sort ⟨_,gL,rfl⟩ entry_list_sort (list_sort_treeK strKind_oneLt gL hI.keysOf (fun v₁ v₂ rest e=>keyKind_strs (by rw [<- e]; exact hI)) hyl fun st' hp hs=>⟨_,rfl,?_⟩) (args_list_sort _)))
 obtain ⟨ts,a1,a2,a3⟩:=sorted_out_str hI hp hs
 generalize (arrOf st').map (·.2) = out at a1 ⊢
 refine wpAny_pure ⟨_,rfl,?_⟩
 obtain ⟨e,he⟩:=sortedHeap_at (out:=out) gL
 have hb:∀ b o,s.heap.get? b = some o->b < h'.objs.size:=fun b o z=>Heap.lt_size (hk b o z)
 have kp2:∀ b o,s.heap.get? b = some o->(sortedHeap (h'.push (seqObj "list" ys.toArray 0)) h'.objs.size ys out).get? b = some o:=fun b o z=>by
  have hb:=hb b o z
  rw [sortedHeap_old (Nat.ne_of_lt hb) (by rw [size_push']; exact Nat.lt_succ_of_lt hb)]
  exact Heap.get?_push_of_some _ (hk b o z)
 have hln:ts.length <= 63:=by rw [a2.length_eq]; omega
 refine ⟨.ref h'.objs.size,_,I.laid (t':=tk) (o:=.lst (ts.map fun x=>tx x.cps.toList)) kp2 hle ⟨?_,out.toList,e,vals_strs a1,by rw [Array.toArray_toList]; exact he⟩,rfl,q _ ts (I.hok.fresh hle) a2 a3⟩
 rw [List.length_map,sizeLine_eq]; omega
end
end L2
namespace L2
open PySem PySem.Spec PyProof.Rows
section
variable {X:Cx}
def rLenD:List V->Hp->VK->Prop:=fun xs H Q=>∃ (d:Addr) (kvs:List (Key × V)),xs = [.ref d]/\Rd H d (.dK kvs)/\Q (.int kvs.length) H
theorem call_lenD:CallR X (.builtin "len") rLenD:=by
 intro pins s σ H xs us Q I r ⟨d,kvs,e,hD,q⟩
 subst e
 obtain ⟨u,rfl,ru⟩:=vals1 r
 cases ru
 obtain ⟨z,hd,vs,rel,dd⟩:=dk_rd I.hok hD
 have hl:=rel.length
 have hs:sizeLine = 16777216:=sizeLine_eq
 refine call_len_dict hd dd (by omega) ⟨.int kvs.length,H,I.tok _,⟨_,by rw [hl]⟩,q⟩
variable {e:Expr} {te:TE} {ap cp sp pos:Pos}
end
end L2
namespace BrTx
open PySem L2
def pos1 (c:Nat):List Nat->Nat->List Nat
 | [],_=>[]
 | x :: r,i=>if x = c then i :: pos1 c r (i + 1) else pos1 c r (i + 1)
theorem sub_one (l:List Nat) (c i:Nat):Builtin.Str.subAt ⟨l.toArray⟩ ⟨#[c]⟩ i = decide (l[i]? = some c):=by
 unfold Builtin.Str.subAt
 have e:(⟨l.toArray⟩:Str).cps.extract i (i + (⟨#[c]⟩:Str).length) = ((l.drop i).take 1).toArray:=by
  show l.toArray.extract i (i + 1) = _
  simp
 rw [e]
 show (((l.drop i).take 1).toArray == #[c]) = _
 rw [Bool.eq_iff_iff,beq_iff_eq,decide_eq_true_eq]
 rw [List.take_one,List.head?_drop]
 cases l[i]? with
 | none=>simp
 | some x=>simp
theorem occ_go (l : List Nat) (c k : Nat) : ∀ (r : List Nat) (i : Nat) (arr : Array Nat) (free : Nat), l.drop i = r -> free <= i -> i <= l.length ->
    (forIn (List.range' i (l.length + 1 - i)) (arr, free) (StrLaws.occBody ⟨l.toArray⟩ ⟨#[c]⟩ l.length k)).run.fst.toList = arr.toList ++ (pos1 c r i).take (k - arr.size)
  | [], i, arr, free, hr, hf, hi => by
    have hi2 : i = l.length := by
      have := congrArg List.length hr
      simp at this; omega
    subst hi2
    rw [show l.length + 1 - l.length = 1 by omega]
    have hb : StrLaws.occBody ⟨l.toArray⟩ ⟨#[c]⟩ l.length k l.length (arr, free) = pure (ForInStep.yield (arr, free)) := by
      unfold StrLaws.occBody
      rw [if_neg]
      rintro ⟨⟨_, h⟩, _⟩
      have : (⟨#[c]⟩ : Str).length = 1 := rfl
      omega
    simp [List.range', hb, pos1]
  | x :: r, i, arr, free, hr, hf, hi => by
    have hlt : i < l.length := by
      have := congrArg List.length hr
      simp at this; omega
    have hx : l[i]? = some x := by
      have := congrArg List.head? hr
      rw [List.head?_drop] at this
      exact this
    have hr2 : l.drop (i + 1) = r := by
      have := congrArg List.tail hr
      rw [List.tail_drop] at this
      exact this
    rw [show l.length + 1 - i = (l.length + 1 - (i + 1)) + 1 by omega, List.range'_succ]
    have e1 : (⟨#[c]⟩ : Str).length = 1 := rfl
    by_cases h : (arr.size < k) /\ x = c
    · have hb : StrLaws.occBody ⟨l.toArray⟩ ⟨#[c]⟩ l.length k i (arr, free) = pure (ForInStep.yield (arr.push i, i + 1)) := by
        unfold StrLaws.occBody
        rw [if_pos ⟨⟨⟨h.1, hf⟩, by rw [e1]; omega⟩, by rw [sub_one, hx, h.2]; simp⟩]
        rfl
      have ih := occ_go l c k r (i + 1) (arr.push i) (i + 1) hr2 (Nat.le_refl _) hlt
      simp only [List.forIn_cons, hb, pure_bind]
      rw [ih, pos1, if_pos h.2, Array.toList_push, Array.size_push, List.append_assoc]
      congr 1
      rw [show k - arr.size = (k - (arr.size + 1)) + 1 by omega]
      rfl
    · have hb : StrLaws.occBody ⟨l.toArray⟩ ⟨#[c]⟩ l.length k i (arr, free) = pure (ForInStep.yield (arr, free)) := by
        unfold StrLaws.occBody
        rw [if_neg]
        rintro ⟨⟨⟨h1, _⟩, _⟩, h2⟩
        rw [sub_one, hx] at h2
        exact h ⟨h1, by simpa using h2⟩
      have ih := occ_go l c k r (i + 1) arr free hr2 (by omega) hlt
      simp only [List.forIn_cons, hb, pure_bind]
      rw [ih, pos1]
      by_cases h2 : x = c
      · rw [if_pos h2]
        have : k - arr.size = 0 := by
          have : ¬arr.size < k := fun z => h ⟨z, h2⟩
          omega
        rw [this, List.take_zero, List.take_zero]
      · rw [if_neg h2]
theorem occ_pos (l:List Nat) (c k:Nat):Builtin.Str.occurrences ⟨l.toArray⟩ ⟨#[c]⟩ 0 (⟨l.toArray⟩:Str).length k = (pos1 c l 0).take k:=by
 have h:=occ_go l c k l 0 #[] 0 rfl (Nat.le_refl _) (Nat.zero_le _)
 have e:(⟨l.toArray⟩:Str).length = l.length:=by show l.toArray.size = _; simp
 rw [e]
 unfold Builtin.Str.occurrences
 have hb:(fun (i:Nat) (st:Array Nat × Nat)=>if (decide (st.fst.size < k) && decide (st.snd <= i) && decide (i + (⟨#[c]⟩:Str).length <= l.length) && Builtin.Str.subAt ⟨l.toArray⟩ ⟨#[c]⟩ i) = true then (pure (ForInStep.yield (st.fst.push i,i + (⟨#[c]⟩:Str).length)):Id _) else pure (ForInStep.yield (st.fst,st.snd))) = StrLaws.occBody ⟨l.toArray⟩ ⟨#[c]⟩ l.length k:=by
  funext i st
  unfold StrLaws.occBody
  simp only [Bool.and_eq_true,decide_eq_true_eq]
 simp only [Std.Legacy.Range.forIn_eq_forIn_range',Std.Legacy.Range.size]
 have h2:(forIn (List.range' 0 (l.length + 1)) (#[],0) (StrLaws.occBody ⟨l.toArray⟩ ⟨#[c]⟩ l.length k)).run.fst.toList = (pos1 c l 0).take k:=by simpa using h
 rw [<- h2,<- hb]
 simp
def consH (x:Nat):List (List Nat)->List (List Nat)
 | w :: ws=>(x :: w) :: ws
 | []=>[[x]]
def spN (c:Nat):Nat->List Nat->List (List Nat)
 | _,[]=>[[]]
 | 0,x :: r=>[x :: r]
 | n + 1,x :: r=>if x = c then [] :: spN c n r else consH x (spN c (n + 1) r)
theorem spN_ne (c : Nat) : ∀ (n : Nat) (l : List Nat), spN c n l ≠ []
  | 0, [] => by simp [spN]
  | n + 1, [] => by simp [spN]
  | 0, x :: r => by simp [spN]
  | n + 1, x :: r => by
    rw [spN]
    split
    · simp
    · cases e : spN c (n + 1) r with
      | nil => simp [consH]
      | cons w ws => simp [consH]
def hdP (p:List Nat):List (List Nat)->List (List Nat)
 | w :: ws=>(p ++ w) :: ws
 | []=>[p]
theorem hdP_nil:∀ {ws:List (List Nat)},ws ≠ []->hdP [] ws = ws
 | [],h=>(h rfl).elim
 | w :: ws,_=>rfl
theorem hdP_consH {p:List Nat} {x:Nat} {ws:List (List Nat)} (h:ws ≠ []):hdP p (consH x ws) = hdP (p ++ [x]) ws:=by
 cases ws with
 | nil=>exact (h rfl).elim
 | cons w ws=>simp [hdP,consH]
def stS (w:List Nat):Str:=⟨w.toArray⟩
theorem sub_st (l:List Nat) (a b:Nat):Builtin.Str.strSub ⟨l.toArray⟩ a b = stS ((l.drop a).take (b - a)):=by
 unfold Builtin.Str.strSub stS
 simp [List.extract_eq_take_drop]
theorem len_st (l:List Nat):(⟨l.toArray⟩:Str).length = l.length:=by show l.toArray.size = _; simp
theorem parts_go (l : List Nat) (c : Nat) : ∀ (r : List Nat) (b a n : Nat), l.drop b = r -> a <= b -> b <= l.length -> StrLaws.partsFrom ⟨l.toArray⟩ 1 a ((pos1 c r b).take n) = (hdP ((l.drop a).take (b - a)) (spN c n r)).map stS
  | [], b, a, n, hr, hab, hb => by
    have hb2 : b = l.length := by
      have := congrArg List.length hr
      simp at this; omega
    have e1 : spN c n [] = [[]] := by cases n <;> rfl
    rw [pos1, List.take_nil, e1]
    show [Builtin.Str.strSub ⟨l.toArray⟩ a (⟨l.toArray⟩ : Str).length] = [stS (_ ++ [])]
    rw [sub_st, len_st, List.append_nil, hb2]
  | x :: r, b, a, 0, hr, hab, hb => by
    rw [List.take_zero]
    show [Builtin.Str.strSub ⟨l.toArray⟩ a (⟨l.toArray⟩ : Str).length] = [stS (_ ++ (x :: r))]
    rw [sub_st, len_st, <- hr]
    congr 2
    have e : l.drop b = (l.drop a).drop (b - a) := by rw [List.drop_drop]; congr 1; omega
    rw [e, List.take_append_drop, List.take_of_length_le (by simp)]
  | x :: r, b, a, n + 1, hr, hab, hb => by
    have hlt : b < l.length := by
      have := congrArg List.length hr
      simp at this; omega
    have hx : (l.drop a)[b - a]? = some x := by
      have := congrArg List.head? hr
      rw [List.head?_drop] at this
      rw [List.getElem?_drop, show a + (b - a) = b by omega]
      exact this
    have hr2 : l.drop (b + 1) = r := by
      have := congrArg List.tail hr
      rw [List.tail_drop] at this
      exact this
    by_cases h : x = c
    · rw [pos1, if_pos h, spN, if_pos h, List.take_succ_cons]
      show Builtin.Str.strSub ⟨l.toArray⟩ a b :: StrLaws.partsFrom ⟨l.toArray⟩ 1 (b + 1) _ = _
      rw [parts_go l c r (b + 1) (b + 1) n hr2 (Nat.le_refl _) hlt, sub_st, Nat.sub_self, List.take_zero, hdP_nil (spN_ne c n r)]
      simp [hdP]
    · rw [pos1, if_neg h, spN, if_neg h, parts_go l c r (b + 1) a (n + 1) hr2 (by omega) hlt, hdP_consH (spN_ne c (n + 1) r)]
      congr 2
      rw [show b + 1 - a = (b - a) + 1 by omega, List.take_add_one, hx]
      rfl
theorem spN_free (c : Nat) : ∀ (n : Nat) (l : List Nat), c ∉ l -> spN c n l = [l]
  | 0, [], _ => rfl
  | n + 1, [], _ => rfl
  | 0, x :: r, _ => rfl
  | n + 1, x :: r, h => by
    rw [spN, if_neg (fun z => h (by rw [z]; exact List.mem_cons_self)), spN_free c (n + 1) r (fun z => h (List.mem_cons_of_mem _ z))]
    rfl
theorem pos_nil {c : Nat} : ∀ {l : List Nat} {i : Nat}, pos1 c l i = [] -> c ∉ l
  | [], _, _ => by simp
  | x :: r, i, h => by
    rw [pos1] at h
    split at h
    · cases h
    · rename_i hx
      have := pos_nil h
      simp [this, Ne.symm hx]
theorem splitM_is (l : List Nat) (c : Nat) (k : Int) (hk : 0 <= k) : Txt.splitMax ⟨l.toArray⟩ ⟨#[c]⟩ k = (spN c k.toNat l).map stS := by
  have hlim : limitOf ⟨l.toArray⟩ k = k.toNat := by unfold limitOf; rw [if_neg (by omega)]
  unfold Txt.splitMax
  rw [hlim, occ_pos]
  split
  · rename_i h
    have hc : c ∉ l := by
      rw [Bool.or_eq_true, decide_eq_true_eq, decide_eq_true_eq] at h
      rcases h with h | h
      · rw [len_st] at h
        have : l = [] := List.length_eq_zero_iff.mp (by have : (⟨#[c]⟩ : Str).length = 1 := rfl; omega)
        simp [this]
      · simpa using StrLaws.kind_free _ _ h
    rw [spN_free c _ l hc]; rfl
  · split
    · rename_i h
      rw [List.isEmpty_iff] at h
      by_cases hk0 : k.toNat = 0
      · rw [hk0]
        cases l with
        | nil => rfl
        | cons x r => rfl
      · have : pos1 c l 0 = [] := by
          cases e : pos1 c l 0 with
          | nil => rfl
          | cons i t =>
            rw [e, show k.toNat = (k.toNat - 1) + 1 by omega] at h
            cases h
        rw [spN_free c _ l (pos_nil this)]; rfl
    · rw [StrLaws.partsBetween_eq]
      have := parts_go l c l 0 0 k.toNat rfl (Nat.le_refl _) (Nat.zero_le _)
      rw [show (⟨#[c]⟩ : Str).length = 1 from rfl, this, Nat.sub_self, List.take_zero, hdP_nil (spN_ne c _ l)]
theorem split_is (l:List Nat) (c:Nat):Txt.split ⟨l.toArray⟩ ⟨#[c]⟩ = (spN c (l.length + 1) l).map stS:=by
 have h:=splitM_is l c ((l.length + 1:Nat):Int) (by omega)
 rw [Int.toNat_natCast] at h
 rw [<- h]
 unfold Txt.split Txt.splitMax
 have hlim:limitOf ⟨l.toArray⟩ ((l.length + 1:Nat):Int) = (⟨l.toArray⟩:Str).length + 1:=by unfold limitOf; rw [if_neg (by omega),len_st]; omega
 rw [hlim]
theorem part_is (l : List Nat) (c : Nat) : ∃ w v u, Txt.partition ⟨l.toArray⟩ ⟨#[c]⟩ = (stS w, v, u) /\ (spN c 1 l).head? = some w := by
  unfold Txt.partition
  rw [occ_pos]
  have := parts_go l c l 0 0 1 rfl (Nat.le_refl _) (Nat.zero_le _)
  rw [Nat.sub_self, List.take_zero, hdP_nil (spN_ne c _ l)] at this
  cases e : pos1 c l 0 with
  | nil =>
    rw [spN_free c _ l (pos_nil e)]
    exact ⟨l, _, _, rfl, rfl⟩
  | cons i t =>
    rw [e] at this
    cases es : spN c 1 l with
    | nil => exact (spN_ne c 1 l es).elim
    | cons w ws =>
      rw [es] at this
      have h1 : Builtin.Str.strSub ⟨l.toArray⟩ 0 i = stS w := by
        have := congrArg List.head? this
        simpa [StrLaws.partsFrom] using this
      refine ⟨w, ⟨#[c]⟩, Builtin.Str.strSub ⟨l.toArray⟩ (i + (⟨#[c]⟩ : Str).length) (⟨l.toArray⟩ : Str).length, ?_, rfl⟩
      show (Builtin.Str.strSub ⟨l.toArray⟩ 0 i, _, _) = _
      rw [h1]
end BrTx
namespace L2
open PySem PySem.Spec PyProof.Rows BrTx
theorem vals_from:∀ (ws:List (List Nat)) (tk:Nat),Vals (ws.map tx) (strsFrom tk (ws.map stS))
 | [],_=>.nil
 | w :: ws,tk=>.cons ⟨tk,rfl⟩ (vals_from ws (tk + 1))
theorem spN_len (c : Nat) : ∀ (n : Nat) (l : List Nat), (spN c n l).length <= l.length + 1
  | 0, [] => by simp [spN]
  | n + 1, [] => by simp [spN]
  | 0, x :: r => by simp [spN]
  | n + 1, x :: r => by
    rw [spN]
    split
    · have := spN_len c n r
      simp; omega
    · have h1 := spN_len c (n + 1) r
      have : (consH x (spN c (n + 1) r)).length = (spN c (n + 1) r).length := by
        cases e : spN c (n + 1) r with
        | nil => exact (spN_ne c (n + 1) r e).elim
        | cons w ws => rfl
      rw [this, List.length_cons]; omega
def rSplit:V->List V->Hp->VK->Prop:=fun x vs H Q=>∃ l c,x = tx l/\l.length <= 2000/\((vs = [tx [c]]/\∀ p,H p = none->Q (.ref p) (upd H p (.lst ((spN c (l.length + 1) l).map tx)))) \/
 ∃ k:Int,vs = [tx [c],.int k]/\0 <= k/\k <= 1000/\∀ p,H p = none->Q (.ref p) (upd H p (.lst ((spN c k.toNat l).map tx))))
section
variable {X:Cx}
theorem lay_strs {pins:List (Addr × Obj)} {σ:St} {H:Hp} {s:Shared} {Q:VK} {ws:List (List Nat)} {k:Nat} {its:List Value} (I:Inv X pins σ H s) (hw:ws.length <= 2001) (hv:Vals (ws.map tx) its) (q:∀ p,H p = none->Q (.ref p) (upd H p (.lst (ws.map tx)))) :
  EP X pins σ Q (Value.ref s.heap.objs.size) { heap:=s.heap.push { cls:=Value.type "list",data:=Data.seq its.toArray },gens:=s.gens,drawn:=s.drawn,toks:=k,os:=s.os }:=by
 refine ⟨.ref _,_,I.laid (o:=.lst (ws.map tx)) (fun b ob q=>Heap.get?_push_of_some _ q) (Nat.le_refl _) ?_,rfl,q _ (I.hok.fresh (Nat.le_refl _))⟩
 exact ⟨by rw [List.length_map,sizeLine_eq]; omega,_,0,hv,Heap.get?_push_size _ rfl⟩
theorem mt_split : MtR X "str.split" rSplit := by
  intro pins s σ H x vs v us Q I rx rv h
  obtain ⟨l, c, rfl, hl, h⟩ := h
  obtain ⟨t, rfl⟩ := rx
  have e0 : ((⟨#[c]⟩ : Str).length == 0) = false := rfl
  have hlen : (⟨l.toArray⟩ : Str).length <= sizeLine := by rw [len_st, sizeLine_eq]; omega
  rcases h with ⟨rfl, q⟩ | ⟨k, rfl, k0, k1, q⟩
  · obtain ⟨u, rfl, tu, rfl⟩ := rv.one
    have sp := split_is l c
    have hw := spN_len c (l.length + 1) l
    unfold Txt.split at sp
    have one : [(⟨l.toArray⟩ : Str)] = (spN c (l.length + 1) l).map stS -> EP X pins σ Q (Value.ref s.heap.objs.size) { heap := s.heap.push { cls := Value.type "list", data := Data.seq #[Value.str ⟨l.toArray⟩ t] }, gens := s.gens, drawn := s.drawn, toks := s.toks, os := s.os } := fun e => by
      have e2 : spN c (l.length + 1) l = [l] := by
        cases es : spN c (l.length + 1) l with
        | nil => rw [es] at e; cases e
        | cons w ws =>
          rw [es] at e
          have h1 := congrArg List.length e
          have h2 := congrArg List.head? e
          simp at h1 h2
          have h3 : l.toArray = w.toArray := by
            have : (⟨l.toArray⟩ : Str) = ⟨w.toArray⟩ := h2
            injection this
          have h4 := congrArg Array.toList h3
          simp at h4
          rw [h1, h4]
      exact lay_strs (ws := [l]) (its := [Value.str ⟨l.toArray⟩ t]) I (by simp) (.cons ⟨t, rfl⟩ .nil) (by rw [e2] at q; exact q)
    by_cases hc : (decide ((⟨l.toArray⟩ : Str).length < (⟨#[c]⟩ : Str).length) || decide (Builtin.Str.strKind ⟨l.toArray⟩ < Builtin.Str.strKind ⟨#[c]⟩)) = true
    · rw [if_pos hc] at sp
      exact call_meets PySem.F.slot_str_split (typeIs_str s _ t) PySem.F.entry_str_split (PySem.F.args_str_split_2 _ _) (meets_str_split_cannot_occur _ _ t tu hc) (one sp)
    · rw [if_neg hc] at sp
      have hc' : (decide ((⟨l.toArray⟩ : Str).length < (⟨#[c]⟩ : Str).length) || decide (Builtin.Str.strKind ⟨l.toArray⟩ < Builtin.Str.strKind ⟨#[c]⟩)) = false := by simpa using hc
      by_cases he : (Builtin.Str.occurrences ⟨l.toArray⟩ ⟨#[c]⟩ 0 (⟨l.toArray⟩ : Str).length ((⟨l.toArray⟩ : Str).length + 1)).isEmpty = true
      · rw [if_pos he] at sp
        exact call_meets PySem.F.slot_str_split (typeIs_str s _ t) PySem.F.entry_str_split (PySem.F.args_str_split_2 _ _) (meets_str_split_not_found _ _ t tu hc' e0 he) (one sp)
      · rw [if_neg he] at sp
        have he' := by simpa using he
        refine call_meets PySem.F.slot_str_split (typeIs_str s _ t) PySem.F.entry_str_split (PySem.F.args_str_split_2 _ _) (meets_str_split_sep _ _ t tu hc' e0 (by simpa using he) hlen (by rw [sp, List.length_map, sizeLine_eq]; omega)) ?_
        rw [sp]
        exact lay_strs I (by omega) (vals_from _ _) q
  · obtain ⟨u, us', rfl, ⟨tu, rfl⟩, r2⟩ : ∃ u us', us = u :: us' /\ RelV (tx [c]) u /\ Vals [.int k] us' := by
      cases rv with
      | cons a b => exact ⟨_, _, rfl, a, b⟩
    obtain ⟨u2, rfl, tv, rfl⟩ := r2.one
    have hk : (decide (k < -2 ^ 63) || decide (k >= 2 ^ 63)) = false := by
      rw [Bool.or_eq_false_iff, decide_eq_false_iff_not, decide_eq_false_iff_not]
      omega
    have sp := splitM_is l c k k0
    have hw := spN_len c k.toNat l
    unfold Txt.splitMax at sp
    have one : [(⟨l.toArray⟩ : Str)] = (spN c k.toNat l).map stS -> EP X pins σ Q (Value.ref s.heap.objs.size) { heap := s.heap.push { cls := Value.type "list", data := Data.seq #[Value.str ⟨l.toArray⟩ t] }, gens := s.gens, drawn := s.drawn, toks := s.toks, os := s.os } := fun e => by
      have e2 : spN c k.toNat l = [l] := by
        cases es : spN c k.toNat l with
        | nil => rw [es] at e; cases e
        | cons w ws =>
          rw [es] at e
          have h1 := congrArg List.length e
          have h2 := congrArg List.head? e
          simp at h1 h2
          have h3 : l.toArray = w.toArray := by
            have : (⟨l.toArray⟩ : Str) = ⟨w.toArray⟩ := h2
            injection this
          have h4 := congrArg Array.toList h3
          simp at h4
          rw [h1, h4]
      exact lay_strs (ws := [l]) (its := [Value.str ⟨l.toArray⟩ t]) I (by simp) (.cons ⟨t, rfl⟩ .nil) (by rw [e2] at q; exact q)
    by_cases hc : (decide ((⟨l.toArray⟩ : Str).length < (⟨#[c]⟩ : Str).length) || decide (Builtin.Str.strKind ⟨l.toArray⟩ < Builtin.Str.strKind ⟨#[c]⟩)) = true
    · rw [if_pos hc] at sp
      exact call_meets PySem.F.slot_str_split (typeIs_str s _ t) PySem.F.entry_str_split (PySem.F.args_str_split_3 _ _ _) (meets_str_split_max_cannot_occur _ _ k t tu tv hk hc) (one sp)
    · rw [if_neg hc] at sp
      have hc' : (decide ((⟨l.toArray⟩ : Str).length < (⟨#[c]⟩ : Str).length) || decide (Builtin.Str.strKind ⟨l.toArray⟩ < Builtin.Str.strKind ⟨#[c]⟩)) = false := by simpa using hc
      by_cases he : (Builtin.Str.occurrences ⟨l.toArray⟩ ⟨#[c]⟩ 0 (⟨l.toArray⟩ : Str).length (limitOf ⟨l.toArray⟩ k)).isEmpty = true
      · rw [if_pos he] at sp
        exact call_meets PySem.F.slot_str_split (typeIs_str s _ t) PySem.F.entry_str_split (PySem.F.args_str_split_3 _ _ _) (meets_str_split_max_not_found _ _ k t tu tv hk hc' e0 he) (one sp)
      · rw [if_neg he] at sp
        refine call_meets PySem.F.slot_str_split (typeIs_str s _ t) PySem.F.entry_str_split (PySem.F.args_str_split_3 _ _ _) (meets_str_split_sep_max _ _ k t tu tv hk hc' e0 (by simpa using he) hlen (by rw [sp, List.length_map, sizeLine_eq]; omega)) ?_
        rw [sp]
        exact lay_strs I (by omega) (vals_from _ _) q
def rPart:V->List V->Hp->VK->Prop:=fun x vs H Q=>∃ l c w,x = tx l/\vs = [tx [c]]/\l.length <= 2000/\(spN c 1 l).head? = some w/\∀ p v u,H p = none->Q (.ref p) (upd H p (.tup [tx w,v,u]))
theorem mt_part : MtR X "str.partition" rPart := by
  intro pins s σ H x vs v us Q I rx rv h
  obtain ⟨l, c, w, rfl, rfl, hl, hw, q⟩ := h
  obtain ⟨t, rfl⟩ := rx
  obtain ⟨u, rfl, tu, rfl⟩ := rv.one
  have e0 : ((⟨#[c]⟩ : Str).length == 0) = false := rfl
  have hlen : (⟨l.toArray⟩ : Str).length <= sizeLine := by rw [len_st, sizeLine_eq]; omega
  obtain ⟨w', a, b, hp, hw'⟩ := part_is l c
  rw [hw] at hw'
  cases hw'
  have fin : ∀ {ta tb tc : Tok} {k : Nat}, EP X pins σ Q (Value.ref s.heap.objs.size) { heap := s.heap.push { cls := Value.type "tuple", data := Data.seq #[Value.str (stS w) ta, Value.str a tb, Value.str b tc] }, gens := s.gens, drawn := s.drawn, toks := k, os := s.os } := fun {ta tb tc k} => by
    refine ⟨.ref _, _, I.laid (o := .tup [tx w, .str a, .str b]) (fun b ob q => Heap.get?_push_of_some _ q) (Nat.le_refl _) ?_, rfl, q _ _ _ (I.hok.fresh (Nat.le_refl _))⟩
    exact ⟨by rw [sizeLine_eq]; simp, [_, _, _], .cons ⟨ta, rfl⟩ (.cons ⟨tb, rfl⟩ (.cons ⟨tc, rfl⟩ .nil)), ⟨_, Heap.get?_push_size _ rfl, rfl, 0, rfl⟩⟩
  refine call_meets PySem.F.slot_str_partition (typeIs_str s _ t) PySem.F.entry_str_partition (PySem.F.args_str_partition_2 _ _) (meets_str_partition _ _ t tu e0 hlen) ?_
  unfold Txt.partition at hp
  cases eo : Builtin.Str.occurrences ⟨l.toArray⟩ ⟨#[c]⟩ 0 (⟨l.toArray⟩ : Str).length 1 with
  | nil =>
    rw [eo] at hp
    simp only [Prod.mk.injEq] at hp
    obtain ⟨h1, h2, h3⟩ := hp
    subst h2 h3
    rw [<- h1] at fin
    exact fin
  | cons i r =>
    rw [eo] at hp
    simp only [Prod.mk.injEq] at hp
    obtain ⟨h1, h2, h3⟩ := hp
    subst h2 h3
    rw [<- h1] at fin
    exact fin
end
theorem s_split {l:List Nat} {c:Nat} {H:Hp} {Q:VK} (hl:l.length <= 2000) (q:∀ p,H p = none->Q (.ref p) (upd H p (.lst ((spN c (l.length + 1) l).map tx)))):rSplit (tx l) [tx [c]] H Q:=⟨l,c,rfl,hl,.inl ⟨rfl,q⟩⟩
theorem s_splitN {l:List Nat} {c:Nat} {k:Int} {H:Hp} {Q:VK} (hl:l.length <= 2000) (k0:0 <= k) (k1:k <= 1000) (q:∀ p,H p = none->Q (.ref p) (upd H p (.lst ((spN c k.toNat l).map tx)))):rSplit (tx l) [tx [c],.int k] H Q:=⟨l,c,rfl,hl,.inr ⟨k,rfl,k0,k1,q⟩⟩
theorem s_partT {l w:List Nat} {c:Nat} {H:Hp} {Q:VK} (hl:l.length <= 2000) (hw:(spN c 1 l).head? = some w) (q:∀ p v u,H p = none->Q (.ref p) (upd H p (.tup [tx w,v,u]))):rPart (tx l) [tx [c]] H Q:=⟨l,c,w,rfl,rfl,hl,hw,q⟩
end L2
namespace L2
open PySem PySem.Spec PyProof.Rows
section
variable {X:Cx}
def tCallV (i:Nat) (G:Addr->Prop) (spOf:Addr->Sp) (R:XR) (t:TA):TE:=fun σ H Q=>∃ f,σ[i]? = some (some (.ref f))/\G f/\t σ H fun vs H1=>spOf f vs H1 Q (xk R σ)
theorem pe_fnVE (i : Nat) {k : Nat} {x : Str} {ps : List Str} {G : Addr -> Prop} {spOf : Addr -> Sp} {R : XR} {e : Expr} {es : List Expr} {t : TA} {p pos : Pos}
    (U : ∀ f, G f -> ∃ fd, FnOk X.prog X.w X.K X.mg X.base (CXE X.prog X.w) k f fd ps (spOf f) /\ PySem.W.keepIn X.K (.ref f) = true /\ Binds X.K fd ps []) (hr : Room k X.A) (hx : ∀ e s', XF X R e s' -> X.xe e s') (ha : PA X (e :: es) t)
    (hN : X.N[i]? = some x := by rfl) (hv : Vis X.env.scope x := by first | exact Or.inl rfl | exact Or.inr (Or.inl rfl) | exact Or.inr (Or.inr rfl)) (hd : (x == ("__debug__" : Str)) = false := by decide) (hcd : (x == ("__classdict__" : Str)) = false := by decide)
    (he : starEach (e :: es) X.env = (false, eval e X.env) :: starEach es X.env := by rfl) (hpl : (backTo pos (starEach es X.env)).any (·.1) = false := by rfl) :
    PE X (.Call (.Name x p) (e :: es) [] pos) (tCallV i G spOf R t) := by
  intro pins s σ H Q I h
  obtain ⟨f, ef, hf, h⟩ := h
  obtain ⟨fd, F, hk, hb⟩ := U f hf
  refine wpAny_Call_Name_kw (thn (pe_var hN hv hd hcd pins s σ H (fun v H' => v = .ref f /\ H' = H) I ⟨.ref f, ef, rfl, rfl⟩) fun u s0 ⟨v, H0, I0, r0, ev, eH⟩ => ?_)
  subst ev eH
  obtain rfl : u = Value.ref f := r0
  refine PySem.W.callWith_K (h₀ := X.base) I0.ok.mod.kin hk (thn (ha pos pins s0 σ _ _ I0 h) fun us s1 ⟨vs, H1, I1, r, q⟩ => ⟨I1.kIn, ?_⟩) he hpl
  have hl : us.length = ps.length := by rw [<- r.length]; exact F.len _ _ _ _ q
  refine wpAny_call (codeAny_mono (F.run X.A X.stack s1 H1 ⟨us, []⟩ us vs Q (xk R σ) hr I1.env0 ?_ r q) fun res s' hq => ?_)
  · have z := hb s1 us I1.kIn (by rw [List.append_nil]; exact hl)
    rw [List.append_nil] at z; exact z
  · cases res with
    | error ev => exact hx _ _ ⟨pins, σ, H1, s1, I1, hq⟩
    | ok fl =>
      cases fl with
      | ret u => exact I1.after hq
      | next => exact False.elim hq
      | brk => exact False.elim hq
      | cont => exact False.elim hq
def FDc (P:Program) (w:World) (K:PySem.W.Frag) (a:Addr) (kvs:List (Key × V)):Prop:=∃ (o:Obj) (es:Array DictEntry) (ep:Nat) (vs:List (Key × Value)),KV kvs vs/\K.lookup a = some o/\o.ExactDict/\o.data = Data.dict es ep/\KeysOf (mixKind P w) es/\Pairs (mixKind P w) es.toList vs/\(vs.map fun x=>x.1).Nodup/\(a == sysModules) = false
theorem FDc.of {pins:List (Addr × Obj)} {σ:St} {H:Hp} {s:Shared} {a:Addr} {kvs:List (Key × V)} (h:FDc X.prog X.w X.K a kvs) (I:Inv X pins σ H s):(a == sysModules) = false/\∃ vs,KV kvs vs/\s.heap.DictOf (mixKind X.prog X.w) a vs:=by
 obtain ⟨o,es,ep,vs,r,lk,ex,hd,hk,hp,nd,ns⟩:=h
 exact ⟨ns,vs,r,o,es,ep,I.kIn _ _ lk,ex,hd,hk,hp,nd⟩
def tDGetF (P:Program) (w:World) (K:PySem.W.Frag) (td ty:TE):TE:=fun σ H Q=>td σ H fun x H1=>ty σ H1 fun y H2=>∃ a kvs k v,x = .ref a/\FDc P w K a kvs/\y = kV k/\valV kvs k = some v/\Q v H2
theorem pe_dgetF {o i:Expr} {td ty:TE} {pos:Pos} (P:Program) (w:World) (K:PySem.W.Frag) (ho:PE X o td) (hi:PE X i ty) (hs:NoSl i) (hP:X.prog = P:=by rfl) (hw:X.w = w:=by rfl) (hK:X.K = K:=by rfl):PE X (.Subscript o i pos) (tDGetF P w K td ty):=by
 subst hP hw hK
 intro pins s σ H Q I h
 refine subD_of PySem.F.slot_dict_getitem.lookup hs (thn (ho pins s σ H _ I h) fun u s1 ⟨x,H1,I1,rx,q1⟩=>thn (hi pins s1 σ H1 _ I1 q1) fun iv s2 ⟨y,H2,I2,ry,a,kvs,k,v,ex,f,ey,l,q2⟩=>?_)
 subst ex ey
 obtain rfl:u = Value.ref a:=rx
 obtain ⟨_,vs,rel,dd⟩:=f.of I2
 obtain ⟨w',hw,rw'⟩:=RelO.some_of (v:=v) (o:=valueAt vs k) (by rw [<- l]; exact rel.val k)
 exact ⟨dd.typeIs,wpAny_getItem_of (kV_is ry) dd.mapOf hw ⟨v,H2,I2.tok _,rw',q2⟩⟩
def tDNotInF (P:Program) (w:World) (K:PySem.W.Frag) (ty td:TE):TE:=fun σ H Q=>ty σ H fun y H1=>td σ H1 fun x H2=>∃ a kvs k,x = .ref a/\FDc P w K a kvs/\y = kV k/\Q (.bl (!(valV kvs k).isSome)) H2
theorem pc_dnotinF {o i:Expr} {td ty:TE} (P:Program) (w:World) (K:PySem.W.Frag) (hi:PE X i ty) (ho:PE X o td) (hP:X.prog = P:=by rfl) (hw:X.w = w:=by rfl) (hK:X.K = K:=by rfl):PC X .NotIn i o (tDNotInF P w K ty td):=by
 subst hP hw hK
 intro pins s σ H Q I h
 refine thn (hi pins s σ H _ I h) fun iv s1 ⟨y,H1,I1,ry,q1⟩=>thn (ho pins s1 σ H1 _ I1 q1) fun u s2 ⟨x,H2,I2,rx,a,kvs,k,ex,f,ey,q2⟩=>?_
 subst ex ey
 obtain rfl:u = Value.ref a:=rx
 obtain ⟨ns,vs,rel,dd⟩:=f.of I2
 refine wpAny_notIn_of (kV_is ry) ns dd.mapOf ?_
 rw [<- (rel.val k).isSome_eq]
 exact ⟨.bl _,H2,I2.tok _,rfl,q2⟩
def strE (w:World) (x:Str × Tok × Value):DictEntry:=⟨PyData.keyHash w.params x.1,.str x.1 x.2.1,x.2.2⟩
theorem fdc_pairs {P:Program} {w:World}:∀ l:List (Str × Tok × Value),Pairs (mixKind P w) (l.map (strE w)) (l.map fun x=>((.inr x.1:Key),x.2.2))
 | []=>.nil
 | x :: l=>.cons (keyIs_str x.1 x.2.1) rfl (fdc_pairs l)
theorem fdc_kv : ∀ {l : List (Str × Tok × Value)} {vs : List V}, Paired RelV vs (l.map fun x => x.2.2) -> KV ((l.map fun x => (.inr x.1 : Key)).zip vs) (l.map fun x => ((.inr x.1 : Key), x.2.2))
  | [], [], _ => .nil
  | [], _ :: _, h => by cases h
  | x :: l, [], h => by cases h
  | x :: l, v :: vs, h => by
    cases h with
    | cons a b => exact .cons ⟨rfl, a⟩ (fdc_kv b)
theorem fdc_mk {P:Program} {w:World} {K:PySem.W.Frag} {a:Addr} {o:Obj} {ep:Nat} (l:List (Str × Tok × Value)) {vs:List V} (lk:K.lookup a = some o) (ex:o.ExactDict) (dt:o.data = .dict (l.map (strE w)).toArray ep) (hr:Paired RelV vs (l.map fun x=>x.2.2)) (nd:(l.map fun x=>x.1).Nodup) (ns:(a == sysModules) = false) :
  FDc P w K a ((l.map fun x=>(.inr x.1:Key)).zip vs):=by
 refine ⟨o,_,ep,_,fdc_kv hr,lk,ex,dt,fun e he=>?_,by simpa using fdc_pairs l,?_,ns⟩
 ·have he':e ∈ l.map (strE w):=by simpa using he
  obtain ⟨x,hx,rfl⟩:=List.mem_map.mp he'
  exact ⟨.inr x.1,keyIs_str x.1 x.2.1,rfl⟩
 ·rw [List.map_map]
  have:(l.map ((fun x=>x.1) ∘ fun x:Str × Tok × Value=>((.inr x.1:Key),x.2.2))) = (l.map fun x=>x.1).map Sum.inr:=by rw [List.map_map]; rfl
  rw [this]
  exact List.Pairwise.map _ (fun a b h z=>h (Sum.inr.inj z)) nd
end
end L2
namespace PySem
open Sem (wp)
section
variable {prog:Program} {w:World} {A:Around} {E:Value->Shared->Prop} {s:Shared}
theorem nx_tup {j u:Addr} {n:Nat} {zs} {y:Value} {Q:Value->Shared->Prop} (hj:s.heap.IsTupleIter j u n) (hu:s.heap.IsTuple u zs) (hy:zs[n]? = some y)
  (hQ:∀ h',h'.IsTupleIter j u (n + 1)->Heap.SameBut j s.heap h'->Q y { s with heap:=h' }):wpAny (model prog w) A (Builtin.SmallTypes.nextOf (.ref j)) Q E s:=by
 obtain ⟨o,ho,hc,hd⟩:=id hj
 obtain ⟨q,hq,_,m,hm⟩:=hu
 unfold Builtin.SmallTypes.nextOf
 refine wpAny_bind (wpAny_callSpecial?_slot (name:=Str.ofString "__next__") hj.typeIs F.slot_tuple_iterator_next (wpAny_call_entry F.slot_tuple_iterator_next hj.typeIs F.entry_tuple_iterator_next ?_ (F.args_tuple_iterator_next_1 _)))
 show wpAny _ _ (field (.ref j) 0 >>= _) _ _ s
 refine wpAny_bind (wpAny_field ho hd (x:=.ref u) rfl ?_)
 show wpAny _ _ (if (Value.ref u == Value.none) = true then _ else _) _ _ s
 rw [if_neg (show ¬ ((Value.ref u == Value.none) = true) from Bool.false_ne_true)]
 show wpAny _ _ (field (.ref j) 1 >>= _) _ _ s
 refine wpAny_bind (wpAny_field ho hd (x:=.int n 0) rfl ?_)
 show wpAny _ _ (seqItems? (.ref u) >>= _) _ _ s
 refine wpAny_bind (wpAny_seqItems hq hm ?_)
 simp only [Int.toNat_natCast,hy]
 refine wpAny_bind (wpAny_setField ho hd (by simp) (wpAny_pure ⟨y,rfl,wpAny_pure (hQ _ ⟨_,Heap.get?_update_self _ ho (Obj.isFreed_of_fields (Obj.data_mapFields hd _)),(Obj.cls_mapFields ..).trans hc,?_⟩ (Heap.SameBut.update ..))⟩))
 rw [Obj.data_mapFields hd]; simp [rawInt]
theorem nx_tup_end {j u:Addr} {n:Nat} {zs} {Q:Value->Shared->Prop} (hh:A.handled = none) (hj:s.heap.IsTupleIter j u n) (hu:s.heap.IsTuple u zs) (hy:zs[n]? = none)
  (hE:∀ h' e,Heap.ExtBut j s.heap h'->(∃ o,h'.get? e = some o/\o.cls = .type "StopIteration")->E (.ref e) { s with heap:=h' }):wpAny (model prog w) A (Builtin.SmallTypes.nextOf (.ref j)) Q E s:=by
 obtain ⟨o,ho,hc,hd⟩:=id hj
 obtain ⟨q,hq,_,m,hm⟩:=hu
 unfold Builtin.SmallTypes.nextOf
 refine wpAny_bind (wpAny_callSpecial?_slot (name:=Str.ofString "__next__") hj.typeIs F.slot_tuple_iterator_next (wpAny_call_entry F.slot_tuple_iterator_next hj.typeIs F.entry_tuple_iterator_next ?_ (F.args_tuple_iterator_next_1 _)))
 show wpAny _ _ (field (.ref j) 0 >>= _) _ _ s
 refine wpAny_bind (wpAny_field ho hd (x:=.ref u) rfl ?_)
 show wpAny _ _ (if (Value.ref u == Value.none) = true then _ else _) _ _ s
 rw [if_neg (show ¬ ((Value.ref u == Value.none) = true) from Bool.false_ne_true)]
 show wpAny _ _ (field (.ref j) 1 >>= _) _ _ s
 refine wpAny_bind (wpAny_field ho hd (x:=.int n 0) rfl ?_)
 show wpAny _ _ (seqItems? (.ref u) >>= _) _ _ s
 refine wpAny_bind (wpAny_seqItems hq hm ?_)
 simp only [Int.toNat_natCast,hy]
 refine wpAny_bind (wpAny_rule (wpAny_bind (wpAny_setField ho hd (by simp) ?_)))
 show wpAny _ _ (newExc (.type "StopIteration") [] >>= _) _ _ _
 refine wpAny_bind ?_
 simp only [newExc,newTuple]
 refine wpAny_bind (wpAny_newObj_type ?_ (by size_fits))
 refine wpAny_bind (m:=firstArgMember _ _) (wpAny_of_eq (a:=Value.none) (by first | rfl | (simp only [firstArgMember]; rfl)) ?_)
 refine wpAny_newObj_type ?_ (by size_fits)
 simp only [raiseNew]
 refine wpAny_bind (wpAny_handled ?_)
 first | rw [show A.in1.handled = none from hh] | rw [hh]
 refine wpAny_bind (wpAny_pure (wpAny_throw ?_))
 exact hE _ _ (((Heap.SameBut.update ..).extBut.push _).push _) ⟨_,Heap.get?_push_size _ rfl,rfl⟩
end
theorem drawsTup {prog:Program} {w:World} {A:Around} (hh:A.handled = none) (j u:Addr) (hne:u ≠ j) (zs:Array Value):Draws prog w A j [j,u] zs.size (fun i v=>zs[i]? = some v) (fun i h=>h.IsTupleIter j u i/\h.IsTuple u zs) where
 live:=fun _ _ st=>let ⟨o,ho,_⟩:=st.1; ⟨o,ho⟩
 frame:=fun _ _ _ st hk=>⟨st.1.at fun o e=>hk j (by simp) o e,let ⟨o,ho,r⟩:=st.2; ⟨o,hk u (by simp) o ho,r⟩⟩
 item:=fun i s Q E hi st hQ=>nx_tup st.1 st.2 (y:=zs[i]) (by simp [hi]) fun h' a b=>hQ _ h' s.toks (by simp [hi]) ⟨a,st.2.extBut b.extBut hne⟩ b
 done:=fun s Q E st hE=>nx_tup_end hh st.1 st.2 (by simp) hE
abbrev uit (l:Addr):Obj:={ cls:=.type "tuple_iterator",data:=.fields #[.ref l,.int 0 0] }
abbrev zu2 (h:Heap) (x l:Addr):Heap:=(h.push (lit x)).push (uit l)
abbrev zu3 (h:Heap) (x l:Addr):Heap:=(zu2 h x l).push { cls:=.type "tuple",data:=.seq #[.ref h.objs.size,.ref (h.push (lit x)).objs.size] }
abbrev zu4 (h:Heap) (x l:Addr):Heap:=(zu3 h x l).push { cls:=.type "tuple",data:=.seq #[.none,.none] }
abbrev zu5 (h:Heap) (x l:Addr):Heap:=(zu4 h x l).push { cls:=.type "zip",data:=.fields #[.none,.bool false,.bool false,.ref (zu2 h x l).objs.size,.ref (zu3 h x l).objs.size] }
theorem meets_zip_newU (x l:Addr) {items items2:Array Value} {n:Nat} (lo lo2:Obj) (hlo:lo = { cls:=.type "list",data:=.seq items n }) (hc2:lo2.cls = .type "tuple") (hd2:∃ n,lo2.data = .seq items2 n) :
  Meets (Builtin.«zip.__new__» ⟨[.type "zip",.ref x,.ref l],[]⟩) (fun _ R s=>s.heap.get? x = some lo/\s.heap.get? l = some lo2/\R (.ok (.ret (.ref (zu4 s.heap x l).objs.size))) { s with heap:=zu5 s.heap x l }) :=
 .of_wp fun prog w A R s h=>by
  obtain ⟨hp,g,d,tk,os⟩:=s
  obtain ⟨hx,hl,h⟩:=h
  subst hlo
  have hsub:=sub_zip
  have hl1:hp.IsList x items:=⟨_,hx,rfl,_,rfl⟩
  have hl2:(hp.push (lit x)).IsTuple l items2:=⟨_,Heap.get?_push_of_some _ hl,hc2,hd2⟩
  wp_walk using wpAny_pyIter_list hl1,wpAny_pyIter_tuple hl2
  exact ⟨_,rfl,h⟩
theorem call_zipU {prog : Program} {w : World} {A : Around} {E : Value -> Shared -> Prop} {s : Shared} {x l : Addr} {items items2 : Array Value} {n : Nat} {Q : Value -> Shared -> Prop}
  (hx : s.heap.get? x = some { cls := .type "list", data := .seq items n }) (hl : s.heap.IsTuple l items2) (h : ∀ h', IsZip h' (s.heap.objs.size + 4) (s.heap.objs.size + 2) (s.heap.objs.size + 3) .none -> IsPair h' (s.heap.objs.size + 2) (.ref s.heap.objs.size) (.ref (s.heap.objs.size + 1)) ->
   IsPair h' (s.heap.objs.size + 3) .none .none -> h'.IsListIter s.heap.objs.size x 0 -> h'.IsTupleIter (s.heap.objs.size + 1) l 0 -> h'.objs.size = s.heap.objs.size + 5 ->
   (∀ c o, s.heap.get? c = some o -> h'.get? c = some o) -> Q (.ref (s.heap.objs.size + 4)) { s with heap := h' }) :
  wpAny (model prog w) A (call (.type "zip") [.ref x, .ref l]) Q E s := by
 obtain ⟨lo, hl, hc2, hd2⟩ := hl
 refine callType_new F.called_zip (by decide) (F.typeCall_zip_2 _ _) (F.newCall_zip_2 _ _) (fun obj => F.args_object_init_3 obj _ _) F.entry_zip_new
  (meets_zip_newU x l (items := items) (n := n) (items2 := items2) _ lo rfl hc2 hd2) ?_
 have z1 : (s.heap.push (lit x)).objs.size = s.heap.objs.size + 1 := Heap.size_push ..
 have z2 : (zu2 s.heap x l).objs.size = s.heap.objs.size + 2 := by rw [Heap.size_push, z1]
 have z3 : (zu3 s.heap x l).objs.size = s.heap.objs.size + 3 := by rw [Heap.size_push, z2]
 have z4 : (zu4 s.heap x l).objs.size = s.heap.objs.size + 4 := by rw [Heap.size_push, z3]
 have z5 : (zu5 s.heap x l).objs.size = s.heap.objs.size + 5 := by rw [Heap.size_push, z4]
 have g5 : (zu5 s.heap x l).get? (zu4 s.heap x l).objs.size = some _ := Heap.get?_push_size _ rfl
 have g4 : (zu5 s.heap x l).get? (zu3 s.heap x l).objs.size = some _ := Heap.get?_push_of_some _ (Heap.get?_push_size _ rfl)
 have g3 : (zu5 s.heap x l).get? (zu2 s.heap x l).objs.size = some _ := Heap.get?_push_of_some _ (Heap.get?_push_of_some _ (Heap.get?_push_size _ rfl))
 have g2 : (zu5 s.heap x l).get? (s.heap.push (lit x)).objs.size = some _ := Heap.get?_push_of_some _ (Heap.get?_push_of_some _ (Heap.get?_push_of_some _ (Heap.get?_push_size _ rfl)))
 have g1 : (zu5 s.heap x l).get? s.heap.objs.size = some _ := Heap.get?_push_of_some _ (Heap.get?_push_of_some _ (Heap.get?_push_of_some _ (Heap.get?_push_of_some _ (Heap.get?_push_size _ rfl))))
 refine ⟨hx, hl, ?_⟩
 show _ /\ _
 rw [z2, z3, z4] at g5
 rw [z1, z2] at g3
 rw [z3] at g4
 rw [z1] at g2
 rw [z4]
 exact ⟨⟨_, g5, rfl⟩, h _ g5 g3 g4 ⟨_, g1, rfl, rfl⟩ ⟨_, g2, rfl, rfl⟩ z5 fun c o x =>
  Heap.get?_push_of_some _ (Heap.get?_push_of_some _ (Heap.get?_push_of_some _ (Heap.get?_push_of_some _ (Heap.get?_push_of_some _ x))))⟩
end PySem
namespace L2
open PySem PySem.Spec PyProof.Rows
def FTu (K:PySem.W.Frag) (a:Addr) (xs:List V):Prop:=∃ (o:Obj) (its:Array Value) (n:Nat),K.lookup a = some o/\o.cls = .type "tuple"/\o.data = .seq its n/\its.size <= sizeLine/\Vals xs its.toList
theorem FTu.sq {K:PySem.W.Frag} {H:Hp} {a:Addr} {xs:List V} (h:FTu K a xs):SqT K H a xs:=.inr h
def IzU (x:Addr) (xs:List V):It:=⟨fun i H=>(∃ zs,H x = some (.lst zs)/\i < zs.length)/\i < xs.length,fun i H v H'=>∃ T zs c d,H T = none/\H x = some (.lst zs)/\zs[i]? = some c/\xs[i]? = some d/\v = .ref T/\H' = upd H T (.tup [c,d]),fun i H=>∃ zs,H x = some (.lst zs)/\(i = zs.length\/(i < zs.length/\i = xs.length))⟩
section
variable {P:Program} {w:World} {K:PySem.W.Frag} {elts:List Expr} {k:Nat} {tpos:Pos}
theorem turn_zipU {x l:Addr} {xs:List V} {z TI TO i1 i2:Addr} (hF:FTu K l xs) (D:ZAp z TI TO i1 i2 [i1] [i2]) (nel:∀ b ∈ [z,TI,TO,i1,i2],l ≠ b) :
  Turn P w K (.Tuple elts k tpos) (IzU x xs) [z,TI,TO,i1,i2] z (fun i h=>IsZip h z TI TO .none/\IsPair h TI (.ref i1) (.ref i2)/\(∃ a b,IsPair h TO a b)/\h.IsListIter i1 x i/\h.IsTupleIter i2 l i) where
 mem:=by simp
 obj:=fun i h st b hb=>by
  obtain ⟨hz,hTI,⟨a,b',hTO⟩,⟨o1,ho1,_,hd1⟩,⟨o2,ho2,_,hd2⟩⟩:=st
  simp only [List.mem_cons,List.not_mem_nil,or_false] at hb
  rcases hb with e | e | e | e | e
  ·rw [e]; exact ⟨_,hz,fun v z=>by cases z⟩
  ·rw [e]; exact ⟨_,hTI,fun v z=>by cases z⟩
  ·rw [e]; exact ⟨_,hTO,fun v z=>by cases z⟩
  ·rw [e]; exact ⟨_,ho1,fun v z=>by rw [hd1] at z; cases z⟩
  ·rw [e]; exact ⟨_,ho2,fun v z=>by rw [hd2] at z; cases z⟩
 keep:=fun i h h' st k=>by
  obtain ⟨hz,hTI,⟨a,b',hTO⟩,⟨o1,ho1,r1⟩,⟨o2,ho2,r2⟩⟩:=st
  exact ⟨k z (by simp) _ hz,k TI (by simp) _ hTI,⟨a,b',k TO (by simp) _ hTO⟩,⟨o1,k i1 (by simp) _ ho1,r1⟩,⟨o2,k i2 (by simp) _ ho2,r2⟩⟩
 item:=by
  intro X hP hw hK hc i pins s σ H E I hf st hg
  subst hP hw hK
  obtain ⟨hz,hTI,⟨a,b',hTO⟩,h1,h2⟩:=st
  obtain ⟨⟨zs,hzs,hg1⟩,hg2⟩:=hg
  have nx:∀ b ∈ [z,TI,TO,i1,i2],x ≠ b:=fun b hb e=>by have:=(hf b hb).1; rw [<- e,hzs] at this; cases this
  obtain ⟨its,rv,hL,hln⟩:=I.tuple (hF.sq (H:=H))
  obtain ⟨zz',its',n',rv',hln',hlo'⟩:=I.lstM hzs
  have hX:s.heap.IsList x its'.toArray:=⟨_,hlo',rfl,_,rfl⟩
  have hlen:=rv.length
  have D':=zap_m (x:=x) (l:=l) D (nel z (by simp)) (nel TO (by simp)) (nel i1 (by simp)) (nx z (by simp)) (nx TO (by simp)) (nx i2 (by simp))
  refine thn (zip_item (elts:=elts) (k:=k) (tpos:=tpos) (Qx:=fun v q=>∃ d,zs[i]? = some d/\q = d) (Qy:=fun v q=>∃ d,xs[i]? = some d/\q = d)
   (tn:=fun h=>IsZip h z TI TO .none/\IsPair h TI (.ref i1) (.ref i2)/\(∃ a b,IsPair h TO a b)/\h.IsListIter i1 x (i + 1)/\h.IsTupleIter i2 l (i + 1)) D' (Draws.list (A:=X.A.in1) (I.ok.hd hc) i1 x (nx i1 (by simp)) its'.toArray) (drawsTup (A:=X.A.in1) (I.ok.hd hc) i2 l (nel i2 (by simp)) its.toArray) I hf hz hTI hTO ⟨h1,hX⟩ ⟨h2,hL⟩ (by rw [List.size_toArray]; omega) (by rw [List.size_toArray]; omega)
   (fun h' _ _ a1 a2 a3 a4 a5=>⟨a1,a2,⟨_,_,a3⟩,a4.1,a5.1⟩) ?_ ?_) ?_
  ·intro v hv
   obtain ⟨u1,g1,ru⟩:=rv'.get (i:=i) (x:=zs[i]) (List.getElem?_eq_getElem hg1)
   have:u1 = v:=by
    have hv:its'.toArray[i]? = some v:=hv
    rw [List.getElem?_toArray,g1] at hv
    exact Option.some.inj hv
   subst this
   exact ⟨zs[i],ru,zs[i],List.getElem?_eq_getElem hg1,rfl⟩
  ·intro v hv
   obtain ⟨u1,g1,ru⟩:=rv.get (i:=i) (x:=xs[i]) (List.getElem?_eq_getElem hg2)
   have:u1 = v:=by
    have hv:its.toArray[i]? = some v:=hv
    rw [List.getElem?_toArray,g1] at hv
    exact Option.some.inj hv
   subst this
   exact ⟨xs[i],ru,xs[i],List.getElem?_eq_getElem hg2,rfl⟩
  ·rintro r s1 ⟨u,hr,h1⟩
   refine ⟨u,hr,thn h1 ?_⟩
   rintro _ s2 ⟨xv,H',I2,rx,⟨Ta,q1,q2,v1,v2,hT,⟨c,hx,rfl⟩,⟨d,hy,rfl⟩,ex,eH⟩,tn2,fr⟩
   exact ⟨xv,H',I2,rx,⟨Ta,zs,q1,q2,hT,hzs,hx,hy,ex,eH⟩,tn2,fr⟩
 done:=by
  intro X hP hw hK hc i pins s σ H E I hf st hg
  subst hP hw hK
  obtain ⟨hz,hTI,⟨a,b',hTO⟩,h1,h2⟩:=st
  obtain ⟨zs,hzs,hg⟩:=hg
  have nx:∀ b ∈ [z,TI,TO,i1,i2],x ≠ b:=fun b hb e=>by have:=(hf b hb).1; rw [<- e,hzs] at this; cases this
  obtain ⟨its,rv,hL,hln⟩:=I.tuple (hF.sq (H:=H))
  obtain ⟨zz',its',n',rv',hln',hlo'⟩:=I.lstM hzs
  have hX:s.heap.IsList x its'.toArray:=⟨_,hlo',rfl,_,rfl⟩
  have hlen:=rv.length
  have D':=zap_m (x:=x) (l:=l) D (nel z (by simp)) (nel TO (by simp)) (nel i1 (by simp)) (nx z (by simp)) (nx TO (by simp)) (nx i2 (by simp))
  exact pyNext_zipD_end D' (Draws.list (A:=X.A.in1) (I.ok.hd hc) i1 x (nx i1 (by simp)) its'.toArray) (drawsTup (A:=X.A.in1) (I.ok.hd hc) i2 l (nel i2 (by simp)) its.toArray) hz hTI hTO ⟨h1,hX⟩ ⟨h2,hL⟩ (hg.imp (fun a=>by rw [List.size_toArray]; omega) fun ⟨a,b⟩=>⟨by rw [List.size_toArray]; omega,by rw [List.size_toArray]; omega⟩) fun h' tk hx=>⟨rfl,I.turnedAll (t':=tk) hf fun b o hb q=>hx b o (fun z=>hb (by simp [z])) (fun z=>hb (by simp [z])) (fun z=>hb (by simp [z])) (fun z=>hb (by simp [z])) q⟩
 self:=fun A i s Q E st h=>wpAny_pyIter_zip st.1 h
end
def iZiU (K:PySem.W.Frag) (ta:TA):TI:=fun σ H R=>ta σ H fun vs H1=>∃ x l zs xs,vs = [.ref x,.ref l]/\H1 x = some (.lst zs)/\FTu K l xs/\R (IzU x xs) H1
section
variable {X:Cx} {a b:Expr} {ta:TA} {p pos:Pos} {elts:List Expr} {k:Nat} {tpos:Pos}
theorem pi_zipU (K : PySem.W.Frag) (hg : Gl X "zip") (hm : X.mg "zip" = none) (ha : PA X [a, b] ta) (hs : starEach [a, b] X.env = [(false, eval a X.env), (false, eval b X.env)] := by rfl) (hs2 : starEach [b] X.env = [(false, eval b X.env)] := by rfl) (hK : X.K = K := by rfl) : PI X (.Tuple elts k tpos) (.Call (.Name "zip" p) [a, b] [] pos) (iZiU K ta) := by
  subst hK
  intro pins s σ H R I h
  refine Call_ (ld_blt I hg hm boot_zip (PyProof.Rows.callWith_type1 (thn (ha pos pins s σ H _ I h) fun us s1 ⟨vs, H1, I1, r1, q1⟩ => ?_) (by rw [hs, hs2]) (by rw [hs2]; rfl)))
  obtain ⟨x, l, zs, xs, e, hx, hF, q⟩ := q1
  subst e
  cases r1 with
  | cons r rr =>
    cases rr with
    | cons r2 rr =>
      cases rr
      cases r
      cases r2
      obtain ⟨its, rv, hL, hln⟩ := I1.tuple (hF.sq (H := H1))
      obtain ⟨zz', its', n', rv', hln', hlo'⟩ := I1.lstM hx
      have nel : ∀ b ∈ [s1.heap.objs.size + 4, s1.heap.objs.size + 2, s1.heap.objs.size + 3, s1.heap.objs.size, s1.heap.objs.size + 1], l ≠ b := fun b hb e => by
        obtain ⟨o, ho, _⟩ := hL
        have hlt : l < s1.heap.objs.size := Heap.lt_size ho
        simp only [List.mem_cons, List.not_mem_nil, or_false] at hb
        rw [e] at hlt
        rcases hb with rfl | rfl | rfl | rfl | rfl
        · exact Nat.not_lt.mpr (Nat.le_add_right _ 4) hlt
        · exact Nat.not_lt.mpr (Nat.le_add_right _ 2) hlt
        · exact Nat.not_lt.mpr (Nat.le_add_right _ 3) hlt
        · exact Nat.lt_irrefl _ hlt
        · exact Nat.not_lt.mpr (Nat.le_add_right _ 1) hlt
      refine call_zipU hlo' hL fun h' hz hTI hTO h1 h2 hsz hk => wpAny_pyIter_zip hz ?_
      exact ⟨s1.heap.objs.size + 4, [s1.heap.objs.size + 4, s1.heap.objs.size + 2, s1.heap.objs.size + 3, s1.heap.objs.size, s1.heap.objs.size + 1], _, _, H1, rfl, I1.kept (t' := s1.toks) hk, turn_zipU hF (zap5 _) nel, ⟨hz, hTI, ⟨_, _, hTO⟩, h1, h2⟩, fresh5 I1, q⟩
end
theorem s_iziU {K:PySem.W.Frag} {σ:St} {H:Hp} {ta:TA} {R:It->Hp->Prop} (h:ta σ H fun vs H1=>∃ x l zs xs,vs = [.ref x,.ref l]/\H1 x = some (.lst zs)/\FTu K l xs/\R (IzU x xs) H1):iZiU K ta σ H R:=h
end L2
namespace L2
open PySem PySem.Spec PyProof.Rows
def glue (c:List Nat):List (List Nat)->List Nat
 | []=>[]
 | [a]=>a
 | a :: b :: r=>a ++ c ++ glue c (b :: r)
theorem join_glue (c : List Nat) : ∀ (xss : List (List Nat)), Str.join ⟨c.toArray⟩ (xss.map fun a => ⟨a.toArray⟩) = ⟨(glue c xss).toArray⟩
  | [] => rfl
  | [a] => by simp [Str.join, glue]
  | a :: b :: r => by
    have ih := join_glue c (b :: r)
    rw [List.map_cons, List.map_cons] at *
    show (⟨a.toArray⟩ : Str) ++ ⟨c.toArray⟩ ++ Str.join ⟨c.toArray⟩ (⟨b.toArray⟩ :: r.map fun a => ⟨a.toArray⟩) = _
    rw [ih]
    show (⟨a.toArray ++ c.toArray ++ (glue c (b :: r)).toArray⟩ : Str) = _
    simp [glue]
section
variable {X:Cx}
def rJoinG (K:PySem.W.Frag):V->List V->Hp->VK->Prop:=fun x vs H Q=>∃ (p:Addr) (c:List Nat) (xss:List (List Nat)),x = tx c/\c.length <= 16/\vs = [.ref p]/\SqL K H p (xss.map tx)/\xss.flatten.length + xss.length <= 1000000/\Q (tx (glue c xss)) H
theorem mt_joinG (K:PySem.W.Frag) (hK:X.K = K:=by rfl):MtR X "str.join" (rJoinG K):=by
 subst hK
 intro pins s σ H x vs v us Q I rx rv h
 obtain ⟨p,c,xss,rfl,hc,rfl,hq,hw,q⟩:=h
 obtain ⟨t,rfl⟩:=rx
 obtain ⟨u,rfl,ru⟩:=rv.one
 cases ru
 obtain ⟨its,r,ht,hz⟩:=I.list hq
 have hs:((xss.map fun a=>(⟨a.toArray⟩:Str)).map (·.length)).sum = xss.flatten.length:=by
  rw [List.map_map,List.length_flatten]
  congr 1
 refine join_listW ht.isList (strs_of r) (by rw [tx_len]; exact hc) (by rw [hs,List.length_map]; omega) fun t' k=>?_
 have e:Txt.join ⟨c.toArray⟩ (xss.map fun a=>⟨a.toArray⟩) = ⟨(glue c xss).toArray⟩:=by
  show Builtin.Str.glued _ _ = _
  rw [StrLaws.glued_eq_join,join_glue]
 rw [e]
 exact ⟨tx (glue c xss),H,I.tok k,⟨t',rfl⟩,q⟩
theorem s_joinG {K:PySem.W.Frag} {H:Hp} {Q:VK} {p:Addr} {c:List Nat} {xss:List (List Nat)} (hc:c.length <= 16) (hq:SqL K H p (xss.map tx)) (hw:xss.flatten.length + xss.length <= 1000000) (h:Q (tx (glue c xss)) H):rJoinG K (tx c) [.ref p] H Q:=⟨p,c,xss,rfl,hc,rfl,hq,hw,h⟩
def numT (n:Nat):List Nat:=(Nat.toDigits 10 n).map Char.toNat
theorem num_str (m : Nat) : PySem.Str.ofString (toString ((m : Nat) : Int)) = ⟨(numT m).toArray⟩ := by
  have h := PySem.W.KIN.signs_num m
  cases e : PySem.Str.ofString (toString ((m : Nat) : Int)) with
  | mk cps =>
    rw [e] at h
    congr 1
    apply Array.toList_inj.mp
    rw [h]; rfl
def rIntT:List V->Hp->VK->Prop:=fun xs H Q=>∃ n:Nat,xs = [tx (numT n)]/\n < 10 ^ 10/\Q (.int (n:Nat)) H
theorem call_intT:CallR X (.type "int") rIntT:=by
 intro pins s σ H xs us Q I rv ⟨n,e,hn,q⟩
 subst e
 obtain ⟨u,rfl,t,rfl⟩:=rv.one
 have e:(⟨(numT n).toArray⟩:Str) = PySem.Str.ofString (toString ((n:Nat):Int)):=(num_str n).symm
 show wpAny _ _ (call (.type "int") [.str ⟨(numT n).toArray⟩ t]) _ _ _
 rw [e]
 exact PySem.W.KIN.call_num (by omega) (by omega) ⟨.int (n:Nat),H,I.tok _,⟨_,rfl⟩,q⟩
def rStrN:List V->Hp->VK->Prop:=fun xs H Q=>∃ n:Nat,xs = [.int (n:Nat)]/\n < 10 ^ 10/\Q (tx (numT n)) H
theorem call_strN:CallR X (.type "str") rStrN:=by
 intro pins s σ H xs us Q I rv ⟨n,e,hn,q⟩
 subst e
 obtain ⟨u,rfl,t,rfl⟩:=rv.one
 refine P.str_of_int (shown (N:=2 ^ 1920) (by omega) (by omega) (Int.le_refl _)) ?_
 rw [num_str]
 exact ⟨tx (numT n),H,I.tok _,⟨_,rfl⟩,q⟩
theorem s_intT {n:Nat} {H:Hp} {Q:VK} (hn:n < 10 ^ 10) (q:Q (.int (n:Nat)) H):rIntT [tx (numT n)] H Q:=⟨n,rfl,hn,q⟩
theorem s_strN {n:Nat} {H:Hp} {Q:VK} (hn:n < 10 ^ 10) (q:Q (tx (numT n)) H):rStrN [.int (n:Nat)] H Q:=⟨n,rfl,hn,q⟩
theorem pe_mke0 {k:Nat} {C:Addr} {ps:List Str} {sp:Sp} {x:Str} {p pos:Pos} (U:MkU X.prog X.w X.K X.mg X.base k C ps sp) (hr:Room k X.A) (hm:X.mg x = some (.ref C)) (hg:Gl X x:=by rfl) (hdb:(x == ("__debug__" : Str)) = false:=by decide):PE X (.Call (.Name x p) [] [] pos) (tMake C sp [] E0 tNil) :=
 let ⟨_,_,_,hi,F,M,hb⟩:=U.ex; pe_make0 M F (hr.mono hi) hg hm hb .nil pass0 hdb
end
section
variable {σ:St} {H:Hp} {Q:VK} {td ty:TE}
theorem s_dpop (h:td σ H fun x H1=>∃ a,x = .ref a/\IsD H1 a/\ty σ H1 fun y H2=>∃ kvs k v,H2 a = some (.dK kvs)/\y = kV k/\valV kvs k = some v/\Q v (upd H2 a (.dK (dropK kvs k)))):tDPop1 td ty σ H Q:=h
end
theorem numT_dig (n:Nat):∀ c ∈ numT n,48 <= c/\c <= 57:=by
 intro c hc
 obtain ⟨ch,hch,e⟩:=List.mem_map.mp hc
 have r:=digit_range (Nat.isDigit_of_mem_toDigits (by decide) (by decide) hch)
 rw [<- e]; exact r
theorem numT_ne (n:Nat):numT n ≠ []:=by
 intro e
 have h:=toDigits_len_ge 10 n
 rw [List.map_eq_nil_iff.mp e] at h
 exact absurd h (by decide)
theorem numT_small {n:Nat} (h:n < 10):numT n = [48 + n]:=by
 unfold numT
 rw [Nat.toDigits_of_lt_base h]
 have:∀ d:Nat,d < 10->(Nat.digitChar d).toNat = 48 + d:=by decide
 simp [this n h]
theorem numT_step {n:Nat} (h:10 <= n):numT n = numT (n / 10) ++ numT (n % 10):=by
 have hm:n % 10 < 10:=Nat.mod_lt n (by decide)
 have t:Nat.toDigits 10 (n / 10) ++ Nat.toDigits 10 (n % 10) = Nat.toDigits 10 (10 * (n / 10) + n % 10):=Nat.toDigits_append_toDigits (by decide) (by omega) hm
 rw [Nat.div_add_mod] at t
 unfold numT
 rw [<- t,List.map_append]
theorem numT_len : ∀ (m n : Nat), n < 10 ^ (m + 1) -> (numT n).length <= m + 1 := by
  intro m
  induction m with
  | zero => intro n h; rw [numT_small (by omega)]; simp
  | succ m ih =>
    intro n h
    by_cases hn : n < 10
    · rw [numT_small hn]; simp
    · rw [numT_step (by omega), List.length_append, numT_small (Nat.mod_lt n (by decide))]
      have := ih (n / 10) (by rw [Nat.pow_succ] at h; omega)
      simp only [List.length_cons, List.length_nil]; omega
theorem numT_head {n : Nat} (h : 1 <= n) : (numT n)[0]? ≠ some 48 := by
  induction n using Nat.strongRecOn with
  | _ n ih =>
    by_cases hn : n < 10
    · rw [numT_small hn]
      simp
      omega
    · rw [numT_step (by omega), List.getElem?_append_left (by have := numT_ne (n / 10); cases e : numT (n / 10) with | nil => exact absurd e this | cons a b => simp)]
      exact ih (n / 10) (by omega) (by omega)
end L2
namespace L2
open PySem PySem.Spec PyProof.Rows
section
variable {X:Cx}
def tCallI {ι:Type} (i:Nat) (adr:ι->Addr) (sp:ι->Sp) (R:XR) (t:TA):TE:=fun σ H Q=>∃ j:ι,σ[i]? = some (some (.ref (adr j)))/\t σ H fun vs H1=>sp j vs H1 Q (xk R σ)
theorem pe_fnVI {ι:Type} (i:Nat) {k:Nat} {x:Str} {ps:List Str} {adr:ι->Addr} {sp:ι->Sp} {R:XR} {e:Expr} {es:List Expr} {t:TA} {p pos:Pos}
  (U:∀ j,∃ fd,FnOk X.prog X.w X.K X.mg X.base (CXE X.prog X.w) k (adr j) fd ps (sp j)/\PySem.W.keepIn X.K (.ref (adr j)) = true/\Binds X.K fd ps []) (hr:Room k X.A) (hx:∀ e s',XF X R e s'->X.xe e s') (ha:PA X (e :: es) t)
  (hN:X.N[i]? = some x:=by rfl) (hv:Vis X.env.scope x:=by first | exact Or.inl rfl | exact Or.inr (Or.inl rfl) | exact Or.inr (Or.inr rfl)) (hd:(x == ("__debug__" : Str)) = false:=by decide) (hcd:(x == ("__classdict__" : Str)) = false:=by decide)
  (he:starEach (e :: es) X.env = (false,eval e X.env) :: starEach es X.env:=by rfl) (hpl:(backTo pos (starEach es X.env)).any (·.1) = false:=by rfl) :
  PE X (.Call (.Name x p) (e :: es) [] pos) (tCallI i adr sp R t):=by
 intro pins s σ H Q I h
 obtain ⟨j,ef,h⟩:=h
 exact pe_fnVE i (G:=fun f=>f = adr j) (spOf:=fun _=>sp j) (fun f hf=>by subst hf; exact U j) hr hx ha hN hv hd hcd he hpl pins s σ H Q I ⟨adr j,ef,rfl,h⟩
theorem s_callI {ι:Type} {i:Nat} {adr:ι->Addr} {sp:ι->Sp} {R:XR} {t:TA} {σ:St} {H:Hp} {Q:VK} (j:ι) (h1:σ[i]? = some (some (.ref (adr j)))) (h:t σ H fun vs H1=>sp j vs H1 Q (xk R σ)):tCallI i adr sp R t σ H Q:=⟨j,h1,h⟩
theorem FTu.mk {K:PySem.W.Frag} {a:Addr} {o:Obj} {its:Array Value} {n:Nat} {xs:List V} (l:K.lookup a = some o) (c:o.cls = .type "tuple") (s:o.data = .seq its n) (r:tupIs its xs = true) (hx:xs.length <= 1000):FTu K a xs:=⟨o,its,n,l,c,s,tupIs_size r hx,tupIs_vals r⟩
end
theorem for_zU {x:Addr} {xs ys:List V} {g:TG} {tb:TS} {D:Ends} {σ:L2.St} {H:Hp} (hl:ys.length = xs.length) (Pv:Nat->L2.St->Hp->Prop) (h0:Pv 0 σ H) (ht:∀ i σ H',Pv i σ H'->H' x = some (.lst xs))
  (hs:∀ i c d T σ H1 H',xs[i]? = some c->ys[i]? = some d->Pv i σ H1->Same H1 H'->H' T = some (.tup [c,d])->g (.ref T) σ H' fun σ2 H2=>tb { D with nx:=Pv (i + 1),ct:=Pv (i + 1),bk:=D.nx } σ2 H2) (hd:∀ σ H,Pv xs.length σ H->D.nx σ H):ForW (IzU x ys) g tb D σ H:=by
 refine for_of (n:=xs.length) Pv h0 (fun i σ H hi p=>⟨⟨_,ht _ _ _ p,hi⟩,by omega⟩) (fun σ H p=>⟨_,ht _ _ _ p,.inl rfl⟩) (fun i v σ H1 H' hi p y'=>?_) hd
 have a1:=ht _ _ _ p
 obtain ⟨T,z1,c,d,hT,e1,hc,hd,rfl,rfl⟩:=y'
 rw [a1] at e1; cases e1
 exact hs i c d T σ H1 _ hc hd p (same_new hT _) upd_same
theorem comp_zipU {σ : St} {H : Hp} {Q : VK} {x : Addr} {xs ys : List V} {own : List Str} {sel : List Nat} {g : TG} {tt : TT} {te : TE} (hl : ys.length = xs.length) (Pv : Addr -> Nat -> List V -> Hp -> Prop) (ht : ∀ D i zs H', H D = none -> Pv D i zs H' -> H' x = some (.lst xs)) (h0 : ∀ D, H D = none -> Pv D 0 [] (upd H D (.lst [])))
  (hst : ∀ D zs H', H D = none -> H' D = some (.lst zs) -> Pv D xs.length zs H' -> Q (.ref D) H')
  (hs : ∀ D i c d T zs H1 H', H D = none -> xs[i]? = some c -> ys[i]? = some d -> i < xs.length -> H' D = some (.lst zs) -> zs.length <= i -> Pv D i zs H1 -> Same H1 H' -> H' T = some (.tup [c, d]) -> g (.ref T) (inSt own sel σ) H' fun σ4 H4 => tt σ4 H4 fun b H5 =>
   if b = true then te σ4 H5 fun v H6 => ∃ zs, H6 D = some (.lst zs) /\ zs.length < sizeLine /\ ∃ m', m' < xs.length - i /\ CW D xs.length (Pv D) (i + 1) m' (upd H6 D (.lst (zs ++ [v])))
   else ∃ m', m' < xs.length - i /\ CW D xs.length (Pv D) (i + 1) m' H5) : CompW (IzU x ys) own sel σ g tt te Q H := by
 refine comp_of (n := xs.length) Pv h0 (fun D i zs H' hD hi _ p => ⟨⟨_, ht _ _ _ _ hD p, hi⟩, by omega⟩) (fun D zs H' hD hy _ p => ⟨⟨_, ht _ _ _ _ hD p, .inl rfl⟩, hst D zs H' hD hy p⟩) (fun D i zs H1 x' H3 hD hi hy hl2 p y' => ?_)
 have a1 := ht _ _ _ _ hD p
 obtain ⟨T, z1, c, d, hT, e1, hc, hd, rfl, rfl⟩ := y'
 rw [a1] at e1; cases e1
 exact hs D i c d T zs H1 _ hD hc hd hi (same_new hT _ _ _ hy) hl2 p (same_new hT _) upd_same
end L2
namespace BrS
open L2 PySem PySem.Spec PyProof.Rows BrM BrC BrR BrTx
abbrev Kv:=List (Key × V)
def kyT (a:List Nat):Key:=.inr ⟨a.toArray⟩
theorem kyT_inj {a b:List Nat} (h:kyT a = kyT b):a = b:=by
 have:=Sum.inr.inj h
 injection this with e
 simpa using congrArg Array.toList e
def ltr:List Nat:=[97,98,99,100,101,102,103,104,105,106,107,108,109,110,111,112,113,114,115,116,117,118,119,120,121,122]
def fig:List Nat:=[48,49,50,51,52,53,54,55,56,57]
structure Nm (a:List Nat):Prop where
 lo:1 <= a.length
 hi:a.length <= 8
 all:∀ c ∈ a,c ∈ ltr
theorem Nm.no32 {a:List Nat} (h:Nm a):32 ∉ a:=fun z=>absurd (h.all _ z) (by decide)
abbrev wKinds:List Nat:=[107,105,110,100,115]
abbrev wRow:List Nat:=[114,111,119]
abbrev wTurn:List Nat:=[116,117,114,110]
abbrev wBehind:List Nat:=[98,101,104,105,110,100]
abbrev wDrop:List Nat:=[100,114,111,112]
abbrev wShow:List Nat:=[115,104,111,119]
abbrev wNames:List Nat:=[110,97,109,101,115]
abbrev pLine:List Nat:=[108,105,110,101]
abbrev pNumber:List Nat:=[110,117,109,98,101,114]
abbrev pNew:List Nat:=[110,101,119]
abbrev pName:List Nat:=[110,97,109,101]
abbrev tOk:List Nat:=[111,107]
abbrev tNone:List Nat:=[110,111,110,101]
inductive Dd | kinds | row | turn | behind | drop | show | names
def Dd.word:Dd->List Nat
 | .kinds=>wKinds | .row=>wRow | .turn=>wTurn | .behind=>wBehind | .drop=>wDrop | .show=>wShow | .names=>wNames
def Dd.form:Dd->List (List Nat)
 | .kinds=>[pNumber] | .row=>[pNew,pLine] | .turn=>[pNew,pName] | .behind=>[pNew,pName,pName] | .drop=>[pName] | .show=>[pName] | .names=>[]
def Dd.fn:Dd->Str
 | .kinds=>"say_kinds" | .row=>"say_row" | .turn=>"say_turn" | .behind=>"say_behind" | .drop=>"say_drop" | .show=>"say_show" | .names=>"say_names"
def FmOk (P:Program) (w:World) (K:PySem.W.Frag) (aF:Addr):Prop:=∃ FK,FDc P w K aF FK/\∀ d:Dd,∃ t,valV FK (kyT d.word) = some (.ref t)/\FTu K t (d.form.map tx)
def DdOk (P:Program) (w:World) (K:PySem.W.Frag) (mg:Str->Option Value) (aD:Addr):Prop:=∃ DK,FDc P w K aD DK/\∃ adr:Dd->Addr,∀ d:Dd,valV DK (kyT d.word) = some (.ref (adr d))/\mg d.fn = some (.ref (adr d))
def HasF (a p:List Nat):Prop:=p = pLine\/(p = pNumber/\∃ n,n < 10 ^ 9/\a = numT n)\/((p = pNew\/p = pName)/\Nm a)
structure KW (l:List Nat) (d:Dd) (args:List (List Nat)):Prop where
 first:(spN 32 1 l).head? = some d.word
 parts:(if pLine ∈ d.form then spN 32 d.form.length l else spN 32 (l.length + 1) l) = d.word :: args
 len:args.length = d.form.length
 fit:∀ (i:Nat) (a p:List Nat),args[i]? = some a->d.form[i]? = some p->HasF a p
 size:l.length <= 500
 each:∀ a ∈ args,a.length <= 400
theorem spN_one (c n : Nat) : ∀ (w r : List Nat), c ∉ w -> spN c (n + 1) (w ++ c :: r) = w :: spN c n r
  | [], r, _ => by show spN c (n + 1) (c :: r) = _; rw [spN, if_pos rfl]
  | x :: w, r, h => by
    show spN c (n + 1) (x :: (w ++ c :: r)) = _
    rw [spN, if_neg (fun z => h (by rw [z]; exact List.mem_cons_self)), spN_one c n w r fun z => h (List.mem_cons_of_mem _ z)]
    rfl
theorem spN_last (c n:Nat) (w:List Nat) (h:c ∉ w):spN c n w = [w]:=spN_free c n w h
theorem word32 (d:Dd):32 ∉ d.word:=by cases d <;> decide
theorem numT32 (n:Nat):32 ∉ numT n:=fun z=>by have:=numT_dig n _ z; omega
theorem spN_zero (c:Nat) (l:List Nat):spN c 0 l = [l]:=by cases l <;> rfl
theorem first_of (d:Dd) (r:List Nat):(spN 32 1 (d.word ++ 32 :: r)).head? = some d.word:=by rw [spN_one 32 0 _ _ (word32 d)]; rfl
theorem kw_kinds {n:Nat} (h:n < 10 ^ 9):KW (wKinds ++ 32 :: numT n) .kinds [numT n]:=by
 have hl:=numT_len 8 n h
 refine ⟨first_of .kinds _,?_,rfl,?_,by rw [List.length_append,List.length_cons]; simp only [List.length_cons,List.length_nil]; omega,fun a ha=>by rw [List.mem_singleton.mp ha]; omega⟩
 ·rw [if_neg (show pLine ∉ Dd.kinds.form by decide)]
  rw [spN_one 32 _ wKinds _ (by decide),spN_last _ _ _ (numT32 n)]; rfl
 ·intro i a p h1 h2
  match i with
  | 0=>cases h1; cases h2; exact .inr (.inl ⟨rfl,n,h,rfl⟩)
  | i + 1=>simp at h1
theorem kw_row {nm a:List Nat} (h:Nm nm) (ha:a.length <= 400):KW (wRow ++ 32 :: (nm ++ 32 :: a)) .row [nm,a]:=by
 have:=h.hi
 refine ⟨first_of .row _,?_,rfl,?_,by simp only [List.length_append,List.length_cons,List.length_nil]; omega,fun b hb=>?_⟩
 ·rw [if_pos (show pLine ∈ Dd.row.form by decide)]
  show spN 32 (1 + 1) (wRow ++ 32 :: (nm ++ 32 :: a)) = _
  rw [spN_one 32 _ wRow _ (by decide),spN_one 32 _ _ _ h.no32,spN_zero]; rfl
 ·intro i b p h1 h2
  match i with
  | 0=>cases h1; cases h2; exact .inr (.inr ⟨.inl rfl,h⟩)
  | 1=>cases h1; cases h2; exact .inl rfl
  | i + 2=>simp at h1
 ·simp only [List.mem_cons,List.not_mem_nil,or_false] at hb
  rcases hb with rfl | rfl <;> omega
theorem kw_two {nm one:List Nat} (h:Nm nm) (h2:Nm one):KW (wTurn ++ 32 :: (nm ++ 32 :: one)) .turn [nm,one]:=by
 have a1:=h.hi
 have a2:=h2.hi
 refine ⟨first_of .turn _,?_,rfl,?_,by simp only [List.length_append,List.length_cons,List.length_nil]; omega,fun b hb=>?_⟩
 ·rw [if_neg (show pLine ∉ Dd.turn.form by decide)]
  have e:(wTurn ++ 32 :: (nm ++ 32 :: one)).length + 1 = (nm.length + one.length + 5) + 1 + 1:=by simp only [List.length_append,List.length_cons,List.length_nil]; omega
  rw [e,spN_one 32 _ wTurn _ (by decide),spN_one 32 _ _ _ h.no32,spN_last _ _ _ h2.no32]; rfl
 ·intro i b p h1 h2'
  match i with
  | 0=>cases h1; cases h2'; exact .inr (.inr ⟨.inl rfl,h⟩)
  | 1=>cases h1; cases h2'; exact .inr (.inr ⟨.inr rfl,h2⟩)
  | i + 2=>simp at h1
 ·simp only [List.mem_cons,List.not_mem_nil,or_false] at hb
  rcases hb with rfl | rfl <;> omega
theorem kw_three {nm one two:List Nat} (h:Nm nm) (h2:Nm one) (h3:Nm two):KW (wBehind ++ 32 :: (nm ++ 32 :: (one ++ 32 :: two))) .behind [nm,one,two]:=by
 have a1:=h.hi
 have a2:=h2.hi
 have a3:=h3.hi
 refine ⟨first_of .behind _,?_,rfl,?_,by simp only [List.length_append,List.length_cons,List.length_nil]; omega,fun b hb=>?_⟩
 ·rw [if_neg (show pLine ∉ Dd.behind.form by decide)]
  have e:(wBehind ++ 32 :: (nm ++ 32 :: (one ++ 32 :: two))).length + 1 = (nm.length + one.length + two.length + 7) + 1 + 1 + 1:=by simp only [List.length_append,List.length_cons,List.length_nil]; omega
  rw [e,spN_one 32 _ wBehind _ (by decide),spN_one 32 _ _ _ h.no32,spN_one 32 _ _ _ h2.no32,spN_last _ _ _ h3.no32]; rfl
 ·intro i b p h1 h2'
  match i with
  | 0=>cases h1; cases h2'; exact .inr (.inr ⟨.inl rfl,h⟩)
  | 1=>cases h1; cases h2'; exact .inr (.inr ⟨.inr rfl,h2⟩)
  | 2=>cases h1; cases h2'; exact .inr (.inr ⟨.inr rfl,h3⟩)
  | i + 3=>simp at h1
 ·simp only [List.mem_cons,List.not_mem_nil,or_false] at hb
  rcases hb with rfl | rfl | rfl <;> omega
theorem kw_one (d:Dd) (hd:d = .drop\/d = .show) {one:List Nat} (h:Nm one):KW (d.word ++ 32 :: one) d [one]:=by
 have a1:=h.hi
 have hf:d.form = [pName]:=by rcases hd with rfl | rfl <;> rfl
 have hw:d.word.length = 4:=by rcases hd with rfl | rfl <;> rfl
 refine ⟨first_of d _,?_,by rw [hf]; rfl,?_,by simp only [List.length_append,List.length_cons]; omega,fun b hb=>?_⟩
 ·rw [if_neg (by rw [hf]; decide)]
  rw [spN_one 32 _ _ _ (word32 d),spN_last _ _ _ h.no32]
 ·intro i b p h1 h2'
  rw [hf] at h2'
  match i with
  | 0=>cases h1; cases h2'; exact .inr (.inr ⟨.inr rfl,h⟩)
  | i + 1=>simp at h1
 ·rw [List.mem_singleton.mp hb]; omega
theorem kw_names:KW wNames .names []:=⟨by decide,by decide,rfl,fun i a p h=>by simp at h,by decide,fun a h=>by cases h⟩
theorem sortedS_pw : ∀ {l : List Str}, sortedS l = true -> l.Pairwise fun a b => a.cps.toList <= b.cps.toList
  | [], _ => .nil
  | x :: r, h => by
    have go : ∀ (r : List Str) (p : Str), risingS p r = true -> (p :: r).Pairwise fun a b => a.cps.toList <= b.cps.toList := by
      intro r
      induction r with
      | nil => intro p _; exact .cons (fun _ h => nomatch h) .nil
      | cons y r ih =>
        intro p h
        have h : (!ltCps y.cps.toList p.cps.toList && risingS y r) = true := h
        rw [Bool.and_eq_true, ltCps_eq] at h
        have h1 : p.cps.toList <= y.cps.toList := by
          have := h.1
          simp only [Bool.not_eq_true', decide_eq_false_iff_not] at this
          exact List.not_lt.mp this
        have h2 := ih y h.2
        refine .cons (fun z hz => ?_) h2
        rcases List.mem_cons.mp hz with rfl | hz
        · exact h1
        · exact List.le_trans h1 ((List.pairwise_cons.mp h2).1 z hz)
    exact go r x h
theorem pw_uniq : ∀ {a b : List Str}, (a.Pairwise fun a b => a.cps.toList <= b.cps.toList) -> (b.Pairwise fun a b => a.cps.toList <= b.cps.toList) -> a.Perm b -> a = b
  | [], b, _, _, h => (List.nil_perm.mp h).symm
  | x :: r, [], _, _, h => absurd h.length_eq (by simp)
  | x :: r, y :: s, h1, h2, h => by
    have e : x = y := by
      have hx : x ∈ y :: s := h.subset List.mem_cons_self
      have hy : y ∈ x :: r := h.symm.subset List.mem_cons_self
      rcases List.mem_cons.mp hx with z | z
      · exact z
      rcases List.mem_cons.mp hy with z' | z'
      · exact z'.symm
      have a1 := (List.pairwise_cons.mp h2).1 _ z
      have a2 := (List.pairwise_cons.mp h1).1 _ z'
      have := List.le_antisymm a2 a1
      cases x; cases y
      congr 1
      simpa using this
    subst e
    rw [pw_uniq (List.pairwise_cons.mp h1).2 (List.pairwise_cons.mp h2).2 h.cons_inv]
theorem sorted_uniq {a b c:List Str} (h1:sortedS a = true) (h2:sortedS b = true) (p1:a.Perm c) (p2:b.Perm c):a = b:=pw_uniq (sortedS_pw h1) (sortedS_pw h2) (p1.trans p2.symm)
end BrS
namespace BrS
open L2 PySem PySem.Spec PyProof.Rows BrM BrC BrR BrTx
def FB (bad:List Addr) (H H':Hp):Prop:=∀ b o,H b = some o->b ∉ bad->H' b = some o
theorem FB.refl (bad:List Addr) (H:Hp):FB bad H H:=fun _ _ h _=>h
theorem FB.of {bad:List Addr} {H H1:Hp} (s:Same H H1):FB bad H H1:=fun c o h _=>s c o h
theorem FB.s {bad:List Addr} {H H1 H2:Hp} (a:FB bad H H1) (b:Same H1 H2):FB bad H H2:=fun c o h n=>b c o (a c o h n)
theorem FB.atU {bad:List Addr} {p:Addr} {o:HO} {H H1:Hp} (a:FB bad H H1) (hp:p ∈ bad):FB bad H (upd H1 p o):=fun c o' h n=>by
 have hc:c ≠ p:=fun z=>n (by rw [z]; exact hp)
 rw [upd_ne hc]; exact a c o' h n
theorem FB.new {bad:List Addr} {p:Addr} {o:HO} {H H1:Hp} (a:FB bad H H1) (hp:H p = none):FB bad H (upd H1 p o):=fun c o' h n=>by
 rw [upd_ne (fun z=>by rw [z,hp] at h; cases h)]; exact a c o' h n
theorem FB.trans {bad:List Addr} {H H1 H2:Hp} (a:FB bad H H1) (b:FB bad H1 H2):FB bad H H2:=fun c o h n=>b c o (a c o h n) n
theorem FB.free {bad : List Addr} {H H1 : Hp} (a : FB bad H H1) (hb : ∀ x ∈ bad, ∃ o, H x = some o) {p : Addr} (h : H1 p = none) : H p = none \/ p ∈ bad := by
  cases e : H p with
  | none => exact .inl rfl
  | some o =>
    by_cases z : p ∈ bad
    · exact .inr z
    · rw [a p o e z] at h; cases h
def Dk (C:Addr) (H:Hp) (d r:Addr) (k:Int) (kvs:Kv):Prop:=(∃ dx,H d = some (.ins C dx [("k",.int k),("rows",.ref r)]))/\H r = some (.dK kvs)
theorem Dk.same {C:Addr} {H H':Hp} {d r:Addr} {k:Int} {kvs:Kv} (h:Dk C H d r k kvs) (s:Same H H'):Dk C H' d r k kvs:=let ⟨⟨dx,e⟩,f⟩:=h; ⟨⟨dx,s _ _ e⟩,s _ _ f⟩
theorem Dk.keep {C:Addr} {H H':Hp} {d r:Addr} {k:Int} {kvs:Kv} {bad:List Addr} (h:Dk C H d r k kvs) (s:FB bad H H') (h1:d ∉ bad) (h2:r ∉ bad):Dk C H' d r k kvs:=let ⟨⟨dx,e⟩,f⟩:=h; ⟨⟨dx,s _ _ e h1⟩,s _ _ f h2⟩
theorem Dk.ne {C:Addr} {H:Hp} {d r:Addr} {k:Int} {kvs:Kv} (h:Dk C H d r k kvs):d ≠ r:=fun e=>by
 obtain ⟨⟨dx,z⟩,f⟩:=h
 rw [e,f] at z; cases z
def Rw (k:Int) (kvs:Kv):Prop:=∀ e ∈ kvs,∃ n a,e = (kyT n,tx a)/\Nm n/\isRow k a = true
theorem Rw.nil (k:Int):Rw k []:=fun _ h=>nomatch h
theorem Rw.put {k : Int} {kvs : Kv} {n a : List Nat} (h : Rw k kvs) (hn : Nm n) (ha : isRow k a = true) : Rw k (putK kvs (kyT n) (tx a)) := fun e he => by
  cases hv : valV kvs (kyT n) with
  | none =>
    rw [putK_new _ hv] at he
    rcases List.mem_append.mp he with z | z
    · exact h e z
    · rw [List.mem_singleton.mp z]; exact ⟨n, a, rfl, hn, ha⟩
  | some v =>
    have e1 : (kvs.any fun kv => decide (kv.1 = kyT n)) = true := by rw [valV_any, hv]; rfl
    unfold putK at he
    rw [if_pos e1] at he
    obtain ⟨x, hx, rfl⟩ := List.mem_map.mp he
    by_cases z : x.1 = kyT n
    · rw [if_pos z]; exact ⟨n, a, by rw [z], hn, ha⟩
    · rw [if_neg z]; exact h x hx
theorem Rw.drop {k:Int} {kvs:Kv} {n:Key} (h:Rw k kvs):Rw k (dropK kvs n):=fun e he=>h e (dropK_mem he)
theorem valV_mem {kvs:Kv} {key:Key} {v:V} (h:valV kvs key = some v):(key,v) ∈ kvs:=by
 unfold valV at h
 obtain ⟨x,hx,rfl⟩:=Option.map_eq_some_iff.mp h
 have h1:=List.find?_some hx
 have h2:=List.mem_of_find?_eq_some hx
 have h1:x.1 = key:=by simpa using h1
 rw [<- h1]; exact h2
theorem Rw.get {k:Int} {kvs:Kv} {n:List Nat} {v:V} (h:Rw k kvs) (hv:valV kvs (kyT n) = some v):∃ a,v = tx a/\isRow k a = true:=by
 obtain ⟨m,a,e,_,ha⟩:=h _ (valV_mem hv)
 exact ⟨a,congrArg Prod.snd e,ha⟩
def strL (ns:List (List Nat)):List Str:=ns.map fun a=>⟨a.toArray⟩
theorem strL_tx (ns:List (List Nat)):((strL ns).map fun x=>tx x.cps.toList) = ns.map tx:=by
 unfold strL; rw [List.map_map]; rfl
theorem strL_of (ts:List Str):strL (ts.map fun x=>x.cps.toList) = ts:=by
 unfold strL; rw [List.map_map]
 conv=>rhs; rw [<- List.map_id ts]
 rfl
def Srt (kvs:Kv) (ns:List (List Nat)):Prop:=∃ ss,kvs.map (·.1) = ss.map Sum.inr/\ss.length < 64/\(strL ns).Perm ss/\sortedS (strL ns) = true
theorem inr_inj : ∀ {a b : List Str}, a.map (Sum.inr : Str -> Key) = b.map Sum.inr -> a = b
  | [], [], _ => rfl
  | [], _ :: _, h => by cases h
  | _ :: _, [], h => by cases h
  | x :: a, y :: b, h => by
    rw [List.map_cons, List.map_cons] at h
    injection h with h1 h2
    rw [Sum.inr.inj h1, inr_inj h2]
theorem Srt.uniq {kvs:Kv} {ns:List (List Nat)} {ss ts:List Str} (h:Srt kvs ns) (hk:kvs.map (·.1) = ss.map Sum.inr) (hp:ts.Perm ss) (hs:sortedS ts = true):ts = strL ns:=by
 obtain ⟨s2,e,_,p,q⟩:=h
 have:s2 = ss:=inr_inj (e.symm.trans hk)
 subst this
 exact sorted_uniq hs q hp p
theorem Rw.keys {k : Int} {kvs : Kv} (h : Rw k kvs) : ∃ ss : List Str, kvs.map (·.1) = ss.map Sum.inr /\ ss.length = kvs.length /\ ∀ x ∈ ss, Nm x.cps.toList := by
  induction kvs with
  | nil => exact ⟨[], rfl, rfl, fun _ h => nomatch h⟩
  | cons e r ih =>
    obtain ⟨ss, h1, h2, h3⟩ := ih fun x hx => h x (List.mem_cons_of_mem _ hx)
    obtain ⟨n, a, rfl, hn, _⟩ := h e List.mem_cons_self
    refine ⟨⟨n.toArray⟩ :: ss, by rw [List.map_cons, List.map_cons, h1]; rfl, by rw [List.length_cons, List.length_cons, h2], fun x hx => ?_⟩
    rcases List.mem_cons.mp hx with rfl | z
    · simpa using hn
    · exact h3 x z
theorem Srt.mem {k : Int} {kvs : Kv} {ns : List (List Nat)} (h : Srt kvs ns) (hr : Rw k kvs) : ∀ n ∈ ns, Nm n /\ ∃ a, valV kvs (kyT n) = some (tx a) /\ isRow k a = true := fun n hn => by
  obtain ⟨ss, e, _, p, _⟩ := h
  have h1 : (⟨n.toArray⟩ : Str) ∈ ss := p.subset (List.mem_map.mpr ⟨n, hn, rfl⟩)
  have h2 : kyT n ∈ kvs.map (·.1) := by rw [e]; exact List.mem_map.mpr ⟨_, h1, rfl⟩
  cases hv : valV kvs (kyT n) with
  | none => exact absurd h2 (valV_not hv)
  | some v =>
    obtain ⟨a, rfl, ha⟩ := hr.get hv
    obtain ⟨m, b, e2, hm, _⟩ := hr _ (valV_mem hv)
    have := kyT_inj (congrArg Prod.fst e2)
    exact ⟨by rw [this]; exact hm, a, rfl, ha⟩
def shw (a:List Nat):List Nat:=if a = [] then tNone else a
def wrt (ns:List (List Nat)):List Nat:=if ns = [] then tNone else glue [32] ns
def spIsName:Sp:=fun vs H Q _=>∃ a,vs = [tx a]/\Nm a/\∀ H',Same H H'->Q (.bl true) H'
def spIsNumber:Sp:=fun vs H Q _=>∃ n,vs = [tx (numT n)]/\n < 10 ^ 9/\∀ H',Same H H'->Q (.bl true) H'
def spHasForm:Sp:=fun vs H Q _=>∃ a p,vs = [tx a,tx p]/\HasF a p/\∀ H',Same H H'->Q (.bl true) H'
def spParted (K:PySem.W.Frag):Sp:=fun vs H Q _=>∃ (l:List Nat) (t:Addr) (fm:List (List Nat)),vs = [tx l,.ref t]/\FTu K t (fm.map tx)/\fm.length <= 10/\l.length <= 500/\∀ p H',H p = none->Same H H'->H' p = some (.lst ((if pLine ∈ fm then spN 32 fm.length l else spN 32 (l.length + 1) l).map tx))->Q (.ref p) H'
def spKnown:Sp:=fun vs H Q _=>∃ (l:List Nat) (d:Dd) (args:List (List Nat)),vs = [tx l]/\KW l d args/\∀ p H',H p = none->Same H H'->H' p = some (.lst ((d.word :: args).map tx))->Q (.ref p) H'
def spShown:Sp:=fun vs H Q _=>∃ a,vs = [tx a]/\a.length <= 1000/\Q (tx (shw a)) H
def spSayKinds (cs:Cs) (C:Addr):Sp:=fun vs H Q E=>∃ (d ws r:Addr) (k:Int) (kvs:Kv) (n:Nat),vs = [.ref d,.ref ws]/\Dk C H d r k kvs/\H ws = some (.lst [tx (numT n)])/\n < 10 ^ 9 /\
 ((1 <= n/\n <= 4/\∀ r' H',H r' = none->FB [d] H H'->Dk C H' d r' n []->Q (tx tOk) H')\/(¬ (1 <= n/\n <= 4)/\Ref E cs.NoKinds H))
def spSayRow (cs:Cs) (C:Addr):Sp:=fun vs H Q E=>∃ (d ws r:Addr) (k:Int) (kvs:Kv) (nm a:List Nat),vs = [.ref d,.ref ws]/\Dk C H d r k kvs/\1 <= k/\k <= 4/\kvs.length <= 100/\H ws = some (.lst [tx nm,tx a])/\a.length <= 400 /\
 ((isRow k a = true/\∀ H',FB [r] H H'->Dk C H' d r k (putK kvs (kyT nm) (tx a))->Q (tx tOk) H')\/(isRow k a = false/\Ref E cs.NoLine H))
def spSayTurn (C:Addr):Sp:=fun vs H Q _=>∃ (d ws r:Addr) (k:Int) (kvs:Kv) (nm one a:List Nat),vs = [.ref d,.ref ws]/\Dk C H d r k kvs/\1 <= k/\k <= 4/\kvs.length <= 100/\H ws = some (.lst [tx nm,tx one])/\valV kvs (kyT one) = some (tx a)/\isRow k a = true /\
 ∀ H',FB [r] H H'->Dk C H' d r k (putK kvs (kyT nm) (tx (trn a)))->Q (tx tOk) H'
def spSayBehind (cs:Cs) (C:Addr):Sp:=fun vs H Q E=>∃ (d ws r:Addr) (k:Int) (kvs:Kv) (nm one two a b:List Nat),vs = [.ref d,.ref ws]/\Dk C H d r k kvs/\1 <= k/\k <= 4/\kvs.length <= 100/\H ws = some (.lst [tx nm,tx one,tx two])/\valV kvs (kyT one) = some (tx a)/\valV kvs (kyT two) = some (tx b)/\a.length <= 40/\b.length <= 40 /\
 ((isRow k (a ++ b) = true/\∀ H',FB [r] H H'->Dk C H' d r k (putK kvs (kyT nm) (tx (a ++ b)))->Q (tx tOk) H')\/(isRow k (a ++ b) = false/\Ref E cs.NoLine H))
def spSayDrop (C:Addr):Sp:=fun vs H Q _=>∃ (d ws r:Addr) (k:Int) (kvs:Kv) (one:List Nat) (v:V),vs = [.ref d,.ref ws]/\Dk C H d r k kvs/\H ws = some (.lst [tx one])/\valV kvs (kyT one) = some v /\
 ∀ H',FB [r] H H'->Dk C H' d r k (dropK kvs (kyT one))->Q (tx tOk) H'
def spSayShow (C:Addr):Sp:=fun vs H Q _=>∃ (d ws r:Addr) (k:Int) (kvs:Kv) (one a:List Nat),vs = [.ref d,.ref ws]/\Dk C H d r k kvs/\H ws = some (.lst [tx one])/\valV kvs (kyT one) = some (tx a)/\a.length <= 1000/\∀ H',Same H H'->Q (tx (shw a)) H'
def spSayNames (C:Addr):Sp:=fun vs H Q _=>∃ (d ws r:Addr) (k:Int) (kvs:Kv) (ns:List (List Nat)),vs = [.ref d,.ref ws]/\Dk C H d r k kvs/\Srt kvs ns/\(∀ n ∈ ns,n.length <= 8)/\∀ H',Same H H'->Q (tx (wrt ns)) H'
def spDd (cs:Cs) (C:Addr):Dd->Sp
 | .kinds=>spSayKinds cs C | .row=>spSayRow cs C | .turn=>spSayTurn C | .behind=>spSayBehind cs C | .drop=>spSayDrop C | .show=>spSayShow C | .names=>spSayNames C
def spSay (cs : Cs) (C : Addr) : Sp := fun vs H Q E => ∃ (d r : Addr) (k : Int) (kvs : Kv) (l : List Nat) (dd : Dd) (args : List (List Nat)), vs = [.ref d, tx l] /\ Dk C H d r k kvs /\ KW l dd args /\
  ((∃ (i : Nat) (a : List Nat), args[i]? = some a /\ dd.form[i]? = some pName /\ valV kvs (kyT a) = none /\ Ref E cs.NoName H) \/
   ((∀ (i : Nat) (a : List Nat), args[i]? = some a -> dd.form[i]? = some pName -> (valV kvs (kyT a)).isSome = true) /\ ∀ E' ws H', (∀ c, Ref E c H -> Ref E' c H') -> Same H H' -> H ws = none -> H' ws = some (.lst (args.map tx)) -> spDd cs C dd [.ref d, .ref ws] H' Q E'))
def spDkInit (C:Addr):Sp:=fun vs H Q _=>∃ d dx,vs = [.ref d]/\H d = some (.ins C dx [])/\∀ r H',H r = none->FB [d] H H'->Dk C H' d r 4 []->Q .non H'
def spDkNames (C:Addr):Sp:=fun vs H Q _=>∃ (d r:Addr) (k:Int) (kvs:Kv) (ns:List (List Nat)),vs = [.ref d]/\Dk C H d r k kvs/\Srt kvs ns/\∀ p H',H p = none->Same H H'->H' p = some (.lst (ns.map tx))->Q (.ref p) H'
end BrS
namespace L2
open PySem PySem.Spec PyProof.Rows
section
variable {σ:St} {H:Hp} {Q:VK} {td ty:TE} {P:Program} {w:World} {K:PySem.W.Frag}
theorem s_dinK (h:ty σ H fun y H1=>td σ H1 fun x H2=>∃ a o,x = .ref a/\DGet H2 a y o/\Q (.bl o.isSome) H2):tDIn ty td σ H Q:=h
theorem s_dniK (h:ty σ H fun y H1=>td σ H1 fun x H2=>∃ a o,x = .ref a/\DGet H2 a y o/\Q (.bl (!o.isSome)) H2):tDNotIn ty td σ H Q:=h
theorem s_tBK {t:TE} {R:Bool->Hp->Prop} (h:t σ H fun x H1=>∃ c,x = .bl c/\R c H1):tB t σ H R:=h
theorem s_dgF (h:td σ H fun x H1=>ty σ H1 fun y H2=>∃ a kvs k v,x = .ref a/\FDc P w K a kvs/\y = kV k/\valV kvs k = some v/\Q v H2):tDGetF P w K td ty σ H Q:=h
theorem s_dnF (h:ty σ H fun y H1=>td σ H1 fun x H2=>∃ a kvs k,x = .ref a/\FDc P w K a kvs/\y = kV k/\Q (.bl (!(valV kvs k).isSome)) H2):tDNotInF P w K ty td σ H Q:=h
end
end L2
namespace BrS
open L2 PySem PySem.Spec PyProof.Rows BrM BrC BrR BrTx
theorem inV_tx (c : List Nat) : ∀ ns : List (List Nat), inV (tx c) (ns.map tx) = decide (c ∈ ns)
  | [] => rfl
  | x :: ns => by
    have ih := inV_tx c ns
    unfold inV at ih ⊢
    rw [List.map_cons, List.any_cons, ih, eqV_tx]
    by_cases h : c = x
    · subst h; simp
    · rw [decide_eq_false (fun z => h z.symm)]; simp [h]
theorem atI_zero {α:Type} {a:List α} (h:0 < a.length):atI a 0 = some a[0]:=by
 cases a with
 | nil=>simp at h
 | cons x r=>exact atI_0 x r
end BrS
namespace BrS
open L2 PySem PySem.Spec PyProof.Rows BrM BrC BrR BrTx
theorem flat8 : ∀ {ns : List (List Nat)}, (∀ n ∈ ns, n.length <= 8) -> ns.flatten.length <= 8 * ns.length
  | [], _ => by simp
  | n :: r, h => by
    have h1 := h n List.mem_cons_self
    have h2 := flat8 fun x hx => h x (List.mem_cons_of_mem _ hx)
    rw [List.flatten_cons, List.length_append, List.length_cons]; omega
theorem Srt.len {kvs:Kv} {ns:List (List Nat)} (h:Srt kvs ns):ns.length = kvs.length/\ns.length < 64:=by
 obtain ⟨ss,hk,h64,hp,_⟩:=h
 have l1:=hp.length_eq
 have l2:=congrArg List.length hk
 rw [List.length_map,List.length_map] at l2
 unfold strL at l1
 rw [List.length_map] at l1
 omega
end BrS
namespace BrS
open L2 PySem PySem.Spec PyProof.Rows BrM BrC BrR BrTx
abbrev tNoName:List Nat:=[9,78,111,78,97,109,101]
abbrev tNoKinds:List Nat:=[9,78,111,75,105,110,100,115]
abbrev tNoLine:List Nat:=[9,78,111,76,105,110,101]
inductive Cap (cs:Cs):Addr->List Nat->Prop
 | name:Cap cs cs.NoName tNoName
 | kinds:Cap cs cs.NoKinds tNoKinds
 | line:Cap cs cs.NoLine tNoLine
def spSaid (cs:Cs) (C:Addr):Sp:=fun vs H Q _=>∃ (d r:Addr) (k:Int) (kvs:Kv) (l:List Nat),vs = [.ref d,tx l]/\Dk C H d r k kvs/\∀ (Q':VK) (E':XK),(∀ b H',b.length <= 1000->b.head? ≠ some 9->(∀ G,Same H' G->Q (tx b) G)->Q' (tx b) H')->(∀ c nm,Cap cs c nm->(∀ H',Same H H'->Q (tx nm) H')->Ref E' c H)->spSay cs C [.ref d,tx l] H Q' E'
def spNames46:Sp:=fun vs H Q _=>∃ p,vs = [.ref p]/\Po H p/\∀ (L:Addr) (ns:List (List Nat)) (H':Hp),H L = none->Po H' p->SameBut1 p H H'->H' L = some (.lst (ns.map tx))->(∀ n ∈ ns,Nm n)->1 <= ns.length->ns.length <= 10->Q (.ref L) H'
def spTurn46:Sp:=fun vs H Q _=>∃ a,vs = [tx a]/\a.length <= 40/\(∀ c ∈ a,c ∈ all9)/\Q (tx (trn a)) H
def spLine46:Sp:=fun vs H Q _=>∃ (k:Int) (a:List Nat),vs = [.int k,tx a]/\1 <= k/\k <= 4/\a.length <= 100/\∀ H',Same H H'->Q (.bl (isRow k a)) H'
def spShown46:Sp:=fun vs H Q _=>∃ a,vs = [tx a]/\Q (tx (shw a)) H
def dueL (k:Int) (a:List Nat):List Nat:=if isRow k a = true then tOk else tNoLine
abbrev rowT (nm a:List Nat):List Nat:=wRow ++ 32 :: (nm ++ 32 :: a)
def spTold46:Sp:=fun vs H Q _=>∃ (p:Addr) (k:Int) (nm:List Nat),vs = [.ref p,.int k,tx nm]/\Po H p/\1 <= k/\k <= 4/\Nm nm/\∀ (T:Addr) (a:List Nat) (H':Hp),H T = none->Po H' p->SameBut1 p H H'->H' T = some (.tup [tx (rowT nm a),tx (dueL k a),tx nm,tx a])->a.length <= 41->Q (.ref T) H'
def St46 (H:Hp) (st q:Addr) (k:Int) (kvs:Kv):Prop:=H st = some (.dK [(kyT wKinds,.int k),(kyT [107,101,112,116],.ref q)])/\H q = some (.dK kvs)
inductive Nx (k:Int) (kvs:Kv):List Nat->List Nat->List Nat->V->Prop
 | told (nm a:List Nat) (h:Nm nm) (ha:a.length <= 41):Nx k kvs (rowT nm a) (dueL k a) nm (tx a)
 | drop (one:List Nat) (h:Nm one):Nx k kvs (wDrop ++ 32 :: one) (if (valV kvs (kyT one)).isSome = true then tOk else tNoName) one .non
 | turnN (nm one:List Nat) (h:Nm nm) (h2:Nm one) (hv:valV kvs (kyT one) = none):Nx k kvs (wTurn ++ 32 :: (nm ++ 32 :: one)) tNoName nm .non
 | turnY (nm one a:List Nat) (h:Nm nm) (h2:Nm one) (hv:valV kvs (kyT one) = some (tx a)):Nx k kvs (wTurn ++ 32 :: (nm ++ 32 :: one)) tOk nm (tx (trn a))
 | behindN (nm one two:List Nat) (h:Nm nm) (h2:Nm one) (h3:Nm two) (hv:valV kvs (kyT one) = none\/valV kvs (kyT two) = none):Nx k kvs (wBehind ++ 32 :: (nm ++ 32 :: (one ++ 32 :: two))) tNoName nm .non
 | behindY (nm one two a b:List Nat) (h:Nm nm) (h2:Nm one) (h3:Nm two) (hv:valV kvs (kyT one) = some (tx a)) (hv2:valV kvs (kyT two) = some (tx b)):Nx k kvs (wBehind ++ 32 :: (nm ++ 32 :: (one ++ 32 :: two))) (if (a ++ b).length <= 40 then tOk else tNoLine) nm (tx (a ++ b))
def spNext46:Sp:=fun vs H Q _=>∃ (p st q nl:Addr) (k:Int) (kvs:Kv) (ns:List (List Nat)),vs = [.ref p,.ref st,.ref nl]/\Po H p/\St46 H st q k kvs/\H nl = some (.lst (ns.map tx))/\st ≠ p/\q ≠ p/\nl ≠ p/\1 <= k/\k <= 4/\Rw k kvs/\(∀ n ∈ ns,Nm n)/\1 <= ns.length/\ns.length <= 10 /\
 ∀ T l due nm v H',H T = none->Po H' p->SameBut1 p H H'->H' T = some (.tup [tx l,tx due,tx nm,v])->Nx k kvs l due nm v->Q (.ref T) H'
def spKinds46 (C:Addr):Sp:=fun vs H Q _=>∃ (p d r st q:Addr) (k:Int) (kvs:Kv),vs = [.ref p,.ref d,.ref st]/\Po H p/\Dk C H d r k kvs/\St46 H st q k kvs/\d ≠ p/\r ≠ p/\st ≠ p/\q ≠ p/\r ≠ st/\d ≠ q/\d ≠ st/\1 <= k/\k <= 4/\Rw k kvs /\
 ∀ r' q' k' kvs' H',Po H' p->Dk C H' d r' k' kvs'->St46 H' st q' k' kvs'->FB [p,d,st] H H'->((r' = r/\q' = q)\/(H r' = none/\H q' = none/\r' ≠ q'))->1 <= k'->k' <= 4->Rw k' kvs'->kvs'.length <= kvs.length->Q (.bl true) H'
def spSpoil46:Sp:=fun vs H Q _=>∃ (w:Int) (t:Addr) (xs:List V),vs = [.int w,.ref t,tx [122,122]]/\H t = some (.lst xs)/\xs.length <= 100/\∀ H',SameBut1 t H H'->Q .non H'
def Hd46 (bad:List Addr) (H:Hp) (hs:List V):Prop:=∀ v ∈ hs,∃ (T t m:Addr) (ns:List (List Nat)),v = .ref T/\T ∉ bad/\t ∉ bad/\m ∉ bad/\H T = some (.tup [.ref t,.ref m])/\H t = some (.lst (ns.map tx))/\H m = some (.lst (ns.map tx))
theorem Hd46.keep {bad b2:List Addr} {H H':Hp} {hs:List V} (h:Hd46 bad H hs) (k:FB b2 H H') (hb:∀ x ∈ b2,x ∈ bad):Hd46 bad H' hs:=fun v hv =>
 let ⟨T,t,m,ns,e,n1,n2,n3,g1,g2,g3⟩:=h v hv; ⟨T,t,m,ns,e,n1,n2,n3,k _ _ g1 (fun z=>n1 (hb _ z)),k _ _ g2 (fun z=>n2 (hb _ z)),k _ _ g3 (fun z=>n3 (hb _ z))⟩
theorem Hd46.more {bad:List Addr} {H:Hp} {hs:List V} {T t m:Addr} {ns:List (List Nat)} (h:Hd46 bad H hs) (n1:T ∉ bad) (n2:t ∉ bad) (n3:m ∉ bad) (g1:H T = some (.tup [.ref t,.ref m])) (g2:H t = some (.lst (ns.map tx))) (g3:H m = some (.lst (ns.map tx))):Hd46 bad H (hs ++ [.ref T]):=fun v hv=>by
 rcases List.mem_append.mp hv with z | z
 ·exact h v z
 ·rw [List.mem_singleton.mp z]; exact ⟨T,t,m,ns,rfl,n1,n2,n3,g1,g2,g3⟩
def spKept46 (C:Addr):Sp:=fun vs H Q _=>∃ (d r q ls:Addr) (k:Int) (kvs:Kv) (hs:List V) (bad:List Addr) (n:Int),vs = [.ref d,.ref q,.ref ls,.int n]/\Dk C H d r k kvs/\H q = some (.dK kvs)/\Rw k kvs/\kvs.length < 64/\H ls = some (.lst hs)/\hs.length <= 2000/\0 <= n/\n <= 100/\Hd46 bad H hs/\ls ∈ bad/\(∀ b ∈ bad,∃ o,H b = some o) /\
 ∀ hs' H',FB [ls] H H'->H' ls = some (.lst hs')->hs'.length <= hs.length + 1->Hd46 bad H' hs'->Q (.bl true) H'
theorem ifj {c:Bool} {t:TS} {D:Ends} {σ:L2.St} {H:Hp} (P:L2.St->Hp->Prop) (hr:∀ σ' H',P σ' H'->D.nx σ' H') (h1:c = true->∀ N:L2.St->Hp->Prop,(∀ σ' H',P σ' H'->N σ' H')->t { D with nx:=N } σ H) (h2:c = false->P σ H):if c = true then t D σ H else tNext D σ H:=by
 cases c with
 | true=>rw [if_pos rfl]; exact h1 rfl D.nx hr
 | false=>rw [if_neg Bool.false_ne_true]; exact hr _ _ (h2 rfl)
theorem _root_.L2.SameBut1.free1 {p x : Addr} {H H' : Hp} (s : SameBut1 p H H') (hp : Po H' p) (h : H' x = none) : H x = none := by
  cases e : H x with
  | none => rfl
  | some o =>
    by_cases z : x = p
    · obtain ⟨a, b, c, g⟩ := hp
      rw [z, g] at h; cases h
    · rw [s x o e z] at h; cases h
theorem s_endsOff {i:Nat} {D:Ends} {σ:L2.St} {H:Hp} (h:D.nx (σ.set i none) H):(endsOff i D).nx σ H:=h
def Lw (w:List Nat):Prop:=w.length <= 20/\∀ c ∈ w,c ∈ ltr
theorem Lw.app {a b:List Nat} (h:Lw a) (g:Lw b) (hl:a.length + b.length <= 20):Lw (a ++ b):=⟨by rw [List.length_append]; exact hl,fun c hc=>(List.mem_append.mp hc).elim (h.2 c) (g.2 c)⟩
def wd8:List (List Nat):=[[110,111,110,101],[114,111,119],[110,97,109,101,115],[115,104,111,119],[116,117,114,110],[107,105,110,100,115],[100,114,111,112],[109,97,110,121]]
theorem lw8:∀ w ∈ wd8,Lw w:=by unfold Lw; decide
def wd5:List (List Nat):=[[113,120],[113,121],[113,120,113,121],[122,122,122,122,122,122,122,122],[120]]
theorem lw5:∀ w ∈ wd5,Lw w:=by unfold Lw; decide
theorem atI_map {α β : Type} {l : List α} {i : Int} {x : α} (f : α -> β) (h : atI l i = some x) : atI (l.map f) i = some (f x) := by
  unfold atI at h ⊢
  rw [List.length_map]
  cases e : ixN l.length i with
  | none => rw [e] at h; cases h
  | some j =>
    rw [e] at h
    show (l.map f)[j]? = _
    rw [List.getElem?_map]
    have h : l[j]? = some x := h
    rw [h]; rfl
theorem at_memL {α:Type} {l:List α} {i:Int} (h0:0 <= i) (h:i < l.length):∃ x,atI l i = some x/\x ∈ l:=by
 obtain ⟨j,rfl⟩:∃ j:Nat,i = j:=⟨i.toNat,by omega⟩
 have hj:j < l.length:=by omega
 exact ⟨l[j],atI_nat (List.getElem?_eq_getElem hj),List.getElem_mem hj⟩
section
variable {cs:Cs} {C:Addr} {H:Hp} {Q:VK} {E:XK} {d r:Addr} {k:Int} {kvs:Kv} {l:List Nat} {dd:Dd} {args:List (List Nat)}
theorem say_of (hd:Dk C H d r k kvs) (kw:KW l dd args) (hn:∀ (i:Nat) (a:List Nat),args[i]? = some a->dd.form[i]? = some pName->(valV kvs (kyT a)).isSome = true)
  (h:∀ E' ws H',(∀ c,Ref E c H->Ref E' c H')->Same H H'->H ws = none->H' ws = some (.lst (args.map tx))->spDd cs C dd [.ref d,.ref ws] H' Q E'):spSay cs C [.ref d,tx l] H Q E:=⟨d,r,k,kvs,l,dd,args,rfl,hd,kw,.inr ⟨hn,h⟩⟩
theorem say_no (hd:Dk C H d r k kvs) (kw:KW l dd args) {i:Nat} {a:List Nat} (hi:args[i]? = some a) (hf:dd.form[i]? = some pName) (hv:valV kvs (kyT a) = none) (rf:Ref E cs.NoName H):spSay cs C [.ref d,tx l] H Q E:=⟨d,r,k,kvs,l,dd,args,rfl,hd,kw,.inl ⟨i,a,hi,hf,hv,rf⟩⟩
theorem FB.pre {bad:List Addr} {H H1 H2:Hp} (s:Same H H1) (a:FB bad H1 H2):FB bad H H2:=fun b o z n=>a b o (s b o z) n
theorem say_kinds' (hd:Dk C H d r k kvs) {n:Nat} (hn:n < 10 ^ 9) (q1:1 <= n->n <= 4->∀ r' H',H r' = none->FB [d] H H'->Dk C H' d r' n []->Q (tx tOk) H') (q2:¬ (1 <= n/\n <= 4)->Ref E cs.NoKinds H):spSay cs C [.ref d,tx (wKinds ++ 32 :: numT n)] H Q E:=by
 refine say_of hd (kw_kinds hn) (fun i a h1 h2=>?_) fun E' ws H1 hR s1 hw gw=>⟨d,ws,r,k,kvs,n,rfl,hd.same s1,gw,hn,?_⟩
 ·match i with
  | 0=>cases h2
  | i + 1=>simp at h1
 by_cases h:1 <= n/\n <= 4
 ·exact .inl ⟨h.1,h.2,fun r' H' a b c=>q1 h.1 h.2 r' H' (s1.free a) (b.pre s1) c⟩
 ·exact .inr ⟨h,hR _ (q2 h)⟩
theorem say_row' (hd:Dk C H d r k kvs) (k1:1 <= k) (k4:k <= 4) (hl:kvs.length <= 100) {nm a:List Nat} (hn:Nm nm) (ha:a.length <= 400) (q1:isRow k a = true->∀ H',FB [r] H H'->Dk C H' d r k (putK kvs (kyT nm) (tx a))->Q (tx tOk) H') (q2:isRow k a = false->Ref E cs.NoLine H):spSay cs C [.ref d,tx (rowT nm a)] H Q E:=by
 refine say_of hd (kw_row hn ha) (fun i b h1 h2=>?_) fun E' ws H1 hR s1 hw gw=>⟨d,ws,r,k,kvs,nm,a,rfl,hd.same s1,k1,k4,hl,gw,ha,?_⟩
 ·match i with
  | 0=>cases h2
  | 1=>cases h2
  | i + 2=>simp at h1
 cases h:isRow k a with
 | true=>exact .inl ⟨rfl,fun H' b c=>q1 h H' (b.pre s1) c⟩
 | false=>exact .inr ⟨rfl,hR _ (q2 h)⟩
theorem say_turn' (hd:Dk C H d r k kvs) (k1:1 <= k) (k4:k <= 4) (hl:kvs.length <= 100) {nm one a:List Nat} (hn:Nm nm) (ho:Nm one) (hv:valV kvs (kyT one) = some (tx a)) (ha:isRow k a = true) (q1:∀ H',FB [r] H H'->Dk C H' d r k (putK kvs (kyT nm) (tx (trn a)))->Q (tx tOk) H'):spSay cs C [.ref d,tx (wTurn ++ 32 :: (nm ++ 32 :: one))] H Q E:=by
 refine say_of hd (kw_two hn ho) (fun i b h1 h2=>?_) fun E' ws H1 hR s1 hw gw=>⟨d,ws,r,k,kvs,nm,one,a,rfl,hd.same s1,k1,k4,hl,gw,hv,ha,fun H' b c=>q1 H' (b.pre s1) c⟩
 match i with
 | 0=>cases h2
 | 1=>cases h1; rw [hv]; rfl
 | i + 2=>simp at h1
theorem say_behind' (hd:Dk C H d r k kvs) (k1:1 <= k) (k4:k <= 4) (hl:kvs.length <= 100) {nm one two a b:List Nat} (hn:Nm nm) (ho:Nm one) (ht:Nm two) (hv:valV kvs (kyT one) = some (tx a)) (hv2:valV kvs (kyT two) = some (tx b)) (ha:a.length <= 40) (hb:b.length <= 40)
  (q1:isRow k (a ++ b) = true->∀ H',FB [r] H H'->Dk C H' d r k (putK kvs (kyT nm) (tx (a ++ b)))->Q (tx tOk) H') (q2:isRow k (a ++ b) = false->Ref E cs.NoLine H):spSay cs C [.ref d,tx (wBehind ++ 32 :: (nm ++ 32 :: (one ++ 32 :: two)))] H Q E:=by
 refine say_of hd (kw_three hn ho ht) (fun i b h1 h2=>?_) fun E' ws H1 hR s1 hw gw=>⟨d,ws,r,k,kvs,nm,one,two,a,b,rfl,hd.same s1,k1,k4,hl,gw,hv,hv2,ha,hb,?_⟩
 ·match i with
  | 0=>cases h2
  | 1=>cases h1; rw [hv]; rfl
  | 2=>cases h1; rw [hv2]; rfl
  | i + 3=>simp at h1
 cases h:isRow k (a ++ b) with
 | true=>exact .inl ⟨rfl,fun H' b c=>q1 h H' (b.pre s1) c⟩
 | false=>exact .inr ⟨rfl,hR _ (q2 h)⟩
theorem say_drop' (hd:Dk C H d r k kvs) {one:List Nat} {v:V} (ho:Nm one) (hv:valV kvs (kyT one) = some v) (q1:∀ H',FB [r] H H'->Dk C H' d r k (dropK kvs (kyT one))->Q (tx tOk) H'):spSay cs C [.ref d,tx (wDrop ++ 32 :: one)] H Q E:=by
 refine say_of hd (kw_one .drop (.inl rfl) ho) (fun i b h1 h2=>?_) fun E' ws H1 hR s1 hw gw=>⟨d,ws,r,k,kvs,one,v,rfl,hd.same s1,gw,hv,fun H' b c=>q1 H' (b.pre s1) c⟩
 match i with
 | 0=>cases h1; rw [hv]; rfl
 | i + 1=>simp at h1
theorem say_show' (hd:Dk C H d r k kvs) {one a:List Nat} (ho:Nm one) (hv:valV kvs (kyT one) = some (tx a)) (ha:a.length <= 1000) (q1:∀ H',Same H H'->Q (tx (shw a)) H'):spSay cs C [.ref d,tx (wShow ++ 32 :: one)] H Q E:=by
 refine say_of hd (kw_one .show (.inr rfl) ho) (fun i b h1 h2=>?_) fun E' ws H1 hR s1 hw gw=>⟨d,ws,r,k,kvs,one,a,rfl,hd.same s1,gw,hv,ha,fun H' b=>q1 H' (s1.trans b)⟩
 match i with
 | 0=>cases h1; rw [hv]; rfl
 | i + 1=>simp at h1
theorem say_names' (hd:Dk C H d r k kvs) {ns:List (List Nat)} (hs:Srt kvs ns) (h8:∀ n ∈ ns,n.length <= 8) (q1:∀ H',Same H H'->Q (tx (wrt ns)) H'):spSay cs C [.ref d,tx wNames] H Q E :=
 say_of hd kw_names (fun i b h1 h2=>by simp at h1) fun E' ws H1 hR s1 hw gw=>⟨d,ws,r,k,kvs,ns,rfl,hd.same s1,hs,h8,fun H' b=>q1 H' (s1.trans b)⟩
theorem said_kinds (hd:Dk C H d r k kvs) {n:Nat} (hn:n < 10 ^ 9) (q1:1 <= n->n <= 4->∀ r' H',H r' = none->FB [d] H H'->Dk C H' d r' n []->Q (tx tOk) H') (q2:¬ (1 <= n/\n <= 4)->∀ H',Same H H'->Q (tx tNoKinds) H'):spSaid cs C ([.ref d,tx (wKinds ++ 32 :: numT n)] ++ []) H Q E :=
 ⟨d,r,k,kvs,_,rfl,hd,fun Q' E' hQ hE=>say_kinds' hd hn (fun a b r' H' c e g=>hQ tOk H' (by decide) (by decide) fun G s=>q1 a b r' G c (e.s s) (g.same s)) fun h=>hE _ _ .kinds (q2 h)⟩
inductive Aft (k:Int) (kvs:Kv) (due nm:List Nat):V->Kv->Prop
 | no (h:due ≠ tOk) (v:V):Aft k kvs due nm v kvs
 | drop (h:due = tOk) (x:V) (hv:valV kvs (kyT nm) = some x):Aft k kvs due nm .non (dropK kvs (kyT nm))
 | put (h:due = tOk) (a:List Nat) (ha:isRow k a = true) (hn:Nm nm):Aft k kvs due nm (tx a) (putK kvs (kyT nm) (tx a))
theorem Aft.rw {due nm:List Nat} {v:V} {kvs':Kv} (h:Aft k kvs due nm v kvs') (hr:Rw k kvs):Rw k kvs'/\kvs'.length <= kvs.length + 1:=by
 cases h with
 | no h=>exact ⟨hr,by omega⟩
 | drop h x hv=>exact ⟨hr.drop,by have:=dropK_le kvs (kyT nm); omega⟩
 | put h a ha hn=>exact ⟨hr.put hn ha,length_putK _ _ _⟩
theorem isRow_app {a b:List Nat} (ha:isRow k a = true) (hb:isRow k b = true):isRow k (a ++ b) = decide ((a ++ b).length <= 40):=by
 by_cases h:(a ++ b).length <= 40
 ·rw [decide_eq_true h]; exact isRow_mk h fun c hc=>(List.mem_append.mp hc).elim (isRow_mem ha c) (isRow_mem hb c)
 ·rw [decide_eq_false h]; unfold isRow; rw [decide_eq_false h,Bool.false_and]
theorem said_next {due nm : List Nat} {v : V} (hd : Dk C H d r k kvs) (k1 : 1 <= k) (k4 : k <= 4) (hr : Rw k kvs) (hl : kvs.length <= 100) (nx : Nx k kvs l due nm v) (q : ∀ H' kvs', FB [r] H H' -> Dk C H' d r k kvs' -> Aft k kvs due nm v kvs' -> Q (tx due) H') : spSaid cs C ([.ref d, tx l] ++ []) H Q E := by
  refine ⟨d, r, k, kvs, l, rfl, hd, fun Q' E' hQ hE => ?_⟩
  have same : due ≠ tOk -> ∀ H', Same H H' -> Q (tx due) H' := fun h H' s => q H' kvs (FB.of s) (hd.same s) (.no h v)
  cases nx with
  | told nm a hn ha =>
    refine say_row' hd k1 k4 hl hn (by omega) (fun h H' b c => ?_) fun h => ?_
    · have e : dueL k a = tOk := by unfold dueL; rw [if_pos h]
      rw [e] at q
      exact hQ tOk H' (by decide) (by decide) fun G s => q G _ (b.s s) (c.same s) (.put rfl a h hn)
    · have e : dueL k a = tNoLine := by unfold dueL; rw [h]; rfl
      rw [e] at same
      exact hE _ _ .line (same (by decide))
  | drop one ho =>
    cases hv : valV kvs (kyT nm) with
    | none =>
      rw [hv] at same
      exact say_no (i := 0) hd (kw_one .drop (.inl rfl) ho) rfl rfl hv (hE _ _ .name (same (by decide)))
    | some x =>
      rw [hv] at q
      exact say_drop' hd ho hv fun H' b c => hQ tOk H' (by decide) (by decide) fun G s => q G _ (b.s s) (c.same s) (.drop rfl x hv)
  | turnN nm one hn ho hv => exact say_no (i := 1) hd (kw_two hn ho) rfl rfl hv (hE _ _ .name (same (by decide)))
  | turnY nm one a hn ho hv =>
    obtain ⟨b, e, hb⟩ := hr.get hv
    cases tx_inj.mp e
    exact say_turn' hd k1 k4 hl hn ho hv hb fun H' b c => hQ tOk H' (by decide) (by decide) fun G s => q G _ (b.s s) (c.same s) (.put rfl _ (isRow_trn k1 k4 hb) hn)
  | behindN nm one two hn ho ht hv =>
    rcases hv with hv | hv
    · exact say_no (i := 1) hd (kw_three hn ho ht) rfl rfl hv (hE _ _ .name (same (by decide)))
    · exact say_no (i := 2) hd (kw_three hn ho ht) rfl rfl hv (hE _ _ .name (same (by decide)))
  | behindY nm one two a b hn ho ht hv hv2 =>
    obtain ⟨a', e, ha⟩ := hr.get hv
    cases tx_inj.mp e
    obtain ⟨b', e, hb⟩ := hr.get hv2
    cases tx_inj.mp e
    have ea := isRow_app ha hb
    refine say_behind' hd k1 k4 hl hn ho ht hv hv2 (isRow_len ha) (isRow_len hb) (fun h H' fb c => ?_) fun h => ?_
    · rw [ea] at h
      rw [if_pos (of_decide_eq_true h)] at q
      exact hQ tOk H' (by decide) (by decide) fun G s => q G _ (fb.s s) (c.same s) (.put rfl _ (by rw [ea]; exact h) hn)
    · rw [ea] at h
      rw [if_neg (of_decide_eq_false h)] at same
      exact hE _ _ .line (same (by decide))
end
theorem st_put1 {k n:Int} {q:Addr}:putK [(kyT wKinds,V.int k),(kyT [107,101,112,116],.ref q)] (kyT wKinds) (.int n) = [(kyT wKinds,.int n),(kyT [107,101,112,116],.ref q)]:=rfl
theorem st_put2 {k:Int} {q q':Addr}:putK [(kyT wKinds,V.int k),(kyT [107,101,112,116],.ref q)] (kyT [107,101,112,116]) (.ref q') = [(kyT wKinds,.int k),(kyT [107,101,112,116],.ref q')]:=rfl
theorem if_te {c:Bool} {te1 te2:TE} {σ:L2.St} {H:Hp} {R:VK} (P:VK) (hR:∀ x G,P x G->R x G) (hA:c = true->∀ R':VK,(∀ x G,P x G->R' x G)->te1 σ H R') (hB:c = false->∀ R':VK,(∀ x G,P x G->R' x G)->te2 σ H R'):if c = true then te1 σ H R else te2 σ H R:=by
 cases c with
 | true=>rw [if_pos rfl]; exact hA rfl R hR
 | false=>rw [if_neg Bool.false_ne_true]; exact hB rfl R hR
theorem eqVs_txs:∀ ns:List (List Nat),eqVs (ns.map tx) [] = decide (ns = [])
 | []=>rfl
 | _ :: _=>rfl
theorem ifj2 {c:Bool} {t1 t2:TS} {D:Ends} {σ:L2.St} {H:Hp} (P:L2.St->Hp->Prop) (hr:∀ σ' H',P σ' H'->D.nx σ' H') (h1:c = true->∀ N:L2.St->Hp->Prop,(∀ σ' H',P σ' H'->N σ' H')->t1 { D with nx:=N } σ H) (h2:c = false->∀ N:L2.St->Hp->Prop,(∀ σ' H',P σ' H'->N σ' H')->t2 { D with nx:=N } σ H):if c = true then t1 D σ H else t2 D σ H:=by
 cases c with
 | true=>rw [if_pos rfl]; exact h1 rfl D.nx hr
 | false=>rw [if_neg Bool.false_ne_true]; exact h2 rfl D.nx hr
structure W46 (C:Addr) (H G:Hp) (p nl d r o ro st qd ls:Addr) (k:Int) (kd ks:Kv) (ns:List (List Nat)) (nm0:List Nat) (hs:List V):Prop where
 sm:Same H G
 po:Po G p
 dk:Dk C G d r k kd
 ot:Dk C G o ro 4 [(kyT nm0,tx [60,63])]
 sta:St46 G st qd k ks
 gn:G nl = some (.lst (ns.map tx))
 gl:G ls = some (.lst hs)
 hd:Hd46 [ls] G hs
 k1:1 <= k
 k4:k <= 4
 rw:Rw k ks
 nn:∀ n ∈ ns,Nm n
 n1:1 <= ns.length
 n10:ns.length <= 10
 fp:H p = none
 fd:H d = none
 fr:H r = none
 fs:H st = none
 fq:H qd = none
 fl:H ls = none
 ddo:d ≠ o
 rro:r ≠ ro
 rst:r ≠ st
 rqd:r ≠ qd
 ost:ro ≠ st
 oqd:ro ≠ qd
 sqd:st ≠ qd
section
variable {C:Addr} {H G G':Hp} {p nl d r o ro st qd ls:Addr} {k:Int} {kd ks:Kv} {ns:List (List Nat)} {nm0:List Nat} {hs:List V}
theorem Po.ne_of {x:Addr} {u:HO} (h:Po G p) (g:G x = some u) (hu:∀ a b c:Int,u ≠ .lst [.int a,.int b,.int c]):x ≠ p:=fun e=>by
 obtain ⟨a,b,c,z⟩:=h
 rw [e,z] at g
 exact hu a b c (Option.some.inj g).symm
theorem lst_ne {ws:List (List Nat)}:∀ a b c:Int,(HO.lst (ws.map tx)) ≠ .lst [.int a,.int b,.int c]:=fun a b c e=>by
 injection e with e
 match ws with
 | []=>cases e
 | x :: _=>rw [List.map_cons] at e; injection e with e1 _; cases e1
theorem Hd46.ref (h:Hd46 [ls] G hs):∀ v ∈ hs,∃ T,v = .ref T:=fun v hv=>let ⟨T,_,_,_,e,_⟩:=h v hv; ⟨T,e⟩
theorem refs_ne (h:∀ v ∈ hs,∃ T,v = V.ref T):∀ a b c:Int,(HO.lst hs) ≠ .lst [.int a,.int b,.int c]:=fun a b c e=>by
 injection e with e
 obtain ⟨T,z⟩:=h (.int a) (by rw [e]; simp)
 cases z
def Chg (G:Hp) (ls x:Addr):Prop:=x = ls\/Po G x\/(∃ C dx fs,G x = some (.ins C dx fs))\/∃ kvs,G x = some (.dK kvs)
theorem Hd46.keepW {b2:List Addr} (h:Hd46 [ls] G hs) (f:FB b2 G G') (hb:∀ x ∈ b2,Chg G ls x):Hd46 [ls] G' hs:=fun v hv=>by
 obtain ⟨T,t,m,ws,e,n1,n2,n3,g1,g2,g3⟩:=h v hv
 have tup:T ∉ b2:=fun z=>by
  rcases hb T z with y | ⟨a,b,c,y⟩ | ⟨_,_,_,y⟩ | ⟨_,y⟩
  ·exact n1 (by simp [y])
  all_goals (rw [g1] at y; cases y)
 have lst:∀ {x:Addr},x ∉ [ls]->G x = some (.lst (ws.map tx))->x ∉ b2:=fun nx gx z=>by
  rcases hb _ z with y | y | ⟨_,_,_,y⟩ | ⟨_,y⟩
  ·exact nx (by simp [y])
  ·exact y.ne_of gx lst_ne rfl
  all_goals (rw [gx] at y; cases y)
 exact ⟨T,t,m,ws,e,n1,n2,n3,f _ _ g1 tup,f _ _ g2 (lst n2 g2),f _ _ g3 (lst n3 g3)⟩
theorem W46.same (w:W46 C H G p nl d r o ro st qd ls k kd ks ns nm0 hs) (s:Same G G'):W46 C H G' p nl d r o ro st qd ls k kd ks ns nm0 hs :=
 { w with sm:=w.sm.trans s,po:=w.po.same s,dk:=w.dk.same s,ot:=w.ot.same s,sta:=⟨s _ _ w.sta.1,s _ _ w.sta.2⟩,gn:=s _ _ w.gn,gl:=s _ _ w.gl,hd:=w.hd.keepW (FB.of (bad:=[]) s) (fun _ h=>nomatch h) }
theorem W46.pool {p':Addr} (w:W46 C H G p nl d r o ro st qd ls k kd ks ns nm0 hs) (s:Same G G') (hp:G p' = none) (h:Po G' p'):W46 C H G' p' nl d r o ro st qd ls k kd ks ns nm0 hs:={ w.same s with po:=h,fp:=w.sm.free hp }
theorem W46.chg {b2:List Addr} (w:W46 C H G p nl d r o ro st qd ls k kd ks ns nm0 hs) (f:FB b2 G G') (hb:∀ x ∈ b2,Chg G ls x/\H x = none/\x ≠ o/\x ≠ ro/\x ≠ ls):Same H G'/\Dk C G' o ro 4 [(kyT nm0,tx [60,63])]/\G' nl = some (.lst (ns.map tx))/\G' ls = some (.lst hs)/\Hd46 [ls] G' hs:=by
 refine ⟨fun b o z=>f _ _ (w.sm b o z) (fun y=>by rw [(hb b y).2.1] at z; cases z),w.ot.keep f (fun y=>(hb _ y).2.2.1 rfl) (fun y=>(hb _ y).2.2.2.1 rfl),f _ _ w.gn fun y=>?_,f _ _ w.gl fun y=>(hb _ y).2.2.2.2 rfl,w.hd.keepW f fun x hx=>(hb x hx).1⟩
 rcases (hb _ y).1 with z | z | ⟨_,_,_,z⟩ | ⟨_,z⟩
 ·exact (hb _ y).2.2.2.2 z
 ·exact z.ne_of w.gn lst_ne rfl
 all_goals (rw [w.gn] at z; cases z)
theorem W46.np (w:W46 C H G p nl d r o ro st qd ls k kd ks ns nm0 hs):d ≠ p/\r ≠ p/\o ≠ p/\ro ≠ p/\st ≠ p/\qd ≠ p/\nl ≠ p/\ls ≠ p:=by
 obtain ⟨⟨_,a⟩,b⟩:=w.dk
 obtain ⟨⟨_,a'⟩,b'⟩:=w.ot
 exact ⟨w.po.ne_of a (fun _ _ _ e=>by cases e),w.po.ne_of b (fun _ _ _ e=>by cases e),w.po.ne_of a' (fun _ _ _ e=>by cases e),w.po.ne_of b' (fun _ _ _ e=>by cases e),w.po.ne_of w.sta.1 (fun _ _ _ e=>by cases e),w.po.ne_of w.sta.2 (fun _ _ _ e=>by cases e),w.po.ne_of w.gn lst_ne,w.po.ne_of w.gl (refs_ne w.hd.ref)⟩
theorem W46.nls (w:W46 C H G p nl d r o ro st qd ls k kd ks ns nm0 hs):d ≠ ls/\r ≠ ls/\st ≠ ls/\qd ≠ ls/\o ≠ ls/\ro ≠ ls:=by
 obtain ⟨⟨_,a⟩,b⟩:=w.dk
 obtain ⟨⟨_,a'⟩,b'⟩:=w.ot
 have z:=w.gl
 refine ⟨fun e=>?_,fun e=>?_,fun e=>?_,fun e=>?_,fun e=>?_,fun e=>?_⟩ <;> rw [<- e] at z
 ·rw [a] at z; cases z
 ·rw [b] at z; cases z
 ·rw [w.sta.1] at z; cases z
 ·rw [w.sta.2] at z; cases z
 ·rw [a'] at z; cases z
 ·rw [b'] at z; cases z
theorem W46.ins (w:W46 C H G p nl d r o ro st qd ls k kd ks ns nm0 hs):d ≠ ro/\d ≠ st/\d ≠ qd/\o ≠ r/\o ≠ st/\o ≠ qd:=by
 obtain ⟨⟨_,a⟩,b⟩:=w.dk
 obtain ⟨⟨_,a'⟩,b'⟩:=w.ot
 refine ⟨fun e=>?_,fun e=>?_,fun e=>?_,fun e=>?_,fun e=>?_,fun e=>?_⟩
 ·rw [e,b'] at a; cases a
 ·rw [e,w.sta.1] at a; cases a
 ·rw [e,w.sta.2] at a; cases a
 ·rw [e,b] at a'; cases a'
 ·rw [e,w.sta.1] at a'; cases a'
 ·rw [e,w.sta.2] at a'; cases a'
theorem W46.draw (w:W46 C H G p nl d r o ro st qd ls k kd ks ns nm0 hs) (s:SameBut1 p G G') (h:Po G' p):W46 C H G' p nl d r o ro st qd ls k kd ks ns nm0 hs:=by
 obtain ⟨a1,a2,a3,a4,a5,a6,a7,a8⟩:=w.np
 have f:FB [p] G G':=fun b o z n=>s b o z (by simpa using n)
 obtain ⟨c1,c2,c3,c4,c5⟩:=w.chg f (fun x hx=>by rw [List.mem_singleton.mp hx]; exact ⟨.inr (.inl w.po),w.fp,a3.symm,a4.symm,a8.symm⟩)
 exact { w with sm:=c1,po:=h,dk:=w.dk.keep f (by simpa using a1) (by simpa using a2),ot:=c2,sta:=⟨f _ _ w.sta.1 (by simpa using a5),f _ _ w.sta.2 (by simpa using a6)⟩,gn:=c3,gl:=c4,hd:=c5 }
theorem W46.said {kd':Kv} (w:W46 C H G p nl d r o ro st qd ls k kd ks ns nm0 hs) (f:FB [r] G G') (h:Dk C G' d r k kd'):W46 C H G' p nl d r o ro st qd ls k kd' ks ns nm0 hs:=by
 obtain ⟨a1,a2,a3,a4,a5,a6,a7,a8⟩:=w.np
 obtain ⟨b1,b2,b3,b4,b5,b6⟩:=w.nls
 obtain ⟨d1,d2,d3,d4,d5,d6⟩:=w.ins
 obtain ⟨c1,c2,c3,c4,c5⟩:=w.chg f (fun x hx=>by rw [List.mem_singleton.mp hx]; exact ⟨.inr (.inr (.inr ⟨_,w.dk.2⟩)),w.fr,d4.symm,w.rro,b2⟩)
 have pp:Po G' p:=by
  obtain ⟨a,b,c,e⟩:=w.po
  exact ⟨a,b,c,f _ _ e (by simpa using a2.symm)⟩
 exact { w with sm:=c1,po:=pp,dk:=h,ot:=c2,sta:=⟨f _ _ w.sta.1 (by simpa using w.rst.symm),f _ _ w.sta.2 (by simpa using w.rqd.symm)⟩,gn:=c3,gl:=c4,hd:=c5 }
theorem W46.kept {ks':Kv} (w:W46 C H G p nl d r o ro st qd ls k kd ks ns nm0 hs) (h:Rw k ks'):W46 C H (upd G qd (.dK ks')) p nl d r o ro st qd ls k kd ks' ns nm0 hs:=by
 obtain ⟨a1,a2,a3,a4,a5,a6,a7,a8⟩:=w.np
 obtain ⟨b1,b2,b3,b4,b5,b6⟩:=w.nls
 obtain ⟨d1,d2,d3,d4,d5,d6⟩:=w.ins
 have f:FB [qd] G (upd G qd (.dK ks')):=(FB.refl _ _).atU (by simp)
 obtain ⟨c1,c2,c3,c4,c5⟩:=w.chg f (fun x hx=>by rw [List.mem_singleton.mp hx]; exact ⟨.inr (.inr (.inr ⟨_,w.sta.2⟩)),w.fq,d6.symm,w.oqd.symm,b4⟩)
 have pp:Po (upd G qd (.dK ks')) p:=by
  obtain ⟨a,b,c,e⟩:=w.po
  exact ⟨a,b,c,f _ _ e (by simpa using a6.symm)⟩
 exact { w with sm:=c1,po:=pp,dk:=w.dk.keep f (by simpa using d3) (by simpa using w.rqd),ot:=c2,sta:=⟨f _ _ w.sta.1 (by simpa using w.sqd),upd_same⟩,gn:=c3,gl:=c4,hd:=c5,rw:=h }
theorem W46.looked {hs' : List V} (w : W46 C H G p nl d r o ro st qd ls k kd ks ns nm0 hs) (f : FB [ls] G G') (g : G' ls = some (.lst hs')) (h : Hd46 [ls] G' hs') : W46 C H G' p nl d r o ro st qd ls k kd ks ns nm0 hs' := by
  obtain ⟨a1, a2, a3, a4, a5, a6, a7, a8⟩ := w.np
  obtain ⟨b1, b2, b3, b4, b5, b6⟩ := w.nls
  have pp : Po G' p := by
    obtain ⟨a, b, c, e⟩ := w.po
    exact ⟨a, b, c, f _ _ e (by simpa using a8.symm)⟩
  have nls : nl ≠ ls := fun e => by
    have z := w.gn
    rw [e, w.gl] at z
    have z1 : HO.lst hs = HO.lst (ns.map tx) := Option.some.inj z
    injection z1 with z
    have n1 := w.n1
    cases hn : ns with
    | nil => rw [hn] at n1; simp at n1
    | cons x xs =>
      rw [hn, List.map_cons] at z
      obtain ⟨T, y⟩ := w.hd.ref (tx x) (by rw [z]; simp)
      cases y
  exact { w with sm := fun b o z => f _ _ (w.sm b o z) (by simp only [List.mem_singleton]; intro e; rw [e, w.fl] at z; cases z), po := pp, dk := w.dk.keep f (by simpa using b1) (by simpa using b2), ot := w.ot.keep f (by simpa using b5) (by simpa using b6), sta := ⟨f _ _ w.sta.1 (by simpa using b3), f _ _ w.sta.2 (by simpa using b4)⟩, gn := f _ _ w.gn (by simpa using nls), gl := g, hd := h }
theorem W46.kinds {r' qd':Addr} {k':Int} {kvs':Kv} (w:W46 C H G p nl d r o ro st qd ls k ks ks ns nm0 hs) (h1:Po G' p) (h2:Dk C G' d r' k' kvs') (h3:St46 G' st qd' k' kvs') (f:FB [p,d,st] G G') (hc:(r' = r/\qd' = qd)\/(G r' = none/\G qd' = none/\r' ≠ qd')) (k1:1 <= k') (k4:k' <= 4) (hr:Rw k' kvs'):W46 C H G' p nl d r' o ro st qd' ls k' kvs' kvs' ns nm0 hs:=by
 obtain ⟨a1,a2,a3,a4,a5,a6,a7,a8⟩:=w.np
 obtain ⟨b1,b2,b3,b4,b5,b6⟩:=w.nls
 obtain ⟨d1,d2,d3,d4,d5,d6⟩:=w.ins
 obtain ⟨⟨dx,ed⟩,_⟩:=id w.dk
 obtain ⟨c1,c2,c3,c4,c5⟩:=w.chg f (fun x hx=>by
  simp only [List.mem_cons,List.not_mem_nil,or_false] at hx
  rcases hx with rfl | rfl | rfl
  ·exact ⟨.inr (.inl w.po),w.fp,a3.symm,a4.symm,a8.symm⟩
  ·exact ⟨.inr (.inr (.inl ⟨_,_,_,ed⟩)),w.fd,w.ddo,d1,b1⟩
  ·exact ⟨.inr (.inr (.inr ⟨_,w.sta.1⟩)),w.fs,d5.symm,w.ost.symm,b3⟩)
 have base:W46 C H G' p nl d r' o ro st qd' ls k' kvs' kvs' ns nm0 hs:=by
  rcases hc with ⟨rfl,rfl⟩ | ⟨hr',hq',hne⟩
  ·exact { w with sm:=c1,po:=h1,dk:=h2,ot:=c2,sta:=h3,gn:=c3,gl:=c4,hd:=c5,k1:=k1,k4:=k4,rw:=hr }
  ·exact { w with sm:=c1,po:=h1,dk:=h2,ot:=c2,sta:=h3,gn:=c3,gl:=c4,hd:=c5,k1:=k1,k4:=k4,rw:=hr,fr:=w.sm.free hr',fq:=w.sm.free hq',rro:=(fun e=>by rw [e,w.ot.2] at hr'; cases hr'),rst:=(fun e=>by rw [e,w.sta.1] at hr'; cases hr'),rqd:=hne,oqd:=(fun e=>by rw [<- e,w.ot.2] at hq'; cases hq'),sqd:=(fun e=>by rw [<- e,w.sta.1] at hq'; cases hq') }
 exact base
end
theorem s_pairs1 {tk tv:TE} {σ:L2.St} {H:Hp} {Q:List (V × V)->Hp->Prop} (h:tk σ H fun x H1=>tv σ H1 fun y H2=>Q [(x,y)] H2):tPairs [(tk,tv)] σ H Q:=h
theorem s_pairs2 {tk tv tk2 tv2:TE} {σ:L2.St} {H:Hp} {Q:List (V × V)->Hp->Prop} (h:tk σ H fun x H1=>tv σ H1 fun y H2=>tk2 σ H2 fun x2 H3=>tv2 σ H3 fun y2 H4=>Q [(x,y),(x2,y2)] H4):tPairs [(tk,tv),(tk2,tv2)] σ H Q:=h
theorem Aft.inv {k:Int} {kvs kvs':Kv} {due nm:List Nat} {v:V} (h:Aft k kvs due nm v kvs'):(due ≠ tOk/\kvs' = kvs)\/(due = tOk/\v = .non/\kvs' = dropK kvs (kyT nm)/\∃ x,valV kvs (kyT nm) = some x)\/(due = tOk/\(∃ a,v = tx a)/\kvs' = putK kvs (kyT nm) v):=by
 cases h with
 | no h=>exact .inl ⟨h,rfl⟩
 | drop h x hv=>exact .inr (.inl ⟨h,rfl,rfl,x,hv⟩)
 | put h a ha hn=>exact .inr (.inr ⟨h,⟨a,rfl⟩,rfl⟩)
theorem and_keep46 {c:Bool} {T:L2.St->Hp->(Bool->Hp->Prop)->Prop} {σ:L2.St} {H:Hp} {R:Bool->Hp->Prop} (Pr:Hp->Prop) (h0:Pr H) (ht:c = true->∀ R':Bool->Hp->Prop,(∀ G,Pr G->R' false G)->T σ H R') (h:∀ G,Pr G->R false G):if c = true then T σ H R else R false H:=by
 cases c with
 | false=>exact ifq rfl (h _ h0)
 | true=>exact ifp rfl (ht rfl R h)
end BrS
namespace BrS
open L2 PySem PySem.Spec PyProof.Rows BrM BrC BrR BrTx
theorem paired_refs:∀ l:List Addr,Paired RelV (l.map V.ref) (l.map Value.ref)
 | []=>.nil
 | _ :: l=>.cons rfl (paired_refs l)
end BrS
namespace BrS
open L2 PySem PySem.Spec PyProof.Rows BrM BrC BrR BrTx
def wd15:List (List Nat):=[[107,105,110,100,115],[114,111,119],[116,117,114,110],[98,101,104,105,110,100],[100,114,111,112],[115,104,111,119],[114,105,103,104,116],[109,97,121],[109,97,110,121],[110,116,104],[110,117,109,98,101,114],[115,117,114,101],[102,101,119,101,115,116],[109,111,114,101],[110,97,109,101,115]]
theorem wd15_nd:(wd15.map fun c=>(⟨c.toArray⟩:Str)).Nodup:=by decide +kernel
theorem fd15 {P:Program} {w:World} {K:PySem.W.Frag} {a:Addr} {o:Obj} {ep:Nat} {x0 x1 x2 x3 x4 x5 x6 x7 x8 x9 x10 x11 x12 x13 x14:Str} {t0 t1 t2 t3 t4 t5 t6 t7 t8 t9 t10 t11 t12 t13 t14:Tok} {a0 a1 a2 a3 a4 a5 a6 a7 a8 a9 a10 a11 a12 a13 a14:Addr} (lk:K.lookup a = some o) (ex:o.ExactDict) (dt:o.data = .dict (([(x0,t0,Value.ref a0),(x1,t1,Value.ref a1),(x2,t2,Value.ref a2),(x3,t3,Value.ref a3),(x4,t4,Value.ref a4),(x5,t5,Value.ref a5),(x6,t6,Value.ref a6),(x7,t7,Value.ref a7),(x8,t8,Value.ref a8),(x9,t9,Value.ref a9),(x10,t10,Value.ref a10),(x11,t11,Value.ref a11),(x12,t12,Value.ref a12),(x13,t13,Value.ref a13),(x14,t14,Value.ref a14)]:List (Str × Tok × Value)).map (strE w)).toArray ep) (h:[x0,x1,x2,x3,x4,x5,x6,x7,x8,x9,x10,x11,x12,x13,x14] = wd15.map fun c=>(⟨c.toArray⟩:Str)) (m:(a == sysModules) = false):FDc P w K a ((wd15.map kyT).zip [V.ref a0,V.ref a1,V.ref a2,V.ref a3,V.ref a4,V.ref a5,V.ref a6,V.ref a7,V.ref a8,V.ref a9,V.ref a10,V.ref a11,V.ref a12,V.ref a13,V.ref a14]):=by
 have e:=fdc_mk (P:=P) (vs:=[V.ref a0,V.ref a1,V.ref a2,V.ref a3,V.ref a4,V.ref a5,V.ref a6,V.ref a7,V.ref a8,V.ref a9,V.ref a10,V.ref a11,V.ref a12,V.ref a13,V.ref a14]) [(x0,t0,Value.ref a0),(x1,t1,Value.ref a1),(x2,t2,Value.ref a2),(x3,t3,Value.ref a3),(x4,t4,Value.ref a4),(x5,t5,Value.ref a5),(x6,t6,Value.ref a6),(x7,t7,Value.ref a7),(x8,t8,Value.ref a8),(x9,t9,Value.ref a9),(x10,t10,Value.ref a10),(x11,t11,Value.ref a11),(x12,t12,Value.ref a12),(x13,t13,Value.ref a13),(x14,t14,Value.ref a14)] lk ex dt (paired_refs [a0,a1,a2,a3,a4,a5,a6,a7,a8,a9,a10,a11,a12,a13,a14]) (by
  show [x0,x1,x2,x3,x4,x5,x6,x7,x8,x9,x10,x11,x12,x13,x14].Nodup
  rw [h]; exact wd15_nd) m
 have e2:([(x0,t0,Value.ref a0),(x1,t1,Value.ref a1),(x2,t2,Value.ref a2),(x3,t3,Value.ref a3),(x4,t4,Value.ref a4),(x5,t5,Value.ref a5),(x6,t6,Value.ref a6),(x7,t7,Value.ref a7),(x8,t8,Value.ref a8),(x9,t9,Value.ref a9),(x10,t10,Value.ref a10),(x11,t11,Value.ref a11),(x12,t12,Value.ref a12),(x13,t13,Value.ref a13),(x14,t14,Value.ref a14)]:List (Str × Tok × Value)).map (fun x=>(.inr x.1:Key)) = wd15.map kyT:=by
  show [x0,x1,x2,x3,x4,x5,x6,x7,x8,x9,x10,x11,x12,x13,x14].map (Sum.inr:Str->Key) = _
  rw [h,List.map_map]; rfl
 rw [e2] at e
 exact e
theorem fm_mk {P:Program} {w:World} {K:PySem.W.Frag} {a:Addr} {o:Obj} {ep:Nat} {x0 x1 x2 x3 x4 x5 x6 x7 x8 x9 x10 x11 x12 x13 x14:Str} {t0 t1 t2 t3 t4 t5 t6 t7 t8 t9 t10 t11 t12 t13 t14:Tok} {a0 a1 a2 a3 a4 a5 a6 a7 a8 a9 a10 a11 a12 a13 a14:Addr} (lk:K.lookup a = some o) (ex:o.ExactDict) (dt:o.data = .dict (([(x0,t0,Value.ref a0),(x1,t1,Value.ref a1),(x2,t2,Value.ref a2),(x3,t3,Value.ref a3),(x4,t4,Value.ref a4),(x5,t5,Value.ref a5),(x6,t6,Value.ref a6),(x7,t7,Value.ref a7),(x8,t8,Value.ref a8),(x9,t9,Value.ref a9),(x10,t10,Value.ref a10),(x11,t11,Value.ref a11),(x12,t12,Value.ref a12),(x13,t13,Value.ref a13),(x14,t14,Value.ref a14)]:List (Str × Tok × Value)).map (strE w)).toArray ep) (h:[x0,x1,x2,x3,x4,x5,x6,x7,x8,x9,x10,x11,x12,x13,x14] = wd15.map fun c=>(⟨c.toArray⟩:Str)) (m:(a == sysModules) = false) (u0:FTu K a0 [tx [110,117,109,98,101,114]]) (u1:FTu K a1 [tx [110,101,119],tx [108,105,110,101]]) (u2:FTu K a2 [tx [110,101,119],tx [110,97,109,101]]) (u3:FTu K a3 [tx [110,101,119],tx [110,97,109,101],tx [110,97,109,101]]) (u4:FTu K a4 [tx [110,97,109,101]]) (u5:FTu K a5 [tx [110,97,109,101]]) (u14:FTu K a14 []):FmOk P w K a:=⟨_,fd15 lk ex dt h m,fun dd=>by
 cases dd
 ·exact ⟨_,rfl,u0⟩
 ·exact ⟨_,rfl,u1⟩
 ·exact ⟨_,rfl,u2⟩
 ·exact ⟨_,rfl,u3⟩
 ·exact ⟨_,rfl,u4⟩
 ·exact ⟨_,rfl,u5⟩
 ·exact ⟨_,rfl,u14⟩⟩
theorem dd_mk {mg:Str->Option Value} {P:Program} {w:World} {K:PySem.W.Frag} {a:Addr} {o:Obj} {ep:Nat} {x0 x1 x2 x3 x4 x5 x6 x7 x8 x9 x10 x11 x12 x13 x14:Str} {t0 t1 t2 t3 t4 t5 t6 t7 t8 t9 t10 t11 t12 t13 t14:Tok} {a0 a1 a2 a3 a4 a5 a6 a7 a8 a9 a10 a11 a12 a13 a14:Addr} (lk:K.lookup a = some o) (ex:o.ExactDict) (dt:o.data = .dict (([(x0,t0,Value.ref a0),(x1,t1,Value.ref a1),(x2,t2,Value.ref a2),(x3,t3,Value.ref a3),(x4,t4,Value.ref a4),(x5,t5,Value.ref a5),(x6,t6,Value.ref a6),(x7,t7,Value.ref a7),(x8,t8,Value.ref a8),(x9,t9,Value.ref a9),(x10,t10,Value.ref a10),(x11,t11,Value.ref a11),(x12,t12,Value.ref a12),(x13,t13,Value.ref a13),(x14,t14,Value.ref a14)]:List (Str × Tok × Value)).map (strE w)).toArray ep) (h:[x0,x1,x2,x3,x4,x5,x6,x7,x8,x9,x10,x11,x12,x13,x14] = wd15.map fun c=>(⟨c.toArray⟩:Str)) (m:(a == sysModules) = false) (v0:mg "say_kinds" = some (.ref a0)) (v1:mg "say_row" = some (.ref a1)) (v2:mg "say_turn" = some (.ref a2)) (v3:mg "say_behind" = some (.ref a3)) (v4:mg "say_drop" = some (.ref a4)) (v5:mg "say_show" = some (.ref a5)) (v14:mg "say_names" = some (.ref a14)):DdOk P w K mg a:=⟨_,fd15 lk ex dt h m,(fun dd=>match dd with | .kinds=>a0 | .row=>a1 | .turn=>a2 | .behind=>a3 | .drop=>a4 | .show=>a5 | .names=>a14),fun dd=>by
 cases dd
 ·exact ⟨rfl,v0⟩
 ·exact ⟨rfl,v1⟩
 ·exact ⟨rfl,v2⟩
 ·exact ⟨rfl,v3⟩
 ·exact ⟨rfl,v4⟩
 ·exact ⟨rfl,v5⟩
 ·exact ⟨rfl,v14⟩⟩
end BrS
namespace Bk
open PySem L2 BrM BrR BrS BrC BrTx
def top (i:Nat):Stmt:=PySem.Challenge.pw_bracketrows_k46_rows_that_keep.main.body.getD i (.Pass ⟨0,0,0,0⟩)
abbrev d_is_whole:Stmt:=top 20
abbrev d_check_kinds:Stmt:=top 21
abbrev d_is_line:Stmt:=top 22
abbrev d_check_line:Stmt:=top 23
abbrev d_other_one:Stmt:=top 65
abbrev d_turned:Stmt:=top 66
abbrev d_is_name:Stmt:=top 79
abbrev d_is_number:Stmt:=top 80
abbrev d_has_form:Stmt:=top 81
abbrev d_parted:Stmt:=top 82
abbrev d_known_words:Stmt:=top 83
abbrev d_shown:Stmt:=top 85
abbrev d_say_kinds:Stmt:=top 86
abbrev d_say_row:Stmt:=top 87
abbrev d_say_turn:Stmt:=top 88
abbrev d_say_behind:Stmt:=top 89
abbrev d_say_drop:Stmt:=top 90
abbrev d_say_show:Stmt:=top 91
abbrev d_say_names:Stmt:=top 100
abbrev d_Desk___init__:Stmt:=inClass (top 102) 0
abbrev d_Desk_say:Stmt:=inClass (top 102) 1
abbrev d_Desk_names:Stmt:=inClass (top 102) 2
abbrev d_law_pool:Stmt:=top 104
abbrev d_law_draw:Stmt:=top 105
abbrev d_law_right_row:Stmt:=top 106
abbrev d_law_signs:Stmt:=top 107
abbrev d_law_bent:Stmt:=top 108
abbrev d_law_line:Stmt:=top 109
abbrev d_law_said:Stmt:=top 110
abbrev d_law_names:Stmt:=top 111
abbrev d_law_turned:Stmt:=top 112
abbrev d_law_is_line:Stmt:=top 113
abbrev d_law_shown:Stmt:=top 114
abbrev d_law_told:Stmt:=top 115
abbrev d_law_next_row:Stmt:=top 116
abbrev d_law_kinds_row:Stmt:=top 117
abbrev d_law_spoil:Stmt:=top 118
abbrev d_law_as_kept:Stmt:=top 119
abbrev d_law:Stmt:=top 120
structure Txt (P:Program) (w:World) (K:PySem.W.Frag) (mg:Str->Option Value) (aK:Addr) (cs:Cs) (aC:Addr) (aF aD:Addr):Prop where
 n_ValueError:mg "ValueError" = none
 n_all:mg "all" = none
 n_bool:mg "bool" = none
 n_int:mg "int" = none
 n_isinstance:mg "isinstance" = none
 n_len:mg "len" = none
 n_list:mg "list" = none
 n_max:mg "max" = none
 n_min:mg "min" = none
 n_range:mg "range" = none
 n_reversed:mg "reversed" = none
 n_sorted:mg "sorted" = none
 n_str:mg "str" = none
 n_zip:mg "zip" = none
 g_OPENING:∃ u,mg "OPENING" = some u/\RelV (tx [40,91,123,60]) u
 g_CLOSING:∃ u,mg "CLOSING" = some u/\RelV (tx [41,93,125,62]) u
 g_KINDS:∃ u,mg "KINDS" = some u/\RelV (.ref aK) u
 t_KINDS:∀ H,SqT K H aK [tx [40,41],tx [91,93],tx [123,125],tx [60,62]]
 g_UNKNOWN:∃ u,mg "UNKNOWN" = some u/\RelV (tx [63]) u
 g_MOST_SIGNS:∃ u,mg "MOST_SIGNS" = some u/\RelV (.int 40) u
 g_DONE:∃ u,mg "DONE" = some u/\RelV (tx [111,107]) u
 g_NOTHING:∃ u,mg "NOTHING" = some u/\RelV (tx [110,111,110,101]) u
 g_FIRST_KINDS:∃ u,mg "FIRST_KINDS" = some u/\RelV (.int 4) u
 g_LETTERS:∃ u,mg "LETTERS" = some u/\RelV (tx [97,98,99,100,101,102,103,104,105,106,107,108,109,110,111,112,113,114,115,116,117,118,119,120,121,122]) u
 g_MOST_LETTERS:∃ u,mg "MOST_LETTERS" = some u/\RelV (.int 8) u
 g_FIGURES:∃ u,mg "FIGURES" = some u/\RelV (tx [48,49,50,51,52,53,54,55,56,57]) u
 g_MOST_FIGURES:∃ u,mg "MOST_FIGURES" = some u/\RelV (.int 9) u
 g_FORMS:∃ u,mg "FORMS" = some u/\RelV (.ref aF) u
 t_FORMS:FmOk P w K aF
 g_DEEDS:∃ u,mg "DEEDS" = some u/\RelV (.ref aD) u
 t_DEEDS:DdOk P w K mg aD
 c_RowError:mg "RowError" = some (.ref cs.RowError)
 e_RowError:ECls K cs.RowError
 c_NoKinds:mg "NoKinds" = some (.ref cs.NoKinds)
 e_NoKinds:ECls K cs.NoKinds
 c_NoLine:mg "NoLine" = some (.ref cs.NoLine)
 e_NoLine:ECls K cs.NoLine
 c_NotRight:mg "NotRight" = some (.ref cs.NotRight)
 e_NotRight:ECls K cs.NotRight
 c_NoTree:mg "NoTree" = some (.ref cs.NoTree)
 e_NoTree:ECls K cs.NoTree
 c_NoNumber:mg "NoNumber" = some (.ref cs.NoNumber)
 e_NoNumber:ECls K cs.NoNumber
 c_NoWeights:mg "NoWeights" = some (.ref cs.NoWeights)
 e_NoWeights:ECls K cs.NoWeights
 c_NoPlace:mg "NoPlace" = some (.ref cs.NoPlace)
 e_NoPlace:ECls K cs.NoPlace
 c_NoFilling:mg "NoFilling" = some (.ref cs.NoFilling)
 e_NoFilling:ECls K cs.NoFilling
 c_TooMany:mg "TooMany" = some (.ref cs.TooMany)
 e_TooMany:ECls K cs.TooMany
 c_NoName:mg "NoName" = some (.ref cs.NoName)
 e_NoName:ECls K cs.NoName
 c_NoRow:mg "NoRow" = some (.ref cs.NoRow)
 e_NoRow:ECls K cs.NoRow
 c_Desk:mg "Desk" = some (.ref aC)
 cl_Desk:Cls K aC
 no_k:NoAttr K aC "k"
 no_rows:NoAttr K aC "rows"
 m_NoKinds:PySem.W.mroIn K cs.NoKinds (.ref cs.RowError) = some true
 v_NoKinds:PySem.W.kitOne K (.ref cs.NoKinds) (.type "ValueError") = some true
 k_NoKinds_NoKinds:PySem.W.kitOne K (.ref cs.NoKinds) (.ref cs.NoKinds) = some true
 k_NoKinds_NoLine:PySem.W.kitOne K (.ref cs.NoKinds) (.ref cs.NoLine) = some false
 k_NoKinds_NotRight:PySem.W.kitOne K (.ref cs.NoKinds) (.ref cs.NotRight) = some false
 k_NoKinds_NoTree:PySem.W.kitOne K (.ref cs.NoKinds) (.ref cs.NoTree) = some false
 k_NoKinds_NoNumber:PySem.W.kitOne K (.ref cs.NoKinds) (.ref cs.NoNumber) = some false
 k_NoKinds_NoWeights:PySem.W.kitOne K (.ref cs.NoKinds) (.ref cs.NoWeights) = some false
 k_NoKinds_NoPlace:PySem.W.kitOne K (.ref cs.NoKinds) (.ref cs.NoPlace) = some false
 k_NoKinds_NoFilling:PySem.W.kitOne K (.ref cs.NoKinds) (.ref cs.NoFilling) = some false
 k_NoKinds_TooMany:PySem.W.kitOne K (.ref cs.NoKinds) (.ref cs.TooMany) = some false
 k_NoKinds_NoName:PySem.W.kitOne K (.ref cs.NoKinds) (.ref cs.NoName) = some false
 k_NoKinds_NoRow:PySem.W.kitOne K (.ref cs.NoKinds) (.ref cs.NoRow) = some false
 m_NoLine:PySem.W.mroIn K cs.NoLine (.ref cs.RowError) = some true
 v_NoLine:PySem.W.kitOne K (.ref cs.NoLine) (.type "ValueError") = some true
 k_NoLine_NoKinds:PySem.W.kitOne K (.ref cs.NoLine) (.ref cs.NoKinds) = some false
 k_NoLine_NoLine:PySem.W.kitOne K (.ref cs.NoLine) (.ref cs.NoLine) = some true
 k_NoLine_NotRight:PySem.W.kitOne K (.ref cs.NoLine) (.ref cs.NotRight) = some false
 k_NoLine_NoTree:PySem.W.kitOne K (.ref cs.NoLine) (.ref cs.NoTree) = some false
 k_NoLine_NoNumber:PySem.W.kitOne K (.ref cs.NoLine) (.ref cs.NoNumber) = some false
 k_NoLine_NoWeights:PySem.W.kitOne K (.ref cs.NoLine) (.ref cs.NoWeights) = some false
 k_NoLine_NoPlace:PySem.W.kitOne K (.ref cs.NoLine) (.ref cs.NoPlace) = some false
 k_NoLine_NoFilling:PySem.W.kitOne K (.ref cs.NoLine) (.ref cs.NoFilling) = some false
 k_NoLine_TooMany:PySem.W.kitOne K (.ref cs.NoLine) (.ref cs.TooMany) = some false
 k_NoLine_NoName:PySem.W.kitOne K (.ref cs.NoLine) (.ref cs.NoName) = some false
 k_NoLine_NoRow:PySem.W.kitOne K (.ref cs.NoLine) (.ref cs.NoRow) = some false
 m_NoName:PySem.W.mroIn K cs.NoName (.ref cs.RowError) = some true
 v_NoName:PySem.W.kitOne K (.ref cs.NoName) (.type "ValueError") = some true
 k_NoName_NoKinds:PySem.W.kitOne K (.ref cs.NoName) (.ref cs.NoKinds) = some false
 k_NoName_NoLine:PySem.W.kitOne K (.ref cs.NoName) (.ref cs.NoLine) = some false
 k_NoName_NotRight:PySem.W.kitOne K (.ref cs.NoName) (.ref cs.NotRight) = some false
 k_NoName_NoTree:PySem.W.kitOne K (.ref cs.NoName) (.ref cs.NoTree) = some false
 k_NoName_NoNumber:PySem.W.kitOne K (.ref cs.NoName) (.ref cs.NoNumber) = some false
 k_NoName_NoWeights:PySem.W.kitOne K (.ref cs.NoName) (.ref cs.NoWeights) = some false
 k_NoName_NoPlace:PySem.W.kitOne K (.ref cs.NoName) (.ref cs.NoPlace) = some false
 k_NoName_NoFilling:PySem.W.kitOne K (.ref cs.NoName) (.ref cs.NoFilling) = some false
 k_NoName_TooMany:PySem.W.kitOne K (.ref cs.NoName) (.ref cs.TooMany) = some false
 k_NoName_NoName:PySem.W.kitOne K (.ref cs.NoName) (.ref cs.NoName) = some true
 k_NoName_NoRow:PySem.W.kitOne K (.ref cs.NoName) (.ref cs.NoRow) = some false
section
variable {P:Program} {w:World} {K:PySem.W.Frag} {mg:Str->Option Value} {base:Heap} {f aK aC aF aD:Addr} {cs:Cs} {fd:FuncData} {k:Nat}
local macro_rules | `(tactic| walk_at "st")=>`(tactic| first
 | with_reducible refine s_seq ?_
 | with_reducible refine s_asg ?_
 | with_reducible refine s_name ?_
 | ((with_reducible refine s_var (v:=?v) ?e ?_); (case e=>exact rfl))
 | with_reducible refine s_c ?_
 | with_reducible refine s_op ?_
 | with_reducible refine s_if ?_
 | with_reducible refine s_test ?_
 | with_reducible refine s_bl ?_
 | with_reducible refine s_call ?_
 | with_reducible refine s_callE ?_
 | with_reducible refine s_raise ?_
 | with_reducible refine s_try ?_
 | with_reducible refine s_try0 ?_
 | with_reducible refine s_cons ?_
 | with_reducible refine s_nil ?_
 | with_reducible refine s_cb ?_
 | with_reducible refine s_ret ?_
 | with_reducible refine s_lst ?_
 | with_reducible refine s_tup ?_
 | with_reducible refine s_drop ?_
 | with_reducible refine s_next ?_
 | with_reducible refine s_cont ?_
 | with_reducible refine s_break ?_
 | with_reducible refine s_gnil ?_
 | with_reducible refine s_gcons ?_
 | with_reducible refine s_gsub ?_
 | with_reducible refine s_un ?_
 | with_reducible refine s_neg ?_
 | with_reducible refine s_ifE ?_
 | with_reducible refine s_and ?_
 | with_reducible refine s_or ?_
 | with_reducible refine s_not ?_
 | with_reducible refine s_andV ?_
 | with_reducible refine s_orV ?_
 | with_reducible refine s_notV ?_
 | with_reducible refine s_tru ?_
 | with_reducible refine s_chain ?_
 | with_reducible refine s_truB ?_
 | with_reducible refine s_truN ?_
 | with_reducible refine s_addI ?_
 | with_reducible refine s_subI ?_
 | with_reducible refine s_eqI ?_
 | with_reducible refine s_eqT ?_
 | with_reducible refine s_eqB ?_
 | with_reducible refine s_neI ?_
 | with_reducible refine s_neT ?_
 | with_reducible refine s_neB ?_
 | with_reducible refine s_inT ?_
 | with_reducible refine s_notinT ?_
 | with_reducible refine s_sl ?_
 | with_reducible refine s_nopart ?_
 | with_reducible refine s_part ?_
 | with_reducible refine s_partI ?_
 | with_reducible refine s_max ?_
 | with_reducible refine s_min ?_
 | with_reducible refine s_intB ?_
 | with_reducible refine s_intI ?_
 | with_reducible refine s_bm ?_
 | with_reducible refine s_bm0 ?_
 | with_reducible refine s_for ?_
 | with_reducible refine s_irng1 ?_
 | with_reducible refine s_irng2 ?_
 | with_reducible refine s_irng3 ?_
 | with_reducible refine s_augS ?_
 | with_reducible refine s_ilist ?_
 | with_reducible refine s_istr ?_
 | with_reducible refine s_istrT ?_
 | with_reducible refine s_ienS ?_
 | with_reducible refine s_ienST ?_
 | with_reducible refine s_ienL ?_
 | with_reducible refine s_comp ?_
 | with_reducible refine s_rev ?_
 | with_reducible refine s_revI ?_
 | with_reducible refine s_irev ?_
 | with_reducible refine s_tyT ?_
 | ((with_reducible refine s_irevT ?e ?_); (case e=>first | assumption | exact small (by omega)))
 | ((with_reducible refine s_revT ?e ?_); (case e=>first | assumption | exact small (by omega)))
 | with_reducible refine s_yes ?_
 | with_reducible refine s_methE ?_
 | with_reducible refine s_dget ?_
 | with_reducible refine s_dput ?_
 | with_reducible refine s_dpop ?_
 | with_reducible refine s_dinK ?_
 | with_reducible refine s_dniK ?_
 | with_reducible refine s_tBK ?_
 | with_reducible refine s_iziU ?_
 | with_reducible refine s_dgF ?_
 | with_reducible refine s_dnF ?_
 | with_reducible refine s_slc ?_
 | with_reducible refine s_par ?_
 | with_reducible refine s_sset ?_
 | with_reducible refine s_iziS ?_
 | with_reducible refine s_iziT ?_
 | with_reducible refine s_meth ?_
 | with_reducible refine s_make ?_
 | with_reducible refine s_fldT ?_
 | with_reducible refine s_fldS ?_
 | with_reducible refine s_fldA ?_
 | ((with_reducible refine s_aug (x:=?x) ?e ?_); (case e=>exact rfl))
 | with_reducible refine s_ipI ?_
 | ((with_reducible refine s_is ?e ?_); (case e=>exact rfl))
 | ((with_reducible refine s_isnot ?e ?_); (case e=>exact rfl))
 | ((with_reducible refine s_ixL (xs:=?xs) (v:=?v) ?h ?e ?_); (case h=>assumption); (case e=>exact rfl))
 | ((with_reducible refine s_rI ?e ?_); (case e=>first | (exact (show (0:Int) < _ by omega)) | (exact ⟨by omega,by omega⟩) | (exact ⟨by decide,by decide,by decide⟩)))
 | ((with_reducible refine s_mulI ?e ?_); (case e=>first | exact .inl ⟨by omega,by omega⟩ | exact .inr ⟨by omega,by omega⟩))
 | ((with_reducible refine s_lenT ?e ?_); (case e=>first | assumption | exact small (by omega)))
 | ((with_reducible refine s_addT ?e ?_); (case e=>first | exact small (by omega) | exact small (by simp only [List.length_append,List.length_cons,List.length_nil]; omega)))
 | ((with_reducible refine s_slT ?e ?_); (case e=>first | assumption | exact small (by omega) | exact small (by simp only [List.length_append,List.length_cons,List.length_nil]; omega)))
 )
local macro_rules | `(tactic| walk_at "go")=>`(tactic| repeat (walk_at "st"))
theorem scM {N ps:List Str} {sc:Scope} (a:sc.kind = .function:=by rfl) (b:sc.isCoroutine = false:=by rfl) (c:sc.isGenerator = false:=by rfl) (d:N.Nodup:=by decide +kernel) (e:N.take ps.length = ps:=by rfl) (f:∀ x ∈ ps,sc.names.lookup x = some .local\/sc.names.lookup x = some .cell:=by decide +kernel) (g:∀ y ∈ sc.names,y.2 ≠ .free:=by decide +kernel):FnScope N ps sc:=⟨a,b,c,d,e,f,g⟩
theorem sc_is_whole:FnScope ["thing"] ["thing"] (defScope d_is_whole):=scM
theorem ok_is_whole (F:Fun K "is_whole" "is_whole" d_is_whole f fd) (T:Txt P w K mg aK cs aC aF aD)  : FnOk P w K mg base CX0 (k + 1) f fd ["thing"] (spWhole K):=by
 refine F.ok sc_is_whole (fun vs H Q E h=>?_) (fun cdv A outer s H vs Q E hr h=>?_)
 ·obtain ⟨x,T',rfl,_⟩:=h; rfl
 obtain ⟨x,ty,rfl,hT,hp,q⟩:=h
 refine ⟨_,(pss_one (ps_ret (pe_and (pe_callB (call_isiA K) rfl T.n_isinstance PyProof.Rows.boot_isinstance (pa_cons (pv 0) (pa_cons (pe_ty T.n_int PyProof.Rows.boot_int) pa_nil))) (pe_one (pe_not (pe_callB (call_isiA K) rfl T.n_isinstance PyProof.Rows.boot_isinstance (pa_cons (pv 0) (pa_cons (pe_ty T.n_bool PyProof.Rows.boot_bool) pa_nil)))))))),?_⟩
 walk_at "go"
 have hp':ty = "NoneType"\/ty = "bool"\/ty = "int"\/ty = "str"\/ty = "list"\/ty = "tuple"\/ty = "dict":=by simpa [plainTy] using hp
 rcases hp' with rfl | rfl | rfl | rfl | rfl | rfl | rfl
 ·refine s_isi (b:=false) hT (by with_unfolding_all rfl) (s_bl (iteF ?_)); exact q
 ·refine s_isi (b:=true) hT (by with_unfolding_all rfl) (s_bl (iteT ?_))
  walk_at "go"
  refine s_isi (b:=true) hT (by with_unfolding_all rfl) (s_bl ?_); exact q
 ·refine s_isi (b:=true) hT (by with_unfolding_all rfl) (s_bl (iteT ?_))
  walk_at "go"
  refine s_isi (b:=false) hT (by with_unfolding_all rfl) (s_bl ?_); exact q
 ·refine s_isi (b:=false) hT (by with_unfolding_all rfl) (s_bl (iteF ?_)); exact q
 ·refine s_isi (b:=false) hT (by with_unfolding_all rfl) (s_bl (iteF ?_)); exact q
 ·refine s_isi (b:=false) hT (by with_unfolding_all rfl) (s_bl (iteF ?_)); exact q
 ·refine s_isi (b:=false) hT (by with_unfolding_all rfl) (s_bl (iteF ?_)); exact q
theorem sc_check_kinds:FnScope ["k"] ["k"] (defScope d_check_kinds):=scM
theorem ok_check_kinds (F:Fun K "check_kinds" "check_kinds" d_check_kinds f fd) (T:Txt P w K mg aK cs aC aF aD) (U_is_whole:FnU P w K mg base k "is_whole" ["thing"] (spWhole K)):FnOk P w K mg base (CXE P w) (k + 1) f fd ["k"] (spKindsE K cs):=by
 refine F.okE sc_check_kinds (fun vs H Q E h=>?_) (fun cdv A outer s H vs Q E hr h=>?_)
 ·rcases h with ⟨x,rfl,_⟩ | ⟨v,rfl,_⟩ <;> rfl
 rcases h with ⟨x,rfl,h1,h2,q⟩ | ⟨v,rfl,⟨ty,hT,hp,hi⟩,r⟩
 ·refine nox_ex ⟨_,(pss_one (ps_if (PW.pt (pw_or (pt_not (pt_tru K (pe_fn U_is_whole hr (pa_cons (pv 0) pa_nil)))) (pw_or1 (pt_not (pt_chain op_le op_le pe_int (pv 0) (pe_callB (call_lenA K) rfl T.n_len PySem.boot_len (pa_cons (pe_gl T.g_KINDS) pa_nil))))))) (pss_one ps_never) pss_nil)),?_⟩
  walk_at "go"
  refine whole_int ?_
  walk_at "go"
  refine ifq rfl ?_
  walk_at "go"
  refine ifp (decide_eq_true h1) ?_
  walk_at "go"
  refine s_lenL (.inr (T.t_KINDS H)) ?_
  walk_at "go"
  refine ifq (by simp; omega) ?_
  walk_at "go"
  exact q
 ·refine ⟨_,(pss_one (ps_if (PW.pt (pw_or (pt_not (pt_tru K (pe_fn U_is_whole hr (pa_cons (pv 0) pa_nil)))) (pw_or1 (pt_not (pt_chain op_le op_le pe_int (pv 0) (pe_callB (call_lenA K) rfl T.n_len PySem.boot_len (pa_cons (pe_gl T.g_KINDS) pa_nil))))))) (pss_one (ps_raise T.e_NoKinds T.c_NoKinds hr.hd cxE_xm (pa_cons (pe_tx (l:=[116,104,101,32,110,117,109,98,101,114,32,111,102,32,107,105,110,100,115,32,105,115,32,97,32,119,104,111,108,101,32,110,117,109,98,101,114,32,102,114,111,109,32,49,32,116,111,32,52]) (by decide +kernel)) pa_nil))) pss_nil)),?_⟩
  walk_at "go"
  refine ⟨v,ty,rfl,hT,hp,?_⟩
  walk_at "go"
  by_cases e:ty = "int"
  ·subst e
   obtain ⟨i,rfl⟩:=hT.int_of rfl
   ·have hi:=hi i rfl
    rw [decide_eq_true rfl]
    refine ifq rfl ?_
    walk_at "go"
    by_cases h1:1 <= i
    ·refine ifp (decide_eq_true h1) ?_
     walk_at "go"
     refine s_lenL (.inr (T.t_KINDS H)) ?_
     walk_at "go"
     refine ifp (by simp; omega) ?_
     walk_at "go"
     exact ⟨small (by decide),fun y hy=>r y H (Same.refl H) hy⟩
    ·refine ifq (decide_eq_false h1) ?_
     walk_at "go"
     refine ifp rfl ?_
     walk_at "go"
     exact ⟨small (by decide),fun y hy=>r y H (Same.refl H) hy⟩
  ·rw [decide_eq_false e]
   refine ifp rfl ?_
   walk_at "go"
   refine ifp rfl ?_
   walk_at "go"
   exact ⟨small (by decide),fun y hy=>r y H (Same.refl H) hy⟩
theorem sc_is_line:FnScope ["k","thing","signs"] ["k","thing"] (defScope d_is_line):=scM
theorem ok_is_line (F:Fun K "is_line" "is_line" d_is_line f fd) (T:Txt P w K mg aK cs aC aF aD) (U_check_kinds:FnUE P w K mg base k "check_kinds" ["k"] (spKindsE K cs)):FnOk P w K mg base (CXE P w) (k + 1) f fd ["k","thing"] (spLineE K cs):=by
 refine F.okE sc_is_line (fun vs H Q E h=>?_) (fun cdv A outer s H vs Q E hr h=>?_)
 ·rcases h with ⟨kk,x,rfl,_⟩ | ⟨kv,v,rfl,_⟩ <;> rfl
 rcases h with ⟨kk,x,rfl,h1,h2,hx⟩ | ⟨kv,v,rfl,hk,r⟩
 rotate_left
 ·refine ⟨_,(pss_cons (ps_expr (pe_fnE U_check_kinds hr cxE_xf (pa_cons (pv 0) pa_nil)))  (pss_cons (ps_if (PW.pt (pw_or (pt_not (pt_tru K (pe_callB (call_isiA K) rfl T.n_isinstance PyProof.Rows.boot_isinstance (pa_cons (pv 1) (pa_cons (pe_ty T.n_str PyProof.Rows.boot_str) pa_nil))))) (pw_or1 (pt_cmpR op_gt (pe_callB (call_lenA K) rfl T.n_len PySem.boot_len (pa_cons (pv 1) pa_nil)) (pe_gl T.g_MOST_SIGNS) (nomark _)))))   (pss_one (ps_ret pe_bl))   pss_nil)  (pss_cons (ps_set (i:=2) sc_is_line.nd rfl (Or.inr rfl) (pe_op op_plus (pe_op op_plus (pe_slice (sl_A K) (pe_gl T.g_OPENING) po_none (po_some (pv 0))) (pe_slice (sl_A K) (pe_gl T.g_CLOSING) po_none (po_some (pv 0)))) (pe_gl T.g_UNKNOWN)))  (pss_one (ps_ret (pe_callB (call_allA K rfl) rfl T.n_all PyProof.Rows.boot_all (pa_cons (pe_comp (own:=["sign"]) (sel:=[2]) (compOk_of (osc:=(defScope d_is_line)) (N:=["k","thing","signs"]) (by decide +kernel)) rfl (pi_str (pv 1)) (fun _ _ _ _ _=>(pg_name (i:=0) (show (["sign","signs"]:List Str).Nodup from by decide +kernel) rfl (Or.inl rfl))) (gk_name (by decide)) (fun _ _ _ _ _=>pif_nil) (fun _ _ _ _ _=>(pe_cmpR (op_inA K) (pv 0) (pv 1) (by with_unfolding_all rfl)))) pa_nil))))))),?_⟩
  walk_at "go"
  exact .inr ⟨kv,rfl,hk,r.pass (Same.refl H)⟩
 ·refine nox_ex ⟨_,(pss_cons (ps_expr (pe_fnE U_check_kinds hr xf_no (pa_cons (pv 0) pa_nil)))  (pss_cons (ps_if (PW.pt (pw_or (pt_not (pt_tru K (pe_callB (call_isiA K) rfl T.n_isinstance PyProof.Rows.boot_isinstance (pa_cons (pv 1) (pa_cons (pe_ty T.n_str PyProof.Rows.boot_str) pa_nil))))) (pw_or1 (pt_cmpR op_gt (pe_callB (call_lenA K) rfl T.n_len PySem.boot_len (pa_cons (pv 1) pa_nil)) (pe_gl T.g_MOST_SIGNS) (nomark _)))))   (pss_one (ps_ret pe_bl))   pss_nil)  (pss_cons (ps_set (i:=2) sc_is_line.nd rfl (Or.inr rfl) (pe_op op_plus (pe_op op_plus (pe_slice (sl_A K) (pe_gl T.g_OPENING) po_none (po_some (pv 0))) (pe_slice (sl_A K) (pe_gl T.g_CLOSING) po_none (po_some (pv 0)))) (pe_gl T.g_UNKNOWN)))  (pss_one (ps_ret (pe_callB (call_allA K rfl) rfl T.n_all PyProof.Rows.boot_all (pa_cons (pe_comp (own:=["sign"]) (sel:=[2]) (compOk_of (osc:=(defScope d_is_line)) (N:=["k","thing","signs"]) (by decide +kernel)) rfl (pi_str (pv 1)) (fun _ _ _ _ _=>(pg_name (i:=0) (show (["sign","signs"]:List Str).Nodup from by decide +kernel) rfl (Or.inl rfl))) (gk_name (by decide)) (fun _ _ _ _ _=>pif_nil) (fun _ _ _ _ _=>(pe_cmpR (op_inA K) (pv 0) (pv 1) (by with_unfolding_all rfl)))) pa_nil))))))),?_⟩
  walk_at "go"
  refine .inl (kinds_use h1 h2 ?_)
  walk_at "go"
  rcases hx with ⟨a,rfl,ha,q⟩ | ⟨ty,hT,hp,hs,q⟩
  ·refine s_isi (b:=true) (TyOf.str _) (by with_unfolding_all rfl) ?_
   walk_at "go"
   refine ifq rfl ?_
   walk_at "go"
   refine ifd (fun hc=>?_) (fun hc=>?_)
   ·walk_at "go"
    have e:isRow kk a = false:=by unfold isRow; rw [decide_eq_false (by omega),Bool.false_and]
    have:=q H (Same.refl H)
    rw [e] at this
    exact this
   ·walk_at "go"
    rw [cut_to _ (by omega),cut_to _ (by omega)]
    have l1:((([40,91,123,60]:List Nat)).take kk.toNat).length <= 4:=by rw [List.length_take]; exact Nat.min_le_right _ _
    have l2:((([41,93,125,62]:List Nat)).take kk.toNat).length <= 4:=by rw [List.length_take]; exact Nat.min_le_right _ _
    first | refine s_addT (small (by omega)) ?_ | skip
    walk_at "go"
    first | refine s_addT (small (by rw [List.length_append,List.length_singleton]; omega)) ?_ | skip
    walk_at "go"
    refine comp_of (n:=a.length) (fun D i ys H'=>ys = ((a.take i).map fun c=>V.bl (decide (c ∈ sgn kk)))/\SameBut1 D H H') (fun D hD=>⟨rfl,SameBut1.of (same_new hD _)⟩) (fun D i ys H' _ hi _ _=>by simpa [Its] using hi) (fun D ys H' hD hD' hl ⟨e,sH⟩=>⟨by simp [Its],?_⟩) ?_
    ·rw [List.take_length] at e
     subst e
     have hS:SqL K H' D ((a.map fun c=>decide (c ∈ sgn kk)).map V.bl):=by
      rw [List.map_map]; exact SqL.of hD'
     refine s_all hS ?_
     have e2:((a.map fun c=>decide (c ∈ sgn kk)).all id) = isRow kk a:=by
      unfold isRow
      rw [decide_eq_true (by omega),Bool.true_and,List.all_map]
      rfl
     rw [e2]
     exact q H' fun b o z=>sH b o z (ne_of_none z hD)
    ·rintro D i ys H' x H3 hD hi hD' hl ⟨e,sH⟩ ⟨rfl,c,ec,rfl⟩
     have ec':a[i]? = some c:=by simpa using ec
     show gName 0 (tx [c]) _ _ _
     walk_at "go"
     refine iteT ?_
     walk_at "go"
     refine comp_next hi (small (by omega)) hD' hl ⟨?_,sH.trans SameBut1.upd⟩
     rw [e,List.take_add_one,ec']
     simp only [Option.toList_some,List.map_append,List.map_cons,List.map_nil]
     rfl
  ·have hp':ty = "NoneType"\/ty = "bool"\/ty = "int"\/ty = "list"\/ty = "tuple"\/ty = "dict":=by
    have:ty = "NoneType"\/ty = "bool"\/ty = "int"\/ty = "str"\/ty = "list"\/ty = "tuple"\/ty = "dict":=by simpa [plainTy] using hp
    rcases this with z | z | z | z | z | z | z
    ·exact .inl z
    ·exact .inr (.inl z)
    ·exact .inr (.inr (.inl z))
    ·exact absurd z hs
    ·exact .inr (.inr (.inr (.inl z)))
    ·exact .inr (.inr (.inr (.inr (.inl z))))
    ·exact .inr (.inr (.inr (.inr (.inr z))))
   have fin:PySem.W.kitOne K (.type ty) (.type "str") = some false:=by
    rcases hp' with rfl | rfl | rfl | rfl | rfl | rfl <;> with_unfolding_all rfl
   refine s_isi (b:=false) hT fin ?_
   walk_at "go"
   refine ifp rfl ?_
   walk_at "go"
   refine ifp rfl ?_
   walk_at "go"
   exact q
theorem sc_check_line:FnScope ["k","row"] ["k","row"] (defScope d_check_line):=scM
theorem ok_check_line (F:Fun K "check_line" "check_line" d_check_line f fd) (T:Txt P w K mg aK cs aC aF aD) (U_is_line:FnUE P w K mg base k "is_line" ["k","thing"] (spLineE K cs)):FnOk P w K mg base (CXE P w) (k + 1) f fd ["k","row"] (spGateE K cs spCheckLine):=by
 refine F.okE sc_check_line (fun vs H Q E h=>?_) (fun cdv A outer s H vs Q E hr h=>?_)
 ·rcases h with ⟨kk,a,rfl,_⟩ | ⟨kv,v,rfl,_⟩ <;> rfl
 rcases h with ⟨kk,a,rfl,h1,h2,ha,q⟩ | ⟨kv,v,rfl,⟨hk,r⟩ | ⟨kk,rfl,h1,h2,hn,r⟩⟩
 ·refine nox_ex ⟨_,(pss_one (ps_if (pt_not (pt_tru K (pe_fnE U_is_line hr xf_no (pa_cons (pv 0) (pa_cons (pv 1) pa_nil))))) (pss_one ps_never) pss_nil)),?_⟩
  have hl:=isRow_len ha
  walk_at "go"
  refine .inl (line_use h1 h2 (by omega) (fun H' sH=>?_))
  walk_at "go"
  refine ifq (by rw [ha]; rfl) ?_
  walk_at "go"
  exact q H' sH
 ·refine ⟨_,(pss_one (ps_if (pt_not (pt_tru K (pe_fnE U_is_line hr cxE_xf (pa_cons (pv 0) (pa_cons (pv 1) pa_nil))))) (pss_one (ps_raise T.e_NoLine T.c_NoLine hr.hd cxE_xm (pa_cons (pe_tx (l:=[97,32,114,111,119,32,105,115,32,97,32,116,101,120,116,32,111,102,32,97,116,32,109,111,115,116,32,102,111,114,116,121,32,98,114,97,99,107,101,116,115,32,111,102,32,116,104,101,32,107,105,110,100,115,32,116,104,101,114,101,32,97,114,101,44,32,97,110,100,32,63]) (by decide +kernel)) pa_nil))) pss_nil)),?_⟩
  walk_at "go"
  exact .inr ⟨kv,v,rfl,hk,r.pass (Same.refl H)⟩
 ·refine ⟨_,(pss_one (ps_if (pt_not (pt_tru K (pe_fnE U_is_line hr cxE_xf (pa_cons (pv 0) (pa_cons (pv 1) pa_nil))))) (pss_one (ps_raise T.e_NoLine T.c_NoLine hr.hd cxE_xm (pa_cons (pe_tx (l:=[97,32,114,111,119,32,105,115,32,97,32,116,101,120,116,32,111,102,32,97,116,32,109,111,115,116,32,102,111,114,116,121,32,98,114,97,99,107,101,116,115,32,111,102,32,116,104,101,32,107,105,110,100,115,32,116,104,101,114,101,32,97,114,101,44,32,97,110,100,32,63]) (by decide +kernel)) pa_nil))) pss_nil)),?_⟩
  walk_at "go"
  refine noRow_use' h1 h2 hn (fun H1 s1=>?_)
  walk_at "go"
  refine ifp rfl ?_
  walk_at "go"
  exact ⟨small (by decide),fun y hy=>r y H1 s1 (s1.free hy)⟩
theorem sc_other_one:FnScope ["sign"] ["sign"] (defScope d_other_one):=scM
theorem ok_other_one (F:Fun K "other_one" "other_one" d_other_one f fd) (T:Txt P w K mg aK cs aC aF aD)  : FnOk P w K mg base CX0 (k + 1) f fd ["sign"] (spOther):=by
 refine F.ok sc_other_one (fun vs H Q E h=>?_) (fun cdv A outer s H vs Q E hr h=>?_)
 ·obtain ⟨c,rfl,_⟩:=h; rfl
 obtain ⟨c,rfl,h9,q⟩:=h
 have hu:=hr.units0
 refine ⟨_,(pss_cons (ps_if (pt_cmpR (op_eqA K hu) (pv 0) (pe_gl T.g_UNKNOWN) (nomark _)) (pss_one (ps_ret (pe_gl T.g_UNKNOWN))) pss_nil) (pss_cons (ps_if (pt_cmpR (op_inA K) (pv 0) (pe_gl T.g_OPENING) (by with_unfolding_all rfl)) (pss_one (ps_ret (pe_ix (ix_A K) (pe_gl T.g_CLOSING) (pe_bmK K PySem.F.plainAttrs_str PySem.F.slot_str_index PySem.F.type_str_index mt_index (pe_gl T.g_OPENING) (pa_cons (pv 0) pa_nil)) (fun _ _=>rfl)))) pss_nil) (pss_one (ps_ret (pe_ix (ix_A K) (pe_gl T.g_OPENING) (pe_bmK K PySem.F.plainAttrs_str PySem.F.slot_str_index PySem.F.type_str_index mt_index (pe_gl T.g_CLOSING) (pa_cons (pv 0) pa_nil)) (fun _ _=>rfl)))))),?_⟩
 walk_at "go"
 have h9':=mem9 h9
 refine ifd (fun hc=>?_) (fun hc=>?_)
 ·have ec:c = 63:=by simpa using hc
  subst ec
  walk_at "go"
  exact q
 ·walk_at "go"
  refine ifd (fun ho=>?_) (fun ho=>?_)
  ·obtain ⟨j,o,hj,ho2,ho3⟩:∃ (j o:Nat),occ1 [40,91,123,60] c = some j/\atI [41,93,125,62] (j:Int) = some o/\o = oth c:=by
    have:c = 40\/c = 91\/c = 123\/c = 60:=by simpa using ho
    rcases this with rfl | rfl | rfl | rfl
    ·exact ⟨0,41,by decide +kernel,rfl,rfl⟩
    ·exact ⟨1,93,by decide +kernel,rfl,rfl⟩
    ·exact ⟨2,125,by decide +kernel,rfl,rfl⟩
    ·exact ⟨3,62,by decide +kernel,rfl,rfl⟩
   subst ho3
   walk_at "go"
   refine s_idx hj ?_
   walk_at "go"
   exact s_ixT (small (show 4 <= 1000 by decide)) ho2 q
  ·obtain ⟨j,o,hj,ho2,ho3⟩:∃ (j o:Nat),occ1 [41,93,125,62] c = some j/\atI [40,91,123,60] (j:Int) = some o/\o = oth c:=by
    have:c = 41\/c = 93\/c = 125\/c = 62:=by
     have hc':c ≠ 63:=fun e=>hc (by rw [e])
     have ho':¬ (c = 40\/c = 91\/c = 123\/c = 60):=fun e=>ho (by simpa using e)
     omega
    rcases this with rfl | rfl | rfl | rfl
    ·exact ⟨0,40,by decide +kernel,rfl,rfl⟩
    ·exact ⟨1,91,by decide +kernel,rfl,rfl⟩
    ·exact ⟨2,123,by decide +kernel,rfl,rfl⟩
    ·exact ⟨3,60,by decide +kernel,rfl,rfl⟩
   subst ho3
   walk_at "go"
   refine s_idx hj ?_
   walk_at "go"
   exact s_ixT (small (show 4 <= 1000 by decide)) ho2 q
theorem sc_turned:FnScope ["k","row"] ["k","row"] (defScope d_turned):=scM
theorem ok_turned (F:Fun K "turned" "turned" d_turned f fd) (T:Txt P w K mg aK cs aC aF aD) (U_check_line:FnUE P w K mg base k "check_line" ["k","row"] (spGateE K cs spCheckLine)) (U_other_one:FnU P w K mg base k "other_one" ["sign"] (spOther)):FnOk P w K mg base (CXE P w) (k + 1) f fd ["k","row"] (spTurned):=by
 refine F.okE sc_turned (fun vs H Q E h=>?_) (fun cdv A outer s H vs Q E hr h=>?_)
 ·obtain ⟨kk,a,rfl,_⟩:=h; rfl
 obtain ⟨kk,a,rfl,h1,h2,ha,q⟩:=h
 have hu:=hr.units0
 refine nox_ex ⟨_,(pss_cons (ps_expr (pe_fnE U_check_line hr xf_no (pa_cons (pv 0) (pa_cons (pv 1) pa_nil))))  (pss_one (ps_ret (pe_bmK K PySem.F.plainAttrs_str PySem.F.slot_str_join PySem.F.type_str_join (mt_join K) (pe_tx (l:=[]) (by decide +kernel)) (pa_cons (pe_comp (own:=["sign"]) (sel:=[]) (compOk_of (osc:=(defScope d_turned)) (N:=["k","row"]) (by decide +kernel)) rfl (pi_revS rfl T.n_reversed (pa_cons (pv 1) pa_nil)) (fun _ _ _ _ _=>(pg_name (i:=0) (show (["sign"]:List Str).Nodup from by decide +kernel) rfl (Or.inl rfl))) (gk_name (by decide)) (fun _ _ _ _ _=>pif_nil) (fun _ _ _ _ _=>(pe_fn U_other_one hr (pa_cons (pv 0) pa_nil)))) pa_nil))))),?_⟩
 have hl:=isRow_len ha
 walk_at "go"
 refine .inl (checkLine_use h1 h2 ha (fun H1 s1=>?_))
 walk_at "go"
 refine comp_rev (small (by omega)) (fun D i ys H'=>ys = (((a.reverse.take i).map fun c=>[oth c]).map tx)/\SameBut1 D H1 H') (fun D hD=>⟨rfl,SameBut1.of (same_new hD _)⟩) (fun D ys H' hD hD' ⟨e,sH⟩=>?_) ?_
 ·have el:a.reverse.take a.length = a.reverse:=by rw [<- List.length_reverse,List.take_length]
  rw [el] at e
  subst e
  walk_at "go"
  have ef:(a.reverse.map fun c=>[oth c]).flatten = trn a:=by
   have:=flat_ones (trn a)
   unfold trn at this ⊢
   rw [List.map_map] at this
   exact this
  have hll:(trn a).length = a.length:=trn_len a
  refine s_join (SqL.of hD') (by rw [ef,List.length_map,List.length_reverse]; omega) ?_
  rw [ef]
  exact q H' (s1.trans fun b o z=>sH b o z (ne_of_none z hD))
 ·rintro D i c ys H' hD ec hi hD' hl' ⟨e,sH⟩
  have hc:c ∈ a:=List.mem_reverse.mp (List.mem_of_getElem? ec)
  walk_at "go"
  refine iteT ?_
  walk_at "go"
  refine other_use (sgn9 (isRow_mem ha c hc)) ?_
  refine comp_next hi (small (by omega)) hD' hl' ⟨?_,sH.trans SameBut1.upd⟩
  rw [e,List.take_add_one,ec]
  simp only [Option.toList_some,List.map_append,List.map_cons,List.map_nil]
theorem sc_is_name:FnScope ["word"] ["word"] (defScope d_is_name):=scM
theorem ok_is_name (F:Fun K "is_name" "is_name" d_is_name f fd) (T:Txt P w K mg aK cs aC aF aD)  : FnOk P w K mg base CX0 (k + 1) f fd ["word"] (spIsName):=by
 refine F.ok sc_is_name (fun vs H Q E h=>?_) (fun cdv A outer s H vs Q E hr h=>?_)
 ·obtain ⟨a,rfl,_⟩:=h; rfl
 obtain ⟨a,rfl,hn,q⟩:=h
 have hu:=hr.units0
 have hl:=hn.lo
 have hh:=hn.hi
 refine ⟨_,(pss_one (ps_ret (pe_and (pe_chain op_le op_le pe_int (pe_callB (call_lenA K) rfl T.n_len PySem.boot_len (pa_cons (pv 0) pa_nil)) (pe_gl T.g_MOST_LETTERS)) (pe_one (pe_callB (call_allA K rfl) rfl T.n_all PyProof.Rows.boot_all (pa_cons (pe_comp (own:=["sign"]) (sel:=[]) (compOk_of (osc:=(defScope d_is_name)) (N:=["word"]) (by decide +kernel)) rfl (pi_str (pv 0)) (fun _ _ _ _ _=>(pg_name (i:=0) (show (["sign"]:List Str).Nodup from by decide +kernel) rfl (Or.inl rfl))) (gk_name (by decide)) (fun _ _ _ _ _=>pif_nil) (fun _ _ _ _ _=>(pe_cmpR (op_inA K) (pv 0) (pe_gl T.g_LETTERS) (by with_unfolding_all rfl)))) pa_nil)))))),?_⟩
 walk_at "go"
 refine ifp (decide_eq_true (by omega)) ?_
 walk_at "go"
 refine ifp (decide_eq_true (by omega)) ?_
 walk_at "go"
 refine comp_str (small (by omega)) (fun D i ys H'=>ys = ((a.take i).map fun c=>V.bl (decide (c ∈ ltr)))/\SameBut1 D H H') (fun D hD=>⟨rfl,SameBut1.of (same_new hD _)⟩) (fun D ys H' hD hD' ⟨e,sH⟩=>?_) ?_
 ·rw [List.take_length] at e
  subst e
  have hS:SqL K H' D ((a.map fun c=>decide (c ∈ ltr)).map V.bl):=by
   rw [List.map_map]; exact SqL.of hD'
  walk_at "go"
  refine s_all hS ?_
  have e2:((a.map fun c=>decide (c ∈ ltr)).all id) = true:=by
   rw [List.all_map,List.all_eq_true]
   intro c hc
   exact decide_eq_true (hn.all c hc)
  rw [e2]
  exact q H' fun b o z=>sH b o z (ne_of_none z hD)
 ·rintro D i c ys H' hD ec hi hD' hl' ⟨e,sH⟩
  walk_at "go"
  refine iteT ?_
  walk_at "go"
  refine comp_next hi (small (by omega)) hD' hl' ⟨?_,sH.trans SameBut1.upd⟩
  rw [e,List.take_add_one,ec]
  simp only [Option.toList_some,List.map_append,List.map_cons,List.map_nil]
  rfl
theorem sc_is_number:FnScope ["word"] ["word"] (defScope d_is_number):=scM
theorem ok_is_number (F:Fun K "is_number" "is_number" d_is_number f fd) (T:Txt P w K mg aK cs aC aF aD)  : FnOk P w K mg base CX0 (k + 1) f fd ["word"] (spIsNumber):=by
 refine F.ok sc_is_number (fun vs H Q E h=>?_) (fun cdv A outer s H vs Q E hr h=>?_)
 ·obtain ⟨a,rfl,_⟩:=h; rfl
 obtain ⟨n,rfl,hn,q⟩:=h
 have hu:=hr.units0
 have hl:1 <= (numT n).length:=List.length_pos_iff.mpr (numT_ne n)
 have hh:=numT_len 8 n hn
 have hd:=numT_dig n
 have hz:(numT n).length = 1\/(numT n)[0]? ≠ some 48:=by
  by_cases z:n < 10
  ·rw [numT_small z]; exact .inl rfl
  ·exact .inr (numT_head (by omega))
 generalize numT n = a at *
 refine ⟨_,(pss_cons (ps_if (PW.pt (pw_or (pt_not (pt_chain op_le op_le pe_int (pe_callB (call_lenA K) rfl T.n_len PySem.boot_len (pa_cons (pv 0) pa_nil)) (pe_gl T.g_MOST_FIGURES))) (pw_or1 (pt_not (pt_tru K (pe_callB (call_allA K rfl) rfl T.n_all PyProof.Rows.boot_all (pa_cons (pe_comp (own:=["sign"]) (sel:=[]) (compOk_of (osc:=(defScope d_is_number)) (N:=["word"]) (by decide +kernel)) rfl (pi_str (pv 0)) (fun _ _ _ _ _=>(pg_name (i:=0) (show (["sign"]:List Str).Nodup from by decide +kernel) rfl (Or.inl rfl))) (gk_name (by decide)) (fun _ _ _ _ _=>pif_nil) (fun _ _ _ _ _=>(pe_cmpR (op_inA K) (pv 0) (pe_gl T.g_FIGURES) (by with_unfolding_all rfl)))) pa_nil)))))))   (pss_one (ps_ret pe_bl))   pss_nil)  (pss_one (ps_ret (pe_or (pe_cmpR (op_eqA K hu) (pe_callB (call_lenA K) rfl T.n_len PySem.boot_len (pa_cons (pv 0) pa_nil)) pe_int (nomark _)) (pe_one (pe_cmpR (op_neA K hu) (pe_ix (ix_A K) (pv 0) pe_int (fun _ _=>rfl)) (pe_tx (l:=[48]) (by decide +kernel)) (nomark _))))))),?_⟩
 walk_at "go"
 refine ifp (decide_eq_true (by omega)) ?_
 walk_at "go"
 refine ifq (by rw [decide_eq_true (by omega)]; rfl) ?_
 walk_at "go"
 refine comp_str (small (by omega)) (fun D i ys H'=>ys = ((a.take i).map fun c=>V.bl (decide (c ∈ fig)))/\SameBut1 D H H') (fun D hD=>⟨rfl,SameBut1.of (same_new hD _)⟩) (fun D ys H' hD hD' ⟨e,sH⟩=>?_) ?_
 ·rw [List.take_length] at e
  subst e
  have hS:SqL K H' D ((a.map fun c=>decide (c ∈ fig)).map V.bl):=by
   rw [List.map_map]; exact SqL.of hD'
  have sG:Same H H':=fun b o z=>sH b o z (ne_of_none z hD)
  walk_at "go"
  refine s_all hS ?_
  have e2:((a.map fun c=>decide (c ∈ fig)).all id) = true:=by
   rw [List.all_map,List.all_eq_true]
   intro c hc
   have:=hd c hc
   have:c = 48\/c = 49\/c = 50\/c = 51\/c = 52\/c = 53\/c = 54\/c = 55\/c = 56\/c = 57:=by omega
   exact decide_eq_true (by simpa [fig] using this)
  rw [e2]
  walk_at "go"
  refine ifq rfl ?_
  walk_at "go"
  refine ifd (fun hc=>q H' sG) (fun hc=>?_)
  have h0:a.length ≠ 1:=fun z=>hc (by omega)
  have hz:=hz.resolve_left h0
  have hp:0 < a.length:=by omega
  walk_at "go"
  refine s_ixT (c:=a[0]) (small (by omega)) (by rw [atI_zero hp]) ?_
  walk_at "go"
  have:(!decide ([a[0]] = [48])) = true:=by
   rw [decide_eq_false]; rfl
   intro z
   apply hz
   rw [List.getElem?_eq_getElem hp,(List.cons.inj z).1]
  rw [this]
  exact q H' sG
 ·rintro D i c ys H' hD ec hi hD' hl' ⟨e,sH⟩
  walk_at "go"
  refine iteT ?_
  walk_at "go"
  refine comp_next hi (small (by omega)) hD' hl' ⟨?_,sH.trans SameBut1.upd⟩
  rw [e,List.take_add_one,ec]
  simp only [Option.toList_some,List.map_append,List.map_cons,List.map_nil]
  rfl
theorem sc_has_form:FnScope ["word","part"] ["word","part"] (defScope d_has_form):=scM
theorem ok_has_form (F:Fun K "has_form" "has_form" d_has_form f fd) (T:Txt P w K mg aK cs aC aF aD) (U_is_number:FnU P w K mg base k "is_number" ["word"] (spIsNumber)) (U_is_name:FnU P w K mg base k "is_name" ["word"] (spIsName)):FnOk P w K mg base CX0 (k + 1) f fd ["word","part"] (spHasForm):=by
 refine F.ok sc_has_form (fun vs H Q E h=>?_) (fun cdv A outer s H vs Q E hr h=>?_)
 ·obtain ⟨a,p,rfl,_⟩:=h; rfl
 obtain ⟨a,p,rfl,hf,q⟩:=h
 have hu:=hr.units0
 refine ⟨_,(pss_cons (ps_if (pt_cmpR (op_eqA K hu) (pv 1) (pe_tx (l:=[108,105,110,101]) (by decide +kernel)) (nomark _)) (pss_one (ps_ret pe_bl)) pss_nil) (pss_one (ps_ret (pe_ifExp (pt_cmpR (op_eqA K hu) (pv 1) (pe_tx (l:=[110,117,109,98,101,114]) (by decide +kernel)) (nomark _)) (pe_fn U_is_number hr (pa_cons (pv 0) pa_nil)) (pe_fn U_is_name hr (pa_cons (pv 0) pa_nil)))))),?_⟩
 walk_at "go"
 rcases hf with rfl | ⟨rfl,n,hn,rfl⟩ | ⟨hp,ha⟩
 ·refine ifp (by decide) ?_
  walk_at "go"
  exact q H (Same.refl H)
 ·refine ifq (by decide) ?_
  walk_at "go"
  refine ifp (by decide) ?_
  walk_at "go"
  exact ⟨n,rfl,hn,q⟩
 ·have h1:p ≠ pLine:=by rcases hp with rfl | rfl <;> decide
  have h2:p ≠ pNumber:=by rcases hp with rfl | rfl <;> decide
  refine ifq (decide_eq_false h1) ?_
  walk_at "go"
  refine ifq (decide_eq_false h2) ?_
  walk_at "go"
  exact ⟨a,rfl,ha,q⟩
theorem sc_parted:FnScope ["text","form"] ["text","form"] (defScope d_parted):=scM
theorem ok_parted (F:Fun K "parted" "parted" d_parted f fd) (T:Txt P w K mg aK cs aC aF aD)  : FnOk P w K mg base CX0 (k + 1) f fd ["text","form"] (spParted K):=by
 refine F.ok sc_parted (fun vs H Q E h=>?_) (fun cdv A outer s H vs Q E hr h=>?_)
 ·obtain ⟨l,t,fm,rfl,_⟩:=h; rfl
 obtain ⟨l,t,fm,rfl,hF,hm,hl,q⟩:=h
 have hu:=hr.units0
 have ht:SqT K H t (fm.map tx):=hF.sq
 have hfl:(fm.map tx).all flatV = true:=by rw [List.all_map,List.all_eq_true]; intro x _; rfl
 refine ⟨_,(pss_one (ps_ret (pe_ifExp (pt_cmpR (op_inA K) (pe_tx (l:=[108,105,110,101]) (by decide +kernel)) (pv 1) (by with_unfolding_all rfl)) (pe_bmK K PySem.F.plainAttrs_str PySem.F.slot_str_split PySem.F.type_str_split mt_split (pv 0) (pa_cons (pe_tx (l:=[32]) (by decide +kernel)) (pa_cons (pe_callB (call_lenA K) rfl T.n_len PySem.boot_len (pa_cons (pv 1) pa_nil)) pa_nil))) (pe_bmK K PySem.F.plainAttrs_str PySem.F.slot_str_split PySem.F.type_str_split mt_split (pv 0) (pa_cons (pe_tx (l:=[32]) (by decide +kernel)) pa_nil))))),?_⟩
 walk_at "go"
 refine s_inS (.inr ht) rfl hfl ?_
 have ei:inV (tx pLine) (fm.map tx) = decide (pLine ∈ fm):=by
  exact inV_tx pLine fm
 rw [ei]
 walk_at "go"
 refine ifd (fun hc=>?_) (fun hc=>?_)
 ·walk_at "go"
  refine s_lenL (.inr ht) ?_
  rw [List.length_map]
  walk_at "go"
  refine s_splitN (by omega) (by omega) (by omega) (fun p hp=>?_)
  rw [Int.toNat_natCast]
  refine q p _ hp (same_new hp _) ?_
  rw [if_pos hc]
  exact upd_same
 ·walk_at "go"
  refine s_split (by omega) (fun p hp=>?_)
  refine q p _ hp (same_new hp _) ?_
  rw [if_neg hc]
  exact upd_same
theorem sc_known_words:FnScope ["thing","first","form","words"] ["thing"] (defScope d_known_words):=scM
theorem ok_known_words (F:Fun K "known_words" "known_words" d_known_words f fd) (T:Txt P w K mg aK cs aC aF aD) (U_parted:FnU P w K mg base k "parted" ["text","form"] (spParted K)) (U_has_form:FnU P w K mg base k "has_form" ["word","part"] (spHasForm)):FnOk P w K mg base CX0 (k + 1) f fd ["thing"] (spKnown):=by
 refine F.ok sc_known_words (fun vs H Q E h=>?_) (fun cdv A outer s H vs Q E hr h=>?_)
 ·obtain ⟨l,d,args,rfl,_⟩:=h; rfl
 obtain ⟨l,d,args,rfl,kw,q⟩:=h
 have hu:=hr.units0
 have hsz:=kw.size
 obtain ⟨FK,hFK,hF⟩:=T.t_FORMS
 obtain ⟨t,hv,hT⟩:=hF d
 refine ⟨_,(pss_cons (ps_if (pt_not (pt_tru K (pe_callB (call_isiA K) rfl T.n_isinstance PyProof.Rows.boot_isinstance (pa_cons (pv 0) (pa_cons (pe_ty T.n_str PyProof.Rows.boot_str) pa_nil)))))   (pss_one (ps_ret pe_non))   pss_nil)  (pss_cons (ps_set (i:=1) sc_known_words.nd rfl (Or.inl rfl) (pe_ix (ix_A K) (pe_bmK K PySem.F.plainAttrs_str PySem.F.slot_str_partition PySem.F.type_str_partition mt_part (pv 0) (pa_cons (pe_tx (l:=[32]) (by decide +kernel)) pa_nil)) pe_int (fun _ _=>rfl)))  (pss_cons (ps_if (pt_cmp (pc_dnotinF P w K (pv 1) (pe_gl T.g_FORMS)) (by with_unfolding_all rfl))   (pss_one (ps_ret pe_non))   pss_nil)  (pss_cons (ps_set (i:=2) sc_known_words.nd rfl (Or.inl rfl) (pe_dgetF P w K (pe_gl T.g_FORMS) (pv 1) (fun _ _=>rfl)))  (pss_cons (ps_set (i:=3) sc_known_words.nd rfl (Or.inl rfl) (pe_fn U_parted hr (pa_cons (pv 0) (pa_cons (pv 2) pa_nil))))  (pss_cons (ps_if (pt_cmpR (op_neA K hu) (pe_callB (call_lenA K) rfl T.n_len PySem.boot_len (pa_cons (pv 3) pa_nil)) (pe_op op_plus (pe_callB (call_lenA K) rfl T.n_len PySem.boot_len (pa_cons (pv 2) pa_nil)) pe_int) (nomark _))   (pss_one (ps_ret pe_non))   pss_nil)  (pss_one (ps_ret (pe_ifExp (pt_tru K (pe_callB (call_allA K rfl) rfl T.n_all PyProof.Rows.boot_all (pa_cons (pe_comp (own:=["word","part"]) (sel:=[]) (compOk_of (osc:=(defScope d_known_words)) (N:=["thing","first","form","words"]) (by decide +kernel)) rfl (pi_zipU K rfl T.n_zip (pa_cons (pe_slice (sl_A K) (pv 3) (po_some pe_int) po_none) (pa_cons (pv 2) pa_nil))) (fun _ _ _ _ _=>(pg_tupK (n:=2) K rfl (pgs_cons (pg_name (i:=0) (show (["word","part"]:List Str).Nodup from by decide +kernel) rfl (Or.inl rfl)) (pgs_cons (pg_name (i:=1) (show (["word","part"]:List Str).Nodup from by decide +kernel) rfl (Or.inl rfl)) pgs_nil)))) (gk_tup (gk_cons gm_name (gm_cons gm_name gm_nil) (gk_name (by decide)) (gk_cons gm_name gm_nil (gk_name (by decide)) gk_nil))) (fun _ _ _ _ _=>pif_nil) (fun _ _ _ _ _=>(pe_fn U_has_form hr (pa_cons (pv 0) (pa_cons (pv 1) pa_nil))))) pa_nil))) (pv 3) pe_non))))))))),?_⟩
 walk_at "go"
 refine s_isi (b:=true) (TyOf.str _) (by with_unfolding_all rfl) ?_
 walk_at "go"
 refine ifq rfl ?_
 walk_at "go"
 refine s_partT (by omega) kw.first (fun p v u hp=>?_)
 walk_at "go"
 have s1:=same_new hp (.tup [tx d.word,v,u])
 refine s_ixU (SqT.of upd_same) rfl ?_
 generalize upd H p _ = H1 at *
 walk_at "go"
 refine ⟨aF,FK,kyT d.word,rfl,hFK,rfl,?_⟩
 walk_at "go"
 refine ifq (by rw [hv]; rfl) ?_
 walk_at "go"
 refine ⟨aF,FK,kyT d.word,_,rfl,hFK,rfl,hv,?_⟩
 walk_at "go"
 refine ⟨l,t,d.form,rfl,hT,by cases d <;> decide,hsz,fun p2 H2 hp2 s2 hl2=>?_⟩
 rw [kw.parts] at hl2
 walk_at "go"
 refine s_lenL (.inl (SqL.of hl2)) ?_
 walk_at "go"
 refine s_lenL (.inr hT.sq) ?_
 walk_at "go"
 have hln:=kw.len
 refine ifq (by rw [decide_eq_true]; rfl; simp only [List.length_map,List.length_cons]; omega) ?_
 walk_at "go"
 refine s_slL (SqL.of hl2) (fun z hz=>?_)
 have ez:cutV ((d.word :: args).map tx) (some 1) none = args.map tx:=cut_tail _ _
 rw [ez]
 have s3:=same_new hz (.lst (args.map tx))
 have hz3:(upd H2 z (.lst (args.map tx))) z = some (.lst (args.map tx)):=upd_same
 have hz2:H z = none:=s1.free (s2.free hz)
 generalize upd H2 z _ = H3 at *
 have hl3:=s3 _ _ hl2
 walk_at "go"
 refine ⟨z,t,_,_,rfl,hz3,hT,?_⟩
 refine comp_zipU (by rw [List.length_map,List.length_map]; omega) (fun D i ys H'=>ys = List.replicate i (V.bl true)/\SameBut1 D H3 H') (fun D i ys H' hD ⟨_,sH⟩=>sH _ _ hz3 (ne_of_none hz3 hD)) (fun D hD=>⟨rfl,SameBut1.of (same_new hD _)⟩) (fun D ys H' hD hD' ⟨e,sH⟩=>?_) ?_
 ·subst e
  walk_at "go"
  have hS:SqL K H' D ((List.replicate args.length true).map V.bl):=by
   rw [List.map_replicate]
   have:=SqL.of (K:=K) hD'
   rwa [List.length_map] at this
  refine s_all hS ?_
  have e2:((List.replicate args.length true).all id) = true:=by rw [List.all_replicate]; split <;> rfl
  rw [e2]
  walk_at "go"
  refine ifp rfl ?_
  walk_at "go"
  have sG:Same H3 H':=fun b o y=>sH b o y (ne_of_none y hD)
  exact q p2 H' (s1.free hp2) (((s1.trans s2).trans s3).trans sG) (sG _ _ hl3)
 ·rintro D i c dv T' ys H4 H5 hD hc hdv hi hD' hl' ⟨e,sH⟩ s5 hT'
  obtain ⟨a,ha,rfl⟩:∃ a,args[i]? = some a/\tx a = c:=by
   rw [List.getElem?_map] at hc
   obtain ⟨a,h1,h2⟩:=Option.map_eq_some_iff.mp hc
   exact ⟨a,h1,h2⟩
  obtain ⟨pp,hpp,rfl⟩:∃ a,d.form[i]? = some a/\tx a = dv:=by
   rw [List.getElem?_map] at hdv
   obtain ⟨a,h1,h2⟩:=Option.map_eq_some_iff.mp hdv
   exact ⟨a,h1,h2⟩
  refine s_gtup (SqT.of hT') rfl ?_
  walk_at "go"
  refine iteT ?_
  walk_at "go"
  refine ⟨a,pp,rfl,kw.fit i a pp ha hpp,fun H6 s6=>?_⟩
  refine comp_next hi (small (by rw [List.length_map]; have:d.form.length <= 3:=(by cases d <;> decide); omega)) (s6 _ _ hD') hl' ⟨?_,?_⟩
  ·rw [e,List.replicate_succ']
  ·exact ((sH.trans (SameBut1.of (s5.trans s6))).trans SameBut1.upd)
theorem sc_shown:FnScope ["row"] ["row"] (defScope d_shown):=scM
theorem ok_shown (F:Fun K "shown" "shown" d_shown f fd) (T:Txt P w K mg aK cs aC aF aD)  : FnOk P w K mg base CX0 (k + 1) f fd ["row"] (spShown):=by
 refine F.ok sc_shown (fun vs H Q E h=>?_) (fun cdv A outer s H vs Q E hr h=>?_)
 ·obtain ⟨a,rfl,_⟩:=h; rfl
 obtain ⟨a,rfl,hl,q⟩:=h
 have hu:=hr.units0
 refine ⟨_,(pss_one (ps_ret (pe_ifExp (pt_tru K (pv 0)) (pv 0) (pe_gl T.g_NOTHING)))),?_⟩
 walk_at "go"
 refine s_truT (small hl) ?_
 by_cases e:a = []
 ·rw [decide_eq_true e]
  refine ifq rfl ?_
  walk_at "go"
  rw [shw,if_pos e] at q
  exact q
 ·rw [decide_eq_false e]
  refine ifp rfl ?_
  walk_at "go"
  rw [shw,if_neg e] at q
  exact q
theorem sc_say_kinds:FnScope ["desk","words","k"] ["desk","words"] (defScope d_say_kinds):=scM
theorem ok_say_kinds (F:Fun K "say_kinds" "say_kinds" d_say_kinds f fd) (T:Txt P w K mg aK cs aC aF aD) (U_check_kinds:FnUE P w K mg base k "check_kinds" ["k"] (spKindsE K cs)):FnOk P w K mg base (CXE P w) (k + 1) f fd ["desk","words"] (spSayKinds cs aC):=by
 refine F.okE sc_say_kinds (fun vs H Q E h=>?_) (fun cdv A outer s H vs Q E hr h=>?_)
 ·obtain ⟨d,ws,r,k,kvs,n,rfl,_⟩:=h; rfl
 obtain ⟨d,ws,r,k,kvs,n,rfl,hd,hw,hn,h⟩:=h
 have hu:=hr.units0
 have hu2:=units1 hr
 obtain ⟨⟨dx,e1⟩,e2⟩:=id hd
 have hdr:=hd.ne
 rcases h with ⟨n1,n4,q⟩ | ⟨hn',rf⟩
 ·refine nox_ex ⟨_,(pss_cons (ps_set (i:=2) sc_say_kinds.nd rfl (Or.inl rfl) (pe_callTy call_intT rfl T.n_int PyProof.Rows.boot_int (pa_cons (pe_ix (ix_A K) (pv 1) pe_int (fun _ _=>rfl)) pa_nil))) (pss_cons (ps_expr (pe_fnE U_check_kinds hr xf_no (pa_cons (pv 2) pa_nil))) (pss_cons (ps_fldK K (pv 0) (pv 2)) (pss_cons (ps_fldK K (pv 0) pe_dnewK) (pss_one (ps_ret (pe_gl T.g_DONE))))))),?_⟩
  walk_at "go"
  refine s_ixL (SqL.of hw) rfl ?_
  walk_at "go"
  refine s_intT (by omega) ?_
  walk_at "go"
  refine .inl (kinds_use (by omega) (by omega) ?_)
  walk_at "go"
  refine ⟨d,aC,dx,_,rfl,e1,T.cl_Desk,T.no_k,by show 2 < 1000; decide,?_⟩
  walk_at "go"
  intro r' hr'
  walk_at "go"
  have hH:H r' = none:=by
   by_cases z:r' = d
   ·subst z; rw [upd_same] at hr'; cases hr'
   ·rwa [upd_ne z] at hr'
  have hne:d ≠ r':=fun z=>by rw [z,hH] at e1; cases e1
  refine ⟨d,aC,dx,_,rfl,by rw [upd_ne hne]; exact upd_same,T.cl_Desk,T.no_rows,by show 2 < 1000; decide,?_⟩
  walk_at "go"
  refine q r' _ hH (((FB.refl _ _).atU (by simp)).new hH |>.atU (by simp)) ⟨⟨dx,?_⟩,?_⟩
  ·rw [upd_same]; rfl
  ·rw [upd_ne hne.symm]; exact upd_same
 ·refine ⟨_,(pss_cons (ps_set (i:=2) sc_say_kinds.nd rfl (Or.inl rfl) (pe_callTy call_intT rfl T.n_int PyProof.Rows.boot_int (pa_cons (pe_ix (ix_A K) (pv 1) pe_int (fun _ _=>rfl)) pa_nil))) (pss_cons (ps_expr (pe_fnE U_check_kinds hr cxE_xf (pa_cons (pv 2) pa_nil))) (pss_cons (ps_fldK K (pv 0) (pv 2)) (pss_cons (ps_fldK K (pv 0) pe_dnewK) (pss_one (ps_ret (pe_gl T.g_DONE))))))),?_⟩
  walk_at "go"
  refine s_ixL (SqL.of hw) rfl ?_
  walk_at "go"
  refine s_intT (by omega) ?_
  walk_at "go"
  exact .inr ⟨_,rfl,⟨"int",TyOf.int _,by decide,fun i hi=>by cases hi; omega⟩,rf.pass (Same.refl H)⟩
theorem sc_say_row:FnScope ["desk","words"] ["desk","words"] (defScope d_say_row):=scM
theorem ok_say_row (F:Fun K "say_row" "say_row" d_say_row f fd) (T:Txt P w K mg aK cs aC aF aD) (U_check_line:FnUE P w K mg base k "check_line" ["k","row"] (spGateE K cs spCheckLine)):FnOk P w K mg base (CXE P w) (k + 1) f fd ["desk","words"] (spSayRow cs aC):=by
 refine F.okE sc_say_row (fun vs H Q E h=>?_) (fun cdv A outer s H vs Q E hr h=>?_)
 ·obtain ⟨d,ws,r,k,kvs,nm,a,rfl,_⟩:=h; rfl
 obtain ⟨d,ws,r,k,kvs,nm,a,rfl,hd,k1,k4,hl,hw,ha,h⟩:=h
 have hu:=hr.units0
 have hu2:=units1 hr
 obtain ⟨⟨dx,e1⟩,e2⟩:=id hd
 have hdr:=hd.ne
 rcases h with ⟨hro,q⟩ | ⟨hro,rf⟩
 ·refine nox_ex ⟨_,(pss_cons (ps_expr (pe_fnE U_check_line hr xf_no (pa_cons (pe_fldK K (pv 0)) (pa_cons (pe_ix (ix_A K) (pv 1) pe_int (fun _ _=>rfl)) pa_nil)))) (pss_cons (ps_dput hu2 (pe_fldK K (pv 0)) (pe_ix (ix_A K) (pv 1) pe_int (fun _ _=>rfl)) (pe_ix (ix_A K) (pv 1) pe_int (fun _ _=>rfl)) rfl) (pss_one (ps_ret (pe_gl T.g_DONE))))),?_⟩
  walk_at "go"
  refine ⟨d,aC,dx,_,_,rfl,e1,T.cl_Desk,T.no_k,rfl,?_⟩
  walk_at "go"
  refine s_ixL (SqL.of hw) rfl ?_
  walk_at "go"
  refine .inl (checkLine_use k1 k4 hro (fun H1 s1=>?_))
  walk_at "go"
  refine s_ixL (SqL.of (s1 _ _ hw)) rfl ?_
  walk_at "go"
  refine ⟨d,aC,dx,_,_,rfl,s1 _ _ e1,T.cl_Desk,T.no_rows,rfl,?_⟩
  walk_at "go"
  refine s_ixL (SqL.of (s1 _ _ hw)) rfl ?_
  walk_at "go"
  refine ⟨r,_,rfl,DPut.k (k:=kyT nm) (s1 _ _ e2) (by rw [sizeLine_eq]; omega),?_⟩
  walk_at "go"
  exact q _ (((FB.refl _ _).s s1).atU (by simp)) ⟨⟨dx,by rw [upd_ne hdr]; exact s1 _ _ e1⟩,upd_same⟩
 ·refine ⟨_,(pss_cons (ps_expr (pe_fnE U_check_line hr cxE_xf (pa_cons (pe_fldK K (pv 0)) (pa_cons (pe_ix (ix_A K) (pv 1) pe_int (fun _ _=>rfl)) pa_nil)))) (pss_cons (ps_dput hu2 (pe_fldK K (pv 0)) (pe_ix (ix_A K) (pv 1) pe_int (fun _ _=>rfl)) (pe_ix (ix_A K) (pv 1) pe_int (fun _ _=>rfl)) rfl) (pss_one (ps_ret (pe_gl T.g_DONE))))),?_⟩
  walk_at "go"
  refine ⟨d,aC,dx,_,_,rfl,e1,T.cl_Desk,T.no_k,rfl,?_⟩
  walk_at "go"
  refine s_ixL (SqL.of hw) rfl ?_
  walk_at "go"
  exact .inr ⟨_,_,rfl,.inr ⟨k,rfl,k1,k4,.inl ⟨a,rfl,by omega,hro⟩,rf.pass (Same.refl H)⟩⟩
theorem sc_say_turn:FnScope ["desk","words"] ["desk","words"] (defScope d_say_turn):=scM
theorem ok_say_turn (F:Fun K "say_turn" "say_turn" d_say_turn f fd) (T:Txt P w K mg aK cs aC aF aD) (U_turned:FnUE P w K mg base k "turned" ["k","row"] (spTurned)):FnOk P w K mg base (CXE P w) (k + 1) f fd ["desk","words"] (spSayTurn aC):=by
 refine F.okE sc_say_turn (fun vs H Q E h=>?_) (fun cdv A outer s H vs Q E hr h=>?_)
 ·obtain ⟨d,ws,r,k,kvs,nm,one,a,rfl,_⟩:=h; rfl
 obtain ⟨d,ws,r,k,kvs,nm,one,a,rfl,hd,k1,k4,hl,hw,hv,ha,q⟩:=h
 have hu:=hr.units0
 have hu2:=units1 hr
 obtain ⟨⟨dx,e1⟩,e2⟩:=id hd
 have hdr:=hd.ne
 refine nox_ex ⟨_,(pss_cons (ps_dput hu2 (pe_fldK K (pv 0)) (pe_ix (ix_A K) (pv 1) pe_int (fun _ _=>rfl)) (pe_fnE U_turned hr xf_no (pa_cons (pe_fldK K (pv 0)) (pa_cons (pe_dget hu2 (pe_fldK K (pv 0)) (pe_ix (ix_A K) (pv 1) pe_int (fun _ _=>rfl)) (fun _ _=>rfl)) pa_nil))) rfl) (pss_one (ps_ret (pe_gl T.g_DONE)))),?_⟩
 walk_at "go"
 refine ⟨d,aC,dx,_,_,rfl,e1,T.cl_Desk,T.no_k,rfl,?_⟩
 walk_at "go"
 refine ⟨d,aC,dx,_,_,rfl,e1,T.cl_Desk,T.no_rows,rfl,?_⟩
 walk_at "go"
 refine s_ixL (SqL.of hw) rfl ?_
 walk_at "go"
 refine ⟨r,_,rfl,by rw [<- hv]; exact DGet.k (k:=kyT one) e2,?_⟩
 walk_at "go"
 refine turned_use k1 k4 ha (fun H1 s1=>?_)
 walk_at "go"
 refine ⟨d,aC,dx,_,_,rfl,s1 _ _ e1,T.cl_Desk,T.no_rows,rfl,?_⟩
 walk_at "go"
 refine s_ixL (SqL.of (s1 _ _ hw)) rfl ?_
 walk_at "go"
 refine ⟨r,_,rfl,DPut.k (k:=kyT nm) (s1 _ _ e2) (by rw [sizeLine_eq]; omega),?_⟩
 walk_at "go"
 exact q _ (((FB.refl _ _).s s1).atU (by simp)) ⟨⟨dx,by rw [upd_ne hdr]; exact s1 _ _ e1⟩,upd_same⟩
theorem sc_say_behind:FnScope ["desk","words","both"] ["desk","words"] (defScope d_say_behind):=scM
theorem ok_say_behind (F:Fun K "say_behind" "say_behind" d_say_behind f fd) (T:Txt P w K mg aK cs aC aF aD) (U_check_line:FnUE P w K mg base k "check_line" ["k","row"] (spGateE K cs spCheckLine)):FnOk P w K mg base (CXE P w) (k + 1) f fd ["desk","words"] (spSayBehind cs aC):=by
 refine F.okE sc_say_behind (fun vs H Q E h=>?_) (fun cdv A outer s H vs Q E hr h=>?_)
 ·obtain ⟨d,ws,r,k,kvs,nm,one,two,a,b,rfl,_⟩:=h; rfl
 obtain ⟨d,ws,r,k,kvs,nm,one,two,a,b,rfl,hd,k1,k4,hl,hw,hv,hv2,ha,hb,h⟩:=h
 have hu:=hr.units0
 have hu2:=units1 hr
 obtain ⟨⟨dx,e1⟩,e2⟩:=id hd
 have hdr:=hd.ne
 have el:(a ++ b).length <= 80:=by rw [List.length_append]; omega
 rcases h with ⟨hro,q⟩ | ⟨hro,rf⟩
 ·refine nox_ex ⟨_,(pss_cons (ps_set (i:=2) sc_say_behind.nd rfl (Or.inl rfl) (pe_op op_plus (pe_dget hu2 (pe_fldK K (pv 0)) (pe_ix (ix_A K) (pv 1) pe_int (fun _ _=>rfl)) (fun _ _=>rfl)) (pe_dget hu2 (pe_fldK K (pv 0)) (pe_ix (ix_A K) (pv 1) pe_int (fun _ _=>rfl)) (fun _ _=>rfl)))) (pss_cons (ps_expr (pe_fnE U_check_line hr xf_no (pa_cons (pe_fldK K (pv 0)) (pa_cons (pv 2) pa_nil)))) (pss_cons (ps_dput hu2 (pe_fldK K (pv 0)) (pe_ix (ix_A K) (pv 1) pe_int (fun _ _=>rfl)) (pv 2) rfl) (pss_one (ps_ret (pe_gl T.g_DONE)))))),?_⟩
  walk_at "go"
  refine ⟨d,aC,dx,_,_,rfl,e1,T.cl_Desk,T.no_rows,rfl,?_⟩
  walk_at "go"
  refine s_ixL (SqL.of hw) rfl ?_
  walk_at "go"
  refine ⟨r,_,rfl,by rw [<- hv]; exact DGet.k (k:=kyT one) e2,?_⟩
  walk_at "go"
  refine ⟨d,aC,dx,_,_,rfl,e1,T.cl_Desk,T.no_rows,rfl,?_⟩
  walk_at "go"
  refine s_ixL (SqL.of hw) rfl ?_
  walk_at "go"
  refine ⟨r,_,rfl,by rw [<- hv2]; exact DGet.k (k:=kyT two) e2,?_⟩
  walk_at "go"
  refine ⟨d,aC,dx,_,_,rfl,e1,T.cl_Desk,T.no_k,rfl,?_⟩
  walk_at "go"
  refine .inl (checkLine_use k1 k4 hro (fun H1 s1=>?_))
  walk_at "go"
  refine ⟨d,aC,dx,_,_,rfl,s1 _ _ e1,T.cl_Desk,T.no_rows,rfl,?_⟩
  walk_at "go"
  refine s_ixL (SqL.of (s1 _ _ hw)) rfl ?_
  walk_at "go"
  refine ⟨r,_,rfl,DPut.k (k:=kyT nm) (s1 _ _ e2) (by rw [sizeLine_eq]; omega),?_⟩
  walk_at "go"
  exact q _ (((FB.refl _ _).s s1).atU (by simp)) ⟨⟨dx,by rw [upd_ne hdr]; exact s1 _ _ e1⟩,upd_same⟩
 ·refine ⟨_,(pss_cons (ps_set (i:=2) sc_say_behind.nd rfl (Or.inl rfl) (pe_op op_plus (pe_dget hu2 (pe_fldK K (pv 0)) (pe_ix (ix_A K) (pv 1) pe_int (fun _ _=>rfl)) (fun _ _=>rfl)) (pe_dget hu2 (pe_fldK K (pv 0)) (pe_ix (ix_A K) (pv 1) pe_int (fun _ _=>rfl)) (fun _ _=>rfl)))) (pss_cons (ps_expr (pe_fnE U_check_line hr cxE_xf (pa_cons (pe_fldK K (pv 0)) (pa_cons (pv 2) pa_nil)))) (pss_cons (ps_dput hu2 (pe_fldK K (pv 0)) (pe_ix (ix_A K) (pv 1) pe_int (fun _ _=>rfl)) (pv 2) rfl) (pss_one (ps_ret (pe_gl T.g_DONE)))))),?_⟩
  walk_at "go"
  refine ⟨d,aC,dx,_,_,rfl,e1,T.cl_Desk,T.no_rows,rfl,?_⟩
  walk_at "go"
  refine s_ixL (SqL.of hw) rfl ?_
  walk_at "go"
  refine ⟨r,_,rfl,by rw [<- hv]; exact DGet.k (k:=kyT one) e2,?_⟩
  walk_at "go"
  refine ⟨d,aC,dx,_,_,rfl,e1,T.cl_Desk,T.no_rows,rfl,?_⟩
  walk_at "go"
  refine s_ixL (SqL.of hw) rfl ?_
  walk_at "go"
  refine ⟨r,_,rfl,by rw [<- hv2]; exact DGet.k (k:=kyT two) e2,?_⟩
  walk_at "go"
  refine ⟨d,aC,dx,_,_,rfl,e1,T.cl_Desk,T.no_k,rfl,?_⟩
  walk_at "go"
  exact .inr ⟨_,_,rfl,.inr ⟨k,rfl,k1,k4,.inl ⟨a ++ b,rfl,by omega,hro⟩,rf.pass (Same.refl H)⟩⟩
theorem sc_say_drop:FnScope ["desk","words"] ["desk","words"] (defScope d_say_drop):=scM
theorem ok_say_drop (F:Fun K "say_drop" "say_drop" d_say_drop f fd) (T:Txt P w K mg aK cs aC aF aD)  : FnOk P w K mg base (CXE P w) (k + 1) f fd ["desk","words"] (spSayDrop aC):=by
 refine F.okE sc_say_drop (fun vs H Q E h=>?_) (fun cdv A outer s H vs Q E hr h=>?_)
 ·obtain ⟨d,ws,r,k,kvs,one,v,rfl,_⟩:=h; rfl
 obtain ⟨d,ws,r,k,kvs,one,v,rfl,hd,hw,hv,q⟩:=h
 have hu:=hr.units0
 have hu2:=units1 hr
 obtain ⟨⟨dx,e1⟩,e2⟩:=id hd
 have hdr:=hd.ne
 refine nox_ex ⟨_,(pss_cons (ps_expr (pe_dpop1 (pe_fldK K (pv 0)) (pe_ix (ix_A K) (pv 1) pe_int (fun _ _=>rfl)) ⟨rfl,rfl,rfl,rfl⟩)) (pss_one (ps_ret (pe_gl T.g_DONE)))),?_⟩
 walk_at "go"
 refine ⟨d,aC,dx,_,_,rfl,e1,T.cl_Desk,T.no_rows,rfl,?_⟩
 refine ⟨r,rfl,.inl ⟨kvs,.inl e2⟩,?_⟩
 walk_at "go"
 refine s_ixL (SqL.of hw) rfl ?_
 refine ⟨kvs,kyT one,v,e2,rfl,hv,?_⟩
 walk_at "go"
 exact q _ ((FB.refl _ _).atU (by simp)) ⟨⟨dx,by rw [upd_ne hdr]; exact e1⟩,upd_same⟩
theorem sc_say_show:FnScope ["desk","words"] ["desk","words"] (defScope d_say_show):=scM
theorem ok_say_show (F:Fun K "say_show" "say_show" d_say_show f fd) (T:Txt P w K mg aK cs aC aF aD) (U_shown:FnU P w K mg base k "shown" ["row"] (spShown)):FnOk P w K mg base (CXE P w) (k + 1) f fd ["desk","words"] (spSayShow aC):=by
 refine F.okE sc_say_show (fun vs H Q E h=>?_) (fun cdv A outer s H vs Q E hr h=>?_)
 ·obtain ⟨d,ws,r,k,kvs,one,a,rfl,_⟩:=h; rfl
 obtain ⟨d,ws,r,k,kvs,one,a,rfl,hd,hw,hv,hl,q⟩:=h
 have hu:=hr.units0
 have hu2:=units1 hr
 obtain ⟨⟨dx,e1⟩,e2⟩:=id hd
 have hdr:=hd.ne
 refine nox_ex ⟨_,(pss_one (ps_ret (pe_fn U_shown hr (pa_cons (pe_dget hu2 (pe_fldK K (pv 0)) (pe_ix (ix_A K) (pv 1) pe_int (fun _ _=>rfl)) (fun _ _=>rfl)) pa_nil)))),?_⟩
 walk_at "go"
 refine ⟨d,aC,dx,_,_,rfl,e1,T.cl_Desk,T.no_rows,rfl,?_⟩
 walk_at "go"
 refine s_ixL (SqL.of hw) rfl ?_
 walk_at "go"
 refine ⟨r,_,rfl,by rw [<- hv]; exact DGet.k (k:=kyT one) e2,?_⟩
 walk_at "go"
 exact ⟨a,rfl,hl,q H (Same.refl H)⟩
theorem sc_say_names:FnScope ["desk","words"] ["desk","words"] (defScope d_say_names):=scM
theorem ok_say_names (F:Fun K "say_names" "say_names" d_say_names f fd) (T:Txt P w K mg aK cs aC aF aD)  : FnOk P w K mg base (CXE P w) (k + 1) f fd ["desk","words"] (spSayNames aC):=by
 refine F.okE sc_say_names (fun vs H Q E h=>?_) (fun cdv A outer s H vs Q E hr h=>?_)
 ·obtain ⟨d,ws,r,k,kvs,ns,rfl,_⟩:=h; rfl
 obtain ⟨d,ws,r,k,kvs,ns,rfl,hd,hs,h8,q⟩:=h
 have hu:=hr.units0
 have hu2:=units1 hr
 obtain ⟨⟨dx,e1⟩,e2⟩:=id hd
 have hdr:=hd.ne
 refine nox_ex ⟨_,(pss_one (ps_ret (pe_ifExp (pt_tru K (pe_fldK K (pv 0))) (pe_bmK K PySem.F.plainAttrs_str PySem.F.slot_str_join PySem.F.type_str_join (mt_joinG K) (pe_tx (l:=[32]) (by decide +kernel)) (pa_cons (pe_callB (call_sortT K rfl) rfl T.n_sorted PyProof.Rows.boot_sorted (pa_cons (pe_fldK K (pv 0)) pa_nil)) pa_nil)) (pe_gl T.g_NOTHING)))),?_⟩
 walk_at "go"
 refine ⟨d,aC,dx,_,_,rfl,e1,T.cl_Desk,T.no_rows,rfl,?_⟩
 refine ⟨_,.inr (.inr ⟨kvs,e2,rfl⟩),?_⟩
 obtain ⟨ss,hk,h64,hp,hso⟩:=id hs
 have hne:ns = [] ↔ kvs = []:=by
  have l1:=hp.length_eq
  have l2:=congrArg List.length hk
  rw [List.length_map,List.length_map] at l2
  unfold strL at l1
  rw [List.length_map] at l1
  rw [<- List.length_eq_zero_iff,<- List.length_eq_zero_iff,l1,l2]
 by_cases z:kvs = []
 ·rw [List.isEmpty_iff.mpr z]
  refine ifq rfl ?_
  walk_at "go"
  have:=q H (Same.refl H)
  rw [wrt,if_pos (hne.mpr z)] at this
  exact this
 ·refine ifp (by rw [Bool.not_eq_true',List.isEmpty_eq_false_iff]; exact z) ?_
  walk_at "go"
  refine ⟨d,aC,dx,_,_,rfl,e1,T.cl_Desk,T.no_rows,rfl,?_⟩
  walk_at "go"
  refine ⟨r,kvs,ss,rfl,.inl e2,hk,h64,fun p ts hpp hpt hst=>?_⟩
  have hts:=hs.uniq hk hpt hst
  subst hts
  rw [strL_tx]
  walk_at "go"
  have hl:=hs.len
  have h9:=flat8 h8
  refine s_joinG (by decide) (SqL.of upd_same) (by omega) ?_
  have:=q _ (same_new hpp (.lst (ns.map tx)))
  rw [wrt,if_neg (fun y=>z (hne.mp y))] at this
  exact this
theorem sc_Desk___init__:FnScope ["self"] ["self"] (defScope d_Desk___init__):=scM
theorem ok_Desk___init__ (F:Fun K "__init__" "Desk.__init__" d_Desk___init__ f fd) (T:Txt P w K mg aK cs aC aF aD)  : FnOk P w K mg base CX0 (k + 1) f fd ["self"] (spDkInit aC):=by
 refine F.ok sc_Desk___init__ (fun vs H Q E h=>?_) (fun cdv A outer s H vs Q E hr h=>?_)
 ·obtain ⟨d,dx,rfl,_⟩:=h; rfl
 obtain ⟨d,dx,rfl,hd,q⟩:=h
 have hu:=hr.units0
 refine ⟨_,(pss_cons (ps_fldK K (pv 0) (pe_gl T.g_FIRST_KINDS)) (pss_one (ps_fldK K (pv 0) pe_dnewK))),?_⟩
 walk_at "go"
 refine ⟨d,aC,dx,[],rfl,hd,T.cl_Desk,T.no_k,by show 0 < 1000; decide,?_⟩
 walk_at "go"
 intro r hr'
 have hH:H r = none:=by
  by_cases z:r = d
  ·subst z; rw [upd_same] at hr'; cases hr'
  ·rwa [upd_ne z] at hr'
 have hne:d ≠ r:=fun z=>by rw [z,hH] at hd; cases hd
 walk_at "go"
 refine ⟨d,aC,dx,_,rfl,by rw [upd_ne hne]; exact upd_same,T.cl_Desk,T.no_rows,by show 1 < 1000; decide,?_⟩
 walk_at "go"
 refine q r _ hH (((FB.refl _ _).atU (by simp)).new hH |>.atU (by simp)) ⟨⟨dx,?_⟩,?_⟩
 ·rw [upd_same]; rfl
 ·rw [upd_ne hne.symm]; exact upd_same
theorem sc_Desk_say:FnScope ["self","row","words","word","part","deed"] ["self","row"] (defScope d_Desk_say):=scM
theorem ok_Desk_say (F : Fun K "say" "Desk.say" d_Desk_say f fd) (T : Txt P w K mg aK cs aC aF aD) (U_say_kinds : FnUE P w K mg base k "say_kinds" ["desk", "words"] (spSayKinds cs aC)) (U_say_row : FnUE P w K mg base k "say_row" ["desk", "words"] (spSayRow cs aC)) (U_say_turn : FnUE P w K mg base k "say_turn" ["desk", "words"] (spSayTurn aC)) (U_say_behind : FnUE P w K mg base k "say_behind" ["desk", "words"] (spSayBehind cs aC)) (U_say_drop : FnUE P w K mg base k "say_drop" ["desk", "words"] (spSayDrop aC)) (U_say_show : FnUE P w K mg base k "say_show" ["desk", "words"] (spSayShow aC)) (U_say_names : FnUE P w K mg base k "say_names" ["desk", "words"] (spSayNames aC)) (U_known_words : FnU P w K mg base k "known_words" ["thing"] (spKnown)) : FnOk P w K mg base (CXE P w) (k + 1) f fd ["self", "row"] (spSay cs aC) := by
  refine F.okE sc_Desk_say (fun vs H Q E h => ?_) (fun cdv A outer s H vs Q E hr h => ?_)
  · obtain ⟨d, r, k, kvs, l, dd, args, rfl, _⟩ := h; rfl
  obtain ⟨d, r, kk, kvs, l, dd, args, rfl, hd, kw, h⟩ := h
  have hu := hr.units0
  have hu2 := units1 hr
  obtain ⟨FK, hFK, hF⟩ := T.t_FORMS
  obtain ⟨t, hv, hT⟩ := hF dd
  obtain ⟨DK, hDK, adr, hD⟩ := T.t_DEEDS
  obtain ⟨⟨dx, e1⟩, e2⟩ := id hd
  have hdd : ∀ j : Dd, ∃ fd, FnOk P w K mg base (CXE P w) k (adr j) fd ["desk", "words"] (spDd cs aC j) /\ PySem.W.keepIn K (.ref (adr j)) = true /\ Binds K fd ["desk", "words"] [] := by
    have one : ∀ {x : Str} {sp : Sp} {a : Addr}, FnUE P w K mg base k x ["desk", "words"] sp -> mg x = some (.ref a) -> ∃ fd, FnOk P w K mg base (CXE P w) k a fd ["desk", "words"] sp /\ PySem.W.keepIn K (.ref a) = true /\ Binds K fd ["desk", "words"] [] := fun U hm => by
      obtain ⟨f, fd, F1, e, kp, b⟩ := U.ex
      rw [hm] at e
      cases e
      exact ⟨fd, F1, kp, b⟩
    intro j
    cases j
    · exact one U_say_kinds (hD .kinds).2
    · exact one U_say_row (hD .row).2
    · exact one U_say_turn (hD .turn).2
    · exact one U_say_behind (hD .behind).2
    · exact one U_say_drop (hD .drop).2
    · exact one U_say_show (hD .show).2
    · exact one U_say_names (hD .names).2
  refine ⟨_, (pss_cons (ps_set (i := 2) sc_Desk_say.nd rfl (Or.inl rfl) (pe_fn U_known_words hr (pa_cons (pv 1) pa_nil)))  (pss_cons (ps_if (pt_cmpR op_isA (pv 2) pe_non (nomark _))   (pss_one (ps_raise T.e_NoRow T.c_NoRow hr.hd cxE_xm (pa_cons (pe_tx (l := [116, 104, 105, 115, 32, 105, 115, 32, 110, 111, 32, 114, 111, 119, 32, 111, 102, 32, 119, 111, 114, 100, 115, 32, 116, 104, 97, 116, 32, 97, 32, 100, 101, 115, 107, 32, 107, 110, 111, 119, 115]) (by decide +kernel)) pa_nil)))   pss_nil)  (pss_cons (ps_for PassesOwn.leaving rfl (pi_zipU K rfl T.n_zip (pa_cons (pe_slice (sl_A K) (pv 2) (po_some pe_int) po_none) (pa_cons (pe_dgetF P w K (pe_gl T.g_FORMS) (pe_ix (ix_A K) (pv 2) pe_int (fun _ _ => rfl)) (fun _ _ => rfl)) pa_nil))) (pg_tupK (n := 2) K rfl (pgs_cons (pg_name (i := 3) sc_Desk_say.nd rfl (Or.inl rfl)) (pgs_cons (pg_name (i := 4) sc_Desk_say.nd rfl (Or.inl rfl)) pgs_nil)))   (pss_one (ps_if (PW.pt (pw_and (pt_cmpR (op_eqA K hu) (pv 4) (pe_tx (l := [110, 97, 109, 101]) (by decide +kernel)) (nomark _)) (pw_and1 (pt_cmp (pc_dnotin hu2 (pv 3) (pe_fldK K (pv 0))) (by with_unfolding_all rfl)))))   (pss_one (ps_raise T.e_NoName T.c_NoName hr.hd cxE_xm (pa_cons (pe_tx (l := [110, 111, 32, 114, 111, 119, 32, 115, 116, 97, 110, 100, 115, 32, 98, 121, 32, 116, 104, 105, 115, 32, 110, 97, 109, 101]) (by decide +kernel)) pa_nil)))   pss_nil)))  (pss_cons (ps_set (i := 5) sc_Desk_say.nd rfl (Or.inl rfl) (pe_dgetF P w K (pe_gl T.g_DEEDS) (pe_ix (ix_A K) (pv 2) pe_int (fun _ _ => rfl)) (fun _ _ => rfl)))  (pss_one (ps_ret (pe_fnVI 5 hdd hr cxE_xf (pa_cons (pv 0) (pa_cons (pe_slice (sl_A K) (pv 2) (po_some pe_int) po_none) pa_nil))))))))), ?_⟩
  walk_at "go"
  refine ⟨l, dd, args, rfl, kw, fun p H1 hp s1 hp1 => ?_⟩
  walk_at "go"
  refine ifq rfl ?_
  walk_at "go"
  refine s_slL (SqL.of hp1) (fun z hz => ?_)
  have ez : ∀ (w0 : List Nat) (ar : List (List Nat)), cutV ((w0 :: ar).map tx) (some 1) none = ar.map tx := fun _ _ => cut_tail _ _
  rw [ez]
  have s2 := same_new hz (.lst (args.map tx))
  have hz2 : (upd H1 z (.lst (args.map tx))) z = some (.lst (args.map tx)) := upd_same
  generalize upd H1 z _ = H2 at *
  have hp2 := s2 _ _ hp1
  have hf3 : dd.form.length <= 3 := by cases dd <;> decide
  have hln := kw.len
  walk_at "go"
  refine s_ixL (SqL.of hp2) (atI_0 _ _) ?_
  refine ⟨aF, FK, kyT dd.word, _, rfl, hFK, rfl, hv, ?_⟩
  walk_at "go"
  refine ⟨z, t, _, _, rfl, hz2, hT, ?_⟩
  refine for_zU (by rw [List.length_map, List.length_map]; omega) (fun i σ H' => ∃ o3 o4 o5, σ = [some (.ref d), some (tx l), some (.ref p), o3, o4, o5] /\ Same H2 H' /\ ∀ (j : Nat) (a : List Nat), j < i -> args[j]? = some a -> dd.form[j]? = some pName -> (valV kvs (kyT a)).isSome = true) ⟨_, _, _, rfl, Same.refl _, fun j a hj => absurd hj (Nat.not_lt_zero j)⟩ (fun i σ H' ⟨o3, o4, o5, _, sH, _⟩ => sH _ _ hz2) ?_ ?_
  · rintro i c dv T' σ H3 H4 hc hdv ⟨o3, o4, o5, rfl, s3, hall⟩ s4 hT'
    obtain ⟨a, ha, rfl⟩ : ∃ a, args[i]? = some a /\ tx a = c := by
      rw [List.getElem?_map] at hc
      obtain ⟨a, h1, h2⟩ := Option.map_eq_some_iff.mp hc
      exact ⟨a, h1, h2⟩
    obtain ⟨pp, hpp, rfl⟩ : ∃ a, dd.form[i]? = some a /\ tx a = dv := by
      rw [List.getElem?_map] at hdv
      obtain ⟨a, h1, h2⟩ := Option.map_eq_some_iff.mp hdv
      exact ⟨a, h1, h2⟩
    have sA : Same H H4 := ((s1.trans s2).trans s3).trans s4
    refine s_gtup (SqT.of hT') rfl ?_
    walk_at "go"
    have more : (pp = pName -> (valV kvs (kyT a)).isSome = true) -> ∀ (j : Nat) (b : List Nat), j < i + 1 -> args[j]? = some b -> dd.form[j]? = some pName -> (valV kvs (kyT b)).isSome = true := fun hx j b hj hb hf => by
      by_cases e : j = i
      · subst e
        rw [ha] at hb; cases hb
        rw [hpp] at hf; cases hf
        exact hx rfl
      · exact hall j b (by omega) hb hf
    refine ifd (fun hc => ?_) (fun hc => ?_)
    · subst hc
      walk_at "go"
      refine ⟨d, aC, dx, _, _, rfl, sA _ _ e1, T.cl_Desk, T.no_rows, rfl, ?_⟩
      refine ⟨r, _, rfl, DGet.k (k := kyT a) (sA _ _ e2), ?_⟩
      walk_at "go"
      cases e : valV kvs (kyT a) with
      | none =>
        refine ifp rfl ?_
        walk_at "go"
        rcases h with ⟨_, _, _, _, _, rf⟩ | ⟨hy, _⟩
        · exact ⟨small (by decide), fun y hy => rf y H4 sA (sA.free hy)⟩
        · have := hy i a ha hpp
          rw [e] at this; cases this
      | some v =>
        refine ifq rfl ?_
        walk_at "go"
        exact ⟨_, _, _, rfl, s3.trans s4, more fun _ => by rw [e]; rfl⟩
    · refine ifq rfl ?_
      walk_at "go"
      exact ⟨_, _, _, rfl, s3.trans s4, more fun e => absurd e hc⟩
  · rintro σ H3 ⟨o3, o4, o5, rfl, s3, hall⟩
    rw [List.length_map] at hall
    have sA : Same H H3 := (s1.trans s2).trans s3
    rcases h with ⟨i, a, ha, hf, hn, _⟩ | ⟨_, q⟩
    · have := hall i a (List.getElem?_eq_some_iff.mp ha).1 ha hf
      rw [hn] at this; cases this
    walk_at "go"
    refine s_ixL (SqL.of (s3 _ _ hp2)) (atI_0 _ _) ?_
    refine ⟨aD, DK, kyT dd.word, _, rfl, hDK, rfl, (hD dd).1, ?_⟩
    walk_at "go"
    refine s_callI dd rfl ?_
    walk_at "go"
    refine s_slL (SqL.of (s3 _ _ hp2)) (fun z3 hz3 => ?_)
    rw [ez]
    walk_at "go"
    exact q _ z3 _ (fun c rf => rf.pass (sA.trans (same_new hz3 _))) (sA.trans (same_new hz3 _)) (sA.free hz3) upd_same
theorem sc_Desk_names:FnScope ["self"] ["self"] (defScope d_Desk_names):=scM
theorem ok_Desk_names (F:Fun K "names" "Desk.names" d_Desk_names f fd) (T:Txt P w K mg aK cs aC aF aD)  : FnOk P w K mg base CX0 (k + 1) f fd ["self"] (spDkNames aC):=by
 refine F.ok sc_Desk_names (fun vs H Q E h=>?_) (fun cdv A outer s H vs Q E hr h=>?_)
 ·obtain ⟨d,r,k,kvs,ns,rfl,_⟩:=h; rfl
 obtain ⟨d,r,k,kvs,ns,rfl,hd,hs,q⟩:=h
 have hu:=hr.units0
 obtain ⟨⟨dx,e1⟩,e2⟩:=id hd
 obtain ⟨ss,hk,h64,hp,hso⟩:=id hs
 refine ⟨_,(pss_one (ps_ret (pe_callB (call_sortT K rfl) rfl T.n_sorted PyProof.Rows.boot_sorted (pa_cons (pe_fldK K (pv 0)) pa_nil)))),?_⟩
 walk_at "go"
 refine ⟨d,aC,dx,_,_,rfl,e1,T.cl_Desk,T.no_rows,rfl,?_⟩
 walk_at "go"
 refine ⟨r,kvs,ss,rfl,.inl e2,hk,h64,fun p ts hpp hpt hst=>?_⟩
 have hts:=hs.uniq hk hpt hst
 subst hts
 rw [strL_tx]
 exact q p _ hpp (same_new hpp _) upd_same
theorem sc_law_pool:FnScope ["script","k","cell"] ["script","k"] (defScope d_law_pool):=scM
theorem ok_law_pool (F:Fun K "_law_pool" "_law_pool" d_law_pool f fd) (T:Txt P w K mg aK cs aC aF aD)  : FnOk P w K mg base CX0 (k + 1) f fd ["script","k"] (spPoolD K):=by
 refine F.ok sc_law_pool (fun vs H Q E h=>?_) (fun cdv A outer s H vs Q E hr h=>?_)
 ·obtain ⟨a,ns,k,rfl,_⟩:=h; rfl
 obtain ⟨a,ns,k,rfl,hS,h0,h1,q⟩:=h
 have hu:=hr.units0
 have big:∀ (cell:Int),CPow 10 18:=fun _=>⟨by decide,by decide,by decide⟩
 refine ⟨_,(pss_cons (ps_set (i:=2) sc_law_pool.nd rfl (Or.inl rfl) pe_int) (pss_cons (ps_if (pt_cmpR op_lt (pv 1) (pe_callB (call_lenA K) rfl T.n_len PySem.boot_len (pa_cons (pv 0) pa_nil)) (nomark _)) (pss_one (ps_set (i:=2) sc_law_pool.nd rfl (Or.inl rfl) (pe_ix (ix_A K) (pv 0) (pv 1) (fun _ _=>rfl)))) pss_nil) (pss_one (ps_ret (pe_lst (pa_cons (pv 2) (pa_cons (pe_callTy call_intA rfl T.n_int PyProof.Rows.boot_int (pa_cons (pe_cmpR op_ge (pv 2) (pe_op op_pow pe_int pe_int) (nomark _)) pa_nil)) (pa_cons (pe_op op_times pe_int (pv 1)) pa_nil)))))))),?_⟩
 walk_at "go"
 refine s_lenL (.inl hS) ?_
 walk_at "go"
 refine ifd (fun c=>?_) (fun c=>?_)
 ·rw [List.length_map] at c
  obtain ⟨v,hv⟩:=atI_ints (ns:=ns) h0 c
  walk_at "go"
  refine s_ixL hS hv ?_
  walk_at "go"
  refine ⟨small (show 3 <= 1000 by decide),fun p hp=>?_⟩
  exact q p _ hp (same_new hp _) Po.new
 ·walk_at "go"
  refine ⟨small (show 3 <= 1000 by decide),fun p hp=>?_⟩
  exact q p _ hp (same_new hp _) Po.new
theorem sc_law_draw:FnScope ["pool","many","found","x"] ["pool","many"] (defScope d_law_draw):=scM
theorem ok_law_draw (F:Fun K "_law_draw" "_law_draw" d_law_draw f fd) (T:Txt P w K mg aK cs aC aF aD)  : FnOk P w K mg base CX0 (k + 1) f fd ["pool","many"] (spDraw):=by
 refine F.ok sc_law_draw (fun vs H Q E h=>?_) (fun cdv A outer s H vs Q E hr h=>?_)
 ·obtain ⟨p,m,rfl,_⟩:=h; rfl
 obtain ⟨p,m,rfl,⟨a,b,c,hp⟩,hm0,hm1,q⟩:=h
 have hu:=hr.units0
 have hS:SqL K H p [.int a,.int b,.int c]:=SqL.of hp
 refine ⟨_,(pss_cons (ps_if (pt_cmpR (op_eqA K hu) (pe_ix (ix_A K) (pv 0) pe_int (fun _ _=>rfl)) pe_int (nomark _)) (pss_cons (ps_set (i:=2) sc_law_draw.nd rfl (Or.inl rfl) (pe_op op_mod (pe_ix (ix_A K) (pv 0) pe_int (fun _ _=>rfl)) (pv 1))) (pss_cons (ps_asg (pe_op op_fdivB (pe_ix (ix_A K) (pv 0) pe_int (fun _ _=>rfl)) (pv 1)) (pg_sub (pv 0) pe_int set_list)) (pss_one (ps_ret (pv 2))))) pss_nil) (pss_cons (ps_asg (pe_op op_plus (pe_ix (ix_A K) (pv 0) pe_int (fun _ _=>rfl)) pe_int) (pg_sub (pv 0) pe_int set_list)) (pss_cons (ps_set (i:=3) sc_law_draw.nd rfl (Or.inl rfl) (pe_op op_mod (pe_op op_plus (pe_op op_mod (pe_ix (ix_A K) (pv 0) pe_int (fun _ _=>rfl)) pe_int) (pe_op op_times pe_int (pe_ix (ix_A K) (pv 0) pe_int (fun _ _=>rfl)))) pe_int)) (pss_cons (ps_set (i:=3) sc_law_draw.nd rfl (Or.inl rfl) (pe_op op_mod (pe_op op_times (pv 3) (pv 3)) pe_int)) (pss_cons (ps_set (i:=3) sc_law_draw.nd rfl (Or.inl rfl) (pe_op op_mod (pe_op op_times (pe_op op_plus (pv 3) pe_int) (pv 3)) pe_int)) (pss_one (ps_ret (pe_op op_mod (pe_op op_fdiv (pv 3) pe_int) (pv 1))))))))),?_⟩
 walk_at "go"
 refine ifd (fun hb=>?_) (fun hb=>?_)
 ·walk_at "go"
  refine s_setL hp (j:=0) rfl ?_
  walk_at "go"
  exact q _ _ (Int.emod_nonneg _ (by omega)) (Int.emod_lt_of_pos _ hm0) Po.new SameBut1.upd
 ·walk_at "go"
  refine s_setL hp (j:=2) rfl ?_
  have hS2:SqL K (upd H p (.lst [.int a,.int b,.int (c + 1)])) p [.int a,.int b,.int (c + 1)]:=SqL.of upd_same
  walk_at "go"
  exact q _ _ (Int.emod_nonneg _ (by omega)) (Int.emod_lt_of_pos _ hm0) Po.new SameBut1.upd
theorem sc_law_right_row:FnScope ["pool","k","pairs","row","left","waiting","kind"] ["pool","k","pairs"] (defScope d_law_right_row):=scM
theorem ok_law_right_row (F:Fun K "_law_right_row" "_law_right_row" d_law_right_row f fd) (T:Txt P w K mg aK cs aC aF aD) (U_law_draw:FnU P w K mg base k "_law_draw" ["pool","many"] (spDraw)):FnOk P w K mg base CX0 (k + 1) f fd ["pool","k","pairs"] (spRightD):=by
 refine F.ok sc_law_right_row (fun vs H Q E h=>?_) (fun cdv A outer s H vs Q E hr h=>?_)
 ·obtain ⟨p,k,hf,rfl,_⟩:=h; rfl
 obtain ⟨p,kk,hf,rfl,hd,hk1,hk4,hm0,hm1,q⟩:=h
 have hu:=hr.units0
 refine ⟨_,(pss_cons (ps_set (i:=3) sc_law_right_row.nd rfl (Or.inl rfl) (pe_tx (l:=[]) (by decide +kernel))) (pss_cons (ps_set (i:=4) sc_law_right_row.nd rfl (Or.inl rfl) (pv 2)) (pss_cons (ps_set (i:=5) sc_law_right_row.nd rfl (Or.inl rfl) (pe_tx (l:=[]) (by decide +kernel))) (pss_cons (ps_while PassesOwn.never (PW.pt (pw_or (pt_cmpR op_gt (pv 4) pe_int (nomark _)) (pw_or1 (pt_cmpR (op_neA K hu) (pv 5) (pe_tx (l:=[]) (by decide +kernel)) (nomark _))))) (pss_one (ps_if (PW.pt (pw_and (pt_cmpR op_gt (pv 4) pe_int (nomark _)) (pw_and1 (PW.pt (pw_or (pt_cmpR (op_eqA K hu) (pv 5) (pe_tx (l:=[]) (by decide +kernel)) (nomark _)) (pw_or1 (pt_cmpR (op_eqA K hu) (pe_fn U_law_draw hr (pa_cons (pv 0) (pa_cons pe_int pa_nil))) pe_int (nomark _)))))))) (pss_cons (ps_set (i:=6) sc_law_right_row.nd rfl (Or.inl rfl) (pe_fn U_law_draw hr (pa_cons (pv 0) (pa_cons (pv 1) pa_nil)))) (pss_cons (ps_set (i:=3) sc_law_right_row.nd rfl (Or.inl rfl) (pe_op op_plus (pv 3) (pe_ix (ix_A K) (pe_tx (l:=[40,91,123,60]) (by decide +kernel)) (pv 6) (fun _ _=>rfl)))) (pss_cons (ps_set (i:=5) sc_law_right_row.nd rfl (Or.inl rfl) (pe_op op_plus (pv 5) (pe_ix (ix_A K) (pe_tx (l:=[41,93,125,62]) (by decide +kernel)) (pv 6) (fun _ _=>rfl)))) (pss_one (ps_set (i:=4) sc_law_right_row.nd rfl (Or.inl rfl) (pe_op op_sub (pv 4) pe_int)))))) (pss_cons (ps_set (i:=3) sc_law_right_row.nd rfl (Or.inl rfl) (pe_op op_plus (pv 3) (pe_ix (ix_A K) (pv 5) (pe_un un_neg pe_int) (fun _ _=>rfl)))) (pss_one (ps_set (i:=5) sc_law_right_row.nd rfl (Or.inl rfl) (pe_slice (sl_A K) (pv 5) po_none (po_some (pe_un un_neg pe_int))))))))) (pss_one (ps_ret (pv 3))))))),?_⟩
 walk_at "go"
 refine while_of (fun σ H'=>∃ (lf:Int) (row wt:List Nat) (ki:Option V),σ = [some (.ref p),some (.int kk),some (.int hf),some (tx row),some (.int lf),some (tx wt),ki] /\
   0 <= lf/\run [] row = some wt.reverse/\(∀ c ∈ row,kin kk c)/\(∀ c ∈ wt,c ∈ cls.take kk.toNat/\c ∉ opn)/\(row.length:Int) + wt.length + 2 * lf = 2 * hf/\Po H' p/\SameBut1 p H H')
  (fun σ _=>match σ with | [_,_,_,_,some (.int lf),some (.str wt),_]=>2 * lf.toNat + wt.length | _=>0) ⟨hf,[],[],none,rfl,hm0,rfl,(fun _ z=>nomatch z),(fun _ z=>nomatch z),by simp,hd,SameBut1.refl _ _⟩ ?_
 ·rintro σ H5 ⟨lf,row,wt,ki,rfl,lf0,hrun,hkin,hwt,hsum,hp5,s5⟩
  have hrow:row.length <= 40:=by omega
  have hwl:wt.length <= 40:=by omega
  refine or_tests (c:=decide (0 < lf)) (d:=!decide (wt = [])) (fun R h=>by walk_at "go"; exact h) (fun R h=>by walk_at "go"; exact h) ?_
  refine ite2 (fun hc=>?_) (fun hc=>?_)
  ·have hwl2:wt.length = 0->wt = []:=List.length_eq_zero_iff.mp
   have hne:0 < lf\/wt ≠ []:=by simpa using hc
   refine wh_body ?_
   have step1:∀ {H6:Hp},Po H6 p->SameBut1 p H H6->0 < lf->∀ (ki':Int) (H7:Hp),Po H7 p->SameBut1 p H6 H7->0 <= ki'->ki' < kk->∀ oc,oc ∈ opn->oc ∈ opn.take kk.toNat->clo oc ∈ cls.take kk.toNat->clo oc ∉ opn ->
     WN (fun σ H'=>∃ (lf:Int) (row wt:List Nat) (ki:Option V),σ = [some (.ref p),some (.int kk),some (.int hf),some (tx row),some (.int lf),some (tx wt),ki] /\
   0 <= lf/\run [] row = some wt.reverse/\(∀ c ∈ row,kin kk c)/\(∀ c ∈ wt,c ∈ cls.take kk.toNat/\c ∉ opn)/\(row.length:Int) + wt.length + 2 * lf = 2 * hf/\Po H' p/\SameBut1 p H H') (fun σ _=>match σ with | [_,_,_,_,some (.int lf),some (.str wt),_]=>2 * lf.toNat + wt.length | _=>0) (2 * lf.toNat + wt.length) [some (.ref p),some (.int kk),some (.int hf),some (tx (row ++ [oc])),some (.int (lf - 1)),some (tx (wt ++ [clo oc])),some (.int ki')] H7:=by
    intro H6 d6 s6 hlf ki' H7 d7 s7 k0 k1 oc ho2 ho3 ho5 ho6
    refine ⟨⟨lf - 1,row ++ [oc],wt ++ [clo oc],_,rfl,by omega,?_,?_,?_,?_,d7,s6.trans s7⟩,?_⟩
    ·rw [run_snoc hrun,stp_open ho2,List.reverse_append]; rfl
    ·intro c hc
     rcases List.mem_append.mp hc with z | z
     ·exact hkin c z
     ·rw [List.mem_singleton.mp z]; exact .inl ho3
    ·intro c hc
     rcases List.mem_append.mp hc with z | z
     ·exact hwt c z
     ·rw [List.mem_singleton.mp z]; exact ⟨ho5,ho6⟩
    ·simp only [List.length_append,List.length_singleton]; omega
    ·show 2 * (lf - 1).toNat + (wt ++ [clo oc]).toArray.size < 2 * lf.toNat + wt.length
     simp only [List.size_toArray,List.length_append,List.length_singleton]; omega
   have step2:∀ {H6:Hp} (ki:Option V),Po H6 p->SameBut1 p H H6->∀ d0 wr,wt = wr ++ [d0] ->
     WN (fun σ H'=>∃ (lf:Int) (row wt:List Nat) (ki:Option V),σ = [some (.ref p),some (.int kk),some (.int hf),some (tx row),some (.int lf),some (tx wt),ki] /\
   0 <= lf/\run [] row = some wt.reverse/\(∀ c ∈ row,kin kk c)/\(∀ c ∈ wt,c ∈ cls.take kk.toNat/\c ∉ opn)/\(row.length:Int) + wt.length + 2 * lf = 2 * hf/\Po H' p/\SameBut1 p H H') (fun σ _=>match σ with | [_,_,_,_,some (.int lf),some (.str wt),_]=>2 * lf.toNat + wt.length | _=>0) (2 * lf.toNat + wt.length) [some (.ref p),some (.int kk),some (.int hf),some (tx (row ++ [d0])),some (.int lf),some (tx wr),ki] H6:=by
    intro H6 ki d6 s6 d0 wr ew
    subst ew
    obtain ⟨hd1,hd2⟩:=hwt d0 (List.mem_append_right _ List.mem_cons_self)
    rw [List.reverse_append] at hrun
    refine ⟨⟨lf,row ++ [d0],wr,_,rfl,lf0,?_,?_,fun c hc=>hwt c (List.mem_append_left _ hc),?_,d6,s6⟩,?_⟩
    ·rw [run_snoc hrun]; exact stp_close hd2 _
    ·intro c hc
     rcases List.mem_append.mp hc with z | z
     ·exact hkin c z
     ·rw [List.mem_singleton.mp z]; exact .inr hd1
    ·simp only [List.length_append,List.length_singleton] at hsum ⊢; omega
    ·show 2 * lf.toNat + wr.toArray.size < 2 * lf.toNat + (wr ++ [d0]).length
     simp only [List.size_toArray,List.length_append,List.length_singleton]; omega
   walk_at "go"
   refine ifd (fun hlf=>?_) (fun hlf=>?_)
   ·walk_at "go"
    refine ifd (fun hwe=>?_) (fun hwe=>?_)
    ·refine iteT ?_
     walk_at "go"
     refine draw_use hp5 (by omega) (by omega) (fun r1 H6 k0 k1 d6 s6=>?_)
     obtain ⟨oc,ho1,ho2,ho3,ho4,ho5,ho6⟩:=opn_at k0 k1 hk4
     walk_at "go"
     refine s_ixT (small (show 4 <= 1000 by decide)) ho1 ?_
     walk_at "go"
     refine s_ixT (small (show 4 <= 1000 by decide)) ho4 ?_
     walk_at "go"
     exact step1 hp5 s5 hlf _ H6 d6 s6 k0 k1 oc ho2 ho3 ho5 ho6
    ·walk_at "go"
     refine draw_use hp5 (by decide) (by decide) (fun r1 H6 a1 a2 d6 s6=>?_)
     walk_at "go"
     refine ifd (fun h2=>?_) (fun h2=>?_)
     ·walk_at "go"
      refine draw_use d6 (by omega) (by omega) (fun r1 H7 k0 k1 d7 s7=>?_)
      obtain ⟨oc,ho1,ho2,ho3,ho4,ho5,ho6⟩:=opn_at k0 k1 hk4
      walk_at "go"
      refine s_ixT (small (show 4 <= 1000 by decide)) ho1 ?_
      walk_at "go"
      refine s_ixT (small (show 4 <= 1000 by decide)) ho4 ?_
      walk_at "go"
      exact step1 d6 (s5.trans s6) hlf _ H7 d7 s7 k0 k1 oc ho2 ho3 ho5 ho6
     ·obtain ⟨wr,d0,ew⟩:=snoc_last hwe
      walk_at "go"
      refine s_ixT (small (by omega)) (show atI wt (-1) = some d0 by rw [ew]; exact atI_snoc wr d0) ?_
      walk_at "go"
      first | refine s_slT (small (by omega)) ?_ | skip
      rw [show cutL wt none (some (-1)) = wr by rw [ew]; exact cut_init wr d0]
      walk_at "go"
      exact step2 _ d6 (s5.trans s6) d0 wr ew
   ·have hwe:wt ≠ []:=by
     rcases hne with z | z
     ·exact absurd z hlf
     ·exact z
    obtain ⟨wr,d0,ew⟩:=snoc_last hwe
    refine ifq rfl ?_
    walk_at "go"
    refine s_ixT (small (by omega)) (show atI wt (-1) = some d0 by rw [ew]; exact atI_snoc wr d0) ?_
    walk_at "go"
    first | refine s_slT (small (by omega)) ?_ | skip
    rw [show cutL wt none (some (-1)) = wr by rw [ew]; exact cut_init wr d0]
    walk_at "go"
    exact step2 _ hp5 s5 d0 wr ew
  ·have hc':lf <= 0/\wt = []:=by simpa using hc
   obtain ⟨e1,rfl⟩:=hc'
   walk_at "go"
   exact q row H5 hrun (by simp at hsum; omega) hkin hp5 s5
theorem sc_law_signs:FnScope ["k"] ["k"] (defScope d_law_signs):=scM
theorem ok_law_signs (F:Fun K "_law_signs" "_law_signs" d_law_signs f fd) (T:Txt P w K mg aK cs aC aF aD)  : FnOk P w K mg base CX0 (k + 1) f fd ["k"] (spSignsG):=by
 refine F.ok sc_law_signs (fun vs H Q E h=>?_) (fun cdv A outer s H vs Q E hr h=>?_)
 ·obtain ⟨k,rfl,_⟩:=h; rfl
 obtain ⟨kk,rfl,k1,k4,q⟩:=h
 have hu:=hr.units0
 refine ⟨_,(pss_one (ps_ret (pe_op op_plus (pe_slice (sl_A K) (pe_tx (l:=[40,91,123,60]) (by decide +kernel)) po_none (po_some (pv 0))) (pe_slice (sl_A K) (pe_tx (l:=[41,93,125,62]) (by decide +kernel)) po_none (po_some (pv 0)))))),?_⟩
 walk_at "go"
 rw [cut_to _ (by omega),cut_to _ (by omega)]
 have e1:([40,91,123,60].take kk.toNat).length <= 4:=by rw [List.length_take]; simp; omega
 have e2:([41,93,125,62].take kk.toNat).length <= 4:=by rw [List.length_take]; simp; omega
 first | refine s_addT (small (by omega)) ?_ | skip
 walk_at "go"
 exact q
theorem sc_law_bent:FnScope ["pool","k","row","often","found","sign","at"] ["pool","k","row","often"] (defScope d_law_bent):=scM
theorem ok_law_bent (F : Fun K "_law_bent" "_law_bent" d_law_bent f fd) (T : Txt P w K mg aK cs aC aF aD) (U_law_draw : FnU P w K mg base k "_law_draw" ["pool", "many"] (spDraw)) (U_law_signs : FnU P w K mg base k "_law_signs" ["k"] (spSignsG)) : FnOk P w K mg base CX0 (k + 1) f fd ["pool", "k", "row", "often"] (spBentG) := by
 refine F.ok sc_law_bent (fun vs H Q E h => ?_) (fun cdv A outer s H vs Q E hr h => ?_)
 ·obtain ⟨p, k, row, o, rfl, _⟩ := h; rfl
 obtain ⟨p, kk, row, of', rfl, hp, k1, k4, hro, o0, o1, q⟩ := h
 have hu := hr.units0
 have hl := isRow_len hro
 refine ⟨_, (pss_cons (ps_set (i := 4) sc_law_bent.nd rfl (Or.inl rfl) (pe_tx (l := []) (by decide +kernel))) (pss_cons (ps_for PassesOwn.never rfl (pi_str (pv 2)) (pg_name (i := 5) sc_law_bent.nd rfl (Or.inl rfl)) (pss_one (ps_set (i := 4) sc_law_bent.nd rfl (Or.inl rfl) (pe_op op_plus (pv 4) (pe_ix (ix_A K) (pe_lst (pa_cons (pv 5) (pa_cons (pe_tx (l := [63]) (by decide +kernel)) pa_nil))) (pe_callTy call_intA rfl T.n_int PyProof.Rows.boot_int (pa_cons (pe_and (pe_cmpR op_gt (pv 3) pe_int (nomark _)) (pe_one (pe_cmpR (op_eqA K hu) (pe_fn U_law_draw hr (pa_cons (pv 0) (pa_cons (pv 3) pa_nil))) pe_int (nomark _)))) pa_nil)) (fun _ _ => rfl)))))) (pss_cons (ps_if (PW.pt (pw_and (pt_cmpR (op_neA K hu) (pv 4) (pe_tx (l := []) (by decide +kernel)) (nomark _)) (pw_and1 (pt_cmpR (op_eqA K hu) (pe_fn U_law_draw hr (pa_cons (pv 0) (pa_cons pe_int pa_nil))) pe_int (nomark _))))) (pss_cons (ps_set (i := 6) sc_law_bent.nd rfl (Or.inl rfl) (pe_fn U_law_draw hr (pa_cons (pv 0) (pa_cons (pe_callB (call_lenA K) rfl T.n_len PySem.boot_len (pa_cons (pv 4) pa_nil)) pa_nil)))) (pss_one (ps_set (i := 4) sc_law_bent.nd rfl (Or.inl rfl) (pe_op op_plus (pe_op op_plus (pe_slice (sl_A K) (pv 4) po_none (po_some (pv 6))) (pe_ix (ix_A K) (pe_op op_plus (pe_fn U_law_signs hr (pa_cons (pv 1) pa_nil)) (pe_tx (l := [63]) (by decide +kernel))) (pe_fn U_law_draw hr (pa_cons (pv 0) (pa_cons (pe_op op_plus (pe_op op_times pe_int (pv 1)) pe_int) pa_nil))) (fun _ _ => rfl))) (pe_slice (sl_A K) (pv 4) (po_some (pe_op op_plus (pv 6) pe_int)) po_none))))) pss_nil) (pss_cons (ps_if (pt_cmpR (op_eqA K hu) (pe_fn U_law_draw hr (pa_cons (pv 0) (pa_cons pe_int pa_nil))) pe_int (nomark _)) (pss_one (ps_set (i := 4) sc_law_bent.nd rfl (Or.inl rfl) (pe_slice (sl_A K) (pv 4) po_none (po_some (pe_fn U_law_draw hr (pa_cons (pv 0) (pa_cons (pe_op op_plus (pe_callB (call_lenA K) rfl T.n_len PySem.boot_len (pa_cons (pv 4) pa_nil)) pe_int) pa_nil))))))) pss_nil) (pss_one (ps_ret (pv 4))))))), ?_⟩
 walk_at "go"
 have hin := isRow_mem hro
 have q63 : (63 : Nat) ∈ sgn kk := List.mem_append_right _ List.mem_cons_self
 refine for_str (fun i σ H' => ∃ (f : List Nat) (o5 o6 : Option V), σ = [some (.ref p), some (.int kk), some (tx row), some (.int of'), some (tx f), o5, o6] /\ f.length = i /\ (∀ c ∈ f, c ∈ sgn kk) /\ Po H' p /\ SameBut1 p H H') ⟨[], _, _, rfl, rfl, (fun _ z => nomatch z), hp, SameBut1.refl _ _⟩ ?_ ?_
 ·rintro i c σ H1 hc ⟨f, o5, o6, rfl, hf, hfm, hp1, s1⟩
  have hi : i < row.length := (List.getElem?_eq_some_iff.mp hc).1
  have hcm := hin c (List.mem_of_getElem? hc)
  walk_at "go"
  refine ⟨small (show 2 <= 1000 by decide), fun l hl' => ?_⟩
  have t1 := same_new hl' (.lst [tx [c], tx [63]])
  have g1 := upd_same (H := H1) (a := l) (o := .lst [tx [c], tx [63]])
  have n1 := hp1.ne hl'
  have p1 := hp1.same t1
  have u1 : SameBut1 p H (upd H1 l (.lst [tx [c], tx [63]])) := s1.trans (SameBut1.of t1)
  generalize upd H1 l _ = G1 at *
  have m1 : ∀ x ∈ f ++ [c], x ∈ sgn kk := fun x hx => (List.mem_append.mp hx).elim (hfm x) fun z => by rw [List.mem_singleton.mp z]; exact hcm
  have m2 : ∀ x ∈ f ++ [63], x ∈ sgn kk := fun x hx => (List.mem_append.mp hx).elim (hfm x) fun z => by rw [List.mem_singleton.mp z]; exact q63
  have lf1 : f.length + [c].length <= 1000 := by rw [List.length_singleton]; omega
  have lf2 : f.length + [63].length <= 1000 := by rw [List.length_singleton]; omega
  walk_at "go"
  refine ifd (fun hof => ?_) (fun hof => ?_)
  ·walk_at "go"
   refine draw_use p1 (by omega) (by omega) (fun r2 H2 _ _ p2 s2 => ?_)
   have g2 := s2 _ _ g1 n1
   walk_at "go"
   by_cases hr2 : r2 = 0
   ·rw [decide_eq_true hr2]
    walk_at "go"
    refine s_ixL (SqL.of g2) (show atI [tx [c], tx [63]] (if true = true then 1 else 0) = some (tx [63]) from rfl) ?_
    refine s_addT (small lf2) ?_
    walk_at "go"
    exact ⟨f ++ [63], _, _, rfl, by simp [hf], m2, p2, u1.trans s2⟩
   ·rw [decide_eq_false hr2]
    walk_at "go"
    refine s_ixL (SqL.of g2) (show atI [tx [c], tx [63]] (if false = true then 1 else 0) = some (tx [c]) from rfl) ?_
    refine s_addT (small lf1) ?_
    walk_at "go"
    exact ⟨f ++ [c], _, _, rfl, by simp [hf], m1, p2, u1.trans s2⟩
  ·walk_at "go"
   refine s_ixL (SqL.of g1) (show atI [tx [c], tx [63]] (if false = true then 1 else 0) = some (tx [c]) from rfl) ?_
   refine s_addT (small lf1) ?_
   walk_at "go"
   exact ⟨f ++ [c], _, _, rfl, by simp [hf], m1, p1, u1⟩
 ·rintro σ H1 ⟨f, o5, o6, rfl, hf, hfm, hp1, s1⟩
  have tail : ∀ (g : List Nat) (H2 : Hp) (o6 : Option V), g.length <= row.length -> (∀ c ∈ g, c ∈ sgn kk) -> Po H2 p -> SameBut1 p H H2 ->
    (tSeq (tIfS (tTest (tOp (rEqA K) (tCall spDraw [] E0 (tCons (tVar 0) (tCons (tC (V.int 2)) tNil))) (tC (V.int 0))))
     (tAsg (tSl (rSlA K) (tVar 4) tNoPart (tPart (tCall spDraw [] E0 (tCons (tVar 0) (tCons (tOp rPlus (tCB (rLen K) (tCons (tVar 4) tNil)) (tC (V.int 1))) tNil))))) (gName 4)) tNext) (tRet (tVar 4)))
    { nx := fun x H' => Q V.non H', rt := Q } [some (.ref p), some (.int kk), some (tx row), some (.int of'), some (tx g), o5, o6] H2 := by
   intro g H2 o6 hg hgm p2 s2
   have hg40 : g.length <= 40 := by omega
   walk_at "go"
   refine draw_use p2 (by decide) (by decide) (fun r3 H3 _ _ p3 s3 => ?_)
   walk_at "go"
   refine ifd (fun h3 => ?_) (fun h3 => ?_)
   ·walk_at "go"
    refine draw_use p3 (by omega) (by omega) (fun r4 H4 r40 r41 p4 s4 => ?_)
    walk_at "go"
    rw [cut_to _ r40]
    have hz : (g.take r4.toNat).length <= g.length := by rw [List.length_take]; omega
    exact q _ H4 (by omega) (isRow_mk (by omega) fun c hc => hgm c (List.mem_of_mem_take hc)) p4 ((s2.trans s3).trans s4)
   ·walk_at "go"
    exact q _ H3 hg (isRow_mk (by omega) hgm) p3 (s2.trans s3)
  have hf40 : f.length <= 40 := by omega
  walk_at "go"
  refine ite2 (fun hne => ?_) (fun hne => ?_)
  rotate_left
  ·refine ifq rfl ?_
   exact tail f H1 o6 (by omega) hfm hp1 s1
  walk_at "go"
  refine draw_use hp1 (by decide) (by decide) (fun r2 H2 _ _ p2 s2 => ?_)
  walk_at "go"
  refine ifd (fun h2 => ?_) (fun h2 => ?_)
  rotate_left
  ·exact tail f H2 o6 (by omega) hfm p2 (s1.trans s2)
  have hne' : f ≠ [] := by simpa using hne
  have hfp : 0 < f.length := List.length_pos_iff.mpr hne'
  walk_at "go"
  refine draw_use p2 (by omega) (by omega) (fun at0 H3 a0 a1 p3 s3 => ?_)
  walk_at "go"
  refine signsG_use k1 k4 ?_
  have sl := sgb_len k1 k4
  walk_at "go"
  first | refine s_addT (small (by rw [List.length_singleton]; omega)) ?_ | skip
  walk_at "go"
  refine draw_use p3 (by omega) (by omega) (fun r4 H4 r40 r41 p4 s4 => ?_)
  obtain ⟨d, ed, hd⟩ := at_mem (l := sgb kk ++ [63]) (i := r4) r40 (by rw [List.length_append, List.length_singleton, sl]; omega)
  have hds : d ∈ sgn kk := (List.mem_append.mp hd).elim sgb_sgn fun z => by rw [List.mem_singleton.mp z]; exact q63
  walk_at "go"
  refine s_ixT (small (by rw [List.length_append, List.length_singleton]; omega)) ed ?_
  obtain ⟨at', rfl⟩ : ∃ at' : Nat, at0 = at' := ⟨at0.toNat, by omega⟩
  have ea : ((at' : Int) + 1) = ((at' + 1 : Nat) : Int) := by omega
  rw [cut_to _ (by omega), Int.toNat_natCast]
  have lt1 : (f.take at').length = at' := by rw [List.length_take]; omega
  have lt2 : (f.drop (at' + 1)).length = f.length - at' - 1 := by rw [List.length_drop]; omega
  refine s_addT (small (by rw [List.length_singleton]; omega)) ?_
  walk_at "go"
  rw [ea, cut_from]
  refine s_addT (small (by rw [List.length_append, List.length_singleton]; omega)) ?_
  refine tail (f.take at' ++ [d] ++ f.drop (at' + 1)) H4 _ (by simp only [List.length_append, List.length_singleton]; omega) (fun c hc => ?_) p4 ((s1.trans s2).trans (s3.trans s4))
  simp only [List.mem_append, List.mem_singleton] at hc
  rcases hc with (z | z) | z
  ·exact hfm c (List.mem_of_mem_take z)
  ·rw [z]; exact hds
  ·exact hfm c (List.mem_of_mem_drop z)
theorem sc_law_line:FnScope ["pool","k","most","way","signs","half","pairs"] ["pool","k","most"] (defScope d_law_line):=scM
theorem ok_law_line (F : Fun K "_law_line" "_law_line" d_law_line f fd) (T : Txt P w K mg aK cs aC aF aD) (U_law_draw : FnU P w K mg base k "_law_draw" ["pool", "many"] (spDraw)) (U_law_bent : FnU P w K mg base k "_law_bent" ["pool", "k", "row", "often"] (spBentG)) (U_law_right_row : FnU P w K mg base k "_law_right_row" ["pool", "k", "pairs"] (spRightD)) (U_law_signs : FnU P w K mg base k "_law_signs" ["k"] (spSignsG)) : FnOk P w K mg base CX0 (k + 1) f fd ["pool", "k", "most"] (spLineG) := by
  refine F.ok sc_law_line (fun vs H Q E h => ?_) (fun cdv A outer s H vs Q E hr h => ?_)
  · obtain ⟨p, k, m, rfl, _⟩ := h; rfl
  obtain ⟨p, kk, most, rfl, hp, k1, k4, m1, m40, q⟩ := h
  have hu := hr.units0
  have q63 : (63 : Nat) ∈ sgn kk := List.mem_append_right _ List.mem_cons_self
  refine ⟨_, (pss_cons (ps_set (i := 3) sc_law_line.nd rfl (Or.inl rfl) (pe_fn U_law_draw hr (pa_cons (pv 0) (pa_cons pe_int pa_nil))))  (pss_cons (ps_if (pt_cmpR (op_eqA K hu) (pv 3) pe_int (nomark _))   (pss_cons (ps_set (i := 4) sc_law_line.nd rfl (Or.inr rfl) (pe_op op_plus (pe_fn U_law_signs hr (pa_cons (pv 1) pa_nil)) (pe_tx (l := [63, 63, 63]) (by decide +kernel))))  (pss_one (ps_ret (pe_bmK K PySem.F.plainAttrs_str PySem.F.slot_str_join PySem.F.type_str_join (mt_join K) (pe_tx (l := []) (by decide +kernel)) (pa_cons (pe_comp (own := ["sign"]) (sel := [4, 0, 1]) (compOk_of (osc := (defScope d_law_line)) (N := ["pool", "k", "most", "way", "signs", "half", "pairs"]) (by decide +kernel)) rfl (pi_range1 rfl T.n_range (pa_cons (pe_fn U_law_draw hr (pa_cons (pv 0) (pa_cons (pe_op op_plus (pv 2) pe_int) pa_nil))) pa_nil)) (fun _ _ _ _ _ => (pg_name (i := 0) (show (["sign", "signs", "pool", "k"] : List Str).Nodup from by decide +kernel) rfl (Or.inl rfl))) (gk_name (by decide)) (fun _ _ _ _ _ => pif_nil) (fun _ _ _ _ _ => (pe_ix (ix_A K) (pv 1) (pe_fn U_law_draw hr (pa_cons (pv 2) (pa_cons (pe_op op_plus (pe_op op_times pe_int (pv 3)) pe_int) pa_nil))) (fun _ _ => rfl)))) pa_nil)))))   pss_nil)  (pss_cons (ps_if (pt_cmpR (op_eqA K hu) (pv 3) pe_int (nomark _))   (pss_one (ps_ret (pe_op op_times (pe_tx (l := [63]) (by decide +kernel)) (pe_fn U_law_draw hr (pa_cons (pv 0) (pa_cons (pe_op op_plus (pv 2) pe_int) pa_nil))))))   pss_nil)  (pss_cons (ps_set (i := 5) sc_law_line.nd rfl (Or.inl rfl) (pe_op op_fdiv (pv 2) pe_int))  (pss_cons (ps_set (i := 6) sc_law_line.nd rfl (Or.inl rfl) (pe_ix (ix_A K) (pe_lst (pa_cons (pe_fn U_law_draw hr (pa_cons (pv 0) (pa_cons (pe_op op_plus (pv 5) pe_int) pa_nil))) (pa_cons (pe_fn U_law_draw hr (pa_cons (pv 0) (pa_cons (pe_callB (call_minA rfl) rfl T.n_min PyProof.Rows.boot_min (pa_cons pe_int (pa_cons (pe_op op_plus (pv 5) pe_int) pa_nil))) pa_nil))) (pa_cons (pv 5) pa_nil)))) (pe_fn U_law_draw hr (pa_cons (pv 0) (pa_cons pe_int pa_nil))) (fun _ _ => rfl)))  (pss_one (ps_ret (pe_fn U_law_bent hr (pa_cons (pv 0) (pa_cons (pv 1) (pa_cons (pe_fn U_law_right_row hr (pa_cons (pv 0) (pa_cons (pv 1) (pa_cons (pv 6) pa_nil)))) (pa_cons (pe_ix (ix_A K) (pe_lst (pa_cons pe_int (pa_cons pe_int (pa_cons pe_int (pa_cons pe_int (pa_cons pe_int (pa_cons pe_int pa_nil))))))) (pe_fn U_law_draw hr (pa_cons (pv 0) (pa_cons pe_int pa_nil))) (fun _ _ => rfl)) pa_nil)))))))))))), ?_⟩
  walk_at "go"
  refine draw_use hp (by decide) (by decide) (fun way H1 w0 w1 p1 s1 => ?_)
  walk_at "go"
  refine ifd (fun hw => ?_) (fun hw => ?_)
  · walk_at "go"
    refine signsG_use k1 k4 ?_
    have sl := sgb_len k1 k4
    walk_at "go"
    first | refine s_addT (small (by simp only [List.length_cons, List.length_nil]; omega)) ?_ | skip
    walk_at "go"
    refine draw_use p1 (by omega) (by omega) (fun n H2 n0 n1 p2 s2 => ?_)
    refine ⟨n, rfl, by omega, by omega, ?_⟩
    have sg : ∀ c ∈ sgb kk ++ [63, 63, 63], c ∈ sgn kk := fun c hc => (List.mem_append.mp hc).elim sgb_sgn fun z => by
      simp only [List.mem_cons, List.not_mem_nil, or_false, or_self] at z
      rw [z]; exact q63
    have sl3 : (sgb kk ++ [63, 63, 63]).length = (2 * kk).toNat + 3 := by rw [List.length_append, sl]; rfl
    generalize sgb kk ++ [63, 63, 63] = sg' at sg sl3 ⊢
    refine comp_rng (n := n.toNat) (small (by omega)) (fun D j ys H' => ∃ cs : List Nat, ys = (cs.map fun c => [c]).map tx /\ cs.length = j /\ (∀ c ∈ cs, c ∈ sgn kk) /\ D ≠ p /\ Po H' p /\ SameBut1 p H H') (fun D hD => ⟨[], rfl, rfl, (fun _ z => nomatch z), p2.ne hD, p2.same (same_new hD _), put1 (s1.trans s2) (by
      cases e : H D with
      | none => rfl
      | some o =>
        have := (s1.trans s2) _ _ e (p2.ne hD)
        rw [hD] at this; cases this)⟩) (fun D ys H3 hD hy ⟨cs, ey, hcl, hcm, hDp, p3, s3⟩ => ?_) ?_
    · subst ey
      walk_at "go"
      refine s_join (SqL.of hy) (by rw [flat_one, List.length_map]; omega) ?_
      rw [flat_one]
      exact q cs H3 (by omega) (isRow_mk (by omega) hcm) p3 s3
    · rintro D j ys H3 hD hj hy hl ⟨cs, rfl, hcl, hcm, hDp, p3, s3⟩
      walk_at "go"
      refine iteT ?_
      walk_at "go"
      refine draw_use p3 (by omega) (by omega) (fun r4 H4 r40 r41 p4 s4 => ?_)
      obtain ⟨d, ed, hd⟩ := at_mem (l := sg') (i := r4) r40 (by rw [sl3]; omega)
      walk_at "go"
      refine s_ixT (small (by rw [sl3]; omega)) ed ?_
      refine comp_next hj (small (by omega)) (s4 _ _ hy hDp) hl ⟨cs ++ [d], by simp, by simp [hcl], fun c hc => (List.mem_append.mp hc).elim (hcm c) fun z => by rw [List.mem_singleton.mp z]; exact sg d hd, hDp, ?_, fun b o z zn => ?_⟩
      · obtain ⟨a, b, c, e⟩ := p4
        exact ⟨a, b, c, by rw [upd_ne (Ne.symm hDp)]; exact e⟩
      · have hbD : b ≠ D := fun e => by
          have := (s1.trans s2) _ _ z zn
          rw [e, hD] at this; cases this
        rw [upd_ne hbD]
        exact s4 b o (s3 b o z zn) zn
  walk_at "go"
  refine ifd (fun hw1 => ?_) (fun hw1 => ?_)
  · walk_at "go"
    refine draw_use p1 (by omega) (by omega) (fun n H2 n0 n1 p2 s2 => ?_)
    walk_at "go"
    refine s_mulT n0 (by omega) (by decide) ?_
    walk_at "go"
    rw [rep_tx]
    exact q _ H2 (by rw [List.length_replicate]; omega) (isRow_unk (by omega)) p2 (s1.trans s2)
  walk_at "go"
  have hh0 : 0 <= most / 2 := by omega
  have hh1 : most / 2 <= 20 := by omega
  have hh2 : 2 * (most / 2) <= most := by omega
  generalize most / 2 = half at hh0 hh1 hh2 ⊢
  refine draw_use p1 (by omega) (by omega) (fun r2 H2 r20 r21 p2 s2 => ?_)
  walk_at "go"
  obtain ⟨mm, emm, mm1, mm2, mm3⟩ : ∃ mm : Int, (if half + 1 < 5 then half + 1 else 5) = mm /\ 1 <= mm /\ mm <= half + 1 /\ mm <= 5 := ⟨_, rfl, by split <;> omega, by split <;> omega, by split <;> omega⟩
  try rw [emm]
  refine draw_use p2 (by omega) (by omega) (fun r3 H3 r30 r31 p3 s3 => ?_)
  walk_at "go"
  refine ⟨small (show 3 <= 1000 by decide), fun l hl => ?_⟩
  have t4 := same_new hl (.lst [.int r2, .int r3, .int half])
  have g4 := upd_same (H := H3) (a := l) (o := .lst [.int r2, .int r3, .int half])
  have n4 := p3.ne hl
  have p4 := p3.same t4
  have u4 : SameBut1 p H (upd H3 l (.lst [.int r2, .int r3, .int half])) := ((s1.trans s2).trans s3).trans (SameBut1.of t4)
  generalize upd H3 l _ = G4 at *
  walk_at "go"
  refine draw_use p4 (by decide) (by decide) (fun r5 H5 r50 r51 p5 s5 => ?_)
  obtain ⟨pr, epr, pr0, pr1⟩ : ∃ pr : Int, atI [V.int r2, V.int r3, V.int half] r5 = some (.int pr) /\ 0 <= pr /\ pr <= half := by
    obtain ⟨v, e, h⟩ := at3 (V.int r2) (V.int r3) (V.int half) r50 r51
    rcases h with rfl | rfl | rfl
    · exact ⟨r2, e, by omega, by omega⟩
    · exact ⟨r3, e, by omega, by omega⟩
    · exact ⟨half, e, by omega, by omega⟩
  walk_at "go"
  refine s_ixL (SqL.of (s5 _ _ g4 n4)) epr ?_
  walk_at "go"
  refine rightD_use p5 k1 k4 pr0 (by omega) (fun row H6 hR hrl hkin p6 s6 => ?_)
  have hro : isRow kk row = true := isRow_of (kk := kk) (by omega) (by omega) hkin
  walk_at "go"
  refine ⟨small (show 6 <= 1000 by decide), fun l7 hl7 => ?_⟩
  have t7 := same_new hl7 (.lst [.int 0, .int 2, .int 3, .int 5, .int 9, .int 1])
  have g7 := upd_same (H := H6) (a := l7) (o := .lst [.int 0, .int 2, .int 3, .int 5, .int 9, .int 1])
  have n7 := p6.ne hl7
  have p7 := p6.same t7
  have u7 : SameBut1 p H (upd H6 l7 (.lst [.int 0, .int 2, .int 3, .int 5, .int 9, .int 1])) := (u4.trans (s5.trans s6)).trans (SameBut1.of t7)
  generalize upd H6 l7 _ = G7 at *
  walk_at "go"
  refine draw_use p7 (by decide) (by decide) (fun r8 H8 r80 r81 p8 s8 => ?_)
  obtain ⟨of', eof, of0, of1⟩ : ∃ o : Int, atI [V.int 0, V.int 2, V.int 3, V.int 5, V.int 9, V.int 1] r8 = some (.int o) /\ 0 <= o /\ o <= 1000 := by
    have : r8 = 0 \/ r8 = 1 \/ r8 = 2 \/ r8 = 3 \/ r8 = 4 \/ r8 = 5 := by omega
    rcases this with rfl | rfl | rfl | rfl | rfl | rfl
    · exact ⟨0, rfl, by decide, by decide⟩
    · exact ⟨2, rfl, by decide, by decide⟩
    · exact ⟨3, rfl, by decide, by decide⟩
    · exact ⟨5, rfl, by decide, by decide⟩
    · exact ⟨9, rfl, by decide, by decide⟩
    · exact ⟨1, rfl, by decide, by decide⟩
  walk_at "go"
  refine s_ixL (SqL.of (s8 _ _ g7 n7)) eof ?_
  walk_at "go"
  refine bentG_use p8 k1 k4 hro of0 of1 (fun row' H9 hl9 hro9 p9 s9 => ?_)
  exact q row' H9 (by omega) hro9 p9 (u7.trans (s8.trans s9))
theorem sc_law_said:FnScope ["desk","row","caught","found","e","kinds"] ["desk","row"] (defScope d_law_said):=scM
theorem ok_law_said (F:Fun K "_law_said" "_law_said" d_law_said f fd) (T:Txt P w K mg aK cs aC aF aD) (U_Desk_say:MeUE P w K mg base k aC "say" ["self","row"] (spSay cs aC)):FnOk P w K mg base CX0 (k + 1) f fd ["desk","row"] (spSaid cs aC):=by
 refine F.ok sc_law_said (fun vs H Q E h=>?_) (fun cdv A outer s H vs Q E hr h=>?_)
 ·obtain ⟨d,r,kk,kvs,l,rfl,_⟩:=h; rfl
 obtain ⟨d,r,kk,kvs,l,rfl,hd,h⟩:=h
 have hu:=hr.units0
 obtain ⟨⟨dx,e1⟩,e2⟩:=id hd
 have facts:∀ C nm,Cap cs C nm->∃ (b1 b2 b3 b4 b5 b6 b7:Bool) (j:Nat) (wd:List Nat),ECls K C/\PySem.W.mroIn K C (.ref cs.RowError) = some true/\PySem.W.kitOne K (.ref C) (.ref cs.NoRow) = some b1/\PySem.W.kitOne K (.ref C) (.ref cs.NoName) = some b2/\PySem.W.kitOne K (.ref C) (.ref cs.NoKinds) = some b3/\PySem.W.kitOne K (.ref C) (.ref cs.NoLine) = some b4/\PySem.W.kitOne K (.ref C) (.ref cs.NoNumber) = some b5/\PySem.W.kitOne K (.ref C) (.ref cs.NotRight) = some b6/\PySem.W.kitOne K (.ref C) (.ref cs.NoFilling) = some b7/\PySem.W.kitAny K (.ref C) ([cs.NoPlace,cs.NoTree,cs.NoWeights,cs.TooMany].map Value.ref) = some false/\PySem.W.kitOne K (.ref C) (.type "ValueError") = some true/\[b1,b2,b3,b4,b5,b6,b7].count true = 1/\[b1,b2,b3,b4,b5,b6,b7][j]? = some true/\(∀ m,m < j->[b1,b2,b3,b4,b5,b6,b7][m]? ≠ some true)/\atI [tx [78,111,82,111,119],tx [78,111,78,97,109,101],tx [78,111,75,105,110,100,115],tx [78,111,76,105,110,101],tx [78,111,78,117,109,98,101,114],tx [78,111,116,82,105,103,104,116],tx [78,111,70,105,108,108,105,110,103]] (j:Int) = some (tx wd)/\nm = 9 :: wd/\wd.length <= 10:=by
  intro C nm hC
  cases hC
  ·exact ⟨false,true,false,false,false,false,false,1,[78,111,78,97,109,101],T.e_NoName,T.m_NoName,T.k_NoName_NoRow,T.k_NoName_NoName,T.k_NoName_NoKinds,T.k_NoName_NoLine,T.k_NoName_NoNumber,T.k_NoName_NotRight,T.k_NoName_NoFilling,(by simp only [List.map_cons,List.map_nil,PySem.W.kitAny,T.k_NoName_NoPlace,T.k_NoName_NoTree,T.k_NoName_NoWeights,T.k_NoName_TooMany]),T.v_NoName,rfl,rfl,(by decide),rfl,rfl,by decide⟩
  ·exact ⟨false,false,true,false,false,false,false,2,[78,111,75,105,110,100,115],T.e_NoKinds,T.m_NoKinds,T.k_NoKinds_NoRow,T.k_NoKinds_NoName,T.k_NoKinds_NoKinds,T.k_NoKinds_NoLine,T.k_NoKinds_NoNumber,T.k_NoKinds_NotRight,T.k_NoKinds_NoFilling,(by simp only [List.map_cons,List.map_nil,PySem.W.kitAny,T.k_NoKinds_NoPlace,T.k_NoKinds_NoTree,T.k_NoKinds_NoWeights,T.k_NoKinds_TooMany]),T.v_NoKinds,rfl,rfl,(by decide),rfl,rfl,by decide⟩
  ·exact ⟨false,false,false,true,false,false,false,3,[78,111,76,105,110,101],T.e_NoLine,T.m_NoLine,T.k_NoLine_NoRow,T.k_NoLine_NoName,T.k_NoLine_NoKinds,T.k_NoLine_NoLine,T.k_NoLine_NoNumber,T.k_NoLine_NotRight,T.k_NoLine_NoFilling,(by simp only [List.map_cons,List.map_nil,PySem.W.kitAny,T.k_NoLine_NoPlace,T.k_NoLine_NoTree,T.k_NoLine_NoWeights,T.k_NoLine_TooMany]),T.v_NoLine,rfl,rfl,(by decide),rfl,rfl,by decide⟩
 refine ⟨_,(pss_cons (ps_set (i:=2) sc_law_said.nd rfl (Or.inl rfl) pe_non) (pss_cons (ps_set (i:=3) sc_law_said.nd rfl (Or.inl rfl) (pe_tx (l:=[]) (by decide +kernel))) (pss_cons (ps_try (i:=4) T.e_RowError T.c_RowError ⟨rfl,rfl,rfl⟩ sc_law_said.nd rfl rfl (fun pn xe R hx=>(pss_one (ps_set (i:=3) sc_law_said.nd rfl (Or.inl rfl) (pe_mthE T.cl_Desk U_Desk_say hr hx (pv 0) (pa_cons (pv 1) pa_nil))))) (fun ev=>(pss_one (ps_set (i:=2) sc_law_said.nd rfl (Or.inl rfl) (pv 4))))) (pss_cons (ps_if (pt_cmpR op_isA (pv 2) pe_non (nomark _)) (pss_one (ps_ret (pe_ix (ix_A K) (pe_lst (pa_cons (pv 3) (pa_cons (pe_tx (l:=[111,100,100]) (by decide +kernel)) pa_nil))) (pe_callTy call_intA rfl T.n_int PyProof.Rows.boot_int (pa_cons (pe_or (pe_not (pe_callB (call_isiA K) rfl T.n_isinstance PyProof.Rows.boot_isinstance (pa_cons (pv 3) (pa_cons (pe_ty T.n_str PyProof.Rows.boot_str) pa_nil)))) (pe_one (pe_cmpR (op_eqA K hu) (pe_slice (sl_A K) (pv 3) po_none (po_some pe_int)) (pe_tx (l:=[9]) (by decide +kernel)) (nomark _)))) pa_nil)) (fun _ _=>rfl)))) pss_nil) (pss_cons (ps_set (i:=5) sc_law_said.nd rfl (Or.inl rfl) (pe_lst (pa_cons (pe_callB (call_isiE K) rfl T.n_isinstance PyProof.Rows.boot_isinstance (pa_cons (pv 2) (pa_cons (pe_cl T.c_NoRow) pa_nil))) (pa_cons (pe_callB (call_isiE K) rfl T.n_isinstance PyProof.Rows.boot_isinstance (pa_cons (pv 2) (pa_cons (pe_cl T.c_NoName) pa_nil))) (pa_cons (pe_callB (call_isiE K) rfl T.n_isinstance PyProof.Rows.boot_isinstance (pa_cons (pv 2) (pa_cons (pe_cl T.c_NoKinds) pa_nil))) pa_nil))))) (pss_cons (ps_set (i:=5) sc_law_said.nd rfl (Or.inl rfl) (pe_op op_plus (pv 5) (pe_lst (pa_cons (pe_callB (call_isiE K) rfl T.n_isinstance PyProof.Rows.boot_isinstance (pa_cons (pv 2) (pa_cons (pe_cl T.c_NoLine) pa_nil))) (pa_cons (pe_callB (call_isiE K) rfl T.n_isinstance PyProof.Rows.boot_isinstance (pa_cons (pv 2) (pa_cons (pe_cl T.c_NoNumber) pa_nil))) (pa_cons (pe_callB (call_isiE K) rfl T.n_isinstance PyProof.Rows.boot_isinstance (pa_cons (pv 2) (pa_cons (pe_cl T.c_NotRight) pa_nil))) pa_nil)))))) (pss_cons (ps_expr (pe_bmK K PySem.F.plainAttrs_list PySem.F.slot_list_append PySem.F.type_list_append mt_append (pv 5) (pa_cons (pe_callB (call_isiE K) rfl T.n_isinstance PyProof.Rows.boot_isinstance (pa_cons (pv 2) (pa_cons (pe_cl T.c_NoFilling) pa_nil))) pa_nil))) (pss_cons (ps_if (PW.pt (pw_or (pt_tru K (pe_callB (call_isiE K) rfl T.n_isinstance PyProof.Rows.boot_isinstance (pa_cons (pv 2) (pa_cons (pe_tup (pa_cons (pe_cl T.c_NoPlace) (pa_cons (pe_cl T.c_NoTree) (pa_cons (pe_cl T.c_NoWeights) (pa_cons (pe_cl T.c_TooMany) pa_nil))))) pa_nil)))) (pw_or1 (pt_not (pt_tru K (pe_callB (call_isiE K) rfl T.n_isinstance PyProof.Rows.boot_isinstance (pa_cons (pv 2) (pa_cons (pe_ty T.n_ValueError boot_ValueError) pa_nil)))))))) (pss_one (ps_ret (pe_tx (l:=[111,100,100]) (by decide +kernel)))) pss_nil) (pss_cons (ps_if (pt_cmpR (op_neA K hu) (pe_bmK K PySem.F.plainAttrs_list PySem.F.slot_list_count PySem.F.type_list_count mt_countB (pv 5) (pa_cons pe_bl pa_nil)) pe_int (nomark _)) (pss_one (ps_ret (pe_tx (l:=[111,100,100]) (by decide +kernel)))) pss_nil) (pss_one (ps_ret (pe_op op_plus (pe_tx (l:=[9]) (by decide +kernel)) (pe_ix (ix_A K) (pe_lst (pa_cons (pe_tx (l:=[78,111,82,111,119]) (by decide +kernel)) (pa_cons (pe_tx (l:=[78,111,78,97,109,101]) (by decide +kernel)) (pa_cons (pe_tx (l:=[78,111,75,105,110,100,115]) (by decide +kernel)) (pa_cons (pe_tx (l:=[78,111,76,105,110,101]) (by decide +kernel)) (pa_cons (pe_tx (l:=[78,111,78,117,109,98,101,114]) (by decide +kernel)) (pa_cons (pe_tx (l:=[78,111,116,82,105,103,104,116]) (by decide +kernel)) (pa_cons (pe_tx (l:=[78,111,70,105,108,108,105,110,103]) (by decide +kernel)) pa_nil)))))))) (pe_bmK K PySem.F.plainAttrs_list PySem.F.slot_list_index PySem.F.type_list_index mt_indexB (pv 5) (pa_cons pe_bl pa_nil)) (fun _ _=>rfl)))))))))))))),?_⟩
 walk_at "go"
 refine ⟨d,dx,_,rfl,e1,rfl,?_⟩
 walk_at "go"
 refine h _ _ (fun b H1 hb h9 q=>?_) (fun C nm hC q=>?_)
 ·walk_at "go"
  refine ifp rfl ?_
  walk_at "go"
  refine ⟨small (show 2 <= 1000 by decide),fun y hy=>?_⟩
  walk_at "go"
  refine s_isi (b:=true) (TyOf.str _) (by with_unfolding_all rfl) ?_
  walk_at "go"
  clear facts
  refine ifq rfl ?_
  walk_at "go"
  have hne:¬ (cutL b none (some 1) = [9]):=fun z=>by
   rw [cut_to _ (by decide)] at z
   cases b with
   | nil=>cases z
   | cons x r=>exact h9 (by rw [(List.cons.inj z).1]; rfl)
  rw [decide_eq_false hne]
  walk_at "go"
  refine s_ixL (SqL.of upd_same) (show atI [tx b,tx [111,100,100]] (if false = true then 1 else 0) = some (tx b) from rfl) ?_
  exact q _ (same_new hy _)
 ·obtain ⟨b1,b2,b3,b4,b5,b6,b7,j,wd,Z,mr,k1,k2,k3,k4,k5,k6,k7,ka,kv,hc,hj,hm,hw,rfl,hwl⟩:=facts C nm hC
  refine ref_of fun y G sG hy=>⟨mr,fun ob=>?_⟩
  have s1:Same H (upd G y (excO ob y C)):=same_exc sG hy
  have hx:(upd G y (excO ob y C)) y = some (excO ob y C):=upd_same
  generalize upd G y _ = G1 at *
  walk_at "go"
  clear facts h
  refine s_endsOff ?_
  walk_at "go"
  refine ifq rfl ?_
  walk_at "go"
  refine s_isiC hx Z k1 ?_
  walk_at "go"
  refine s_isiC hx Z k2 ?_
  walk_at "go"
  refine s_isiC hx Z k3 ?_
  walk_at "go"
  refine ⟨small (show 3 <= 1000 by decide),fun l1 hl1=>?_⟩
  have t1:=same_new hl1 (.lst [.bl b1,.bl b2,.bl b3])
  have g1:=upd_same (H:=G1) (a:=l1) (o:=.lst [.bl b1,.bl b2,.bl b3])
  generalize upd G1 l1 _ = G2 at *
  have hx2:=t1 _ _ hx
  walk_at "go"
  refine s_isiC hx2 Z k4 ?_
  walk_at "go"
  refine s_isiC hx2 Z k5 ?_
  walk_at "go"
  refine s_isiC hx2 Z k6 ?_
  walk_at "go"
  refine ⟨small (show 3 <= 1000 by decide),fun l2 hl2=>?_⟩
  have t2:=same_new hl2 (.lst [.bl b4,.bl b5,.bl b6])
  have g2:=upd_same (H:=G2) (a:=l2) (o:=.lst [.bl b4,.bl b5,.bl b6])
  generalize upd G2 l2 _ = G3 at *
  walk_at "go"
  refine s_addL (t2 _ _ g1) g2 (small (show 6 <= 1000 by decide)) (fun l3 hl3=>?_)
  have t3:=same_new hl3 (.lst ([.bl b1,.bl b2,.bl b3] ++ [.bl b4,.bl b5,.bl b6]))
  have g3:(upd G3 l3 (.lst ([.bl b1,.bl b2,.bl b3] ++ [.bl b4,.bl b5,.bl b6]))) l3 = some (.lst [.bl b1,.bl b2,.bl b3,.bl b4,.bl b5,.bl b6]):=upd_same
  have n3:H l3 = none:=s1.free (t1.free (t2.free hl3))
  have s3:Same H (upd G3 l3 (.lst ([.bl b1,.bl b2,.bl b3] ++ [.bl b4,.bl b5,.bl b6]))):=((s1.trans t1).trans t2).trans t3
  have hx3:=t3 _ _ (t2 _ _ hx2)
  generalize upd G3 l3 _ = G4 at *
  have nxl:y ≠ l3:=ne_of_none (t2 _ _ hx2) hl3
  clear t1 t2 t3 g1 g2 hx hx2 hl1 hl2 hl3 s1 sG
  walk_at "go"
  refine ⟨SqL.ty (SqL.of g3),?_⟩
  walk_at "go"
  refine s_isiC hx3 Z k7 ?_
  walk_at "go"
  refine ⟨l3,_,_,rfl,rfl,g3,small1000 (show 6 <= 1000 by decide),?_⟩
  have t4:Same H (upd G4 l3 (.lst ([.bl b1,.bl b2,.bl b3,.bl b4,.bl b5,.bl b6] ++ [.bl b7]))):=fun b o z=>by rw [upd_ne (ne_of_none z n3)]; exact s3 b o z
  have g4:(upd G4 l3 (.lst ([.bl b1,.bl b2,.bl b3,.bl b4,.bl b5,.bl b6] ++ [.bl b7]))) l3 = some (.lst ([b1,b2,b3,b4,b5,b6,b7].map V.bl)):=upd_same
  have hx4:(upd G4 l3 (.lst ([.bl b1,.bl b2,.bl b3,.bl b4,.bl b5,.bl b6] ++ [.bl b7]))) y = some (excO ob y C):=by rw [upd_ne nxl]; exact hx3
  generalize upd G4 l3 _ = G5 at *
  clear s3 g3 hx3
  walk_at "go"
  refine ⟨small (show 4 <= 1000 by decide),fun tp htp=>?_⟩
  have t5:=same_new htp (.tup ([cs.NoPlace,cs.NoTree,cs.NoWeights,cs.TooMany].map V.ref))
  walk_at "go"
  refine s_isiU (cs:=[cs.NoPlace,cs.NoTree,cs.NoWeights,cs.TooMany]) (t5 _ _ hx4) Z upd_same ka ?_
  walk_at "go"
  refine ifq rfl ?_
  walk_at "go"
  refine s_isiT (t5 _ _ hx4) Z kv ?_
  walk_at "go"
  refine ifq rfl ?_
  walk_at "go"
  refine ⟨SqL.ty (SqL.of (t5 _ _ g4)),?_⟩
  walk_at "go"
  refine ⟨l3,_,_,rfl,rfl,t5 _ _ g4,?_⟩
  rw [hc]
  walk_at "go"
  refine ifq rfl ?_
  walk_at "go"
  refine ⟨small (show 7 <= 1000 by decide),fun l6 hl6=>?_⟩
  have t6:=same_new hl6 (.lst [tx [78,111,82,111,119],tx [78,111,78,97,109,101],tx [78,111,75,105,110,100,115],tx [78,111,76,105,110,101],tx [78,111,78,117,109,98,101,114],tx [78,111,116,82,105,103,104,116],tx [78,111,70,105,108,108,105,110,103]])
  walk_at "go"
  refine ⟨SqL.ty (SqL.of (t6 _ _ (t5 _ _ g4))),?_⟩
  walk_at "go"
  refine ⟨l3,_,_,j,rfl,rfl,t6 _ _ (t5 _ _ g4),hj,hm,by simp,?_⟩
  refine s_ixL (SqL.of upd_same) hw ?_
  refine s_addT (small (by simp only [List.length_cons,List.length_nil]; omega)) ?_
  exact q _ ((t4.trans t5).trans t6)
theorem sc_law_names:FnScope ["pool","letters","word","at","letter","more","whole","found","one"] ["pool"] (defScope d_law_names):=scM
theorem ok_law_names (F:Fun K "_law_names" "_law_names" d_law_names f fd) (T:Txt P w K mg aK cs aC aF aD) (U_law_draw:FnU P w K mg base k "_law_draw" ["pool","many"] (spDraw)):FnOk P w K mg base CX0 (k + 1) f fd ["pool"] (spNames46):=by
 refine F.ok sc_law_names (fun vs H Q E h=>?_) (fun cdv A outer s H vs Q E hr h=>?_)
 ·obtain ⟨p,rfl,_⟩:=h; rfl
 obtain ⟨p,rfl,po,q⟩:=h
 have hu:=hr.units0
 refine ⟨_,(pss_cons (ps_set (i:=1) sc_law_names.nd rfl (Or.inr rfl) (pe_tx (l:=ltr) (by decide +kernel)))  (pss_cons (ps_set (i:=2) sc_law_names.nd rfl (Or.inl rfl) (pe_bmK K PySem.F.plainAttrs_str PySem.F.slot_str_join PySem.F.type_str_join (mt_join K) (pe_tx (l:=[]) (by decide +kernel)) (pa_cons (pe_comp (own:=["k"]) (sel:=[1,0]) (compOk_of (osc:=(defScope d_law_names)) (N:=["pool","letters","word","at","letter","more","whole","found","one"]) (by decide +kernel)) rfl (pi_range1 rfl T.n_range (pa_cons (pe_op op_plus pe_int (pe_fn U_law_draw hr (pa_cons (pv 0) (pa_cons pe_int pa_nil)))) pa_nil)) (fun _ _ _ _ _=>(pg_name (i:=0) (show (["k","letters","pool"]:List Str).Nodup from by decide +kernel) rfl (Or.inl rfl))) (gk_name (by decide)) (fun _ _ _ _ _=>pif_nil) (fun _ _ _ _ _=>(pe_ix (ix_A K) (pv 1) (pe_fn U_law_draw hr (pa_cons (pv 2) (pa_cons pe_int pa_nil))) (fun _ _=>rfl)))) pa_nil)))  (pss_cons (ps_set (i:=3) sc_law_names.nd rfl (Or.inl rfl) (pe_fn U_law_draw hr (pa_cons (pv 0) (pa_cons (pe_callB (call_lenA K) rfl T.n_len PySem.boot_len (pa_cons (pv 2) pa_nil)) pa_nil))))  (pss_cons (ps_set (i:=4) sc_law_names.nd rfl (Or.inl rfl) (pe_ix (ix_A K) (pv 1) (pe_fn U_law_draw hr (pa_cons (pv 0) (pa_cons pe_int pa_nil))) (fun _ _=>rfl)))  (pss_cons (ps_set (i:=5) sc_law_names.nd rfl (Or.inl rfl) (pe_lst (pa_cons (pv 2) (pa_cons (pe_op op_plus (pv 2) (pv 4)) (pa_cons (pe_op op_plus (pv 4) (pv 2)) (pa_cons (pe_op op_plus (pe_op op_plus (pe_slice (sl_A K) (pv 2) po_none (po_some (pv 3))) (pv 4)) (pe_slice (sl_A K) (pv 2) (po_some (pe_op op_plus (pv 3) pe_int)) po_none)) pa_nil))))))  (pss_cons (ps_expr (pe_bmK K PySem.F.plainAttrs_list PySem.F.slot_list_append PySem.F.type_list_append mt_append (pv 5) (pa_cons (pe_ix (ix_A K) (pe_lst (pa_cons (pe_tx (l:=[110,111,110,101]) (by decide +kernel)) (pa_cons (pe_tx (l:=[114,111,119]) (by decide +kernel)) (pa_cons (pe_tx (l:=[110,97,109,101,115]) (by decide +kernel)) (pa_cons (pe_tx (l:=[115,104,111,119]) (by decide +kernel)) (pa_cons (pe_tx (l:=[116,117,114,110]) (by decide +kernel)) (pa_cons (pe_tx (l:=[107,105,110,100,115]) (by decide +kernel)) (pa_cons (pe_tx (l:=[100,114,111,112]) (by decide +kernel)) (pa_cons (pe_tx (l:=[109,97,110,121]) (by decide +kernel)) pa_nil))))))))) (pe_fn U_law_draw hr (pa_cons (pv 0) (pa_cons pe_int pa_nil))) (fun _ _=>rfl)) pa_nil)))  (pss_cons (ps_if (pt_cmpR (op_eqA K hu) (pe_fn U_law_draw hr (pa_cons (pv 0) (pa_cons pe_int pa_nil))) pe_int (nomark _))   (pss_cons (ps_set (i:=6) sc_law_names.nd rfl (Or.inl rfl) (pe_op op_plus (pe_op op_plus (pv 2) (pv 4)) (pe_tx (l:=[98]) (by decide +kernel))))  (pss_one (ps_set (i:=5) sc_law_names.nd rfl (Or.inl rfl) (pe_lst (pa_cons (pe_slice (sl_A K) (pv 6) po_none (po_some pe_int)) (pa_cons (pe_slice (sl_A K) (pv 6) (po_some pe_int) po_none) (pa_cons (pe_slice (sl_A K) (pv 6) po_none (po_some pe_int)) (pa_cons (pe_slice (sl_A K) (pv 6) (po_some pe_int) po_none) (pa_cons (pe_tx (l:=[110,111,110,101]) (by decide +kernel)) pa_nil)))))))))   pss_nil)  (pss_cons (ps_set (i:=7) sc_law_names.nd rfl (Or.inl rfl) (pe_lst pa_nil))  (pss_cons (ps_for PassesOwn.never rfl (pi_listK K (pe_op op_plus (pv 5) (pe_lst (pa_cons (pe_tx (l:=[113,120]) (by decide +kernel)) (pa_cons (pe_tx (l:=[113,121]) (by decide +kernel)) (pa_cons (pe_tx (l:=[113,120,113,121]) (by decide +kernel)) (pa_cons (pe_tx (l:=[122,122,122,122,122,122,122,122]) (by decide +kernel)) (pa_cons (pe_tx (l:=[120]) (by decide +kernel)) pa_nil)))))))) (pg_name (i:=8) sc_law_names.nd rfl (Or.inl rfl))   (pss_one (ps_if (PW.pt (pw_and (pt_chain op_le op_le pe_int (pe_callB (call_lenA K) rfl T.n_len PySem.boot_len (pa_cons (pv 8) pa_nil)) pe_int) (pw_and1 (pt_cmpR (op_notinA K) (pv 8) (pv 7) (by with_unfolding_all rfl)))))   (pss_one (ps_expr (pe_bmK K PySem.F.plainAttrs_list PySem.F.slot_list_append PySem.F.type_list_append mt_append (pv 7) (pa_cons (pv 8) pa_nil))))   pss_nil)))  (pss_one (ps_ret (pe_slice (sl_A K) (pv 7) po_none (po_some (pe_ix (ix_A K) (pe_lst (pa_cons pe_int (pa_cons pe_int pa_nil))) (pe_callTy call_intA rfl T.n_int PyProof.Rows.boot_int (pa_cons (pe_cmpR (op_eqA K hu) (pe_fn U_law_draw hr (pa_cons (pv 0) (pa_cons pe_int pa_nil))) pe_int (nomark _)) pa_nil)) (fun _ _=>rfl))))))))))))))),?_⟩
 walk_at "go"
 refine draw_use po (by decide) (by decide) (fun n0 H1 n1 n2 p1 s1=>?_)
 walk_at "go"
 refine ⟨1 + n0,rfl,by omega,by omega,?_⟩
 refine comp_rng (n:=(1 + n0).toNat) (small (by omega)) (fun D j ys H'=>∃ cs:List Nat,ys = (cs.map fun c=>[c]).map tx/\cs.length = j/\(∀ c ∈ cs,c ∈ ltr)/\D ≠ p/\Po H' p/\SameBut1 p H H') (fun D hD=>⟨[],rfl,rfl,(fun _ z=>nomatch z),p1.ne hD,p1.same (same_new hD _),s1.trans (SameBut1.of (same_new hD _))⟩) (fun D ys H3 hD hy ⟨cs,ey,hcl,hcm,hDp,p3,s3⟩=>?_) ?_
 rotate_left
 ·rintro D j ys H3 hD hj hy hl ⟨cs,rfl,hcl,hcm,hDp,p3,s3⟩
  walk_at "go"
  refine iteT ?_
  walk_at "go"
  refine draw_use p3 (by omega) (by omega) (fun r4 H4 r40 r41 p4 s4=>?_)
  obtain ⟨d,ed,hd⟩:=at_mem (l:=ltr) (i:=r4) r40 (by show r4 < 26; omega)
  walk_at "go"
  refine s_ixT (small (by decide)) ed ?_
  refine comp_next hj (small (by omega)) (s4 _ _ hy hDp) hl ⟨cs ++ [d],by simp,by simp [hcl],fun c hc=>(List.mem_append.mp hc).elim (hcm c) fun z=>by rw [List.mem_singleton.mp z]; exact hd,hDp,?_,fun b o z zn=>?_⟩
  ·obtain ⟨a,b,c,e⟩:=p4
   exact ⟨a,b,c,by rw [upd_ne (Ne.symm hDp)]; exact e⟩
  ·have hbD:b ≠ D:=fun e=>by
    have:=s1 _ _ z zn
    rw [e,hD] at this; cases this
   rw [upd_ne hbD]
   exact s4 b o (s3 b o z zn) zn
 subst ey
 walk_at "go"
 refine s_join (SqL.of hy) (by rw [flat_one,List.length_map]; omega) ?_
 rw [flat_one]
 have hc7:cs.length <= 7:=by omega
 have hc1:1 <= cs.length:=by omega
 clear hy hcl hDp hD s1 p1
 walk_at "go"
 refine draw_use p3 (by omega) (by omega) (fun at0 H4 a0 a1 p4 s4=>?_)
 walk_at "go"
 refine draw_use p4 (by decide) (by decide) (fun r5 H5 r50 r51 p5 s5=>?_)
 obtain ⟨lt,elt,hlt⟩:=at_mem (l:=ltr) (i:=r5) r50 (by show r5 < 26; omega)
 refine s_ixT (small (by decide)) elt ?_
 obtain ⟨at',rfl⟩:∃ at':Nat,at0 = at':=⟨at0.toNat,by omega⟩
 have ea:((at':Int) + 1) = ((at' + 1:Nat):Int):=by omega
 walk_at "go"
 have lt1:(cs.take at').length = at':=by rw [List.length_take]; omega
 have lt2:(cs.drop (at' + 1)).length = cs.length - at' - 1:=by rw [List.length_drop]; omega
 rw [cut_to _ (by omega),Int.toNat_natCast]
 refine s_addT (small (by rw [List.length_singleton]; omega)) ?_
 walk_at "go"
 rw [ea,cut_from]
 refine s_addT (small (by rw [List.length_append,List.length_singleton]; omega)) ?_
 walk_at "go"
 have sB:SameBut1 p H H5:=(s3.trans s4).trans s5
 clear s3 s4 s5 p3 p4
 have L1:Lw cs:=⟨by omega,hcm⟩
 have L2':Lw [lt]:=⟨by simp,fun c hc=>by rw [List.mem_singleton.mp hc]; exact hlt⟩
 have L3:Lw (cs.take at' ++ [lt] ++ cs.drop (at' + 1)):=⟨by simp only [List.length_append,List.length_singleton]; omega,fun c hc=>by
  simp only [List.mem_append] at hc
  rcases hc with (z | z) | z
  ·exact hcm c (List.mem_of_mem_take z)
  ·exact L2'.2 c z
  ·exact hcm c (List.mem_of_mem_drop z)⟩
 generalize cs.take at' ++ [lt] ++ cs.drop (at' + 1) = w4 at L3 ⊢
 refine ⟨small (show 4 <= 1000 by decide),fun m hm=>?_⟩
 have t1:=same_new hm (.lst [tx cs,tx (cs ++ [lt]),tx ([lt] ++ cs),tx w4])
 have g1:=upd_same (H:=H5) (a:=m) (o:=.lst [tx cs,tx (cs ++ [lt]),tx ([lt] ++ cs),tx w4])
 have nm:=p5.ne hm
 have hmH:H m = none:=sB.free1 p5 hm
 have p6:=p5.same t1
 have s6:=sB.trans (SameBut1.of t1)
 generalize upd H5 m _ = H6 at *
 clear t1 p5 sB
 walk_at "go"
 refine ⟨SqL.ty (SqL.of g1),?_⟩
 walk_at "go"
 refine ⟨small (show 8 <= 1000 by decide),fun w8 hw8=>?_⟩
 have t2:=same_new hw8 (.lst [tx [110,111,110,101],tx [114,111,119],tx [110,97,109,101,115],tx [115,104,111,119],tx [116,117,114,110],tx [107,105,110,100,115],tx [100,114,111,112],tx [109,97,110,121]])
 have g2:(upd H6 w8 (.lst [tx [110,111,110,101],tx [114,111,119],tx [110,97,109,101,115],tx [115,104,111,119],tx [116,117,114,110],tx [107,105,110,100,115],tx [100,114,111,112],tx [109,97,110,121]])) w8 = some (.lst (wd8.map tx)):=upd_same
 have nw:=p6.ne hw8
 have p7:=p6.same t2
 have g17:=t2 _ _ g1
 have s7:=s6.trans (SameBut1.of t2)
 generalize upd H6 w8 _ = H7 at *
 clear t2 p6 s6 g1
 walk_at "go"
 refine draw_use p7 (by decide) (by decide) (fun r8 H8 r80 r81 p8 s8=>?_)
 obtain ⟨x8,ex8,hx8⟩:=at_memL (l:=wd8) (i:=r8) r80 (by show r8 < 8; omega)
 refine s_ixL (SqL.of (s8 _ _ g2 nw)) (v:=tx x8) (atI_map tx ex8) ?_
 walk_at "go"
 refine ⟨m,_,_,rfl,rfl,s8 _ _ g17 nm,small1000 (show 4 <= 1000 by decide),?_⟩
 have L8:Lw x8:=lw8 x8 hx8
 have g9:(upd H8 m (.lst ([tx cs,tx (cs ++ [lt]),tx ([lt] ++ cs),tx w4] ++ [tx x8]))) m = some (.lst ([cs,cs ++ [lt],[lt] ++ cs,w4,x8].map tx)):=upd_same
 have p9:Po (upd H8 m (.lst ([tx cs,tx (cs ++ [lt]),tx ([lt] ++ cs),tx w4] ++ [tx x8]))) p:=by
  obtain ⟨a,b,c,e⟩:=p8
  exact ⟨a,b,c,by rw [upd_ne nm.symm]; exact e⟩
 have s9:SameBut1 p H (upd H8 m (.lst ([tx cs,tx (cs ++ [lt]),tx ([lt] ++ cs),tx w4] ++ [tx x8]))):=fun b o z zn=>by
  rw [upd_ne (ne_of_none z hmH)]; exact (s7.trans s8) b o z zn
 generalize upd H8 m _ = H9 at *
 clear s7 s8 p7 p8 g17 g2
 walk_at "go"
 refine draw_use p9 (by decide) (by decide) (fun r9 H10 r90 r91 p10 s10=>?_)
 have g10:=s10 _ _ g9 nm
 have s11:=s9.trans s10
 clear s9 s10 g9 p9
 walk_at "go"
 refine ifj (fun σ H'=>∃ (m':Addr) (ws:List (List Nat)) (o6:Option V),σ = [some (.ref p),some (tx ltr),some (tx cs),some (.int at'),some (tx [lt]),some (.ref m'),o6,none,none]/\H' m' = some (.lst (ws.map tx))/\ws.length = 5/\(∀ w ∈ ws,Lw w)/\m' ≠ p/\Po H' p/\SameBut1 p H H') ?_ ?_ (fun _=>⟨m,[cs,cs ++ [lt],[lt] ++ cs,w4,x8],none,rfl,g10,rfl,?_,nm,p10,s11⟩)
 rotate_left
 ·intro hc N hN
  walk_at "go"
  have LW:Lw (cs ++ [lt] ++ [98]):=⟨by simp only [List.length_append,List.length_singleton]; omega,fun c hc=>by
   simp only [List.mem_append,List.mem_singleton] at hc
   rcases hc with (z | z) | z
   ·exact hcm c z
   ·rw [z]; exact hlt
   ·rw [z]; decide⟩
  generalize cs ++ [lt] ++ [98] = wh at LW ⊢
  have c1:cutL wh none (some 1) = wh.take 1:=cut_to _ (by decide)
  have c2:cutL wh (some 1) none = wh.drop 1:=cut_from wh 1
  have c3:cutL wh none (some 2) = wh.take 2:=cut_to _ (by decide)
  have c4:cutL wh (some 2) none = wh.drop 2:=cut_from wh 2
  rw [c1,c2,c3,c4]
  refine ⟨small (show 5 <= 1000 by decide),fun m2 hm2=>?_⟩
  walk_at "go"
  have t3:=same_new hm2 (.lst [tx (wh.take 1),tx (wh.drop 1),tx (wh.take 2),tx (wh.drop 2),tx [110,111,110,101]])
  refine hN _ _ ⟨m2,[wh.take 1,wh.drop 1,wh.take 2,wh.drop 2,[110,111,110,101]],_,rfl,upd_same,rfl,?_,p10.ne hm2,p10.same t3,s11.trans (SameBut1.of t3)⟩
  have hT:∀ n,Lw (wh.take n):=fun n=>⟨by have:=LW.1; rw [List.length_take]; omega,fun c hc=>LW.2 c (List.mem_of_mem_take hc)⟩
  have hDr:∀ n,Lw (wh.drop n):=fun n=>⟨by have:=LW.1; rw [List.length_drop]; omega,fun c hc=>LW.2 c (List.mem_of_mem_drop hc)⟩
  intro w hw
  simp only [List.mem_cons,List.not_mem_nil,or_false] at hw
  rcases hw with rfl | rfl | rfl | rfl | rfl
  ·exact hT 1
  ·exact hDr 1
  ·exact hT 2
  ·exact hDr 2
  ·exact lw8 _ (by decide)
 ·intro w hw
  have:=L1.2
  simp only [List.mem_cons,List.not_mem_nil,or_false] at hw
  rcases hw with rfl | rfl | rfl | rfl | rfl
  ·exact L1
  ·exact L1.app L2' (by rw [List.length_singleton]; omega)
  ·exact L2'.app L1 (by rw [List.length_singleton]; omega)
  ·exact L3
  ·exact L8
 rintro σ H11 ⟨m',ws,o6,rfl,g11,hws,hLw,nm',p11,s12⟩
 walk_at "go"
 refine ⟨small (show 0 <= 1000 by decide),fun fo hfo=>?_⟩
 have t4:=same_new hfo (.lst [])
 have g12:=upd_same (H:=H11) (a:=fo) (o:=.lst [])
 have nf:=p11.ne hfo
 have hfH:H fo = none:=s12.free1 p11 hfo
 have gm:=t4 _ _ g11
 have p12:=p11.same t4
 have s13:=s12.trans (SameBut1.of t4)
 generalize upd H11 fo _ = H12 at *
 clear t4 p11 s12 g11 s11 p10 g10 L8 L3 hmH
 walk_at "go"
 refine ⟨small (show 5 <= 1000 by decide),fun l5 hl5=>?_⟩
 have t5:=same_new hl5 (.lst [tx [113,120],tx [113,121],tx [113,120,113,121],tx [122,122,122,122,122,122,122,122],tx [120]])
 have g5:(upd H12 l5 (.lst [tx [113,120],tx [113,121],tx [113,120,113,121],tx [122,122,122,122,122,122,122,122],tx [120]])) l5 = some (.lst (wd5.map tx)):=upd_same
 have p13:=p12.same t5
 have g125:=t5 _ _ g12
 have gm5:=t5 _ _ gm
 have s135:=s13.trans (SameBut1.of t5)
 generalize upd H12 l5 _ = H13 at *
 walk_at "go"
 refine s_addL gm5 g5 (small (by rw [List.length_map,List.length_map,hws]; decide)) (fun l6 hl6=>?_)
 rw [<- List.map_append]
 have t6:=same_new hl6 (.lst ((ws ++ wd5).map tx))
 have g6:(upd H13 l6 (.lst ((ws ++ wd5).map tx))) l6 = some (.lst ((ws ++ wd5).map tx)):=upd_same
 have nl6:=p13.ne hl6
 have n6f:l6 ≠ fo:=(ne_of_none g125 hl6).symm
 have gf:=t6 _ _ g125
 have p14:=p13.same t6
 have s14:=s135.trans (SameBut1.of t6)
 generalize upd H13 l6 _ = H14 at *
 have hLa:∀ w ∈ ws ++ wd5,Lw w:=fun w hw=>(List.mem_append.mp hw).elim (hLw w) (lw5 w)
 have hla:(ws ++ wd5).length = 10:=by rw [List.length_append,hws]; rfl
 have hxa:[120] ∈ ws ++ wd5:=List.mem_append_right _ (by decide)
 generalize ws ++ wd5 = wa at *
 walk_at "go"
 refine ⟨l6,rfl,⟨_,SqL.of g6⟩,?_⟩
 refine for_list (xs:=wa.map tx) (fun i σ H'=>∃ (fs:List (List Nat)) (o8:Option V),σ = [some (.ref p),some (tx ltr),some (tx cs),some (.int at'),some (tx [lt]),some (.ref m'),o6,some (.ref fo),o8]/\H' fo = some (.lst (fs.map tx))/\fs.length <= i/\(∀ w ∈ fs,Nm w)/\(∀ (j:Nat) (w:List Nat),j < i->wa[j]? = some w->1 <= w.length->w.length <= 8->w ∈ fs)/\H' l6 = some (.lst (wa.map tx))/\Po H' p/\SameBut1 p H H') ⟨[],_,rfl,gf,by simp,(fun _ z=>nomatch z),(fun j w hj=>absurd hj (Nat.not_lt_zero j)),g6,p14,s14⟩ (fun i σ H' _ ⟨_,_,_,_,_,_,_,g,_⟩=>SqL.of g) ?_ ?_
 ·rintro i v σ H15 hv ⟨fs,o8,rfl,gfs,hfl,hfn,hfa,gl,p15,s15⟩
  obtain ⟨w,hw,rfl⟩:∃ w,wa[i]? = some w/\tx w = v:=by
   rw [List.getElem?_map] at hv
   obtain ⟨w,h1,h2⟩:=Option.map_eq_some_iff.mp hv
   exact ⟨w,h1,h2⟩
  have hL:=hLa w (List.mem_of_getElem? hw)
  have hwl:=hL.1
  have hi:i < 10:=by rw [<- hla]; exact (List.getElem?_eq_some_iff.mp hw).1
  walk_at "go"
  have keep:(1 <= w.length->w.length <= 8->w ∈ fs)->∀ (j:Nat) (u:List Nat),j < i + 1->wa[j]? = some u->1 <= u.length->u.length <= 8->u ∈ fs:=fun hk j u hj hu h1 h8=>by
   by_cases e:j = i
   ·subst e
    rw [hw] at hu; cases hu
    exact hk h1 h8
   ·exact hfa j u (by omega) hu h1 h8
  refine ifd (fun h1=>?_) (fun h1=>?_)
  rotate_left
  ·walk_at "go"
   refine ifq rfl ?_
   walk_at "go"
   exact ⟨fs,_,rfl,gfs,by omega,hfn,keep fun z=>absurd z (by omega),gl,p15,s15⟩
  walk_at "go"
  refine ifd (fun h8=>?_) (fun h8=>?_)
  rotate_left
  ·refine ifq rfl ?_
   walk_at "go"
   exact ⟨fs,_,rfl,gfs,by omega,hfn,keep fun _ z=>absurd z (by omega),gl,p15,s15⟩
  walk_at "go"
  refine s_notinS (.inl (SqL.of gfs)) rfl (by rw [List.all_map,List.all_eq_true]; intro _ _; rfl) ?_
  rw [inV_tx]
  walk_at "go"
  by_cases hin:w ∈ fs
  ·rw [decide_eq_true hin]
   refine ifq rfl ?_
   walk_at "go"
   exact ⟨fs,_,rfl,gfs,by omega,hfn,keep fun _ _=>hin,gl,p15,s15⟩
  ·rw [decide_eq_false hin]
   refine ifp rfl ?_
   walk_at "go"
   refine ⟨SqL.ty (SqL.of gfs),?_⟩
   walk_at "go"
   refine ⟨fo,_,_,rfl,rfl,gfs,small1000 (by rw [List.length_map]; omega),?_⟩
   walk_at "go"
   refine ⟨fs ++ [w],_,rfl,by rw [upd_same,List.map_append]; rfl,by rw [List.length_append,List.length_singleton]; omega,fun u hu=>?_,fun j u hj hu a1 a8=>?_,by rw [upd_ne n6f]; exact gl,?_,fun b o z zn=>?_⟩
   ·rcases List.mem_append.mp hu with z | z
    ·exact hfn u z
    ·rw [List.mem_singleton.mp z]; exact ⟨by omega,by omega,hL.2⟩
   ·by_cases e:j = i
    ·subst e
     rw [hw] at hu; cases hu
     exact List.mem_append_right _ (List.mem_singleton.mpr rfl)
    ·exact List.mem_append_left _ (hfa j u (by omega) hu a1 a8)
   ·obtain ⟨a,b,c,e⟩:=p15
    exact ⟨a,b,c,by rw [upd_ne nf.symm]; exact e⟩
   ·rw [upd_ne (ne_of_none z hfH)]; exact s15 b o z zn
 ·rintro σ H15 ⟨fs,o8,rfl,gfs,hfl,hfn,hfa,gl,p15,s15⟩
  rw [List.length_map,hla] at hfl hfa
  have hx:[120] ∈ fs:=by
   obtain ⟨j,hj,e⟩:=List.mem_iff_getElem.mp hxa
   exact hfa j [120] (by omega) (by rw [List.getElem?_eq_getElem hj,e]) (by decide) (by decide)
  have hpos:1 <= fs.length:=List.length_pos_of_mem hx
  walk_at "go"
  refine ⟨small (show 2 <= 1000 by decide),fun l7 hl7=>?_⟩
  have t7:=same_new hl7 (.lst [V.int 5,V.int 10])
  have g7:=upd_same (H:=H15) (a:=l7) (o:=.lst [V.int 5,V.int 10])
  have n7:=p15.ne hl7
  walk_at "go"
  refine draw_use (p15.same t7) (by decide) (by decide) (fun r7 H17 _ _ p17 s17=>?_)
  walk_at "go"
  have gf17:=s17 _ _ (t7 _ _ gfs) nf
  have g17:=s17 _ _ g7 n7
  have s18:SameBut1 p H H17:=(s15.trans (SameBut1.of t7)).trans s17
  obtain ⟨n,en,hn⟩:∃ n:Int,atI [V.int 5,V.int 10] (if decide (r7 = 1) = true then 1 else 0) = some (.int n)/\(n = 5\/n = 10):=by
   cases decide (r7 = 1)
   ·exact ⟨5,rfl,.inl rfl⟩
   ·exact ⟨10,rfl,.inr rfl⟩
  refine s_ixL (SqL.of g17) en ?_
  walk_at "go"
  refine s_slL (SqL.of gf17) (fun L hL=>?_)
  have ec:cutV (fs.map tx) none (some n) = (fs.take n.toNat).map tx:=by
   rw [List.map_take]; exact cut_to _ (by omega)
  rw [ec]
  have t8:=same_new hL (.lst ((fs.take n.toNat).map tx))
  exact q L _ _ (s18.free1 p17 hL) (p17.same t8) (s18.trans (SameBut1.of t8)) upd_same (fun w hw=>hfn w (List.mem_of_mem_take hw)) (by rw [List.length_take]; omega) (by rw [List.length_take]; omega)
theorem sc_law_turned:FnScope ["row","found","sign","at"] ["row"] (defScope d_law_turned):=scM
theorem ok_law_turned (F:Fun K "_law_turned" "_law_turned" d_law_turned f fd) (T:Txt P w K mg aK cs aC aF aD)  : FnOk P w K mg base CX0 (k + 1) f fd ["row"] (spTurn46):=by
 refine F.ok sc_law_turned (fun vs H Q E h=>?_) (fun cdv A outer s H vs Q E hr h=>?_)
 ·obtain ⟨a,rfl,_⟩:=h; rfl
 obtain ⟨a,rfl,hl,hm,q⟩:=h
 have hu:=hr.units0
 refine ⟨_,(pss_cons (ps_set (i:=1) sc_law_turned.nd rfl (Or.inl rfl) (pe_tx (l:=[]) (by decide +kernel))) (pss_cons (ps_for PassesOwn.never rfl (pi_str (pv 0)) (pg_name (i:=2) sc_law_turned.nd rfl (Or.inl rfl)) (pss_cons (ps_set (i:=3) sc_law_turned.nd rfl (Or.inl rfl) (pe_bmK K PySem.F.plainAttrs_str PySem.F.slot_str_find PySem.F.type_str_find mt_find (pe_tx (l:=[40,41,91,93,123,125,60,62]) (by decide +kernel)) (pa_cons (pv 2) pa_nil))) (pss_one (ps_set (i:=1) sc_law_turned.nd rfl (Or.inl rfl) (pe_op op_plus (pe_ifExp (pt_cmpR op_ge (pv 3) pe_int (nomark _)) (pe_ix (ix_A K) (pe_tx (l:=[40,41,91,93,123,125,60,62,63]) (by decide +kernel)) (pe_op op_sub (pe_op op_plus (pv 3) pe_int) (pe_op op_times (pe_op op_mod (pv 3) pe_int) pe_int)) (fun _ _=>rfl)) (pv 2)) (pv 1)))))) (pss_one (ps_ret (pv 1))))),?_⟩
 walk_at "go"
 refine for_str (fun i σ H'=>∃ o2 o3,σ = [some (tx a),some (tx (trn (a.take i))),o2,o3]/\H' = H) ⟨_,_,rfl,rfl⟩ ?_ ?_
 ·rintro i c σ H1 hc ⟨o2,o3,rfl,rfl⟩
  have hi:i < a.length:=(List.getElem?_eq_some_iff.mp hc).1
  have h9:=hm c (List.mem_of_getElem? hc)
  have hlt:(trn (a.take i)).length <= 40:=by rw [trn_len,List.length_take]; omega
  have et:trn (a.take (i + 1)) = [oth c] ++ trn (a.take i):=by
   rw [List.take_add_one,hc]; exact trn_snoc _ _
  walk_at "go"
  refine s_fnd (l:=[40,41,91,93,123,125,60,62]) ?_
  walk_at "go"
  have fin:∀ c ∈ all9,(c = 63/\fnd [40,41,91,93,123,125,60,62] c = -1/\oth c = 63)\/(0 <= fnd [40,41,91,93,123,125,60,62] c/\fnd [40,41,91,93,123,125,60,62] c <= 7/\atI [40,41,91,93,123,125,60,62,63] (fnd [40,41,91,93,123,125,60,62] c + 1 - fnd [40,41,91,93,123,125,60,62] c % 2 * 2) = some (oth c)):=by decide +kernel
  rcases fin c h9 with ⟨rfl,e,eo⟩ | ⟨f0,f7,e⟩
  ·rw [e]
   refine ifq (by decide) ?_
   walk_at "go"
   first | refine s_addT (small (by rw [List.length_singleton]; omega)) ?_ | skip
   walk_at "go"
   refine ⟨some (tx [63]),some (.int (-1)),?_,rfl⟩
   rw [et,eo]
   rfl
  ·generalize fnd [40,41,91,93,123,125,60,62] c = at0 at *
   refine ifp (decide_eq_true f0) ?_
   walk_at "go"
   refine s_ixT (small (by decide)) e ?_
   walk_at "go"
   first | refine s_addT (small (by rw [List.length_singleton]; omega)) ?_ | skip
   walk_at "go"
   refine ⟨some (tx [c]),some (.int at0),?_,rfl⟩
   rw [et]
   rfl
 ·rintro σ H1 ⟨o2,o3,rfl,rfl⟩
  walk_at "go"
  rw [List.take_length]
  exact q
theorem sc_law_is_line:FnScope ["k","row"] ["k","row"] (defScope d_law_is_line):=scM
theorem ok_law_is_line (F : Fun K "_law_is_line" "_law_is_line" d_law_is_line f fd) (T : Txt P w K mg aK cs aC aF aD)  : FnOk P w K mg base CX0 (k + 1) f fd ["k", "row"] (spLine46) := by
  refine F.ok sc_law_is_line (fun vs H Q E h => ?_) (fun cdv A outer s H vs Q E hr h => ?_)
  · obtain ⟨kk, a, rfl, _⟩ := h; rfl
  obtain ⟨kk, a, rfl, k1, k4, hl, q⟩ := h
  have hu := hr.units0
  refine ⟨_, (pss_one (ps_ret (pe_and (pe_cmpR op_le (pe_callB (call_lenA K) rfl T.n_len PySem.boot_len (pa_cons (pv 1) pa_nil)) pe_int (nomark _)) (pe_one (pe_cmpR (op_eqA K hu) (pe_comp (own := ["sign"]) (sel := [0]) (compOk_of (osc := (defScope d_law_is_line)) (N := ["k", "row"]) (by decide +kernel)) rfl (pi_str (pv 1)) (fun _ _ _ _ _ => (pg_name (i := 0) (show (["sign", "k"] : List Str).Nodup from by decide +kernel) rfl (Or.inl rfl))) (gk_name (by decide)) (fun _ _ _ _ _ => pif_one (pt_cmpR (op_notinA K) (pv 0) (pe_op op_plus (pe_op op_plus (pe_slice (sl_A K) (pe_tx (l := [40, 91, 123, 60]) (by decide +kernel)) po_none (po_some (pv 1))) (pe_slice (sl_A K) (pe_tx (l := [41, 93, 125, 62]) (by decide +kernel)) po_none (po_some (pv 1)))) (pe_tx (l := [63]) (by decide +kernel))) (by with_unfolding_all rfl))) (fun _ _ _ _ _ => (pv 0))) (pe_lst pa_nil) (nomark _)))))), ?_⟩
  walk_at "go"
  refine ifd (fun hc => ?_) (fun hc => ?_)
  rotate_left
  · have e : isRow kk a = false := by unfold isRow; rw [decide_eq_false (by omega), Bool.false_and]
    have := q H (Same.refl H)
    rw [e] at this
    exact this
  walk_at "go"
  refine comp_str (small (by omega)) (fun D i ys H' => ys = (((a.take i).filter fun c => !decide (c ∈ sgn kk)).map fun c => tx [c]) /\ SameBut1 D H H') (fun D hD => ⟨rfl, SameBut1.of (same_new hD _)⟩) (fun D ys H' hD hD' ⟨e, sH⟩ => ?_) ?_
  · rw [List.take_length] at e
    have sG : Same H H' := fun b o z => sH b o z (ne_of_none z hD)
    walk_at "go"
    refine ⟨small (show 0 <= 1000 by decide), fun z hz => ?_⟩
    walk_at "go"
    have s2 := same_new hz (.lst [])
    refine s_eqL (SqL.of (s2 _ _ hD')) (SqL.of upd_same) (by rw [e, List.all_map, List.all_eq_true]; intro _ _; rfl) rfl ?_
    have ee : eqVs ys [] = isRow kk a := by
      unfold isRow
      rw [decide_eq_true (by omega), Bool.true_and]
      cases hf : a.filter fun c => !decide (c ∈ sgn kk) with
      | nil =>
        rw [e, hf]
        have : a.all (fun c => decide (c ∈ sgn kk)) = true := by
          rw [List.all_eq_true]
          intro c hc
          have := List.filter_eq_nil_iff.mp hf c hc
          simpa using this
        rw [this]; rfl
      | cons c r =>
        rw [e, hf]
        have : a.all (fun c => decide (c ∈ sgn kk)) = false := by
          rw [Bool.eq_false_iff]
          intro z
          have hc : c ∈ a.filter fun c => !decide (c ∈ sgn kk) := by rw [hf]; exact List.mem_cons_self
          have h1 := List.mem_filter.mp hc
          have h2 := List.all_eq_true.mp z c h1.1
          rw [h2] at h1
          exact absurd h1.2 (by decide)
        rw [this]; rfl
    rw [ee]
    exact q _ (sG.trans s2)
  · rintro D i c ys H' hD ec hi hD' hl' ⟨e, sH⟩
    walk_at "go"
    rw [cut_to _ (by omega), cut_to _ (by omega)]
    have l1 : ((([40, 91, 123, 60] : List Nat)).take kk.toNat).length <= 4 := by rw [List.length_take]; exact Nat.min_le_right _ _
    have l2 : ((([41, 93, 125, 62] : List Nat)).take kk.toNat).length <= 4 := by rw [List.length_take]; exact Nat.min_le_right _ _
    refine s_addT (small (by omega)) ?_
    walk_at "go"
    first | refine s_addT (small (by rw [List.length_append, List.length_singleton]; omega)) ?_ | skip
    walk_at "go"
    have en : (!decide (c ∈ sgn kk)) = !decide (c ∈ ([40, 91, 123, 60].take kk.toNat ++ [41, 93, 125, 62].take kk.toNat ++ [63])) := rfl
    rw [<- en]
    have ef : ∀ b, (!decide (c ∈ sgn kk)) = b -> (a.take (i + 1)).filter (fun c => !decide (c ∈ sgn kk)) = (a.take i).filter (fun c => !decide (c ∈ sgn kk)) ++ (if b = true then [c] else []) := fun b hb => by
      rw [List.take_add_one, ec, List.filter_append]
      show _ ++ List.filter _ [c] = _
      rw [List.filter_cons, hb]; rfl
    cases hb : (!decide (c ∈ sgn kk)) with
    | true =>
      refine ifp rfl ?_
      walk_at "go"
      refine comp_next hi (small (by omega)) hD' hl' ⟨?_, sH.trans SameBut1.upd⟩
      rw [e, ef true hb, List.map_append]; rfl
    | false =>
      refine ifq rfl ?_
      exact comp_skip hi hD' hl' ⟨by rw [e, ef false hb]; simp, sH⟩
theorem sc_law_shown:FnScope ["row"] ["row"] (defScope d_law_shown):=scM
theorem ok_law_shown (F:Fun K "_law_shown" "_law_shown" d_law_shown f fd) (T:Txt P w K mg aK cs aC aF aD)  : FnOk P w K mg base CX0 (k + 1) f fd ["row"] (spShown46):=by
 refine F.ok sc_law_shown (fun vs H Q E h=>?_) (fun cdv A outer s H vs Q E hr h=>?_)
 ·obtain ⟨a,rfl,_⟩:=h; rfl
 obtain ⟨a,rfl,q⟩:=h
 have hu:=hr.units0
 refine ⟨_,(pss_one (ps_ret (pe_ifExp (pt_cmpR (op_neA K hu) (pv 0) (pe_tx (l:=[]) (by decide +kernel)) (nomark _)) (pv 0) (pe_tx (l:=[110,111,110,101]) (by decide +kernel))))),?_⟩
 walk_at "go"
 by_cases e:a = []
 ·rw [decide_eq_true e]
  refine ifq rfl ?_
  walk_at "go"
  rw [shw,if_pos e] at q
  exact q
 ·rw [decide_eq_false e]
  refine ifp rfl ?_
  walk_at "go"
  rw [shw,if_neg e] at q
  exact q
theorem sc_law_told:FnScope ["pool","k","name","row","way","at","due"] ["pool","k","name"] (defScope d_law_told):=scM
theorem ok_law_told (F:Fun K "_law_told" "_law_told" d_law_told f fd) (T:Txt P w K mg aK cs aC aF aD) (U_law_line:FnU P w K mg base k "_law_line" ["pool","k","most"] (spLineG)) (U_law_draw:FnU P w K mg base k "_law_draw" ["pool","many"] (spDraw)) (U_law_is_line:FnU P w K mg base k "_law_is_line" ["k","row"] (spLine46)):FnOk P w K mg base CX0 (k + 1) f fd ["pool","k","name"] (spTold46):=by
 refine F.ok sc_law_told (fun vs H Q E h=>?_) (fun cdv A outer s H vs Q E hr h=>?_)
 ·obtain ⟨p,kk,nm,rfl,_⟩:=h; rfl
 obtain ⟨p,kk,nm,rfl,po,k1,k4,hn,q⟩:=h
 have hu:=hr.units0
 have nlo:=hn.lo
 have nhi:=hn.hi
 refine ⟨_,(pss_cons (ps_set (i:=3) sc_law_told.nd rfl (Or.inl rfl) (pe_fn U_law_line hr (pa_cons (pv 0) (pa_cons (pv 1) (pa_cons (pe_ix (ix_A K) (pe_lst (pa_cons pe_int (pa_cons pe_int (pa_cons pe_int pa_nil)))) (pe_fn U_law_draw hr (pa_cons (pv 0) (pa_cons pe_int pa_nil))) (fun _ _=>rfl)) pa_nil))))) (pss_cons (ps_set (i:=4) sc_law_told.nd rfl (Or.inl rfl) (pe_fn U_law_draw hr (pa_cons (pv 0) (pa_cons pe_int pa_nil)))) (pss_cons (ps_set (i:=5) sc_law_told.nd rfl (Or.inl rfl) (pe_fn U_law_draw hr (pa_cons (pv 0) (pa_cons (pe_op op_plus (pe_callB (call_lenA K) rfl T.n_len PySem.boot_len (pa_cons (pv 3) pa_nil)) pe_int) pa_nil)))) (pss_cons (ps_if (pt_cmpR (op_eqA K hu) (pv 4) pe_int (nomark _)) (pss_one (ps_set (i:=3) sc_law_told.nd rfl (Or.inl rfl) (pe_op op_plus (pe_op op_plus (pe_slice (sl_A K) (pv 3) po_none (po_some (pv 5))) (pe_ix (ix_A K) (pe_tx (l:=[40,41,91,93,123,125,60,62,32,97,10,124,40]) (by decide +kernel)) (pe_fn U_law_draw hr (pa_cons (pv 0) (pa_cons pe_int pa_nil))) (fun _ _=>rfl))) (pe_slice (sl_A K) (pv 3) (po_some (pv 5)) po_none)))) pss_nil) (pss_cons (ps_if (pt_cmpR (op_eqA K hu) (pv 4) pe_int (nomark _)) (pss_one (ps_set (i:=3) sc_law_told.nd rfl (Or.inl rfl) (pe_slice (sl_A K) (pe_op op_plus (pv 3) (pe_op op_times (pe_tx (l:=[63]) (by decide +kernel)) pe_int)) po_none (po_some pe_int)))) pss_nil) (pss_cons (ps_set (i:=6) sc_law_told.nd rfl (Or.inl rfl) (pe_ix (ix_A K) (pe_lst (pa_cons (pe_tx (l:=[9,78,111,76,105,110,101]) (by decide +kernel)) (pa_cons (pe_tx (l:=[111,107]) (by decide +kernel)) pa_nil))) (pe_callTy call_intA rfl T.n_int PyProof.Rows.boot_int (pa_cons (pe_fn U_law_is_line hr (pa_cons (pv 1) (pa_cons (pv 3) pa_nil))) pa_nil)) (fun _ _=>rfl))) (pss_one (ps_ret (pe_tup (pa_cons (pe_op op_plus (pe_op op_plus (pe_op op_plus (pe_tx (l:=[114,111,119,32]) (by decide +kernel)) (pv 2)) (pe_tx (l:=[32]) (by decide +kernel))) (pv 3)) (pa_cons (pv 6) (pa_cons (pv 2) (pa_cons (pv 3) pa_nil))))))))))))),?_⟩
 walk_at "go"
 refine ⟨small (show 3 <= 1000 by decide),fun x hx=>?_⟩
 have t1:=same_new hx (.lst [V.int 6,V.int 12,V.int 40])
 have g1:=upd_same (H:=H) (a:=x) (o:=.lst [V.int 6,V.int 12,V.int 40])
 have n1:=po.ne hx
 have p1:=po.same t1
 generalize upd H x _ = H1 at *
 walk_at "go"
 refine draw_use p1 (by decide) (by decide) (fun r H2 r0 r3 p2 s2=>?_)
 obtain ⟨m,em,m1,m40⟩:∃ m:Int,atI [V.int 6,V.int 12,V.int 40] r = some (.int m)/\1 <= m/\m <= 40:=by
  have:r = 0\/r = 1\/r = 2:=by omega
  rcases this with rfl | rfl | rfl
  ·exact ⟨6,rfl,by decide,by decide⟩
  ·exact ⟨12,rfl,by decide,by decide⟩
  ·exact ⟨40,rfl,by decide,by decide⟩
 refine s_ixL (SqL.of (s2 _ _ g1 n1)) em ?_
 walk_at "go"
 refine lineG_use p2 k1 k4 m1 m40 (fun row H3 hrl hro p3 s3=>?_)
 have hr40:row.length <= 40:=by omega
 have sA:SameBut1 p H H3:=((SameBut1.of t1).trans s2).trans s3
 walk_at "go"
 refine draw_use p3 (by decide) (by decide) (fun way H4 w0 w12 p4 s4=>?_)
 walk_at "go"
 refine draw_use p4 (by omega) (by omega) (fun at0 H5 a0 a1 p5 s5=>?_)
 have sB:SameBut1 p H H5:=(sA.trans s4).trans s5
 clear s2 s3 s4 s5 p1 p2 p3 p4
 walk_at "go"
 refine ifj (fun σ H'=>∃ a:List Nat,σ = [some (.ref p),some (.int kk),some (tx nm),some (tx a),some (.int way),some (.int at0),none]/\a.length <= 41/\Po H' p/\SameBut1 p H H') ?_ ?_ (fun _=>⟨row,rfl,by omega,p5,sB⟩)
 rotate_left
 ·intro hc N hN
  walk_at "go"
  rw [cut_to _ a0]
  refine draw_use p5 (by decide) (by decide) (fun r2 H6 r0 r13 p6 s6=>?_)
  obtain ⟨c,ec,_⟩:=at_mem (l:=[40,41,91,93,123,125,60,62,32,97,10,124,40]) (i:=r2) r0 (by show r2 < 13; omega)
  refine s_ixT (small (by decide)) ec ?_
  obtain ⟨at',rfl⟩:∃ at':Nat,at0 = at':=⟨at0.toNat,by omega⟩
  rw [Int.toNat_natCast]
  have l1:(row.take at').length = at':=by rw [List.length_take]; omega
  have l2:(row.drop at').length = row.length - at':=by rw [List.length_drop]
  refine s_addT (small (by rw [List.length_singleton]; omega)) ?_
  walk_at "go"
  rw [cut_from]
  refine s_addT (small (by rw [List.length_append,List.length_singleton]; omega)) ?_
  walk_at "go"
  exact hN _ _ ⟨_,rfl,by simp only [List.length_append,List.length_singleton]; omega,p6,sB.trans s6⟩
 rintro σ H6 ⟨a,rfl,ha,p6,s6⟩
 clear sB p5
 walk_at "go"
 refine ifj (fun σ H'=>∃ a:List Nat,σ = [some (.ref p),some (.int kk),some (tx nm),some (tx a),some (.int way),some (.int at0),none]/\a.length <= 41/\Po H' p/\SameBut1 p H H') ?_ ?_ (fun _=>⟨a,rfl,ha,p6,s6⟩)
 rotate_left
 ·intro hc N hN
  walk_at "go"
  refine s_mulT (by decide) (by decide) (by decide) ?_
  walk_at "go"
  have l41:(List.replicate (Int.toNat 41) [63]).flatten.length = 41:=by decide
  generalize (List.replicate (Int.toNat 41) [63]).flatten = u41 at l41 ⊢
  refine s_addT (small (by omega)) ?_
  walk_at "go"
  first | refine s_slT (small (by rw [List.length_append]; omega)) ?_ | skip
  walk_at "go"
  rw [cut_to _ (by decide)]
  exact hN _ _ ⟨_,rfl,by rw [List.length_take]; exact Nat.min_le_left _ _,p6,s6⟩
 rintro σ H7 ⟨b,rfl,hb,p7,s7⟩
 walk_at "go"
 refine ⟨small (show 2 <= 1000 by decide),fun y hy=>?_⟩
 have t2:=same_new hy (.lst [tx tNoLine,tx tOk])
 have g2:=upd_same (H:=H7) (a:=y) (o:=.lst [tx tNoLine,tx tOk])
 have p8:=p7.same t2
 have s8:SameBut1 p H (upd H7 y (.lst [tx tNoLine,tx tOk])):=s7.trans (SameBut1.of t2)
 generalize upd H7 y _ = H8 at *
 walk_at "go"
 refine ⟨kk,b,rfl,k1,k4,by omega,fun H9 s9=>?_⟩
 walk_at "go"
 have e2:atI [tx tNoLine,tx tOk] (if isRow kk b = true then 1 else 0) = some (tx (dueL kk b)):=by
  unfold dueL
  cases isRow kk b <;> rfl
 refine s_ixL (SqL.of (s9 _ _ g2)) e2 ?_
 walk_at "go"
 refine ⟨small (show 4 <= 1000 by decide),fun T hT=>?_⟩
 have p9:=p8.same s9
 have s10:SameBut1 p H H9:=s8.trans (SameBut1.of s9)
 have t3:=same_new hT (.tup [tx ([114,111,119,32] ++ nm ++ [32] ++ b),tx (dueL kk b),tx nm,tx b])
 have er:[114,111,119,32] ++ nm ++ [32] ++ b = rowT nm b:=by simp [rowT]
 refine q T b _ (s10.free1 p9 hT) (p9.same t3) (s10.trans (SameBut1.of t3)) ?_ (by omega)
 rw [<- er]
 exact upd_same
theorem sc_law_next_row:FnScope ["pool","state","names","kept","way","name","one","other","row","both"] ["pool","state","names"] (defScope d_law_next_row):=scM
theorem ok_law_next_row (F : Fun K "_law_next_row" "_law_next_row" d_law_next_row f fd) (T : Txt P w K mg aK cs aC aF aD) (U_law_draw : FnU P w K mg base k "_law_draw" ["pool", "many"] (spDraw)) (U_law_told : FnU P w K mg base k "_law_told" ["pool", "k", "name"] (spTold46)) (U_law_turned : FnU P w K mg base k "_law_turned" ["row"] (spTurn46)) : FnOk P w K mg base CX0 (k + 1) f fd ["pool", "state", "names"] (spNext46) := by
  refine F.ok sc_law_next_row (fun vs H Q E h => ?_) (fun cdv A outer s H vs Q E hr h => ?_)
  · obtain ⟨p, st, q, nl, kk, kvs, ns, rfl, _⟩ := h; rfl
  obtain ⟨p, st, qd, nl, kk, kvs, ns, rfl, po, hS, hnl, n1, n2, n3, k1, k4, hrw, hns, hn1, hn10, q⟩ := h
  have hu := hr.units0
  have hu2 := units1 hr
  obtain ⟨e1, e2⟩ := id hS
  refine ⟨_, (pss_cons (ps_set (i := 3) sc_law_next_row.nd rfl (Or.inl rfl) (pe_dget hu2 (pv 1) (pe_tx (l := [107, 101, 112, 116]) (by decide +kernel)) (fun _ _ => rfl)))  (pss_cons (ps_set (i := 4) sc_law_next_row.nd rfl (Or.inl rfl) (pe_fn U_law_draw hr (pa_cons (pv 0) (pa_cons pe_int pa_nil))))  (pss_cons (ps_asg (pe_comp (own := ["turn"]) (sel := [2, 0]) (compOk_of (osc := (defScope d_law_next_row)) (N := ["pool", "state", "names", "kept", "way", "name", "one", "other", "row", "both"]) (by decide +kernel)) rfl (pi_range1 rfl T.n_range (pa_cons pe_int pa_nil)) (fun _ _ _ _ _ => (pg_name (i := 0) (show (["turn", "names", "pool"] : List Str).Nodup from by decide +kernel) rfl (Or.inl rfl))) (gk_name (by decide)) (fun _ _ _ _ _ => pif_nil) (fun _ _ _ _ _ => (pe_ix (ix_A K) (pv 1) (pe_fn U_law_draw hr (pa_cons (pv 2) (pa_cons (pe_callB (call_lenA K) rfl T.n_len PySem.boot_len (pa_cons (pv 1) pa_nil)) pa_nil))) (fun _ _ => rfl)))) (pg_tupL (n := 3) K rfl (pgs_cons (pg_name (i := 5) sc_law_next_row.nd rfl (Or.inl rfl)) (pgs_cons (pg_name (i := 6) sc_law_next_row.nd rfl (Or.inl rfl)) (pgs_cons (pg_name (i := 7) sc_law_next_row.nd rfl (Or.inl rfl)) pgs_nil)))))  (pss_cons (ps_if (PW.pt (pw_or (pt_cmpR op_lt (pv 4) pe_int (nomark _)) (pw_or1 (pt_cmpR (op_eqD K hu) (pv 3) pe_dnewK (nomark _)))))   (pss_one (ps_ret (pe_fn U_law_told hr (pa_cons (pv 0) (pa_cons (pe_dget hu2 (pv 1) (pe_tx (l := [107, 105, 110, 100, 115]) (by decide +kernel)) (fun _ _ => rfl)) (pa_cons (pv 5) pa_nil))))))   pss_nil)  (pss_cons (ps_if (pt_cmpR (op_eqA K hu) (pv 4) pe_int (nomark _))   (pss_one (ps_ret (pe_tup (pa_cons (pe_op op_plus (pe_tx (l := [100, 114, 111, 112, 32]) (by decide +kernel)) (pv 6)) (pa_cons (pe_ix (ix_A K) (pe_lst (pa_cons (pe_tx (l := [9, 78, 111, 78, 97, 109, 101]) (by decide +kernel)) (pa_cons (pe_tx (l := [111, 107]) (by decide +kernel)) pa_nil))) (pe_callTy call_intA rfl T.n_int PyProof.Rows.boot_int (pa_cons (pe_cmp (pc_din hu2 (pv 6) (pv 3)) (by with_unfolding_all rfl)) pa_nil)) (fun _ _ => rfl)) (pa_cons (pv 6) (pa_cons pe_non pa_nil)))))))   pss_nil)  (pss_cons (ps_if (pt_cmpR op_lt (pv 4) pe_int (nomark _))   (pss_cons (ps_set (i := 8) sc_law_next_row.nd rfl (Or.inl rfl) (pe_bmK K PySem.F.plainAttrs_str PySem.F.slot_str_join PySem.F.type_str_join (mt_joinG K) (pe_tx (l := [32]) (by decide +kernel)) (pa_cons (pe_lst (pa_cons (pe_tx (l := [116, 117, 114, 110]) (by decide +kernel)) (pa_cons (pv 5) (pa_cons (pv 6) pa_nil)))) pa_nil)))  (pss_cons (ps_if (pt_cmp (pc_dnotin hu2 (pv 6) (pv 3)) (by with_unfolding_all rfl))   (pss_one (ps_ret (pe_tup (pa_cons (pv 8) (pa_cons (pe_tx (l := [9, 78, 111, 78, 97, 109, 101]) (by decide +kernel)) (pa_cons (pv 5) (pa_cons pe_non pa_nil)))))))   pss_nil)  (pss_one (ps_ret (pe_tup (pa_cons (pv 8) (pa_cons (pe_tx (l := [111, 107]) (by decide +kernel)) (pa_cons (pv 5) (pa_cons (pe_fn U_law_turned hr (pa_cons (pe_dget hu2 (pv 3) (pv 6) (fun _ _ => rfl)) pa_nil)) pa_nil)))))))))   pss_nil)  (pss_cons (ps_set (i := 8) sc_law_next_row.nd rfl (Or.inl rfl) (pe_bmK K PySem.F.plainAttrs_str PySem.F.slot_str_join PySem.F.type_str_join (mt_joinG K) (pe_tx (l := [32]) (by decide +kernel)) (pa_cons (pe_lst (pa_cons (pe_tx (l := [98, 101, 104, 105, 110, 100]) (by decide +kernel)) (pa_cons (pv 5) (pa_cons (pv 6) (pa_cons (pv 7) pa_nil))))) pa_nil)))  (pss_cons (ps_if (PW.pt (pw_or (pt_cmp (pc_dnotin hu2 (pv 6) (pv 3)) (by with_unfolding_all rfl)) (pw_or1 (pt_cmp (pc_dnotin hu2 (pv 7) (pv 3)) (by with_unfolding_all rfl)))))   (pss_one (ps_ret (pe_tup (pa_cons (pv 8) (pa_cons (pe_tx (l := [9, 78, 111, 78, 97, 109, 101]) (by decide +kernel)) (pa_cons (pv 5) (pa_cons pe_non pa_nil)))))))   pss_nil)  (pss_cons (ps_set (i := 9) sc_law_next_row.nd rfl (Or.inl rfl) (pe_op op_plus (pe_dget hu2 (pv 3) (pv 6) (fun _ _ => rfl)) (pe_dget hu2 (pv 3) (pv 7) (fun _ _ => rfl))))  (pss_one (ps_ret (pe_tup (pa_cons (pv 8) (pa_cons (pe_ix (ix_A K) (pe_lst (pa_cons (pe_tx (l := [9, 78, 111, 76, 105, 110, 101]) (by decide +kernel)) (pa_cons (pe_tx (l := [111, 107]) (by decide +kernel)) pa_nil))) (pe_callTy call_intA rfl T.n_int PyProof.Rows.boot_int (pa_cons (pe_cmpR op_le (pe_callB (call_lenA K) rfl T.n_len PySem.boot_len (pa_cons (pv 9) pa_nil)) pe_int (nomark _)) pa_nil)) (fun _ _ => rfl)) (pa_cons (pv 5) (pa_cons (pv 9) pa_nil)))))))))))))))), ?_⟩
  walk_at "go"
  refine ⟨st, .ref qd, rfl, DGet.k (k := kyT [107, 101, 112, 116]) e1, ?_⟩
  walk_at "go"
  refine draw_use po (by decide) (by decide) (fun way H1 w0 w10 p1 s1 => ?_)
  have g1 := s1 _ _ hnl n3
  walk_at "go"
  refine ⟨3, rfl, by decide, by decide, ?_⟩
  refine comp_rng (n := 3) (small (by decide)) (fun D j ys H' => ∃ ws : List (List Nat), ys = ws.map tx /\ ws.length = j /\ (∀ w ∈ ws, w ∈ ns) /\ D ≠ p /\ H' nl = some (.lst (ns.map tx)) /\ nl ≠ D /\ Po H' p /\ SameBut1 p H H') (fun D hD => ⟨[], rfl, rfl, (fun _ z => nomatch z), p1.ne hD, same_new hD _ _ _ g1, ne_of_none g1 hD, p1.same (same_new hD _), s1.trans (SameBut1.of (same_new hD _))⟩) (fun D ys H3 hD hy ⟨ws, ey, hwl, hwm, hDp, gn, nnD, p3, s3⟩ => ?_) ?_
  rotate_left
  · rintro D j ys H3 hD hj hy hl ⟨ws, rfl, hwl, hwm, hDp, gn, nnD, p3, s3⟩
    walk_at "go"
    refine iteT ?_
    walk_at "go"
    refine s_lenL (.inl (SqL.of gn)) ?_
    rw [List.length_map]
    walk_at "go"
    refine draw_use p3 (by omega) (by omega) (fun r4 H4 r40 r41 p4 s4 => ?_)
    obtain ⟨x, ex, hx⟩ := at_memL (l := ns) (i := r4) r40 r41
    walk_at "go"
    refine s_ixL (SqL.of (s4 _ _ gn n3)) (v := tx x) (atI_map tx ex) ?_
    refine comp_next hj (small (by decide)) (s4 _ _ hy hDp) hl ⟨ws ++ [x], by rw [List.map_append]; rfl, by simp [hwl], fun w hw => (List.mem_append.mp hw).elim (hwm w) fun z => by rw [List.mem_singleton.mp z]; exact hx, hDp, by rw [upd_ne nnD]; exact s4 _ _ gn n3, nnD, ?_, fun b o z zn => ?_⟩
    · obtain ⟨a, b, c, e⟩ := p4
      exact ⟨a, b, c, by rw [upd_ne (Ne.symm hDp)]; exact e⟩
    · have hbD : b ≠ D := fun e => by
        have := s1 _ _ z zn
        rw [e, hD] at this; cases this
      rw [upd_ne hbD]
      exact s4 b o (s3 b o z zn) zn
  subst ey
  obtain ⟨nm, one, two, rfl⟩ : ∃ nm one two, ws = [nm, one, two] := by
    match ws, hwl with
    | [a, b, c], _ => exact ⟨a, b, c, rfl⟩
  have N1 : Nm nm := hns _ (hwm _ (by simp))
  have N2 : Nm one := hns _ (hwm _ (by simp))
  have N3 : Nm two := hns _ (hwm _ (by simp))
  have f1 := s3 _ _ e1 n1
  have f2 := s3 _ _ e2 n2
  clear s1 p1 g1 gn nnD hwm hwl
  walk_at "go"
  refine ⟨D, [tx nm, tx one, tx two], rfl, SqL.of hy, rfl, ?_⟩
  walk_at "go"
  have l1 := N1.hi
  have l2 := N2.hi
  have l3 := N3.hi
  have told : ∀ (G : Hp), Po G p -> SameBut1 p H G -> G st = some (.dK [(kyT wKinds, .int kk), (kyT [107, 101, 112, 116], .ref qd)]) -> (tRet (tCall spTold46 [] E0 (tCons (tVar 0) (tCons (tDGet (tVar 1) (tC (tx [107, 105, 110, 100, 115]))) (tCons (tVar 5) tNil))))) { nx := fun x H' => Q V.non H', rt := Q } [some (.ref p), some (.ref st), some (.ref nl), some (.ref qd), some (.int way), some (tx nm), some (tx one), some (tx two), none, none] G := fun G pg sg eg => by
    walk_at "go"
    refine ⟨st, .int kk, rfl, DGet.k (k := kyT wKinds) eg, ?_⟩
    walk_at "go"
    exact ⟨p, kk, nm, rfl, pg, k1, k4, N1, fun T a H' hT hp' s' g' ha => q T _ _ _ _ H' (sg.free1 pg hT) hp' (sg.trans s') g' (.told nm a N1 ha)⟩
  refine ifd (fun hw => ?_) (fun hw => ?_)
  · refine ifp rfl ?_
    exact told H3 p3 s3 f1
  · walk_at "go"
    intro e0 he0
    walk_at "go"
    have t1 := same_new he0 (.dK [])
    refine ⟨qd, e0, kvs, rfl, rfl, .inl (t1 _ _ f2), .inl upd_same, ?_⟩
    have f1' := t1 _ _ f1
    have f2' := t1 _ _ f2
    have p4 := p3.same t1
    have s4 := s3.trans (SameBut1.of t1)
    generalize upd H3 e0 _ = H4 at *
    walk_at "go"
    refine ifd (fun hk => told H4 p4 s4 f1') (fun hk => ?_)
    clear told
    walk_at "go"
    have fin : ∀ (G : Hp) (T : Addr) (l due nm' : List Nat) (v : V), SameBut1 p H G -> Po G p -> G T = none -> Nx kk kvs l due nm' v -> Q (.ref T) (upd G T (.tup [tx l, tx due, tx nm', v])) := fun G T l due nm' v sg pg hT hN => q T l due nm' v _ (sg.free1 pg hT) (pg.same (same_new hT _)) (sg.trans (SameBut1.of (same_new hT _))) upd_same hN
    refine ifd (fun hw4 => ?_) (fun hw4 => ?_)
    · walk_at "go"
      refine ⟨small (show 2 <= 1000 by decide), fun y hy2 => ?_⟩
      have t2 := same_new hy2 (.lst [tx [9, 78, 111, 78, 97, 109, 101], tx [111, 107]])
      have g2 := upd_same (H := H4) (a := y) (o := .lst [tx [9, 78, 111, 78, 97, 109, 101], tx [111, 107]])
      walk_at "go"
      refine ⟨qd, _, rfl, DGet.k (k := kyT one) (t2 _ _ f2'), ?_⟩
      walk_at "go"
      have e3 : atI [tx tNoName, tx tOk] (if (valV kvs (kyT one)).isSome = true then 1 else 0) = some (tx (if (valV kvs (kyT one)).isSome = true then tOk else tNoName)) := by
        cases (valV kvs (kyT one)).isSome <;> rfl
      refine s_ixL (SqL.of g2) e3 ?_
      walk_at "go"
      refine ⟨small (show 4 <= 1000 by decide), fun T hT => ?_⟩
      exact fin _ T (wDrop ++ 32 :: one) _ one .non (s4.trans (SameBut1.of t2)) (p4.same t2) hT (.drop one N2)
    walk_at "go"
    refine ifd (fun hw7 => ?_) (fun hw7 => ?_)
    · walk_at "go"
      refine ⟨small (show 3 <= 1000 by decide), fun y hy2 => ?_⟩
      have t2 := same_new hy2 (.lst [tx [116, 117, 114, 110], tx nm, tx one])
      have g2 : (upd H4 y (.lst [tx [116, 117, 114, 110], tx nm, tx one])) y = some (.lst ([wTurn, nm, one].map tx)) := upd_same
      have f3 := t2 _ _ f2'
      have p5 := p4.same t2
      have s5 := s4.trans (SameBut1.of t2)
      generalize upd H4 y _ = H5 at *
      walk_at "go"
      refine s_joinG (by decide) (SqL.of g2) (by simp only [List.flatten_cons, List.flatten_nil, List.length_append, List.length_cons, List.length_nil]; omega) ?_
      have eg : glue [32] [wTurn, nm, one] = wTurn ++ 32 :: (nm ++ 32 :: one) := by simp [glue]
      rw [eg]
      walk_at "go"
      refine ⟨qd, _, rfl, DGet.k (k := kyT one) f3, ?_⟩
      walk_at "go"
      cases hv : valV kvs (kyT one) with
      | none =>
        refine ifp rfl ?_
        walk_at "go"
        refine ⟨small (show 4 <= 1000 by decide), fun T hT => ?_⟩
        exact fin _ T _ tNoName nm .non s5 p5 hT (.turnN nm one N1 N2 hv)
      | some v =>
        refine ifq rfl ?_
        walk_at "go"
        obtain ⟨a, rfl, ha⟩ := hrw.get hv
        refine ⟨qd, _, rfl, by rw [<- hv]; exact DGet.k (k := kyT one) f3, ?_⟩
        walk_at "go"
        refine ⟨a, rfl, isRow_len ha, fun c hc => sgn9 (isRow_mem ha c hc), ?_⟩
        walk_at "go"
        refine ⟨small (show 4 <= 1000 by decide), fun T hT => ?_⟩
        exact fin _ T _ tOk nm _ s5 p5 hT (.turnY nm one a N1 N2 hv)
    walk_at "go"
    refine ⟨small (show 4 <= 1000 by decide), fun y hy2 => ?_⟩
    have t2 := same_new hy2 (.lst [tx [98, 101, 104, 105, 110, 100], tx nm, tx one, tx two])
    have g2 : (upd H4 y (.lst [tx [98, 101, 104, 105, 110, 100], tx nm, tx one, tx two])) y = some (.lst ([wBehind, nm, one, two].map tx)) := upd_same
    have f3 := t2 _ _ f2'
    have p5 := p4.same t2
    have s5 := s4.trans (SameBut1.of t2)
    generalize upd H4 y _ = H5 at *
    walk_at "go"
    refine s_joinG (by decide) (SqL.of g2) (by simp only [List.flatten_cons, List.flatten_nil, List.length_append, List.length_cons, List.length_nil]; omega) ?_
    have eg : glue [32] [wBehind, nm, one, two] = wBehind ++ 32 :: (nm ++ 32 :: (one ++ 32 :: two)) := by simp [glue]
    rw [eg]
    walk_at "go"
    refine ⟨qd, _, rfl, DGet.k (k := kyT one) f3, ?_⟩
    walk_at "go"
    cases hv : valV kvs (kyT one) with
    | none =>
      refine ifp rfl ?_
      refine ifp rfl ?_
      walk_at "go"
      refine ⟨small (show 4 <= 1000 by decide), fun T hT => ?_⟩
      exact fin _ T _ tNoName nm .non s5 p5 hT (.behindN nm one two N1 N2 N3 (.inl hv))
    | some v =>
      refine ifq rfl ?_
      walk_at "go"
      refine ⟨qd, _, rfl, DGet.k (k := kyT two) f3, ?_⟩
      walk_at "go"
      cases hv2 : valV kvs (kyT two) with
      | none =>
        refine ifp rfl ?_
        walk_at "go"
        refine ⟨small (show 4 <= 1000 by decide), fun T hT => ?_⟩
        exact fin _ T _ tNoName nm .non s5 p5 hT (.behindN nm one two N1 N2 N3 (.inr hv2))
      | some v2 =>
        refine ifq rfl ?_
        walk_at "go"
        obtain ⟨a, rfl, ha⟩ := hrw.get hv
        obtain ⟨b, rfl, hb⟩ := hrw.get hv2
        have la := isRow_len ha
        have lb := isRow_len hb
        refine ⟨qd, _, rfl, by rw [<- hv]; exact DGet.k (k := kyT one) f3, ?_⟩
        walk_at "go"
        refine ⟨qd, _, rfl, by rw [<- hv2]; exact DGet.k (k := kyT two) f3, ?_⟩
        first | refine s_addT (small (by omega)) ?_ | skip
        walk_at "go"
        refine ⟨small (show 2 <= 1000 by decide), fun y3 hy3 => ?_⟩
        have t3 := same_new hy3 (.lst [tx [9, 78, 111, 76, 105, 110, 101], tx [111, 107]])
        have g3 := upd_same (H := H5) (a := y3) (o := .lst [tx [9, 78, 111, 76, 105, 110, 101], tx [111, 107]])
        have p6 := p5.same t3
        have s6 := s5.trans (SameBut1.of t3)
        generalize upd H5 y3 _ = H6 at *
        walk_at "go"
        first | refine s_lenT (small (by rw [List.length_append]; omega)) ?_ | skip
        walk_at "go"
        have e3 : atI [tx tNoLine, tx tOk] (if decide (((a ++ b).length : Int) <= 40) = true then 1 else 0) = some (tx (if (a ++ b).length <= 40 then tOk else tNoLine)) := by
          by_cases z : (a ++ b).length <= 40
          · rw [decide_eq_true (by omega), if_pos z]; rfl
          · rw [decide_eq_false (by omega), if_neg z]; rfl
        refine s_ixL (SqL.of g3) e3 ?_
        walk_at "go"
        refine ⟨small (show 4 <= 1000 by decide), fun T hT => ?_⟩
        exact fin _ T _ _ nm _ s6 p6 hT (.behindY nm one two a b N1 N2 N3 hv hv2)
theorem sc_law_kinds_row:FnScope ["pool","desk","state","k","due"] ["pool","desk","state"] (defScope d_law_kinds_row):=scM
theorem ok_law_kinds_row (F : Fun K "_law_kinds_row" "_law_kinds_row" d_law_kinds_row f fd) (T : Txt P w K mg aK cs aC aF aD) (U_law_said : FnU P w K mg base k "_law_said" ["desk", "row"] (spSaid cs aC)) (U_law_draw : FnU P w K mg base k "_law_draw" ["pool", "many"] (spDraw)) : FnOk P w K mg base CX0 (k + 1) f fd ["pool", "desk", "state"] (spKinds46 aC) := by
  refine F.ok sc_law_kinds_row (fun vs H Q E h => ?_) (fun cdv A outer s H vs Q E hr h => ?_)
  · obtain ⟨p, d, r, st, q, kk, kvs, rfl, _⟩ := h; rfl
  obtain ⟨p, d, r, st, qd, kk, kvs, rfl, po, hd, hS, dp, rp, sp', qp, rs, dq, ds, k1, k4, hrw, q⟩ := h
  have hu := hr.units0
  have hu2 := units1 hr
  obtain ⟨e1, e2⟩ := id hS
  refine ⟨_, (pss_cons (ps_set (i := 3) sc_law_kinds_row.nd rfl (Or.inl rfl) (pe_ix (ix_A K) (pe_lst (pa_cons (pe_op op_plus pe_int (pe_fn U_law_draw hr (pa_cons (pv 0) (pa_cons pe_int pa_nil)))) (pa_cons pe_int (pa_cons pe_int (pa_cons (pe_fn U_law_draw hr (pa_cons (pv 0) (pa_cons (pe_op op_pow pe_int pe_int) pa_nil))) pa_nil))))) (pe_ix (ix_A K) (pe_lst (pa_cons pe_int (pa_cons pe_int (pa_cons pe_int (pa_cons pe_int (pa_cons pe_int (pa_cons pe_int pa_nil))))))) (pe_fn U_law_draw hr (pa_cons (pv 0) (pa_cons pe_int pa_nil))) (fun _ _ => rfl)) (fun _ _ => rfl)))  (pss_cons (ps_set (i := 4) sc_law_kinds_row.nd rfl (Or.inl rfl) (pe_ix (ix_A K) (pe_lst (pa_cons (pe_tx (l := [9, 78, 111, 75, 105, 110, 100, 115]) (by decide +kernel)) (pa_cons (pe_tx (l := [111, 107]) (by decide +kernel)) pa_nil))) (pe_callTy call_intA rfl T.n_int PyProof.Rows.boot_int (pa_cons (pe_chain op_le op_le pe_int (pv 3) pe_int) pa_nil)) (fun _ _ => rfl)))  (pss_cons (ps_if (pt_cmpR (op_eqA K hu) (pv 4) (pe_tx (l := [111, 107]) (by decide +kernel)) (nomark _))   (pss_cons (ps_dput hu2 (pv 2) (pe_tx (l := [107, 105, 110, 100, 115]) (by decide +kernel)) (pv 3) rfl)  (pss_one (ps_dput hu2 (pv 2) (pe_tx (l := [107, 101, 112, 116]) (by decide +kernel)) pe_dnewK rfl)))   pss_nil)  (pss_one (ps_ret (pe_cmpR (op_eqA K hu) (pe_fn U_law_said hr (pa_cons (pv 1) (pa_cons (pe_op op_plus (pe_tx (l := [107, 105, 110, 100, 115, 32]) (by decide +kernel)) (pe_callTy call_strN rfl T.n_str PyProof.Rows.boot_str (pa_cons (pv 3) pa_nil))) pa_nil))) (pv 4) (nomark _))))))), ?_⟩
  walk_at "go"
  refine draw_use po (by decide) (by decide) (fun a1 H1 a10 a14 p1 s1 => ?_)
  walk_at "go"
  refine draw_use p1 (by decide) (by decide) (fun a2 H2 a20 a29 p2 s2 => ?_)
  walk_at "go"
  refine ⟨small (show 4 <= 1000 by decide), fun x hx => ?_⟩
  have t1 := same_new hx (.lst [.int (1 + a1), .int 0, .int 5, .int a2])
  have g1 := upd_same (H := H2) (a := x) (o := .lst [.int (1 + a1), .int 0, .int 5, .int a2])
  have nx := p2.ne hx
  have p3 := p2.same t1
  have s3 : SameBut1 p H (upd H2 x (.lst [.int (1 + a1), .int 0, .int 5, .int a2])) := (s1.trans s2).trans (SameBut1.of t1)
  generalize upd H2 x _ = H3 at *
  walk_at "go"
  refine ⟨small (show 6 <= 1000 by decide), fun y hy => ?_⟩
  have t2 := same_new hy (.lst [.int 0, .int 0, .int 0, .int 1, .int 2, .int 3])
  have g2 := upd_same (H := H3) (a := y) (o := .lst [.int 0, .int 0, .int 0, .int 1, .int 2, .int 3])
  have ny := p3.ne hy
  have p4 := p3.same t2
  have g14 := t2 _ _ g1
  have s4 := s3.trans (SameBut1.of t2)
  generalize upd H3 y _ = H4 at *
  walk_at "go"
  refine draw_use p4 (by decide) (by decide) (fun a3 H5 a30 a36 p5 s5 => ?_)
  obtain ⟨j, ej, hj0, hj3⟩ : ∃ j : Int, atI [V.int 0, V.int 0, V.int 0, V.int 1, V.int 2, V.int 3] a3 = some (.int j) /\ 0 <= j /\ j <= 3 := by
    have : a3 = 0 \/ a3 = 1 \/ a3 = 2 \/ a3 = 3 \/ a3 = 4 \/ a3 = 5 := by omega
    rcases this with rfl | rfl | rfl | rfl | rfl | rfl
    · exact ⟨0, rfl, by decide, by decide⟩
    · exact ⟨0, rfl, by decide, by decide⟩
    · exact ⟨0, rfl, by decide, by decide⟩
    · exact ⟨1, rfl, by decide, by decide⟩
    · exact ⟨2, rfl, by decide, by decide⟩
    · exact ⟨3, rfl, by decide, by decide⟩
  refine s_ixL (SqL.of (s5 _ _ g2 ny)) ej ?_
  obtain ⟨n, en, hn9⟩ : ∃ n : Nat, atI [V.int (1 + a1), V.int 0, V.int 5, V.int a2] j = some (.int (n : Int)) /\ n < 10 ^ 9 := by
    have : j = 0 \/ j = 1 \/ j = 2 \/ j = 3 := by omega
    rcases this with rfl | rfl | rfl | rfl
    · exact ⟨(1 + a1).toNat, by rw [Int.toNat_of_nonneg (by omega)]; rfl, by omega⟩
    · exact ⟨0, rfl, by decide⟩
    · exact ⟨5, rfl, by decide⟩
    · have e9 : (10 : Int) ^ (9 : Int).toNat = 1000000000 := by decide
      rw [e9] at a29
      exact ⟨a2.toNat, by rw [Int.toNat_of_nonneg a20]; rfl, by omega⟩
  refine s_ixL (SqL.of (s5 _ _ g14 nx)) en ?_
  have s6 := s4.trans s5
  clear s1 s2 s3 s4 s5 p1 p2 p3 p4 t1 t2 g1 g2 g14 ej en
  walk_at "go"
  refine ⟨small (show 2 <= 1000 by decide), fun z hz => ?_⟩
  have t3 := same_new hz (.lst [tx [9, 78, 111, 75, 105, 110, 100, 115], tx [111, 107]])
  have g3 := upd_same (H := H5) (a := z) (o := .lst [tx tNoKinds, tx tOk])
  have p6 := p5.same t3
  have s7 := s6.trans (SameBut1.of t3)
  generalize upd H5 z _ = H6 at *
  have hd6 : Dk aC H6 d r kk kvs := let ⟨⟨dx, a⟩, b⟩ := hd; ⟨⟨dx, s7 _ _ a dp⟩, s7 _ _ b rp⟩
  have f1 := s7 _ _ e1 sp'
  have f2 := s7 _ _ e2 qp
  clear s6 p5 t3
  have yes : 1 <= n -> n <= 4 -> ∀ {D : Ends}, (∀ q' G, H6 q' = none -> G st = some (.dK [(kyT wKinds, .int (n : Int)), (kyT [107, 101, 112, 116], .ref q')]) -> G q' = some (.dK []) -> FB [st] H6 G -> D.nx [some (.ref p), some (.ref d), some (.ref st), some (.int (n : Int)), some (tx tOk)] G) -> (tSeq (sDPut (tVar 2) (tC (tx [107, 105, 110, 100, 115])) (tVar 3)) (sDPut (tVar 2) (tC (tx [107, 101, 112, 116])) tDNewK)) D [some (.ref p), some (.ref d), some (.ref st), some (.int (n : Int)), some (tx tOk)] H6 := by
    intro _ _ D hD
    walk_at "go"
    refine ⟨st, _, rfl, DPut.k (k := kyT wKinds) f1 (small1000 (show 2 <= 1000 by decide)), ?_⟩
    rw [st_put1]
    walk_at "go"
    intro q' hq'
    walk_at "go"
    have hq6 : H6 q' = none := by
      by_cases e : q' = st
      · subst e; rw [upd_same] at hq'; cases hq'
      · rwa [upd_ne e] at hq'
    have nq : st ≠ q' := fun e => by rw [e, hq6] at f1; cases f1
    refine ⟨st, _, rfl, DPut.k (k := kyT [107, 101, 112, 116]) (kvs := [(kyT wKinds, .int (n : Int)), (kyT [107, 101, 112, 116], .ref qd)]) (by rw [upd_ne nq]; exact upd_same) (small1000 (show 2 <= 1000 by decide)), ?_⟩
    rw [st_put2]
    refine hD q' _ hq6 upd_same (by rw [upd_ne nq.symm]; exact upd_same) (((FB.refl _ _).atU (by simp)).new hq6 |>.atU (by simp))
  have no : ¬ (1 <= n /\ n <= 4) -> (tIfS (tTest (tOp (rEqA K) (tVar 4) (tC (tx [111, 107])))) (tSeq (sDPut (tVar 2) (tC (tx [107, 105, 110, 100, 115])) (tVar 3)) (sDPut (tVar 2) (tC (tx [107, 101, 112, 116])) tDNewK)) tNext) { nx := (tRet (tOp (rEqA K) (tCall (spSaid cs aC) [] E0 (tCons (tVar 1) (tCons (tOp rPlus (tC (tx [107, 105, 110, 100, 115, 32])) (tCB rStrN (tCons (tVar 3) tNil))) tNil))) (tVar 4))) { nx := fun x H' => Q V.non H', rt := Q }, rt := Q } [some (.ref p), some (.ref d), some (.ref st), some (.int (n : Int)), some (tx tNoKinds)] H6 := by
    intro hno
    walk_at "go"
    refine ifq (by decide) ?_
    walk_at "go"
    refine s_strN (by omega) ?_
    walk_at "go"
    have ll := numT_len 8 n hn9
    refine s_addT (small (by simp only [List.length_cons, List.length_nil]; omega)) ?_
    walk_at "go"
    refine said_kinds (n := n) hd6 hn9 (fun a b => absurd ⟨a, b⟩ hno) (fun _ G sG => ?_)
    walk_at "go"
    exact q r qd kk kvs G (p6.same sG) (hd6.same sG) ⟨sG _ _ f1, sG _ _ f2⟩ (fun b o z n => sG _ _ (s7 b o z fun e => n (by simp [e]))) (.inl ⟨rfl, rfl⟩) k1 k4 hrw (Nat.le_refl _)
  walk_at "go"
  refine ifd (fun n1 => ?_) (fun n1 => ?_)
  rotate_left
  · walk_at "go"
    refine s_ixL (SqL.of g3) (show atI [tx tNoKinds, tx tOk] (if false = true then 1 else 0) = some (tx tNoKinds) from rfl) ?_
    exact no (by omega)
  walk_at "go"
  by_cases n4 : n <= 4
  · rw [decide_eq_true (by omega)]
    refine s_ixL (SqL.of g3) (show atI [tx tNoKinds, tx tOk] (if true = true then 1 else 0) = some (tx tOk) from rfl) ?_
    walk_at "go"
    refine ifp rfl ?_
    refine yes (by omega) n4 (fun q' G hq' a1 a2 fb => ?_)
    clear no yes
    have nst : ∀ {x : Addr} {o : HO}, H6 x = some o -> x ≠ st -> G x = some o := fun z h => fb _ _ z (by simpa using h)
    have hdG : Dk aC G d r kk kvs := hd6.keep fb (by simpa using ds) (by simpa using rs)
    have pG : Po G p := by
      obtain ⟨a, b, c, e⟩ := p6
      exact ⟨a, b, c, nst e (Ne.symm sp')⟩
    walk_at "go"
    refine s_strN (by omega) ?_
    walk_at "go"
    have ll := numT_len 8 n hn9
    refine s_addT (small (by simp only [List.length_cons, List.length_nil]; omega)) ?_
    walk_at "go"
    refine said_kinds (n := n) hdG hn9 (fun c1 c4 r' G2 hr' fb2 hd2 => ?_) (fun hn => absurd ⟨by omega, n4⟩ hn)
    walk_at "go"
    rw [decide_eq_true rfl]
    have pG2 : Po G2 p := by
      obtain ⟨a, b, c, e⟩ := pG
      exact ⟨a, b, c, fb2 _ _ e (by simpa using dp.symm)⟩
    have hH : ∀ x, H6 x = none -> H x = none := fun x hx => s7.free1 p6 hx
    have nr : r' ≠ q' := fun e => by rw [e, a2] at hr'; cases hr'
    have hr6 : H6 r' = none := by
      cases e : H6 r' with
      | none => rfl
      | some o =>
        by_cases z : r' = st
        · rw [z, a1] at hr'; cases hr'
        · rw [nst e z] at hr'; cases hr'
    have dq' : d ≠ q' := fun e => by
      obtain ⟨⟨dx, z⟩, _⟩ := hd6
      rw [e, hq'] at z; cases z
    refine q r' q' n [] G2 pG2 hd2 ⟨fb2 _ _ a1 (by simpa using ds.symm), fb2 _ _ a2 (by simpa using dq'.symm)⟩ (fun b o z hn => ?_) (.inr ⟨hH _ hr6, hH _ hq', nr⟩) (by omega) (by omega) (Rw.nil _) (Nat.zero_le _)
    simp only [List.mem_cons, List.not_mem_nil, or_false, not_or] at hn
    exact fb2 _ _ (nst (s7 b o z hn.1) hn.2.2) (by simpa using hn.2.1)
  · rw [decide_eq_false (by omega)]
    refine s_ixL (SqL.of g3) (show atI [tx tNoKinds, tx tOk] (if false = true then 1 else 0) = some (tx tNoKinds) from rfl) ?_
    exact no (by omega)
theorem sc_law_spoil:FnScope ["way","told","odd"] ["way","told","odd"] (defScope d_law_spoil):=scM
theorem ok_law_spoil (F:Fun K "_law_spoil" "_law_spoil" d_law_spoil f fd) (T:Txt P w K mg aK cs aC aF aD)  : FnOk P w K mg base CX0 (k + 1) f fd ["way","told","odd"] (spSpoil46):=by
 refine F.ok sc_law_spoil (fun vs H Q E h=>?_) (fun cdv A outer s H vs Q E hr h=>?_)
 ·obtain ⟨w,t,ns,rfl,_⟩:=h; rfl
 obtain ⟨w,t,ns,rfl,ht,hl,q⟩:=h
 have hu:=hr.units0
 have bump:∀ {H':Hp} {ys:List V},SameBut1 t H H'->SameBut1 t H (upd H' t (.lst ys)):=fun s b o h n=>by rw [upd_ne n]; exact s b o h n
 refine ⟨_,(pss_cons (ps_if (pt_cmpR (op_eqA K hu) (pv 0) pe_int (nomark _)) (pss_one (ps_expr (pe_bmK K PySem.F.plainAttrs_list PySem.F.slot_list_append PySem.F.type_list_append mt_append (pv 1) (pa_cons (pv 2) pa_nil)))) pss_nil) (pss_cons (ps_if (pt_cmpR (op_eqA K hu) (pv 0) pe_int (nomark _)) (pss_one (ps_expr (pe_bm0K K PySem.F.plainAttrs_list PySem.F.slot_list_clear PySem.F.type_list_clear mt_clear (pv 1)))) pss_nil) (pss_cons (ps_if (pt_cmpR (op_eqA K hu) (pv 0) pe_int (nomark _)) (pss_one (ps_asg (pe_lst (pa_cons (pv 2) pa_nil)) (pg_slc (pv 1) po_none (po_some pe_int)))) pss_nil) (pss_one (ps_if (pt_cmpR (op_eqA K hu) (pv 0) pe_int (nomark _)) (pss_one (ps_expr (pe_bm0K K PySem.F.plainAttrs_list PySem.F.slot_list_reverse PySem.F.type_list_reverse mt_reverse (pv 1)))) pss_nil))))),?_⟩
 walk_at "go"
 by_cases h0:w = 0
 ·subst h0
  refine ifp rfl ?_
  walk_at "go"
  refine ⟨SqL.ty (SqL.of ht),?_⟩
  walk_at "go"
  refine ⟨t,_,_,rfl,rfl,ht,small1000 (by omega),?_⟩
  walk_at "go"
  refine ifq rfl ?_
  walk_at "go"
  refine ifq rfl ?_
  walk_at "go"
  refine ifq rfl ?_
  exact q _ SameBut1.upd
 refine ifq (decide_eq_false h0) ?_
 walk_at "go"
 by_cases h1:w = 1
 ·subst h1
  refine ifp rfl ?_
  walk_at "go"
  refine ⟨SqL.ty (SqL.of ht),?_⟩
  walk_at "go"
  refine ⟨t,_,rfl,rfl,ht,?_⟩
  walk_at "go"
  refine ifq rfl ?_
  walk_at "go"
  refine ifq rfl ?_
  exact q _ SameBut1.upd
 refine ifq (decide_eq_false h1) ?_
 walk_at "go"
 by_cases h2:w = 2
 ·subst h2
  refine ifp rfl ?_
  walk_at "go"
  refine ⟨small (show 1 <= 1000 by decide),fun b hb=>?_⟩
  have t1:=same_new hb (.lst [tx [122,122]])
  walk_at "go"
  refine ⟨t,b,_,_,rfl,rfl,ne_of_none ht hb,t1 _ _ ht,upd_same,by rw [PySem.sizeLine_eq]; simp; omega,fun ys _=>?_⟩
  walk_at "go"
  refine ifq rfl ?_
  exact q _ (bump (SameBut1.of t1))
 refine ifq (decide_eq_false h2) ?_
 walk_at "go"
 by_cases h3:w = 3
 ·subst h3
  refine ifp rfl ?_
  walk_at "go"
  refine ⟨SqL.ty (SqL.of ht),?_⟩
  walk_at "go"
  refine ⟨t,_,rfl,rfl,ht,?_⟩
  exact q _ SameBut1.upd
 refine ifq (decide_eq_false h3) ?_
 exact q _ (SameBut1.refl _ _)
theorem sc_law_as_kept:FnScope ["desk","kept","lists","number","names","told","written"] ["desk","kept","lists","number"] (defScope d_law_as_kept):=scM
theorem ok_law_as_kept (F:Fun K "_law_as_kept" "_law_as_kept" d_law_as_kept f fd) (T:Txt P w K mg aK cs aC aF aD) (U_Desk_names:MeU P w K mg base k aC "names" ["self"] (spDkNames aC)) (U_law_spoil:FnU P w K mg base k "_law_spoil" ["way","told","odd"] (spSpoil46)) (U_Desk_say:MeUE P w K mg base k aC "say" ["self","row"] (spSay cs aC)) (U_law_shown:FnU P w K mg base k "_law_shown" ["row"] (spShown46)):FnOk P w K mg base (CXE P w) (k + 1) f fd ["desk","kept","lists","number"] (spKept46 aC):=by
 refine F.okE sc_law_as_kept (fun vs H Q E h=>?_) (fun cdv A outer s H vs Q E hr h=>?_)
 ·obtain ⟨d,r,q,ls,kk,kvs,hs,bad,n,rfl,_⟩:=h; rfl
 obtain ⟨d,r,qd,ls,kk,kvs,hs,bad,n,rfl,hd,e2,hrw,h64,hls,hsl,n0,n100,hH,lb,hbad,q⟩:=h
 have hu:=hr.units0
 have hu2:=units1 hr
 obtain ⟨ss,hk,hkl,hkn⟩:=hrw.keys
 refine nox_ex ⟨_,(pss_cons (ps_set (i:=4) sc_law_as_kept.nd rfl (Or.inl rfl) (pe_callB (call_sortT K rfl) rfl T.n_sorted PyProof.Rows.boot_sorted (pa_cons (pv 1) pa_nil)))  (pss_cons (ps_set (i:=5) sc_law_as_kept.nd rfl (Or.inl rfl) (pe_mth0 T.cl_Desk U_Desk_names hr (pv 0)))  (pss_cons (ps_set (i:=6) sc_law_as_kept.nd rfl (Or.inl rfl) (pe_ifExp (pt_cmpR (op_neA K hu) (pv 4) (pe_lst pa_nil) (nomark _)) (pe_bmK K PySem.F.plainAttrs_str PySem.F.slot_str_join PySem.F.type_str_join (mt_joinG K) (pe_tx (l:=[32]) (by decide +kernel)) (pa_cons (pv 4) pa_nil)) (pe_tx (l:=[110,111,110,101]) (by decide +kernel))))  (pss_cons (ps_if (PW.pt (pw_or (pt_not (pt_tru K (pe_callB (call_isiA K) rfl T.n_isinstance PyProof.Rows.boot_isinstance (pa_cons (pv 5) (pa_cons (pe_ty T.n_list PyProof.Rows.boot_list) pa_nil))))) (pw_or (pt_cmpR (op_neA K hu) (pv 5) (pv 4) (nomark _)) (pw_or1 (pt_cmpR (op_neA K hu) (pe_mthE T.cl_Desk U_Desk_say hr xf_no (pv 0) (pa_cons (pe_tx (l:=[110,97,109,101,115]) (by decide +kernel)) pa_nil)) (pv 6) (nomark _))))))   (pss_one (ps_ret pe_bl))   pss_nil)  (pss_cons (ps_if (pt_cmpR (op_eqA K hu) (pe_op op_mod (pv 3) pe_int) pe_int (nomark _))   (pss_one (ps_expr (pe_fn U_law_spoil hr (pa_cons (pe_op op_mod (pe_op op_fdiv (pv 3) pe_int) pe_int) (pa_cons (pv 5) (pa_cons (pe_tx (l:=[122,122]) (by decide +kernel)) pa_nil))))))   (pss_one (ps_expr (pe_bmK K PySem.F.plainAttrs_list PySem.F.slot_list_append PySem.F.type_list_append mt_append (pv 2) (pa_cons (pe_tup (pa_cons (pv 5) (pa_cons (pv 4) pa_nil))) pa_nil)))))  (pss_one (ps_ret (pe_cmpR (op_eqA K hu) (pe_comp (own:=["name"]) (sel:=[0,1]) (compOk_of (osc:=(defScope d_law_as_kept)) (N:=["desk","kept","lists","number","names","told","written"]) (by decide +kernel)) rfl (pi_listK K (pv 4)) (fun _ _ _ _ _=>(pg_name (i:=0) (show (["name","desk","kept"]:List Str).Nodup from by decide +kernel) rfl (Or.inl rfl))) (gk_name (by decide)) (fun _ _ _ _ _=>pif_one (pt_cmpR (op_neA K hu) (pe_mthE T.cl_Desk U_Desk_say hr xf_no (pv 1) (pa_cons (pe_op op_plus (pe_tx (l:=[115,104,111,119,32]) (by decide +kernel)) (pv 0)) pa_nil)) (pe_fn U_law_shown hr (pa_cons (pe_dget hu2 (pv 2) (pv 0) (fun _ _=>rfl)) pa_nil)) (nomark _))) (fun _ _ _ _ _=>(pv 0))) (pe_lst pa_nil) (nomark _))))))))),?_⟩
 walk_at "go"
 refine ⟨qd,kvs,ss,rfl,.inl e2,hk,by omega,fun nl ts hnl hpt hst=>?_⟩
 obtain ⟨ns,rfl⟩:∃ ns,ts = strL ns:=⟨_,(strL_of ts).symm⟩
 rw [strL_tx]
 have hS:Srt kvs ns:=⟨ss,hk,by omega,hpt,hst⟩
 have hm:=hS.mem hrw
 have hl:=hS.len
 have h8:∀ n ∈ ns,n.length <= 8:=fun n hn=>(hm n hn).1.hi
 have t1:=same_new hnl (.lst (ns.map tx))
 have g1:=upd_same (H:=H) (a:=nl) (o:=.lst (ns.map tx))
 generalize upd H nl _ = H1 at *
 have hd1:=hd.same t1
 obtain ⟨⟨dx,e1⟩,_⟩:=id hd1
 walk_at "go"
 refine ⟨d,dx,_,rfl,e1,rfl,?_⟩
 walk_at "go"
 refine ⟨d,r,kk,kvs,ns,rfl,hd1,hS,fun tl H2 htl s2 g2=>?_⟩
 have g12:=s2 _ _ g1
 walk_at "go"
 refine ⟨small (show 0 <= 1000 by decide),fun e0 he0=>?_⟩
 have t3:=same_new he0 (.lst [])
 have fl:(ns.map tx).all flatV = true:=by rw [List.all_map,List.all_eq_true]; intro _ _; rfl
 refine s_neL (SqL.of (t3 _ _ g12)) (SqL.of upd_same) fl rfl ?_
 rw [eqVs_txs]
 have s3:=s2.trans t3
 have g13:=t3 _ _ g12
 have g23:=t3 _ _ g2
 have htl3:H tl = none:=t1.free htl
 generalize upd H2 e0 _ = H3 at *
 walk_at "go"
 refine if_te (fun x G=>x = tx (wrt ns)/\G = H3) ?_ ?_ ?_
 rotate_left
 ·intro hc R' hR
  have hne:ns ≠ []:=fun z=>by rw [decide_eq_true z] at hc; cases hc
  walk_at "go"
  have h9:=flat8 h8
  refine s_joinG (by decide) (SqL.of g13) (by omega) ?_
  exact hR _ _ ⟨by rw [wrt,if_neg hne],rfl⟩
 ·intro hc R' hR
  have hne:ns = []:=by
   by_cases z:ns = []
   ·exact z
   ·rw [decide_eq_false z] at hc; cases hc
  walk_at "go"
  exact hR _ _ ⟨by rw [wrt,if_pos hne],rfl⟩
 rintro x G ⟨rfl,rfl⟩
 have sA:Same H G:=t1.trans s3
 have hdA:=hd.same sA
 obtain ⟨⟨dx3,e13⟩,_⟩:=id hdA
 walk_at "go"
 refine s_isi (b:=true) (TyOf.lst g23) (by with_unfolding_all rfl) ?_
 walk_at "go"
 refine ifq rfl ?_
 walk_at "go"
 refine s_neL (SqL.of g23) (SqL.of g13) fl fl ?_
 rw [eqVs_refl fl]
 walk_at "go"
 refine ifq rfl ?_
 walk_at "go"
 refine ⟨d,dx3,_,rfl,e13,rfl,?_⟩
 walk_at "go"
 refine say_names' hdA hS h8 (fun H4 s4=>?_)
 walk_at "go"
 refine ifq (by rw [decide_eq_true rfl]; rfl) ?_
 walk_at "go"
 have sB:Same H H4:=sA.trans s4
 have g1B:=s4 _ _ g13
 have gtB:=s4 _ _ g23
 have gls:=sB _ _ hls
 have nb:∀ x,H x = none->x ∉ bad:=fun x hx hb=>by
  obtain ⟨o,z⟩:=hbad x hb
  rw [hx] at z; cases z
 refine ifj2 (fun σ' H'=>σ' = [some (.ref d),some (.ref qd),some (.ref ls),some (.int n),some (.ref nl),some (.ref tl),some (tx (wrt ns))]/\∃ hs',FB [ls] H H'/\H' ls = some (.lst hs')/\hs'.length <= hs.length + 1/\Hd46 bad H' hs'/\H' nl = some (.lst (ns.map tx))) ?_ ?_ ?_
 rotate_left
 ·intro _ N hN
  walk_at "go"
  refine ⟨_,tl,_,rfl,gtB,by rw [List.length_map]; omega,fun H5 s5=>?_⟩
  have sC:Same H H5:=fun b o z=>s5 b o (sB b o z) (ne_of_none z htl3)
  have ntn:nl ≠ tl:=fun e=>by rw [e,htl] at g1; cases g1
  exact hN _ _ ⟨rfl,hs,FB.of sC,sC _ _ hls,by omega,hH.keep (FB.of (bad:=[]) sC) (fun x hx=>nomatch hx),s5 _ _ g1B ntn⟩
 ·intro _ N hN
  walk_at "go"
  refine ⟨SqL.ty (SqL.of gls),?_⟩
  walk_at "go"
  refine ⟨small (show 2 <= 1000 by decide),fun T hT=>?_⟩
  have t5:=same_new hT (.tup [.ref tl,.ref nl])
  have g5:=upd_same (H:=H4) (a:=T) (o:=.tup [.ref tl,.ref nl])
  have sC:=sB.trans t5
  have hTH:H T = none:=sB.free hT
  have gtC:=t5 _ _ gtB
  have gnC:=t5 _ _ g1B
  have glC:=t5 _ _ gls
  generalize upd H4 T _ = H5 at *
  walk_at "go"
  refine ⟨ls,_,_,rfl,rfl,glC,by rw [sizeLine_eq]; omega,?_⟩
  walk_at "go"
  have nlT:ls ≠ T:=ne_of_none hls hTH
  have nlt:ls ≠ tl:=ne_of_none hls htl3
  have nln:ls ≠ nl:=ne_of_none hls hnl
  have fbC:FB [ls] H (upd H5 ls (.lst (hs ++ [.ref T]))):=(FB.of sC).atU (by simp)
  have hH5:Hd46 bad (upd H5 ls (.lst (hs ++ [.ref T]))) hs:=hH.keep fbC (fun x hx=>by rw [List.mem_singleton.mp hx]; exact lb)
  exact hN _ _ ⟨rfl,hs ++ [.ref T],fbC,upd_same,by rw [List.length_append,List.length_singleton]; exact Nat.le_refl _,hH5.more (ns:=ns) (nb T hTH) (nb tl htl3) (nb nl hnl) (by rw [upd_ne nlT.symm]; exact g5) (by rw [upd_ne nlt.symm]; exact gtC) (by rw [upd_ne nln.symm]; exact gnC),by rw [upd_ne nln.symm]; exact gnC⟩
 rintro σ' H5 ⟨rfl,hs',fb,gl,hsl',hH',gn⟩
 have ne1:d ∉ [ls]:=by
  obtain ⟨⟨dx,z⟩,_⟩:=hd
  simp only [List.mem_singleton]
  intro e; rw [e,hls] at z; cases z
 have ne2:r ∉ [ls]:=by
  simp only [List.mem_singleton]
  intro e; have z:=hd.2; rw [e,hls] at z; cases z
 have ne3:qd ∉ [ls]:=by
  simp only [List.mem_singleton]
  intro e; rw [e,hls] at e2; cases e2
 have hd5:=hd.keep fb ne1 ne2
 have e25:=fb _ _ e2 ne3
 obtain ⟨⟨dx5,e15⟩,_⟩:=id hd5
 walk_at "go"
 refine ⟨nl,rfl,⟨_,SqL.of gn⟩,?_⟩
 refine comp_none gn (fun D H6 hD s6 g6=>?_) ?_
 ·walk_at "go"
  refine ⟨small (show 0 <= 1000 by decide),fun e6 he6=>?_⟩
  walk_at "go"
  have t6:=same_new he6 (.lst [])
  refine s_eqL (SqL.of (t6 _ _ g6)) (SqL.of upd_same) rfl rfl ?_
  have sD:=s6.trans t6
  exact q hs' _ (fb.s sD) (sD _ _ gl) hsl' (hH'.keep (FB.of (bad:=[]) sD) (fun x hx=>nomatch hx))
 ·intro D i x H6 R hD hx s6 hR
  obtain ⟨nm,hnm,rfl⟩:∃ w,ns[i]? = some w/\tx w = x:=by
   rw [List.getElem?_map] at hx
   obtain ⟨w,h1,h2⟩:=Option.map_eq_some_iff.mp hx
   exact ⟨w,h1,h2⟩
  obtain ⟨N1,a,hva,har⟩:=hm nm (List.mem_of_getElem? hnm)
  have l1:=N1.hi
  have hd6:=hd5.same s6
  walk_at "go"
  refine ⟨d,dx5,_,rfl,s6 _ _ e15,rfl,?_⟩
  walk_at "go"
  refine say_show' hd6 N1 hva (by have:=isRow_len har; omega) (fun H7 s7=>?_)
  walk_at "go"
  refine ⟨qd,_,rfl,by rw [<- hva]; exact DGet.k (k:=kyT nm) (s7 _ _ (s6 _ _ e25)),?_⟩
  walk_at "go"
  refine ⟨a,rfl,?_⟩
  walk_at "go"
  rw [decide_eq_true rfl]
  exact hR _ _ s7
theorem sc_law:FnScope ["script","pool","names","desk","other","state","lists","at","one","looks","k","row","due","name","kept"] ["script"] (defScope d_law):=scM
theorem ok_law (F:Fun K "law" "law" d_law f fd) (T:Txt P w K mg aK cs aC aF aD) (U_law_pool:FnU P w K mg base k "_law_pool" ["script","k"] (spPoolD K)) (U_law_names:FnU P w K mg base k "_law_names" ["pool"] (spNames46)) (U_Desk___init__:MkU P w K mg base k aC ["self"] (spDkInit aC)) (U_Desk_say:MeUE P w K mg base k aC "say" ["self","row"] (spSay cs aC)) (U_law_draw:FnU P w K mg base k "_law_draw" ["pool","many"] (spDraw)) (U_law_next_row:FnU P w K mg base k "_law_next_row" ["pool","state","names"] (spNext46)) (U_law_said:FnU P w K mg base k "_law_said" ["desk","row"] (spSaid cs aC)) (U_law_as_kept:FnUE P w K mg base k "_law_as_kept" ["desk","kept","lists","number"] (spKept46 aC)) (U_law_kinds_row:FnU P w K mg base k "_law_kinds_row" ["pool","desk","state"] (spKinds46 aC)):FnOk P w K mg base CX0 (k + 1) f fd ["script"] (spLaw K):=by
 refine F.ok sc_law (fun vs H Q E h=>?_) (fun cdv A outer s H vs Q E hr h=>?_)
 ·obtain ⟨a,ns,rfl,_⟩:=h; rfl
 obtain ⟨sa,ms,rfl,hsc,hms,q⟩:=h
 have hu:=hr.units0
 have hu2:=units1 hr
 refine ⟨_,(pss_cons (ps_set (i:=1) sc_law.nd rfl (Or.inl rfl) (pe_fn U_law_pool hr (pa_cons (pv 0) (pa_cons pe_int pa_nil))))  (pss_cons (ps_set (i:=2) sc_law.nd rfl (Or.inl rfl) (pe_fn U_law_names hr (pa_cons (pv 1) pa_nil)))  (pss_cons (ps_set (i:=3) sc_law.nd rfl (Or.inl rfl) (pe_mke0 U_Desk___init__ hr T.c_Desk))  (pss_cons (ps_set (i:=4) sc_law.nd rfl (Or.inl rfl) (pe_mke0 U_Desk___init__ hr T.c_Desk))  (pss_cons (ps_if (pt_cmpR (op_neA K hu) (pe_mthE T.cl_Desk U_Desk_say hr xf_no (pv 4) (pa_cons (pe_op op_plus (pe_op op_plus (pe_tx (l:=[114,111,119,32]) (by decide +kernel)) (pe_ix (ix_A K) (pv 2) pe_int (fun _ _=>rfl))) (pe_tx (l:=[32,60,63]) (by decide +kernel))) pa_nil)) (pe_tx (l:=[111,107]) (by decide +kernel)) (nomark _))   (pss_one (ps_ret pe_bl))   pss_nil)  (pss_cons (ps_set (i:=5) sc_law.nd rfl (Or.inl rfl) (pe_disp (pps_cons (pe_tx (l:=[107,105,110,100,115]) (by decide +kernel)) pe_int (pps_cons (pe_tx (l:=[107,101,112,116]) (by decide +kernel)) pe_dnewK pps_nil)) rfl rfl (by intro h; cases h) (by decide)))  (pss_cons (ps_set (i:=6) sc_law.nd rfl (Or.inl rfl) (pe_lst pa_nil))  (pss_cons (ps_if (pt_cmpR (op_eqA K hu) (pe_fn U_law_draw hr (pa_cons (pv 1) (pa_cons pe_int pa_nil))) pe_int (nomark _))   (pss_one (ps_for PassesOwn.never rfl (pi_range1 rfl T.n_range (pa_cons pe_int pa_nil)) (pg_name (i:=7) sc_law.nd rfl (Or.inl rfl))   (pss_cons (ps_set (i:=8) sc_law.nd rfl (Or.inl rfl) (pe_op op_plus (pe_ix (ix_A K) (pe_tx (l:=[107,108]) (by decide +kernel)) (pe_op op_fdiv (pv 7) pe_int) (fun _ _=>rfl)) (pe_ix (ix_A K) (pe_tx (l:=[97,98,99,100,101,102,103,104,105,106,107,108,109,110,111]) (by decide +kernel)) (pe_op op_mod (pv 7) pe_int) (fun _ _=>rfl))))  (pss_cons (ps_dput hu2 (pe_dget hu2 (pv 5) (pe_tx (l:=[107,101,112,116]) (by decide +kernel)) (fun _ _=>rfl)) (pv 8) (pe_op op_plus (pe_tx (l:=[40,63]) (by decide +kernel)) (pe_op op_times (pe_tx (l:=[93]) (by decide +kernel)) (pe_callB call_lenD rfl T.n_len PySem.boot_len (pa_cons (pe_dget hu2 (pv 5) (pe_tx (l:=[107,101,112,116]) (by decide +kernel)) (fun _ _=>rfl)) pa_nil)))) rfl)  (pss_one (ps_if (pt_cmpR (op_neA K hu) (pe_fn U_law_said hr (pa_cons (pv 3) (pa_cons (pe_op op_plus (pe_op op_plus (pe_op op_plus (pe_tx (l:=[114,111,119,32]) (by decide +kernel)) (pv 8)) (pe_tx (l:=[32]) (by decide +kernel))) (pe_dget hu2 (pe_dget hu2 (pv 5) (pe_tx (l:=[107,101,112,116]) (by decide +kernel)) (fun _ _=>rfl)) (pv 8) (fun _ _=>rfl))) pa_nil))) (pe_tx (l:=[111,107]) (by decide +kernel)) (nomark _))   (pss_one (ps_ret pe_bl))   pss_nil))))))   pss_nil)  (pss_cons (ps_set (i:=9) sc_law.nd rfl (Or.inl rfl) (pe_ix (ix_A K) (pe_lst (pa_cons pe_int (pa_cons pe_int (pa_cons pe_int (pa_cons (pe_op op_pow pe_int pe_int) pa_nil))))) (pe_fn U_law_draw hr (pa_cons (pv 1) (pa_cons pe_int pa_nil))) (fun _ _=>rfl)))  (pss_cons (ps_for PassesOwn.never rfl (pi_range2 rfl T.n_range (pa_cons pe_int (pa_cons (pe_callB (call_maxA rfl) rfl T.n_max PyProof.Rows.boot_max (pa_cons pe_int (pa_cons (pe_callB (call_minA rfl) rfl T.n_min PyProof.Rows.boot_min (pa_cons pe_int (pa_cons (pe_callB (call_lenA K) rfl T.n_len PySem.boot_len (pa_cons (pv 0) pa_nil)) pa_nil))) pa_nil))) pa_nil))) (pg_name (i:=10) sc_law.nd rfl (Or.inl rfl))   (pss_cons (ps_set (i:=1) sc_law.nd rfl (Or.inl rfl) (pe_fn U_law_pool hr (pa_cons (pv 0) (pa_cons (pv 10) pa_nil))))  (pss_cons (ps_if (PW.pt (pw_and (pt_cmpR (op_eqA K hu) (pe_fn U_law_draw hr (pa_cons (pv 1) (pa_cons pe_int pa_nil))) pe_int (nomark _)) (pw_and1 (pt_not (pt_tru K (pe_fn U_law_kinds_row hr (pa_cons (pv 1) (pa_cons (pv 3) (pa_cons (pv 5) pa_nil)))))))))   (pss_one (ps_ret pe_bl))   pss_nil)  (pss_cons (ps_asg (pe_fn U_law_next_row hr (pa_cons (pv 1) (pa_cons (pv 5) (pa_cons (pv 2) pa_nil)))) (pg_tupK (n:=4) K rfl (pgs_cons (pg_name (i:=11) sc_law.nd rfl (Or.inl rfl)) (pgs_cons (pg_name (i:=12) sc_law.nd rfl (Or.inl rfl)) (pgs_cons (pg_name (i:=13) sc_law.nd rfl (Or.inl rfl)) (pgs_cons (pg_name (i:=14) sc_law.nd rfl (Or.inl rfl)) pgs_nil))))))  (pss_cons (ps_if (pt_cmpR (op_neA K hu) (pe_fn U_law_said hr (pa_cons (pv 3) (pa_cons (pv 11) pa_nil))) (pv 12) (nomark _))   (pss_one (ps_ret pe_bl))   pss_nil)  (pss_cons (ps_if (PW.pt (pw_and (pt_cmpR (op_eqA K hu) (pv 12) (pe_tx (l:=[111,107]) (by decide +kernel)) (nomark _)) (pw_and1 (pt_cmpR op_isA (pv 14) pe_non (nomark _)))))   (pss_one (ps_expr (pe_dpop1 (pe_dget hu2 (pv 5) (pe_tx (l:=[107,101,112,116]) (by decide +kernel)) (fun _ _=>rfl)) (pv 13) ⟨rfl,rfl,rfl,rfl⟩)))   (pss_one (ps_if (pt_cmpR (op_eqA K hu) (pv 12) (pe_tx (l:=[111,107]) (by decide +kernel)) (nomark _))   (pss_one (ps_dput hu2 (pe_dget hu2 (pv 5) (pe_tx (l:=[107,101,112,116]) (by decide +kernel)) (fun _ _=>rfl)) (pv 13) (pv 14) rfl))   pss_nil)))  (pss_one (ps_if (PW.pt (pw_and (pt_cmpR (op_eqA K hu) (pe_fn U_law_draw hr (pa_cons (pv 1) (pa_cons (pv 9) pa_nil))) pe_int (nomark _)) (pw_and1 (pt_not (pt_tru K (pe_fnE U_law_as_kept hr xf_no (pa_cons (pv 3) (pa_cons (pe_dget hu2 (pv 5) (pe_tx (l:=[107,101,112,116]) (by decide +kernel)) (fun _ _=>rfl)) (pa_cons (pv 6) (pa_cons (pe_fn U_law_draw hr (pa_cons (pv 1) (pa_cons pe_int pa_nil))) pa_nil))))))))))   (pss_one (ps_ret pe_bl))   pss_nil))))))))  (pss_cons (ps_if (PW.pt (pw_or (pt_not (pt_tru K (pe_fnE U_law_as_kept hr xf_no (pa_cons (pv 3) (pa_cons (pe_dget hu2 (pv 5) (pe_tx (l:=[107,101,112,116]) (by decide +kernel)) (fun _ _=>rfl)) (pa_cons (pv 6) (pa_cons pe_int pa_nil))))))) (pw_or1 (pt_not (pt_tru K (pe_fnE U_law_as_kept hr xf_no (pa_cons (pv 4) (pa_cons (pe_disp (pps_cons (pe_ix (ix_A K) (pv 2) pe_int (fun _ _=>rfl)) (pe_tx (l:=[60,63]) (by decide +kernel)) pps_nil) rfl rfl (by intro h; cases h) (by decide)) (pa_cons (pv 6) (pa_cons pe_int pa_nil))))))))))   (pss_one (ps_ret pe_bl))   pss_nil)  (pss_one (ps_ret (pe_cmpR (op_eqA K hu) (pe_comp (own:=["one","due"]) (sel:=[]) (compOk_of (osc:=(defScope d_law)) (N:=["script","pool","names","desk","other","state","lists","at","one","looks","k","row","due","name","kept"]) (by decide +kernel)) rfl (pi_listK K (pv 6)) (fun _ _ _ _ _=>(pg_tupK (n:=2) K rfl (pgs_cons (pg_name (i:=0) (show (["one","due"]:List Str).Nodup from by decide +kernel) rfl (Or.inl rfl)) (pgs_cons (pg_name (i:=1) (show (["one","due"]:List Str).Nodup from by decide +kernel) rfl (Or.inl rfl)) pgs_nil)))) (gk_tup (gk_cons gm_name (gm_cons gm_name gm_nil) (gk_name (by decide)) (gk_cons gm_name gm_nil (gk_name (by decide)) gk_nil))) (fun _ _ _ _ _=>pif_one (pt_cmpR (op_neA K hu) (pv 0) (pv 1) (nomark _))) (fun _ _ _ _ _=>(pv 0))) (pe_lst pa_nil) (nomark _))))))))))))))),?_⟩
 clear hu hu2 hr
 walk_at "go"
 refine ⟨sa,ms,0,rfl,hsc,by decide,by decide,fun p0 G0 hp0 s0 po0=>?_⟩
 walk_at "go"
 refine ⟨p0,rfl,po0,fun nl ns G1 hnl po1 s1 gn1 hnn hn1 hn10=>?_⟩
 have f1:Same H G1:=Same.but s0 s1 hp0
 have npn:nl ≠ p0:=fun e=>by
  obtain ⟨a,b,c,z⟩:=po0
  rw [e,z] at hnl; cases hnl
 walk_at "go"
 intro d dx hd hdx hne
 have sd:Same G1 (upd (upd G1 dx (HO.own d)) d (HO.ins aC dx [])):=fun b o z=>by rw [upd_ne (ne_of_none z hd),upd_ne (ne_of_none z hdx)]; exact z
 refine ⟨d,dx,rfl,upd_same,fun r G2 hr fb2 dk2=>⟨rfl,?_⟩⟩
 have s2:Same G1 G2:=fun b o z=>fb2 _ _ (sd _ _ z) (by simp only [List.mem_singleton]; exact ne_of_none z hd)
 have hr1:G1 r = none:=sd.free hr
 clear sd fb2 hr hdx hne
 walk_at "go"
 intro o dx2 ho hdx2 hne2
 have so:Same G2 (upd (upd G2 dx2 (HO.own o)) o (HO.ins aC dx2 [])):=fun b u z=>by rw [upd_ne (ne_of_none z ho),upd_ne (ne_of_none z hdx2)]; exact z
 refine ⟨o,dx2,rfl,upd_same,fun ro G3 hro fb3 dk3=>⟨rfl,?_⟩⟩
 have s3:Same G2 G3:=fun b u z=>fb3 _ _ (so _ _ z) (by simp only [List.mem_singleton]; exact ne_of_none z ho)
 have hro2:G2 ro = none:=so.free hro
 have ddo:d ≠ o:=fun e=>by
  obtain ⟨⟨_,z⟩,_⟩:=dk2
  rw [e,ho] at z; cases z
 have rro:r ≠ ro:=fun e=>by
  have z:=dk2.2
  rw [e,hro2] at z; cases z
 clear so fb3 hro hdx2 hne2
 obtain ⟨nm0,nr,rfl⟩:∃ a b,ns = a :: b:=by
  cases ns with
  | nil=>simp at hn1
  | cons a b=>exact ⟨a,b,rfl⟩
 have N0:=hnn nm0 List.mem_cons_self
 have l0:=N0.hi
 obtain ⟨⟨dxo,eo⟩,_⟩:=id dk3
 walk_at "go"
 refine ⟨o,dxo,_,rfl,eo,rfl,?_⟩
 walk_at "go"
 refine s_ixL (SqL.of (s3 _ _ (s2 _ _ gn1))) (atI_0 _ _) ?_
 walk_at "go"
 have er:[114,111,119,32] ++ nm0 ++ [32,60,63] = rowT nm0 [60,63]:=by simp [rowT]
 rw [er]
 refine say_row' dk3 (by decide) (by decide) (by decide) N0 (by decide) (fun _ G4 fb4 dk4=>?_) (fun h=>absurd h (by decide))
 have gn3:=s3 _ _ (s2 _ _ gn1)
 have gn4:=fb4 _ _ gn3 (by simp only [List.mem_singleton]; intro e; rw [e,dk3.2] at gn3; cases gn3)
 have f4:Same H G4:=fun b u z=>fb4 _ _ (s3 _ _ (s2 _ _ (f1 _ _ z))) (by simp only [List.mem_singleton]; exact ne_of_none (s2 _ _ (f1 _ _ z)) hro2)
 have po4:Po G4 p0:=by
  obtain ⟨a,b,c,z⟩:=po1
  exact ⟨a,b,c,fb4 _ _ (s3 _ _ (s2 _ _ z)) (by simp only [List.mem_singleton]; exact ne_of_none (s2 _ _ z) hro2)⟩
 have dkd:Dk aC G4 d r 4 []:=(dk2.same s3).keep fb4 (by
  simp only [List.mem_singleton]; intro e
  obtain ⟨⟨_,z⟩,_⟩:=dk2
  rw [e,hro2] at z; cases z) (by simpa using rro)
 have hro1:G1 ro = none:=s2.free hro2
 have ho1:G1 o = none:=s2.free ho
 clear fb4 s3 s2 dk3 eo gn3 dk2 ho hro2
 walk_at "go"
 refine ifq rfl ?_
 walk_at "go"
 intro st hst
 refine s_pairs2 ?_
 walk_at "go"
 intro qd hqd
 have hqd4:G4 qd = none:=(same_new hst _).free hqd
 have nsq:st ≠ qd:=ne_of_none upd_same hqd
 refine ⟨by rw [upd_ne nsq]; exact upd_same,[(kyT wKinds,.int 4),(kyT [107,101,112,116],.ref qd)],rfl,(show 2 <= 15 by decide),?_⟩
 have sS:Same G4 (upd (upd (upd G4 st (.dK [])) qd (.dK [])) st (.dK (mergeK [] [(kyT wKinds,.int 4),(kyT [107,101,112,116],.ref qd)]))):=fun b u z=>by
  rw [upd_ne (ne_of_none z hst),upd_ne (ne_of_none z hqd4),upd_ne (ne_of_none z hst)]; exact z
 have gS:St46 (upd (upd (upd G4 st (.dK [])) qd (.dK [])) st (.dK (mergeK [] [(kyT wKinds,.int 4),(kyT [107,101,112,116],.ref qd)]))) st qd 4 []:=⟨upd_same,by rw [upd_ne nsq.symm]; exact upd_same⟩
 generalize upd (upd (upd G4 st _) qd _) st _ = G5 at *
 walk_at "go"
 refine ⟨small (show 0 <= 1000 by decide),fun ls hls=>?_⟩
 have s6:=same_new hls (.lst [])
 have gl6:=upd_same (H:=G5) (a:=ls) (o:=.lst [])
 have hls4:G4 ls = none:=sS.free hls
 have w0:W46 aC H (upd G5 ls (.lst [])) p0 nl d r o ro st qd ls 4 [] [] (nm0 :: nr) nm0 []:={
  sm:=(f4.trans sS).trans s6
  po:=(po4.same sS).same s6
  dk:=(dkd.same sS).same s6
  ot:=(dk4.same sS).same s6
  sta:=⟨s6 _ _ gS.1,s6 _ _ gS.2⟩
  gn:=s6 _ _ (sS _ _ gn4)
  gl:=gl6
  hd:=fun _ h=>nomatch h
  k1:=by decide
  k4:=by decide
  rw:=Rw.nil _
  nn:=hnn
  n1:=hn1
  n10:=hn10
  fp:=hp0
  fd:=f1.free hd
  fr:=f1.free hr1
  fs:=f4.free hst
  fq:=f4.free hqd4
  fl:=f4.free hls4
  ddo:=ddo
  rro:=rro
  rst:=fun e=>by have z:=dkd.2; rw [e,hst] at z; cases z
  rqd:=fun e=>by have z:=dkd.2; rw [e,hqd4] at z; cases z
  ost:=fun e=>by have z:=dk4.2; rw [e,hst] at z; cases z
  oqd:=fun e=>by have z:=dk4.2; rw [e,hqd4] at z; cases z
  sqd:=nsq }
 generalize upd G5 ls _ = G6 at *
 clear s6 gl6 hls4 sS gS hls hqd hqd4 nsq hst dkd dk4 gn4 po4 f4 ddo rro hro1 ho1 hr1 gn1 po1 s1 f1 hnl hd npn er
 walk_at "go"
 refine draw_use w0.po (by decide) (by decide) (fun r8 G7 _ _ po7 s7=>?_)
 have w1:=w0.draw s7 po7
 clear w0 s7 po7
 walk_at "go"
 refine ifj (fun σ' G'=>∃ (kvs:Kv) (o7 o8:Option V),σ' = [some (.ref sa),some (.ref p0),some (.ref nl),some (.ref d),some (.ref o),some (.ref st),some (.ref ls),o7,o8,none,none,none,none,none,none]/\W46 aC H G' p0 nl d r o ro st qd ls 4 kvs kvs (nm0 :: nr) nm0 []/\kvs.length <= 30) ?_ ?_ (fun _=>⟨[],none,none,rfl,w1,by decide⟩)
 rotate_left
 ·intro _ N hN
  walk_at "go"
  refine ⟨30,rfl,by decide,by decide,?_⟩
  refine for_rng (n:=30) (fun i σ G'=>∃ (kvs:Kv) (o7 o8:Option V),σ = [some (.ref sa),some (.ref p0),some (.ref nl),some (.ref d),some (.ref o),some (.ref st),some (.ref ls),o7,o8,none,none,none,none,none,none]/\W46 aC H G' p0 nl d r o ro st qd ls 4 kvs kvs (nm0 :: nr) nm0 []/\kvs.length <= i) ⟨[],_,_,rfl,w1,Nat.zero_le _⟩ ?_ ?_
  rotate_left
  ·rintro σ G' ⟨kvs,o7,o8,rfl,w2,hkl⟩
   exact hN _ _ ⟨kvs,o7,o8,rfl,w2,hkl⟩
  clear w1 hN
  rintro i σ G8 hi ⟨kvs,o7,o8,rfl,w2,hkl⟩
  have ei:(0:Int) + (i:Int) = (i:Int):=by omega
  rw [ei]
  walk_at "go"
  obtain ⟨x1,ex1,hx1⟩:=at_mem (l:=[107,108]) (i:=(i:Int) / 15) (by omega) (by show (i:Int) / 15 < 2; omega)
  refine s_ixT (small (by decide)) ex1 ?_
  walk_at "go"
  obtain ⟨x2,ex2,hx2⟩:=at_mem (l:=[97,98,99,100,101,102,103,104,105,106,107,108,109,110,111]) (i:=(i:Int) % 15) (by omega) (by show (i:Int) % 15 < 15; omega)
  refine s_ixT (small (by decide)) ex2 ?_
  have N1:Nm ([x1] ++ [x2]):=⟨by show 1 <= 2; decide,by show 2 <= 8; decide,fun c hc=>by
   rcases List.mem_append.mp hc with z | z
   ·rw [List.mem_singleton.mp z]
    simp only [List.mem_cons,List.not_mem_nil,or_false] at hx1
    rcases hx1 with rfl | rfl <;> decide
   ·rw [List.mem_singleton.mp z]
    exact (show ∀ c ∈ ([97,98,99,100,101,102,103,104,105,106,107,108,109,110,111]:List Nat),c ∈ ltr by decide) x2 hx2⟩
  refine s_addT (small (show 2 <= 1000 by decide)) ?_
  have lon:([x1] ++ [x2]).length = 2:=rfl
  generalize [x1] ++ [x2] = one at N1 lon ⊢
  clear ex1 ex2 hx1 hx2
  walk_at "go"
  refine ⟨st,.ref qd,rfl,DGet.k (k:=kyT [107,101,112,116]) w2.sta.1,?_⟩
  walk_at "go"
  refine ⟨qd,kvs,rfl,.inl w2.sta.2,?_⟩
  walk_at "go"
  refine s_mulT (by omega) (by omega) (by decide) ?_
  rw [rep_tx,Int.toNat_natCast]
  have lrw:([40,63] ++ List.replicate kvs.length 93).length = kvs.length + 2:=by rw [List.length_append,List.length_replicate,Nat.add_comm]; rfl
  refine s_addT (small (by rw [List.length_replicate]; show 2 + _ <= 1000; omega)) ?_
  have hro:isRow 4 ([40,63] ++ List.replicate kvs.length 93) = true:=isRow_mk (by omega) fun c hc=>by
   rcases List.mem_append.mp hc with z | z
   ·exact (show ∀ c ∈ ([40,63]:List Nat),c ∈ sgn 4 by decide) c z
   ·rw [List.eq_of_mem_replicate z]; decide
  generalize [40,63] ++ List.replicate kvs.length 93 = row at lrw hro ⊢
  walk_at "go"
  refine ⟨st,.ref qd,rfl,DGet.k (k:=kyT [107,101,112,116]) w2.sta.1,?_⟩
  walk_at "go"
  refine ⟨qd,_,rfl,DPut.k (k:=kyT one) w2.sta.2 (by rw [sizeLine_eq]; omega),?_⟩
  have w3:=w2.kept (w2.rw.put N1 hro)
  have rwD:=w2.rw
  generalize upd G8 qd _ = G9 at w3 ⊢
  clear w2
  walk_at "go"
  refine ⟨st,.ref qd,rfl,DGet.k (k:=kyT [107,101,112,116]) w3.sta.1,?_⟩
  walk_at "go"
  have ev:valV (putK kvs (kyT one) (tx row)) (kyT one) = some (tx row):=by rw [valV_put,if_pos rfl]
  refine ⟨qd,_,rfl,by rw [<- ev]; exact DGet.k (k:=kyT one) w3.sta.2,?_⟩
  walk_at "go"
  have er2:[114,111,119,32] ++ one ++ [32] ++ row = rowT one row:=by simp [rowT]
  have ed:dueL 4 row = tOk:=by unfold dueL; rw [if_pos hro]
  rw [er2]
  refine said_next w3.dk (by decide) (by decide) rwD (by omega) (.told one row N1 (by omega)) (fun G10 kd' fb dk aft=>?_)
  have ek:kd' = putK kvs (kyT one) (tx row):=by
   rcases aft.inv with ⟨h,_⟩ | ⟨_,h,_⟩ | ⟨_,_,h⟩
   ·exact absurd ed h
   ·cases h
   ·exact h
  subst ek
  rw [ed]
  walk_at "go"
  refine ifq rfl ?_
  walk_at "go"
  exact ⟨_,_,_,rfl,w3.said fb dk,Nat.le_trans (length_putK _ _ _) (by omega)⟩
 rintro σ' G8 ⟨kvs,o7,o8,rfl,w2,hkl⟩
 walk_at "go"
 refine ⟨small (show 4 <= 1000 by decide),fun lk hlk=>?_⟩
 have t9:=same_new hlk (.lst [V.int 1,V.int 2,V.int 5,V.int (10 ^ Int.toNat 9)])
 have g9:=upd_same (H:=G8) (a:=lk) (o:=.lst [V.int 1,V.int 2,V.int 5,V.int (10 ^ Int.toNat 9)])
 have w3:=w2.same t9
 have nlk:=w2.po.ne hlk
 generalize upd G8 lk _ = G9 at *
 clear w2 t9 w1 hlk
 walk_at "go"
 refine draw_use w3.po (by decide) (by decide) (fun r9 G10 r90 r94 po10 s10=>?_)
 obtain ⟨lo,elo,hlo1,hlo2⟩:∃ lo:Int,atI [V.int 1,V.int 2,V.int 5,V.int (10 ^ Int.toNat 9)] r9 = some (.int lo)/\0 < lo/\lo < 2 ^ 200:=by
  have:r9 = 0\/r9 = 1\/r9 = 2\/r9 = 3:=by omega
  rcases this with rfl | rfl | rfl | rfl
  ·exact ⟨1,rfl,by decide,by decide⟩
  ·exact ⟨2,rfl,by decide,by decide⟩
  ·exact ⟨5,rfl,by decide,by decide⟩
  ·exact ⟨10 ^ Int.toNat 9,rfl,by decide,by decide⟩
 refine s_ixL (SqL.of (s10 _ _ g9 nlk)) elo ?_
 have w4:=w3.draw s10 po10
 clear w3 s10 po10 g9 elo
 walk_at "go"
 refine s_lenL (.inl (w4.sm.seq hsc)) ?_
 rw [List.length_map]
 walk_at "go"
 obtain ⟨j,ej⟩:∃ j:Int,j = (if (if (ms.length:Int) < 30 then (ms.length:Int) else 30) > 2 then if (ms.length:Int) < 30 then (ms.length:Int) else 30 else 2):=⟨_,rfl⟩
 have hj:2 <= j/\j <= 30:=by rw [ej]; split <;> split <;> omega
 rw [<- ej]
 clear ej
 refine ⟨1,j,rfl,⟨by decide,by decide,by omega,by omega⟩,?_⟩
 refine for_rng (n:=(j - 1).toNat) (fun i σ G'=>∃ (p r qd:Addr) (k:Int) (kvs:Kv) (hs:List V) (o7 o8 o10 o11 o12 o13 o14:Option V),σ = [some (.ref sa),some (.ref p),some (.ref nl),some (.ref d),some (.ref o),some (.ref st),some (.ref ls),o7,o8,some (.int lo),o10,o11,o12,o13,o14]/\W46 aC H G' p nl d r o ro st qd ls k kvs kvs (nm0 :: nr) nm0 hs/\kvs.length <= 30 + i/\hs.length <= i) ⟨p0,r,qd,4,kvs,[],_,_,_,_,_,_,_,rfl,w4,by omega,Nat.zero_le _⟩ ?_ ?_
 ·clear w4 hkl
  rintro i σ G11 hi ⟨p,r,qd,kk,kvs,hs,q7,q8,q10,q11,q12,q13,q14,rfl,w5,hkl,hsl⟩
  walk_at "go"
  refine ⟨sa,ms,_,rfl,w5.sm.seq hsc,by omega,by omega,fun p' G12 hp' s12 po12=>?_⟩
  have w6:=w5.pool s12 hp' po12
  clear w5 s12 hp' po12
  walk_at "go"
  refine draw_use w6.po (by decide) (by decide) (fun r12 G13 _ _ po13 s13=>?_)
  have w7:=w6.draw s13 po13
  clear w6 s13 po13
  walk_at "go"
  refine and_keep46 (fun G=>∃ (r' qd':Addr) (k':Int) (kvs':Kv),W46 aC H G p' nl d r' o ro st qd' ls k' kvs' kvs' (nm0 :: nr) nm0 hs/\kvs'.length <= 30 + i) ⟨r,qd,kk,kvs,w7,hkl⟩ ?_ ?_
  ·intro _ R' hR
   walk_at "go"
   obtain ⟨a1,a2,a3,a4,a5,a6,a7,a8⟩:=w7.np
   obtain ⟨d1,d2,d3,d4,d5,d6⟩:=w7.ins
   exact ⟨p',d,r,st,qd,kk,kvs,rfl,w7.po,w7.dk,w7.sta,a1,a2,a5,a6,w7.rst,d3,d2,w7.k1,w7.k4,w7.rw,fun r' q' k' kvs' G14 po dk sta fb hc k1 k4 rw hl=>⟨true,rfl,hR _ ⟨r',q',k',kvs',w7.kinds po dk sta fb hc k1 k4 rw,by omega⟩⟩⟩
  rintro G14 ⟨r,qd,kk,kvs,w8,hkl⟩
  clear w7
  refine ifq rfl ?_
  walk_at "go"
  obtain ⟨a1,a2,a3,a4,a5,a6,a7,a8⟩:=w8.np
  refine ⟨p',st,qd,nl,kk,kvs,nm0 :: nr,rfl,w8.po,w8.sta,w8.gn,a5,a6,a7,w8.k1,w8.k4,w8.rw,w8.nn,w8.n1,w8.n10,fun T l due nm v G15 hT po15 s15 gT nx=>?_⟩
  have w9:=w8.draw s15 po15
  clear w8 s15 po15 a1 a2 a3 a4 a5 a6 a7 a8
  refine s_gtup (SqT.of gT) rfl ?_
  clear gT hT
  walk_at "go"
  refine said_next w9.dk w9.k1 w9.k4 w9.rw (by omega) nx (fun G16 kd fb dk aft=>?_)
  have w10:=w9.said fb dk
  have hrw:=aft.rw w9.rw
  clear w9 fb dk nx
  walk_at "go"
  refine ifq (by rw [decide_eq_true rfl]; rfl) ?_
  walk_at "go"
  have hk2:=hrw.2
  have hrw:=hrw.1
  have look:∀ {D:Ends} (G:Hp),W46 aC H G p' nl d r o ro st qd ls kk kd kd (nm0 :: nr) nm0 hs->(∀ G' hs',W46 aC H G' p' nl d r o ro st qd ls kk kd kd (nm0 :: nr) nm0 hs'->hs'.length <= hs.length + 1->D.nx [some (.ref sa),some (.ref p'),some (.ref nl),some (.ref d),some (.ref o),some (.ref st),some (.ref ls),q7,q8,some (.int lo),some (.int (1 + (i:Int))),some (tx l),some (tx due),some (tx nm),some v] G')->(tIfS (tAnd (tTest (tOp (rEqA K) (tCall spDraw [] E0 (tCons (tVar 1) (tCons (tVar 9) tNil))) (tC (V.int 0)))) (tNot (tTru K (tCallE (spKept46 aC) rNo (tCons (tVar 3) (tCons (tDGet (tVar 5) (tC (tx [107,101,112,116]))) (tCons (tVar 6) (tCons (tCall spDraw [] E0 (tCons (tVar 1) (tCons (tC (V.int 8)) tNil))) tNil)))))))) (tRet (tC (V.bl false))) tNext) D [some (.ref sa),some (.ref p'),some (.ref nl),some (.ref d),some (.ref o),some (.ref st),some (.ref ls),q7,q8,some (.int lo),some (.int (1 + (i:Int))),some (tx l),some (tx due),some (tx nm),some v] G:=by
   clear w10
   intro D G w11 hD
   walk_at "go"
   refine draw_use w11.po (by omega) (by omega) (fun r17 G17 _ _ po17 s17=>?_)
   have w12:=w11.draw s17 po17
   clear w11 s17 po17
   walk_at "go"
   refine and_keep46 (fun G=>∃ hs',W46 aC H G p' nl d r o ro st qd ls kk kd kd (nm0 :: nr) nm0 hs'/\hs'.length <= hs.length + 1) ⟨hs,w12,by omega⟩ ?_ ?_
   ·intro _ R' hR
    walk_at "go"
    refine ⟨st,.ref qd,rfl,DGet.k (k:=kyT [107,101,112,116]) w12.sta.1,?_⟩
    walk_at "go"
    refine draw_use w12.po (by decide) (by decide) (fun r18 G18 r180 r188 po18 s18=>?_)
    have w13:=w12.draw s18 po18
    clear w12 s18 po18
    walk_at "go"
    exact ⟨d,r,qd,ls,kk,kd,hs,[ls],r18,rfl,w13.dk,w13.sta.2,w13.rw,by omega,w13.gl,by omega,r180,by omega,w13.hd,by simp,(fun b hb=>by rw [List.mem_singleton.mp hb]; exact ⟨_,w13.gl⟩),fun hs' G19 fb g19 hl hh=>⟨true,rfl,hR _ ⟨hs',w13.looked fb g19 hh,hl⟩⟩⟩
   rintro G18 ⟨hs',w13,hl⟩
   refine ifq rfl ?_
   walk_at "go"
   exact hD G18 hs' w13 hl
  have fin:∀ (G':Hp) (hs':List V),W46 aC H G' p' nl d r o ro st qd ls kk kd kd (nm0 :: nr) nm0 hs'->hs'.length <= hs.length + 1->∃ (p r qd:Addr) (k:Int) (kvs:Kv) (hs:List V) (o7 o8 o10 o11 o12 o13 o14:Option V),[some (.ref sa),some (.ref p'),some (.ref nl),some (.ref d),some (.ref o),some (.ref st),some (.ref ls),q7,q8,some (.int lo),some (.int (1 + (i:Int))),some (tx l),some (tx due),some (tx nm),some v] = [some (.ref sa),some (.ref p),some (.ref nl),some (.ref d),some (.ref o),some (.ref st),some (.ref ls),o7,o8,some (.int lo),o10,o11,o12,o13,o14]/\W46 aC H G' p nl d r o ro st qd ls k kvs kvs (nm0 :: nr) nm0 hs/\kvs.length <= 30 + (i + 1)/\hs.length <= i + 1:=fun G' hs' w h=>⟨p',r,qd,kk,kd,hs',_,_,_,_,_,_,_,rfl,w,by omega,by omega⟩
  rcases aft.inv with ⟨hne,rfl⟩ | ⟨rfl,rfl,rfl,x,hvx⟩ | ⟨rfl,⟨a,rfl⟩,rfl⟩
  ·refine ifq (decide_eq_false hne) ?_
   walk_at "go"
   refine ifq rfl ?_
   walk_at "go"
   refine ifq (decide_eq_false hne) ?_
   exact look G16 w10 fin
  ·refine ifp rfl ?_
   walk_at "go"
   refine ifp (decide_eq_true rfl) ?_
   walk_at "go"
   refine ⟨st,.ref qd,rfl,DGet.k (k:=kyT [107,101,112,116]) w10.sta.1,?_⟩
   refine ⟨qd,rfl,.inl ⟨_,.inl w10.sta.2⟩,?_⟩
   walk_at "go"
   refine ⟨_,kyT nm,x,w10.sta.2,rfl,hvx,?_⟩
   exact look _ (w10.kept hrw) fin
  ·refine ifp rfl ?_
   walk_at "go"
   refine ifq (decide_eq_false (fun e=>by cases e)) ?_
   walk_at "go"
   refine ifp rfl ?_
   walk_at "go"
   refine ⟨st,.ref qd,rfl,DGet.k (k:=kyT [107,101,112,116]) w10.sta.1,?_⟩
   walk_at "go"
   refine ⟨qd,_,rfl,DPut.k (k:=kyT nm) w10.sta.2 (by rw [sizeLine_eq]; omega),?_⟩
   exact look _ (w10.kept hrw) fin
 rintro σ G11 ⟨p,r,qd,kk,kvs,hs,q7,q8,q10,q11,q12,q13,q14,rfl,w5,hkl,hsl⟩
 walk_at "go"
 refine ⟨st,.ref qd,rfl,DGet.k (k:=kyT [107,101,112,116]) w5.sta.1,?_⟩
 walk_at "go"
 refine ⟨d,r,qd,ls,kk,kvs,hs,[ls],1,rfl,w5.dk,w5.sta.2,w5.rw,by omega,w5.gl,by omega,by decide,by decide,w5.hd,by simp,(fun b hb=>by rw [List.mem_singleton.mp hb]; exact ⟨_,w5.gl⟩),fun hs2 G12 fb g12 hl hh=>⟨true,rfl,?_⟩⟩
 have w6:=w5.looked fb g12 hh
 clear w5 fb g12 hh w4
 refine ifq rfl ?_
 walk_at "go"
 intro dq hdq
 refine s_pairs1 ?_
 have t7:=same_new hdq (.dK [])
 walk_at "go"
 refine s_ixL (SqL.of (t7 _ _ w6.gn)) (atI_0 _ _) ?_
 walk_at "go"
 refine ⟨upd_same,[(kyT nm0,tx [60,63])],rfl,(show 1 <= 15 by decide),?_⟩
 have s7:Same G12 (upd (upd G12 dq (.dK [])) dq (.dK (mergeK [] [(kyT nm0,tx [60,63])]))):=fun b u z=>by rw [upd_ne (ne_of_none z hdq),upd_ne (ne_of_none z hdq)]; exact z
 have g7:(upd (upd G12 dq (.dK [])) dq (.dK (mergeK [] [(kyT nm0,tx [60,63])]))) dq = some (.dK [(kyT nm0,tx [60,63])]):=upd_same
 generalize upd (upd G12 dq _) dq _ = G13 at *
 have w7:=w6.same s7
 clear w6 s7 t7
 walk_at "go"
 refine ⟨o,ro,dq,ls,4,[(kyT nm0,tx [60,63])],hs2,[ls],1,rfl,w7.ot,g7,?_,(show 1 < 64 by decide),w7.gl,by omega,by decide,by decide,w7.hd,by simp,(fun b hb=>by rw [List.mem_singleton.mp hb]; exact ⟨_,w7.gl⟩),fun hs3 G14 fb g14 hl3 hh=>⟨true,rfl,?_⟩⟩
 ·intro e he
  rw [List.mem_singleton.mp he]
  exact ⟨nm0,[60,63],rfl,N0,by decide⟩
 have w8:=w7.looked fb g14 hh
 clear w7 fb g14 hh g7
 refine ifq rfl ?_
 walk_at "go"
 refine ⟨ls,rfl,⟨_,SqL.of w8.gl⟩,?_⟩
 refine comp_none w8.gl (fun D G15 hD s15 g15=>?_) ?_
 ·walk_at "go"
  refine ⟨small (show 0 <= 1000 by decide),fun e6 he6=>?_⟩
  walk_at "go"
  have t6:=same_new he6 (.lst [])
  refine s_eqL (SqL.of (t6 _ _ g15)) (SqL.of upd_same) rfl rfl ?_
  exact q _
 ·intro D i x G15 R hD hx s15 hR
  obtain ⟨T,t,m,ws,rfl,_,_,_,g1,g2,g3⟩:=w8.hd x (List.mem_of_getElem? hx)
  refine s_gtup (SqT.of (s15 _ _ g1)) rfl ?_
  walk_at "go"
  have fl:(ws.map tx).all flatV = true:=by rw [List.all_map,List.all_eq_true]; intro _ _; rfl
  refine s_neL (SqL.of (s15 _ _ g2)) (SqL.of (s15 _ _ g3)) fl fl ?_
  rw [eqVs_refl fl]
  walk_at "go"
  exact hR _ _ (Same.refl _)
end
theorem len1 {P:List Value->Prop} (h:∀ a,P [a]):∀ us,us.length = 1->P us | [_],_=>h _
theorem len2 {P:List Value->Prop} (h:∀ a b,P [a,b]):∀ us,us.length = 2->P us | [_,_],_=>h _ _
theorem len3 {P:List Value->Prop} (h:∀ a b c,P [a,b,c]):∀ us,us.length = 3->P us | [_,_,_],_=>h _ _ _
theorem len4 {P:List Value->Prop} (h:∀ a b c d,P [a,b,c,d]):∀ us,us.length = 4->P us | [_,_,_,_],_=>h _ _ _ _
def FnAt (K:PySem.W.Frag) (x:Str) (st:Stmt):Prop:=∃ f fd,PySem.W.nsIn K mainGlobals x = some (some (.ref f))/\Fun K x x st f fd
theorem FnAt.mk {K:PySem.W.Frag} {x:Str} {st:Stmt} {f:Addr} {oc:Value} {od an:Option Addr} {osl:Array (Option Value)} {kV doc pm cdv ct:Value} (a:PySem.W.nsIn K mainGlobals x = some (some (.ref f))) (l:K.lookup f = some ⟨oc,od,.func (PySem.W.fnOf x x (defArgs st) (defBody st) (defScope st) .none kV doc pm an cdv ct),osl⟩) (c:PySem.W.codeIn K cdv x = true) (k:PySem.W.keepIn K (.ref f) = true):FnAt K x st:=⟨f,_,a,fun_mk l c k⟩
theorem FnAt.at {K:PySem.W.Frag} {h:Heap} {mg:Str->Option Value} {x:Str} {st:Stmt} {ps:List Str} (p:FnAt K x st) (X:K.In h) (G:h.Ns mainGlobals mg) (hb:∀ (kV doc pm:Value) (an:Option Addr) (cdv ct:Value) (us:List Value),us.length = ps.length->bindArgs (PySem.W.fnOf x x (defArgs st) (defBody st) (defScope st) .none kV doc pm an cdv ct) ⟨us,[]⟩ = pure (ps.zip us)):∃ f fd,DefAt K mg x st ps f fd:=let ⟨f,fd,a,F⟩:=p; ⟨f,fd,F,PySem.W.mg_of X G a,F.binds hb⟩
theorem all_mk {l:PySem.W.OpenLaw} {w:World} {K:PySem.W.Frag} {h:Heap} {mg:Str->Option Value} {fa:Addr} (X:K.In h) (G:h.Ns mainGlobals mg) (hfa:mg "law" = some (.ref fa)) {f19:Addr} {od19 an19:Option Addr} {sl19:Array (Option Value)} {oc19 kV19 dc19 pm19 cd19 ct19:Value} {f20:Addr} {od20 an20:Option Addr} {sl20:Array (Option Value)} {oc20 kV20 dc20 pm20 cd20 ct20:Value} {f21:Addr} {od21 an21:Option Addr} {sl21:Array (Option Value)} {oc21 kV21 dc21 pm21 cd21 ct21:Value} {x_RowError:Addr} {x_NoKinds:Addr} {x_NoLine:Addr} {x_NotRight:Addr} {x_NoTree:Addr} {x_NoNumber:Addr} {x_NoWeights:Addr} {x_NoPlace:Addr} {x_NoFilling:Addr} {x_TooMany:Addr} {x_NoName:Addr} {x_NoRow:Addr} {aC:Addr} {x_OPENING:Str} {t_OPENING:Tok} {x_CLOSING:Str} {t_CLOSING:Tok} {aK:Addr} {oK:Obj} {itK:Array Value} {nK:Nat} {x_UNKNOWN:Str} {t_UNKNOWN:Tok} {x_MOST_SIGNS:Int} {t_MOST_SIGNS:Tok} {x_DONE:Str} {t_DONE:Tok} {x_NOTHING:Str} {t_NOTHING:Tok} {x_FIRST_KINDS:Int} {t_FIRST_KINDS:Tok} {x_LETTERS:Str} {t_LETTERS:Tok} {x_MOST_LETTERS:Int} {t_MOST_LETTERS:Tok} {x_FIGURES:Str} {t_FIGURES:Tok} {x_MOST_FIGURES:Int} {t_MOST_FIGURES:Tok} {aF:Addr} {oF:Obj} {epF:Nat} {xF0 xF1 xF2 xF3 xF4 xF5 xF6 xF7 xF8 xF9 xF10 xF11 xF12 xF13 xF14:Str} {tF0 tF1 tF2 tF3 tF4 tF5 tF6 tF7 tF8 tF9 tF10 tF11 tF12 tF13 tF14:Tok} {aF0 aF1 aF2 aF3 aF4 aF5 aF6 aF7 aF8 aF9 aF10 aF11 aF12 aF13 aF14:Addr} {aD:Addr} {oD:Obj} {epD:Nat} {xD0 xD1 xD2 xD3 xD4 xD5 xD6 xD7 xD8 xD9 xD10 xD11 xD12 xD13 xD14:Str} {tD0 tD1 tD2 tD3 tD4 tD5 tD6 tD7 tD8 tD9 tD10 tD11 tD12 tD13 tD14:Tok} {aD0 aD1 aD2 aD3 aD4 aD5 aD6 aD7 aD8 aD9 aD10 aD11 aD12 aD13 aD14:Addr}
  (p0:FnAt K "is_whole" d_is_whole)
  (p1:FnAt K "check_kinds" d_check_kinds)
  (p2:FnAt K "is_line" d_is_line)
  (p3:FnAt K "check_line" d_check_line)
  (p4:FnAt K "other_one" d_other_one)
  (p5:FnAt K "turned" d_turned)
  (p6:FnAt K "is_name" d_is_name)
  (p7:FnAt K "is_number" d_is_number)
  (p8:FnAt K "has_form" d_has_form)
  (p9:FnAt K "parted" d_parted)
  (p10:FnAt K "known_words" d_known_words)
  (p11:FnAt K "shown" d_shown)
  (p12:FnAt K "say_kinds" d_say_kinds)
  (p13:FnAt K "say_row" d_say_row)
  (p14:FnAt K "say_turn" d_say_turn)
  (p15:FnAt K "say_behind" d_say_behind)
  (p16:FnAt K "say_drop" d_say_drop)
  (p17:FnAt K "say_show" d_say_show)
  (p18:FnAt K "say_names" d_say_names)
  (a19:PySem.W.findIn K (.ref aC) "__init__" = some (some (.ref f19))) (n19:PySem.W.isFn K (.ref f19) = true) (l19:K.lookup f19 = some ⟨oc19,od19,.func (PySem.W.fnOf "__init__" "Desk.__init__" (defArgs d_Desk___init__) (defBody d_Desk___init__) (defScope d_Desk___init__) .none kV19 dc19 pm19 an19 cd19 ct19),sl19⟩) (c19:PySem.W.codeIn K cd19 "Desk.__init__" = true) (k19:PySem.W.keepIn K (.ref f19) = true)
  (a20:PySem.W.findIn K (.ref aC) "say" = some (some (.ref f20))) (n20:PySem.W.isFn K (.ref f20) = true) (l20:K.lookup f20 = some ⟨oc20,od20,.func (PySem.W.fnOf "say" "Desk.say" (defArgs d_Desk_say) (defBody d_Desk_say) (defScope d_Desk_say) .none kV20 dc20 pm20 an20 cd20 ct20),sl20⟩) (c20:PySem.W.codeIn K cd20 "Desk.say" = true) (k20:PySem.W.keepIn K (.ref f20) = true)
  (a21:PySem.W.findIn K (.ref aC) "names" = some (some (.ref f21))) (n21:PySem.W.isFn K (.ref f21) = true) (l21:K.lookup f21 = some ⟨oc21,od21,.func (PySem.W.fnOf "names" "Desk.names" (defArgs d_Desk_names) (defBody d_Desk_names) (defScope d_Desk_names) .none kV21 dc21 pm21 an21 cd21 ct21),sl21⟩) (c21:PySem.W.codeIn K cd21 "Desk.names" = true) (k21:PySem.W.keepIn K (.ref f21) = true)
  (p22:FnAt K "_law_pool" d_law_pool)
  (p23:FnAt K "_law_draw" d_law_draw)
  (p24:FnAt K "_law_right_row" d_law_right_row)
  (p25:FnAt K "_law_signs" d_law_signs)
  (p26:FnAt K "_law_bent" d_law_bent)
  (p27:FnAt K "_law_line" d_law_line)
  (p28:FnAt K "_law_said" d_law_said)
  (p29:FnAt K "_law_names" d_law_names)
  (p30:FnAt K "_law_turned" d_law_turned)
  (p31:FnAt K "_law_is_line" d_law_is_line)
  (p32:FnAt K "_law_shown" d_law_shown)
  (p33:FnAt K "_law_told" d_law_told)
  (p34:FnAt K "_law_next_row" d_law_next_row)
  (p35:FnAt K "_law_kinds_row" d_law_kinds_row)
  (p36:FnAt K "_law_spoil" d_law_spoil)
  (p37:FnAt K "_law_as_kept" d_law_as_kept)
  (p38:FnAt K "law" d_law)
  (yc:PySem.W.nsIn K mainGlobals "Desk" = some (some (.ref aC))) (pg:PySem.W.plainGet K aC Str.empty = true) (hdi:PySem.W.hasDictIn K aC = true) (po:PySem.W.plainOver K aC = true) (sat:PySem.W.findIn K (.ref aC) "__setattr__" = some (some (.builtin "object.__setattr__"))) (mks:PySem.W.makesIn K aC = true) (kpc:PySem.W.keepIn K (.ref aC) = true)
  (nf_k:PySem.W.findIn K (.ref aC) "k" = some none)
  (nf_rows:PySem.W.findIn K (.ref aC) "rows" = some none)
  (y_RowError:PySem.W.nsIn K mainGlobals "RowError" = some (some (.ref x_RowError))) (w_RowError:eclsB K x_RowError = true)
  (y_NoKinds:PySem.W.nsIn K mainGlobals "NoKinds" = some (some (.ref x_NoKinds))) (w_NoKinds:eclsB K x_NoKinds = true)
  (y_NoLine:PySem.W.nsIn K mainGlobals "NoLine" = some (some (.ref x_NoLine))) (w_NoLine:eclsB K x_NoLine = true)
  (y_NotRight:PySem.W.nsIn K mainGlobals "NotRight" = some (some (.ref x_NotRight))) (w_NotRight:eclsB K x_NotRight = true)
  (y_NoTree:PySem.W.nsIn K mainGlobals "NoTree" = some (some (.ref x_NoTree))) (w_NoTree:eclsB K x_NoTree = true)
  (y_NoNumber:PySem.W.nsIn K mainGlobals "NoNumber" = some (some (.ref x_NoNumber))) (w_NoNumber:eclsB K x_NoNumber = true)
  (y_NoWeights:PySem.W.nsIn K mainGlobals "NoWeights" = some (some (.ref x_NoWeights))) (w_NoWeights:eclsB K x_NoWeights = true)
  (y_NoPlace:PySem.W.nsIn K mainGlobals "NoPlace" = some (some (.ref x_NoPlace))) (w_NoPlace:eclsB K x_NoPlace = true)
  (y_NoFilling:PySem.W.nsIn K mainGlobals "NoFilling" = some (some (.ref x_NoFilling))) (w_NoFilling:eclsB K x_NoFilling = true)
  (y_TooMany:PySem.W.nsIn K mainGlobals "TooMany" = some (some (.ref x_TooMany))) (w_TooMany:eclsB K x_TooMany = true)
  (y_NoName:PySem.W.nsIn K mainGlobals "NoName" = some (some (.ref x_NoName))) (w_NoName:eclsB K x_NoName = true)
  (y_NoRow:PySem.W.nsIn K mainGlobals "NoRow" = some (some (.ref x_NoRow))) (w_NoRow:eclsB K x_NoRow = true)
  (m_NoKinds:PySem.W.mroIn K x_NoKinds (.ref x_RowError) = some true)
  (v_NoKinds:PySem.W.kitOne K (.ref x_NoKinds) (.type "ValueError") = some true)
  (q_NoKinds_NoKinds:PySem.W.kitOne K (.ref x_NoKinds) (.ref x_NoKinds) = some true)
  (q_NoKinds_NoLine:PySem.W.kitOne K (.ref x_NoKinds) (.ref x_NoLine) = some false)
  (q_NoKinds_NotRight:PySem.W.kitOne K (.ref x_NoKinds) (.ref x_NotRight) = some false)
  (q_NoKinds_NoTree:PySem.W.kitOne K (.ref x_NoKinds) (.ref x_NoTree) = some false)
  (q_NoKinds_NoNumber:PySem.W.kitOne K (.ref x_NoKinds) (.ref x_NoNumber) = some false)
  (q_NoKinds_NoWeights:PySem.W.kitOne K (.ref x_NoKinds) (.ref x_NoWeights) = some false)
  (q_NoKinds_NoPlace:PySem.W.kitOne K (.ref x_NoKinds) (.ref x_NoPlace) = some false)
  (q_NoKinds_NoFilling:PySem.W.kitOne K (.ref x_NoKinds) (.ref x_NoFilling) = some false)
  (q_NoKinds_TooMany:PySem.W.kitOne K (.ref x_NoKinds) (.ref x_TooMany) = some false)
  (q_NoKinds_NoName:PySem.W.kitOne K (.ref x_NoKinds) (.ref x_NoName) = some false)
  (q_NoKinds_NoRow:PySem.W.kitOne K (.ref x_NoKinds) (.ref x_NoRow) = some false)
  (m_NoLine:PySem.W.mroIn K x_NoLine (.ref x_RowError) = some true)
  (v_NoLine:PySem.W.kitOne K (.ref x_NoLine) (.type "ValueError") = some true)
  (q_NoLine_NoKinds:PySem.W.kitOne K (.ref x_NoLine) (.ref x_NoKinds) = some false)
  (q_NoLine_NoLine:PySem.W.kitOne K (.ref x_NoLine) (.ref x_NoLine) = some true)
  (q_NoLine_NotRight:PySem.W.kitOne K (.ref x_NoLine) (.ref x_NotRight) = some false)
  (q_NoLine_NoTree:PySem.W.kitOne K (.ref x_NoLine) (.ref x_NoTree) = some false)
  (q_NoLine_NoNumber:PySem.W.kitOne K (.ref x_NoLine) (.ref x_NoNumber) = some false)
  (q_NoLine_NoWeights:PySem.W.kitOne K (.ref x_NoLine) (.ref x_NoWeights) = some false)
  (q_NoLine_NoPlace:PySem.W.kitOne K (.ref x_NoLine) (.ref x_NoPlace) = some false)
  (q_NoLine_NoFilling:PySem.W.kitOne K (.ref x_NoLine) (.ref x_NoFilling) = some false)
  (q_NoLine_TooMany:PySem.W.kitOne K (.ref x_NoLine) (.ref x_TooMany) = some false)
  (q_NoLine_NoName:PySem.W.kitOne K (.ref x_NoLine) (.ref x_NoName) = some false)
  (q_NoLine_NoRow:PySem.W.kitOne K (.ref x_NoLine) (.ref x_NoRow) = some false)
  (m_NoName:PySem.W.mroIn K x_NoName (.ref x_RowError) = some true)
  (v_NoName:PySem.W.kitOne K (.ref x_NoName) (.type "ValueError") = some true)
  (q_NoName_NoKinds:PySem.W.kitOne K (.ref x_NoName) (.ref x_NoKinds) = some false)
  (q_NoName_NoLine:PySem.W.kitOne K (.ref x_NoName) (.ref x_NoLine) = some false)
  (q_NoName_NotRight:PySem.W.kitOne K (.ref x_NoName) (.ref x_NotRight) = some false)
  (q_NoName_NoTree:PySem.W.kitOne K (.ref x_NoName) (.ref x_NoTree) = some false)
  (q_NoName_NoNumber:PySem.W.kitOne K (.ref x_NoName) (.ref x_NoNumber) = some false)
  (q_NoName_NoWeights:PySem.W.kitOne K (.ref x_NoName) (.ref x_NoWeights) = some false)
  (q_NoName_NoPlace:PySem.W.kitOne K (.ref x_NoName) (.ref x_NoPlace) = some false)
  (q_NoName_NoFilling:PySem.W.kitOne K (.ref x_NoName) (.ref x_NoFilling) = some false)
  (q_NoName_TooMany:PySem.W.kitOne K (.ref x_NoName) (.ref x_TooMany) = some false)
  (q_NoName_NoName:PySem.W.kitOne K (.ref x_NoName) (.ref x_NoName) = some true)
  (q_NoName_NoRow:PySem.W.kitOne K (.ref x_NoName) (.ref x_NoRow) = some false)
  (z_ValueError:PySem.W.nsIn K mainGlobals "ValueError" = some none)
  (z_all:PySem.W.nsIn K mainGlobals "all" = some none)
  (z_bool:PySem.W.nsIn K mainGlobals "bool" = some none)
  (z_int:PySem.W.nsIn K mainGlobals "int" = some none)
  (z_isinstance:PySem.W.nsIn K mainGlobals "isinstance" = some none)
  (z_len:PySem.W.nsIn K mainGlobals "len" = some none)
  (z_list:PySem.W.nsIn K mainGlobals "list" = some none)
  (z_max:PySem.W.nsIn K mainGlobals "max" = some none)
  (z_min:PySem.W.nsIn K mainGlobals "min" = some none)
  (z_range:PySem.W.nsIn K mainGlobals "range" = some none)
  (z_reversed:PySem.W.nsIn K mainGlobals "reversed" = some none)
  (z_sorted:PySem.W.nsIn K mainGlobals "sorted" = some none)
  (z_str:PySem.W.nsIn K mainGlobals "str" = some none)
  (z_zip:PySem.W.nsIn K mainGlobals "zip" = some none)
  (g_OPENING:PySem.W.nsIn K mainGlobals "OPENING" = some (some (.str x_OPENING t_OPENING))) (h_OPENING:x_OPENING = ⟨([40,91,123,60]:List Nat).toArray⟩)
  (g_CLOSING:PySem.W.nsIn K mainGlobals "CLOSING" = some (some (.str x_CLOSING t_CLOSING))) (h_CLOSING:x_CLOSING = ⟨([41,93,125,62]:List Nat).toArray⟩)
  (g_K:PySem.W.nsIn K mainGlobals "KINDS" = some (some (.ref aK))) (l_K:K.lookup aK = some oK) (c_K:oK.cls = .type "tuple") (s_K:oK.data = .seq itK nK) (r_K:tupIs itK [tx [40,41],tx [91,93],tx [123,125],tx [60,62]] = true)
  (g_UNKNOWN:PySem.W.nsIn K mainGlobals "UNKNOWN" = some (some (.str x_UNKNOWN t_UNKNOWN))) (h_UNKNOWN:x_UNKNOWN = ⟨([63]:List Nat).toArray⟩)
  (g_MOST_SIGNS:PySem.W.nsIn K mainGlobals "MOST_SIGNS" = some (some (.int x_MOST_SIGNS t_MOST_SIGNS))) (h_MOST_SIGNS:x_MOST_SIGNS = 40)
  (g_DONE:PySem.W.nsIn K mainGlobals "DONE" = some (some (.str x_DONE t_DONE))) (h_DONE:x_DONE = ⟨([111,107]:List Nat).toArray⟩)
  (g_NOTHING:PySem.W.nsIn K mainGlobals "NOTHING" = some (some (.str x_NOTHING t_NOTHING))) (h_NOTHING:x_NOTHING = ⟨([110,111,110,101]:List Nat).toArray⟩)
  (g_FIRST_KINDS:PySem.W.nsIn K mainGlobals "FIRST_KINDS" = some (some (.int x_FIRST_KINDS t_FIRST_KINDS))) (h_FIRST_KINDS:x_FIRST_KINDS = 4)
  (g_LETTERS:PySem.W.nsIn K mainGlobals "LETTERS" = some (some (.str x_LETTERS t_LETTERS))) (h_LETTERS:x_LETTERS = ⟨([97,98,99,100,101,102,103,104,105,106,107,108,109,110,111,112,113,114,115,116,117,118,119,120,121,122]:List Nat).toArray⟩)
  (g_MOST_LETTERS:PySem.W.nsIn K mainGlobals "MOST_LETTERS" = some (some (.int x_MOST_LETTERS t_MOST_LETTERS))) (h_MOST_LETTERS:x_MOST_LETTERS = 8)
  (g_FIGURES:PySem.W.nsIn K mainGlobals "FIGURES" = some (some (.str x_FIGURES t_FIGURES))) (h_FIGURES:x_FIGURES = ⟨([48,49,50,51,52,53,54,55,56,57]:List Nat).toArray⟩)
  (g_MOST_FIGURES:PySem.W.nsIn K mainGlobals "MOST_FIGURES" = some (some (.int x_MOST_FIGURES t_MOST_FIGURES))) (h_MOST_FIGURES:x_MOST_FIGURES = 9)
  (gF:PySem.W.nsIn K mainGlobals "FORMS" = some (some (.ref aF))) (lF:K.lookup aF = some oF) (xF:oF.ExactDict) (eF:oF.data = .dict (([(xF0,tF0,.ref aF0),(xF1,tF1,.ref aF1),(xF2,tF2,.ref aF2),(xF3,tF3,.ref aF3),(xF4,tF4,.ref aF4),(xF5,tF5,.ref aF5),(xF6,tF6,.ref aF6),(xF7,tF7,.ref aF7),(xF8,tF8,.ref aF8),(xF9,tF9,.ref aF9),(xF10,tF10,.ref aF10),(xF11,tF11,.ref aF11),(xF12,tF12,.ref aF12),(xF13,tF13,.ref aF13),(xF14,tF14,.ref aF14)]:List (Str × Tok × Value)).map (strE w)).toArray epF)
  (hF:[xF0,xF1,xF2,xF3,xF4,xF5,xF6,xF7,xF8,xF9,xF10,xF11,xF12,xF13,xF14] = wd15.map fun c=>(⟨c.toArray⟩:Str)) (mF:(aF == sysModules) = false)
  (u0:FTu K aF0 [tx [110,117,109,98,101,114]]) (u1:FTu K aF1 [tx [110,101,119],tx [108,105,110,101]]) (u2:FTu K aF2 [tx [110,101,119],tx [110,97,109,101]]) (u3:FTu K aF3 [tx [110,101,119],tx [110,97,109,101],tx [110,97,109,101]]) (u4:FTu K aF4 [tx [110,97,109,101]]) (u5:FTu K aF5 [tx [110,97,109,101]]) (u14:FTu K aF14 [])
  (gD:PySem.W.nsIn K mainGlobals "DEEDS" = some (some (.ref aD))) (lD:K.lookup aD = some oD) (xD:oD.ExactDict) (eD:oD.data = .dict (([(xD0,tD0,.ref aD0),(xD1,tD1,.ref aD1),(xD2,tD2,.ref aD2),(xD3,tD3,.ref aD3),(xD4,tD4,.ref aD4),(xD5,tD5,.ref aD5),(xD6,tD6,.ref aD6),(xD7,tD7,.ref aD7),(xD8,tD8,.ref aD8),(xD9,tD9,.ref aD9),(xD10,tD10,.ref aD10),(xD11,tD11,.ref aD11),(xD12,tD12,.ref aD12),(xD13,tD13,.ref aD13),(xD14,tD14,.ref aD14)]:List (Str × Tok × Value)).map (strE w)).toArray epD)
  (hD:[xD0,xD1,xD2,xD3,xD4,xD5,xD6,xD7,xD8,xD9,xD10,xD11,xD12,xD13,xD14] = wd15.map fun c=>(⟨c.toArray⟩:Str)) (mD:(aD == sysModules) = false)
  (v0:PySem.W.nsIn K mainGlobals "say_kinds" = some (some (.ref aD0))) (v1:PySem.W.nsIn K mainGlobals "say_row" = some (some (.ref aD1))) (v2:PySem.W.nsIn K mainGlobals "say_turn" = some (some (.ref aD2))) (v3:PySem.W.nsIn K mainGlobals "say_behind" = some (some (.ref aD3))) (v4:PySem.W.nsIn K mainGlobals "say_drop" = some (some (.ref aD4))) (v5:PySem.W.nsIn K mainGlobals "say_show" = some (some (.ref aD5))) (v14:PySem.W.nsIn K mainGlobals "say_names" = some (some (.ref aD14))) :
  ∃ fd:FuncData,(∀ (s:Shared) (v:Value),BindsTo s fd ⟨[v],[]⟩ [("script",v)])/\∀ base:Heap,K.In base->base.Ns mainGlobals mg->FnOk l.prog w K mg base CX0 10 fa fd ["script"] (spLaw K):=by
 have hFm:FmOk l.prog w K aF:=fm_mk lF xF eF hF mF u0 u1 u2 u3 u4 u5 u14
 have hDd:DdOk l.prog w K mg aD:=dd_mk lD xD eD hD mD (PySem.W.mg_of X G v0) (PySem.W.mg_of X G v1) (PySem.W.mg_of X G v2) (PySem.W.mg_of X G v3) (PySem.W.mg_of X G v4) (PySem.W.mg_of X G v5) (PySem.W.mg_of X G v14)
 have T:Txt l.prog w K mg aK ⟨x_RowError,x_NoKinds,x_NoLine,x_NotRight,x_NoTree,x_NoNumber,x_NoWeights,x_NoPlace,x_NoFilling,x_TooMany,x_NoName,x_NoRow⟩ aC aF aD:=⟨PySem.W.mg_none_of X G z_ValueError,PySem.W.mg_none_of X G z_all,PySem.W.mg_none_of X G z_bool,PySem.W.mg_none_of X G z_int,PySem.W.mg_none_of X G z_isinstance,PySem.W.mg_none_of X G z_len,PySem.W.mg_none_of X G z_list,PySem.W.mg_none_of X G z_max,PySem.W.mg_none_of X G z_min,PySem.W.mg_none_of X G z_range,PySem.W.mg_none_of X G z_reversed,PySem.W.mg_none_of X G z_sorted,PySem.W.mg_none_of X G z_str,PySem.W.mg_none_of X G z_zip,⟨_,PySem.W.mg_of X G g_OPENING,by rw [h_OPENING]; exact ⟨_,rfl⟩⟩,⟨_,PySem.W.mg_of X G g_CLOSING,by rw [h_CLOSING]; exact ⟨_,rfl⟩⟩,⟨_,PySem.W.mg_of X G g_K,rfl⟩,fun H=>.inr ⟨oK,itK,nK,l_K,c_K,s_K,tupIs_size r_K (by decide),tupIs_vals r_K⟩,⟨_,PySem.W.mg_of X G g_UNKNOWN,by rw [h_UNKNOWN]; exact ⟨_,rfl⟩⟩,⟨_,PySem.W.mg_of X G g_MOST_SIGNS,by rw [h_MOST_SIGNS]; exact ⟨_,rfl⟩⟩,⟨_,PySem.W.mg_of X G g_DONE,by rw [h_DONE]; exact ⟨_,rfl⟩⟩,⟨_,PySem.W.mg_of X G g_NOTHING,by rw [h_NOTHING]; exact ⟨_,rfl⟩⟩,⟨_,PySem.W.mg_of X G g_FIRST_KINDS,by rw [h_FIRST_KINDS]; exact ⟨_,rfl⟩⟩,⟨_,PySem.W.mg_of X G g_LETTERS,by rw [h_LETTERS]; exact ⟨_,rfl⟩⟩,⟨_,PySem.W.mg_of X G g_MOST_LETTERS,by rw [h_MOST_LETTERS]; exact ⟨_,rfl⟩⟩,⟨_,PySem.W.mg_of X G g_FIGURES,by rw [h_FIGURES]; exact ⟨_,rfl⟩⟩,⟨_,PySem.W.mg_of X G g_MOST_FIGURES,by rw [h_MOST_FIGURES]; exact ⟨_,rfl⟩⟩,⟨_,PySem.W.mg_of X G gF,rfl⟩,hFm,⟨_,PySem.W.mg_of X G gD,rfl⟩,hDd,PySem.W.mg_of X G y_RowError,ecls_of w_RowError,PySem.W.mg_of X G y_NoKinds,ecls_of w_NoKinds,PySem.W.mg_of X G y_NoLine,ecls_of w_NoLine,PySem.W.mg_of X G y_NotRight,ecls_of w_NotRight,PySem.W.mg_of X G y_NoTree,ecls_of w_NoTree,PySem.W.mg_of X G y_NoNumber,ecls_of w_NoNumber,PySem.W.mg_of X G y_NoWeights,ecls_of w_NoWeights,PySem.W.mg_of X G y_NoPlace,ecls_of w_NoPlace,PySem.W.mg_of X G y_NoFilling,ecls_of w_NoFilling,PySem.W.mg_of X G y_TooMany,ecls_of w_TooMany,PySem.W.mg_of X G y_NoName,ecls_of w_NoName,PySem.W.mg_of X G y_NoRow,ecls_of w_NoRow,PySem.W.mg_of X G yc,⟨pg,hdi,po,sat⟩,nf_k,nf_rows,m_NoKinds,v_NoKinds,q_NoKinds_NoKinds,q_NoKinds_NoLine,q_NoKinds_NotRight,q_NoKinds_NoTree,q_NoKinds_NoNumber,q_NoKinds_NoWeights,q_NoKinds_NoPlace,q_NoKinds_NoFilling,q_NoKinds_TooMany,q_NoKinds_NoName,q_NoKinds_NoRow,m_NoLine,v_NoLine,q_NoLine_NoKinds,q_NoLine_NoLine,q_NoLine_NotRight,q_NoLine_NoTree,q_NoLine_NoNumber,q_NoLine_NoWeights,q_NoLine_NoPlace,q_NoLine_NoFilling,q_NoLine_TooMany,q_NoLine_NoName,q_NoLine_NoRow,m_NoName,v_NoName,q_NoName_NoKinds,q_NoName_NoLine,q_NoName_NotRight,q_NoName_NoTree,q_NoName_NoNumber,q_NoName_NoWeights,q_NoName_NoPlace,q_NoName_NoFilling,q_NoName_TooMany,q_NoName_NoName,q_NoName_NoRow⟩
 obtain ⟨f0,e0,D0⟩:=p0.at (ps:=["thing"]) X G fun _ _ _ _ _ _=>len1 fun _=>rfl
 obtain ⟨f1,e1,D1⟩:=p1.at (ps:=["k"]) X G fun _ _ _ _ _ _=>len1 fun _=>rfl
 obtain ⟨f2,e2,D2⟩:=p2.at (ps:=["k","thing"]) X G fun _ _ _ _ _ _=>len2 fun _ _=>rfl
 obtain ⟨f3,e3,D3⟩:=p3.at (ps:=["k","row"]) X G fun _ _ _ _ _ _=>len2 fun _ _=>rfl
 obtain ⟨f4,e4,D4⟩:=p4.at (ps:=["sign"]) X G fun _ _ _ _ _ _=>len1 fun _=>rfl
 obtain ⟨f5,e5,D5⟩:=p5.at (ps:=["k","row"]) X G fun _ _ _ _ _ _=>len2 fun _ _=>rfl
 obtain ⟨f6,e6,D6⟩:=p6.at (ps:=["word"]) X G fun _ _ _ _ _ _=>len1 fun _=>rfl
 obtain ⟨f7,e7,D7⟩:=p7.at (ps:=["word"]) X G fun _ _ _ _ _ _=>len1 fun _=>rfl
 obtain ⟨f8,e8,D8⟩:=p8.at (ps:=["word","part"]) X G fun _ _ _ _ _ _=>len2 fun _ _=>rfl
 obtain ⟨f9,e9,D9⟩:=p9.at (ps:=["text","form"]) X G fun _ _ _ _ _ _=>len2 fun _ _=>rfl
 obtain ⟨f10,e10,D10⟩:=p10.at (ps:=["thing"]) X G fun _ _ _ _ _ _=>len1 fun _=>rfl
 obtain ⟨f11,e11,D11⟩:=p11.at (ps:=["row"]) X G fun _ _ _ _ _ _=>len1 fun _=>rfl
 obtain ⟨f12,e12,D12⟩:=p12.at (ps:=["desk","words"]) X G fun _ _ _ _ _ _=>len2 fun _ _=>rfl
 obtain ⟨f13,e13,D13⟩:=p13.at (ps:=["desk","words"]) X G fun _ _ _ _ _ _=>len2 fun _ _=>rfl
 obtain ⟨f14,e14,D14⟩:=p14.at (ps:=["desk","words"]) X G fun _ _ _ _ _ _=>len2 fun _ _=>rfl
 obtain ⟨f15,e15,D15⟩:=p15.at (ps:=["desk","words"]) X G fun _ _ _ _ _ _=>len2 fun _ _=>rfl
 obtain ⟨f16,e16,D16⟩:=p16.at (ps:=["desk","words"]) X G fun _ _ _ _ _ _=>len2 fun _ _=>rfl
 obtain ⟨f17,e17,D17⟩:=p17.at (ps:=["desk","words"]) X G fun _ _ _ _ _ _=>len2 fun _ _=>rfl
 obtain ⟨f18,e18,D18⟩:=p18.at (ps:=["desk","words"]) X G fun _ _ _ _ _ _=>len2 fun _ _=>rfl
 have F19:=fun_mk (st:=d_Desk___init__) l19 c19 k19
 have B19:Binds K _ ["self"] []:=F19.binds (ps:=["self"]) fun _ _ _ _ _ _ us hl=>match us,hl with | [_],_=>rfl
 have F20:=fun_mk (st:=d_Desk_say) l20 c20 k20
 have B20:Binds K _ ["self","row"] []:=F20.binds (ps:=["self","row"]) fun _ _ _ _ _ _ us hl=>match us,hl with | [_,_],_=>rfl
 have F21:=fun_mk (st:=d_Desk_names) l21 c21 k21
 have B21:Binds K _ ["self"] []:=F21.binds (ps:=["self"]) fun _ _ _ _ _ _ us hl=>match us,hl with | [_],_=>rfl
 obtain ⟨f22,e22,D22⟩:=p22.at (ps:=["script","k"]) X G fun _ _ _ _ _ _=>len2 fun _ _=>rfl
 obtain ⟨f23,e23,D23⟩:=p23.at (ps:=["pool","many"]) X G fun _ _ _ _ _ _=>len2 fun _ _=>rfl
 obtain ⟨f24,e24,D24⟩:=p24.at (ps:=["pool","k","pairs"]) X G fun _ _ _ _ _ _=>len3 fun _ _ _=>rfl
 obtain ⟨f25,e25,D25⟩:=p25.at (ps:=["k"]) X G fun _ _ _ _ _ _=>len1 fun _=>rfl
 obtain ⟨f26,e26,D26⟩:=p26.at (ps:=["pool","k","row","often"]) X G fun _ _ _ _ _ _=>len4 fun _ _ _ _=>rfl
 obtain ⟨f27,e27,D27⟩:=p27.at (ps:=["pool","k","most"]) X G fun _ _ _ _ _ _=>len3 fun _ _ _=>rfl
 obtain ⟨f28,e28,D28⟩:=p28.at (ps:=["desk","row"]) X G fun _ _ _ _ _ _=>len2 fun _ _=>rfl
 obtain ⟨f29,e29,D29⟩:=p29.at (ps:=["pool"]) X G fun _ _ _ _ _ _=>len1 fun _=>rfl
 obtain ⟨f30,e30,D30⟩:=p30.at (ps:=["row"]) X G fun _ _ _ _ _ _=>len1 fun _=>rfl
 obtain ⟨f31,e31,D31⟩:=p31.at (ps:=["k","row"]) X G fun _ _ _ _ _ _=>len2 fun _ _=>rfl
 obtain ⟨f32,e32,D32⟩:=p32.at (ps:=["row"]) X G fun _ _ _ _ _ _=>len1 fun _=>rfl
 obtain ⟨f33,e33,D33⟩:=p33.at (ps:=["pool","k","name"]) X G fun _ _ _ _ _ _=>len3 fun _ _ _=>rfl
 obtain ⟨f34,e34,D34⟩:=p34.at (ps:=["pool","state","names"]) X G fun _ _ _ _ _ _=>len3 fun _ _ _=>rfl
 obtain ⟨f35,e35,D35⟩:=p35.at (ps:=["pool","desk","state"]) X G fun _ _ _ _ _ _=>len3 fun _ _ _=>rfl
 obtain ⟨f36,e36,D36⟩:=p36.at (ps:=["way","told","odd"]) X G fun _ _ _ _ _ _=>len3 fun _ _ _=>rfl
 obtain ⟨f37,e37,D37⟩:=p37.at (ps:=["desk","kept","lists","number"]) X G fun _ _ _ _ _ _=>len4 fun _ _ _ _=>rfl
 obtain ⟨f38,e38,D38⟩:=p38.at (ps:=["script"]) X G fun _ _ _ _ _ _=>len1 fun _=>rfl
 have e:=hfa.symm.trans D38.m
 cases e
 obtain ⟨_,_,kV38,dc38,pm38,an38,cd38,ct38,_,rfl,_,_⟩:=D38.F.ex
 refine ⟨PySem.W.fnOf "law" "law" (defArgs d_law) (defBody d_law) (defScope d_law) .none kV38 dc38 pm38 an38 cd38 ct38,fun s v=>.of_eq rfl,fun base _ _=>?_⟩
 have U_is_whole:FnU l.prog w K mg base 1 "is_whole" ["thing"] (spWhole K):=D0.fnU (ok_is_whole (k:=0) D0.F T )
 have U_check_kinds:FnUE l.prog w K mg base 2 "check_kinds" ["k"] (spKindsE K (⟨x_RowError,x_NoKinds,x_NoLine,x_NotRight,x_NoTree,x_NoNumber,x_NoWeights,x_NoPlace,x_NoFilling,x_TooMany,x_NoName,x_NoRow⟩:Cs)):=D1.fnUE (ok_check_kinds (k:=1) D1.F T (U_is_whole.mono (by decide)))
 have U_is_line:FnUE l.prog w K mg base 3 "is_line" ["k","thing"] (spLineE K (⟨x_RowError,x_NoKinds,x_NoLine,x_NotRight,x_NoTree,x_NoNumber,x_NoWeights,x_NoPlace,x_NoFilling,x_TooMany,x_NoName,x_NoRow⟩:Cs)):=D2.fnUE (ok_is_line (k:=2) D2.F T (U_check_kinds.mono (by decide)))
 have U_check_line:FnUE l.prog w K mg base 4 "check_line" ["k","row"] (spGateE K (⟨x_RowError,x_NoKinds,x_NoLine,x_NotRight,x_NoTree,x_NoNumber,x_NoWeights,x_NoPlace,x_NoFilling,x_TooMany,x_NoName,x_NoRow⟩:Cs) spCheckLine):=D3.fnUE (ok_check_line (k:=3) D3.F T (U_is_line.mono (by decide)))
 have U_other_one:FnU l.prog w K mg base 1 "other_one" ["sign"] (spOther):=D4.fnU (ok_other_one (k:=0) D4.F T )
 have U_turned:FnUE l.prog w K mg base 5 "turned" ["k","row"] (spTurned):=D5.fnUE (ok_turned (k:=4) D5.F T (U_check_line.mono (by decide)) (U_other_one.mono (by decide)))
 have U_is_name:FnU l.prog w K mg base 1 "is_name" ["word"] (spIsName):=D6.fnU (ok_is_name (k:=0) D6.F T )
 have U_is_number:FnU l.prog w K mg base 1 "is_number" ["word"] (spIsNumber):=D7.fnU (ok_is_number (k:=0) D7.F T )
 have U_has_form:FnU l.prog w K mg base 2 "has_form" ["word","part"] (spHasForm):=D8.fnU (ok_has_form (k:=1) D8.F T (U_is_number.mono (by decide)) (U_is_name.mono (by decide)))
 have U_parted:FnU l.prog w K mg base 1 "parted" ["text","form"] (spParted K):=D9.fnU (ok_parted (k:=0) D9.F T )
 have U_known_words:FnU l.prog w K mg base 3 "known_words" ["thing"] (spKnown):=D10.fnU (ok_known_words (k:=2) D10.F T (U_parted.mono (by decide)) (U_has_form.mono (by decide)))
 have U_shown:FnU l.prog w K mg base 1 "shown" ["row"] (spShown):=D11.fnU (ok_shown (k:=0) D11.F T )
 have U_say_kinds:FnUE l.prog w K mg base 3 "say_kinds" ["desk","words"] (spSayKinds (⟨x_RowError,x_NoKinds,x_NoLine,x_NotRight,x_NoTree,x_NoNumber,x_NoWeights,x_NoPlace,x_NoFilling,x_TooMany,x_NoName,x_NoRow⟩:Cs) aC):=D12.fnUE (ok_say_kinds (k:=2) D12.F T (U_check_kinds.mono (by decide)))
 have U_say_row:FnUE l.prog w K mg base 5 "say_row" ["desk","words"] (spSayRow (⟨x_RowError,x_NoKinds,x_NoLine,x_NotRight,x_NoTree,x_NoNumber,x_NoWeights,x_NoPlace,x_NoFilling,x_TooMany,x_NoName,x_NoRow⟩:Cs) aC):=D13.fnUE (ok_say_row (k:=4) D13.F T (U_check_line.mono (by decide)))
 have U_say_turn:FnUE l.prog w K mg base 6 "say_turn" ["desk","words"] (spSayTurn aC):=D14.fnUE (ok_say_turn (k:=5) D14.F T (U_turned.mono (by decide)))
 have U_say_behind:FnUE l.prog w K mg base 5 "say_behind" ["desk","words"] (spSayBehind (⟨x_RowError,x_NoKinds,x_NoLine,x_NotRight,x_NoTree,x_NoNumber,x_NoWeights,x_NoPlace,x_NoFilling,x_TooMany,x_NoName,x_NoRow⟩:Cs) aC):=D15.fnUE (ok_say_behind (k:=4) D15.F T (U_check_line.mono (by decide)))
 have U_say_drop:FnUE l.prog w K mg base 1 "say_drop" ["desk","words"] (spSayDrop aC):=D16.fnUE (ok_say_drop (k:=0) D16.F T )
 have U_say_show:FnUE l.prog w K mg base 2 "say_show" ["desk","words"] (spSayShow aC):=D17.fnUE (ok_say_show (k:=1) D17.F T (U_shown.mono (by decide)))
 have U_say_names:FnUE l.prog w K mg base 1 "say_names" ["desk","words"] (spSayNames aC):=D18.fnUE (ok_say_names (k:=0) D18.F T )
 have U_Desk___init__:MkU l.prog w K mg base 2 aC ["self"] (spDkInit aC):=⟨⟨1,_,_,Nat.le_refl _,ok_Desk___init__ (k:=0) F19 T ,⟨mks,a19,n19,kpc⟩,B19⟩⟩
 have U_Desk_say:MeUE l.prog w K mg base 7 aC "say" ["self","row"] (spSay (⟨x_RowError,x_NoKinds,x_NoLine,x_NotRight,x_NoTree,x_NoNumber,x_NoWeights,x_NoPlace,x_NoFilling,x_TooMany,x_NoName,x_NoRow⟩:Cs) aC):=⟨⟨_,_,ok_Desk_say (k:=6) F20 T (U_say_kinds.mono (by decide)) (U_say_row.mono (by decide)) (U_say_turn.mono (by decide)) (U_say_behind.mono (by decide)) (U_say_drop.mono (by decide)) (U_say_show.mono (by decide)) (U_say_names.mono (by decide)) (U_known_words.mono (by decide)),⟨a20,n20,k20⟩,B20⟩⟩
 have U_Desk_names:MeU l.prog w K mg base 1 aC "names" ["self"] (spDkNames aC):=⟨⟨_,_,ok_Desk_names (k:=0) F21 T ,⟨a21,n21,k21⟩,B21⟩⟩
 have U_law_pool:FnU l.prog w K mg base 1 "_law_pool" ["script","k"] (spPoolD K):=D22.fnU (ok_law_pool (k:=0) D22.F T )
 have U_law_draw:FnU l.prog w K mg base 1 "_law_draw" ["pool","many"] (spDraw):=D23.fnU (ok_law_draw (k:=0) D23.F T )
 have U_law_right_row:FnU l.prog w K mg base 2 "_law_right_row" ["pool","k","pairs"] (spRightD):=D24.fnU (ok_law_right_row (k:=1) D24.F T (U_law_draw.mono (by decide)))
 have U_law_signs:FnU l.prog w K mg base 1 "_law_signs" ["k"] (spSignsG):=D25.fnU (ok_law_signs (k:=0) D25.F T )
 have U_law_bent:FnU l.prog w K mg base 2 "_law_bent" ["pool","k","row","often"] (spBentG):=D26.fnU (ok_law_bent (k:=1) D26.F T (U_law_draw.mono (by decide)) (U_law_signs.mono (by decide)))
 have U_law_line:FnU l.prog w K mg base 3 "_law_line" ["pool","k","most"] (spLineG):=D27.fnU (ok_law_line (k:=2) D27.F T (U_law_draw.mono (by decide)) (U_law_bent.mono (by decide)) (U_law_right_row.mono (by decide)) (U_law_signs.mono (by decide)))
 have U_law_said:FnU l.prog w K mg base 8 "_law_said" ["desk","row"] (spSaid (⟨x_RowError,x_NoKinds,x_NoLine,x_NotRight,x_NoTree,x_NoNumber,x_NoWeights,x_NoPlace,x_NoFilling,x_TooMany,x_NoName,x_NoRow⟩:Cs) aC):=D28.fnU (ok_law_said (k:=7) D28.F T (U_Desk_say.mono (by decide)))
 have U_law_names:FnU l.prog w K mg base 2 "_law_names" ["pool"] (spNames46):=D29.fnU (ok_law_names (k:=1) D29.F T (U_law_draw.mono (by decide)))
 have U_law_turned:FnU l.prog w K mg base 1 "_law_turned" ["row"] (spTurn46):=D30.fnU (ok_law_turned (k:=0) D30.F T )
 have U_law_is_line:FnU l.prog w K mg base 1 "_law_is_line" ["k","row"] (spLine46):=D31.fnU (ok_law_is_line (k:=0) D31.F T )
 have U_law_shown:FnU l.prog w K mg base 1 "_law_shown" ["row"] (spShown46):=D32.fnU (ok_law_shown (k:=0) D32.F T )
 have U_law_told:FnU l.prog w K mg base 4 "_law_told" ["pool","k","name"] (spTold46):=D33.fnU (ok_law_told (k:=3) D33.F T (U_law_line.mono (by decide)) (U_law_draw.mono (by decide)) (U_law_is_line.mono (by decide)))
 have U_law_next_row:FnU l.prog w K mg base 5 "_law_next_row" ["pool","state","names"] (spNext46):=D34.fnU (ok_law_next_row (k:=4) D34.F T (U_law_draw.mono (by decide)) (U_law_told.mono (by decide)) (U_law_turned.mono (by decide)))
 have U_law_kinds_row:FnU l.prog w K mg base 9 "_law_kinds_row" ["pool","desk","state"] (spKinds46 aC):=D35.fnU (ok_law_kinds_row (k:=8) D35.F T (U_law_said.mono (by decide)) (U_law_draw.mono (by decide)))
 have U_law_spoil:FnU l.prog w K mg base 1 "_law_spoil" ["way","told","odd"] (spSpoil46):=D36.fnU (ok_law_spoil (k:=0) D36.F T )
 have U_law_as_kept:FnUE l.prog w K mg base 8 "_law_as_kept" ["desk","kept","lists","number"] (spKept46 aC):=D37.fnUE (ok_law_as_kept (k:=7) D37.F T (U_Desk_names.mono (by decide)) (U_law_spoil.mono (by decide)) (U_Desk_say.mono (by decide)) (U_law_shown.mono (by decide)))
 exact ok_law (k:=9) D38.F T (U_law_pool.mono (by decide)) (U_law_names.mono (by decide)) (U_Desk___init__.mono (by decide)) (U_Desk_say.mono (by decide)) (U_law_draw.mono (by decide)) (U_law_next_row.mono (by decide)) (U_law_said.mono (by decide)) (U_law_as_kept.mono (by decide)) (U_law_kinds_row.mono (by decide))
theorem walk {l : PySem.W.OpenLaw} {q : Program} {loose : List Str} {XP : (Str -> Option Value) -> Heap -> Prop} {YP : World -> Heap -> Prop} {d : DefRec} {K : Params -> PySem.W.Frag} (hn : l.most = some 63) (hdf : d.params.defaults = [])
  (hY : ∀ (w : World) (h : Heap), YP w h -> (K w.params).In h)
  (F : ∀ (w : World) (mg : Str -> Option Value) (fa : Addr) (h : Heap), (K w.params).In h -> h.Ns mainGlobals mg -> mg d.name = some (.ref fa) ->
   ∃ fd : FuncData, (∀ (s : Shared) (u : Value), BindsTo s fd ⟨[u], []⟩ [("script", u)]) /\ ∀ base : Heap, (K w.params).In base -> base.Ns mainGlobals mg -> FnOk l.prog w (K w.params) mg base CX0 10 fa fd ["script"] (spLaw (K w.params))) :
  PySem.W.WalkO q loose XP YP l.row.toRowW d [] (fun f vs => PySem.call f vs) :=
 L2.walk_of (n := 63) (k := 10) (x := "script") (CX := fun _ => CX0) (sp := fun w => spLaw (K w.params)) hn (by decide) hdf ⟨rfl, by decide, by decide, rfl⟩ hY F (fun _ _ a ns hl _ hS => ⟨a, ns, rfl, hS, hl, fun _ => rfl⟩) fun _ _ _ _ _ z => z
end Bk
theorem PySem.W.Fast.tw10186568806778866575:True:=trivial
theorem PySem.W.Fast.tw10357481843677171043:True:=trivial
theorem PySem.W.Fast.tw10439073843701377528:True:=trivial
theorem PySem.W.Fast.tw10595119926098996686:True:=trivial
theorem PySem.W.Fast.tw1093500253659895824:True:=trivial
theorem PySem.W.Fast.tw10986284140234952008:True:=trivial
theorem PySem.W.Fast.tw10986944315918437631:True:=trivial
theorem PySem.W.Fast.tw1098939740103834993:True:=trivial
theorem PySem.W.Fast.tw10994255856052406118:True:=trivial
theorem PySem.W.Fast.tw11080520393869119935:True:=trivial
theorem PySem.W.Fast.tw11113968217975942904:True:=trivial
theorem PySem.W.Fast.tw11165201031470293809:True:=trivial
theorem PySem.W.Fast.tw11167654872335708739:True:=trivial
theorem PySem.W.Fast.tw11176825433274611130:True:=trivial
theorem PySem.W.Fast.tw11187912185004479920:True:=trivial
theorem PySem.W.Fast.tw11242055992102730196:True:=trivial
theorem PySem.W.Fast.tw11246093453331178526:True:=trivial
theorem PySem.W.Fast.tw11269626617264368203:True:=trivial
theorem PySem.W.Fast.tw11304614342286419057:True:=trivial
theorem PySem.W.Fast.tw11411352206108966614:True:=trivial
theorem PySem.W.Fast.tw11565645340857990437:True:=trivial
theorem PySem.W.Fast.tw11616614186468297096:True:=trivial
theorem PySem.W.Fast.tw11623535953456146767:True:=trivial
theorem PySem.W.Fast.tw11713284320029900362:True:=trivial
theorem PySem.W.Fast.tw1179672136957648268:True:=trivial
theorem PySem.W.Fast.tw1181952363955102676:True:=trivial
theorem PySem.W.Fast.tw11854993219135145173:True:=trivial
theorem PySem.W.Fast.tw11876180844961094993:True:=trivial
theorem PySem.W.Fast.tw11925945962268806240:True:=trivial
theorem PySem.W.Fast.tw12000177201040170347:True:=trivial
theorem PySem.W.Fast.tw12003837422279452072:True:=trivial
theorem PySem.W.Fast.tw12006200027300776969:True:=trivial
theorem PySem.W.Fast.tw12031211528509297881:True:=trivial
theorem PySem.W.Fast.tw12064789522227417694:True:=trivial
theorem PySem.W.Fast.tw12188564079167476411:True:=trivial
theorem PySem.W.Fast.tw12191214792764748792:True:=trivial
theorem PySem.W.Fast.tw1221030639163224498:True:=trivial
theorem PySem.W.Fast.tw1222790057955006990:True:=trivial
theorem PySem.W.Fast.tw12269235655104382792:True:=trivial
theorem PySem.W.Fast.tw12299039780540807218:True:=trivial
theorem PySem.W.Fast.tw12302271560822629457:True:=trivial
theorem PySem.W.Fast.tw12413722543105453029:True:=trivial
theorem PySem.W.Fast.tw12501506923747471878:True:=trivial
theorem PySem.W.Fast.tw12620466552260767083:True:=trivial
theorem PySem.W.Fast.tw12620510146106191609:True:=trivial
theorem PySem.W.Fast.tw12631565195847490229:True:=trivial
theorem PySem.W.Fast.tw12659134539443900001:True:=trivial
theorem PySem.W.Fast.tw12797514073884338891:True:=trivial
theorem PySem.W.Fast.tw12803509862560547220:True:=trivial
theorem PySem.W.Fast.tw12812103365569950613:True:=trivial
theorem PySem.W.Fast.tw12857296594328679739:True:=trivial
theorem PySem.W.Fast.tw12874765869664822230:True:=trivial
theorem PySem.W.Fast.tw1290893155846192116:True:=trivial
theorem PySem.W.Fast.tw12918556820473176050:True:=trivial
theorem PySem.W.Fast.tw13199937268949435254:True:=trivial
theorem PySem.W.Fast.tw13250644110581015679:True:=trivial
theorem PySem.W.Fast.tw13258051593158976392:True:=trivial
theorem PySem.W.Fast.tw13275540372427357519:True:=trivial
theorem PySem.W.Fast.tw13312445980433412772:True:=trivial
theorem PySem.W.Fast.tw13339148570001942685:True:=trivial
theorem PySem.W.Fast.tw1334111056813903614:True:=trivial
theorem PySem.W.Fast.tw13368898940574735033:True:=trivial
theorem PySem.W.Fast.tw13449774781317831586:True:=trivial
theorem PySem.W.Fast.tw13579086088247036529:True:=trivial
theorem PySem.W.Fast.tw13584091768518606463:True:=trivial
theorem PySem.W.Fast.tw13802118292777083161:True:=trivial
theorem PySem.W.Fast.tw13842166687831027885:True:=trivial
theorem PySem.W.Fast.tw13985876498466529205:True:=trivial
theorem PySem.W.Fast.tw1405583313016551617:True:=trivial
theorem PySem.W.Fast.tw14101331821649865728:True:=trivial
theorem PySem.W.Fast.tw1421305727506363959:True:=trivial
theorem PySem.W.Fast.tw14252149809964774529:True:=trivial
theorem PySem.W.Fast.tw14307846096832833332:True:=trivial
theorem PySem.W.Fast.tw14341553839453193063:True:=trivial
theorem PySem.W.Fast.tw14378719129539336130:True:=trivial
theorem PySem.W.Fast.tw14407783373245252929:True:=trivial
theorem PySem.W.Fast.tw14423003337855871905:True:=trivial
theorem PySem.W.Fast.tw14495153156531486314:True:=trivial
theorem PySem.W.Fast.tw14634916467019087633:True:=trivial
theorem PySem.W.Fast.tw14636973102540817918:True:=trivial
theorem PySem.W.Fast.tw14670311755974095283:True:=trivial
theorem PySem.W.Fast.tw14816346233402303161:True:=trivial
theorem PySem.W.Fast.tw14823477988009943349:True:=trivial
theorem PySem.W.Fast.tw14905380543152739430:True:=trivial
theorem PySem.W.Fast.tw15041223153222902432:True:=trivial
theorem PySem.W.Fast.tw15108521084685249834:True:=trivial
theorem PySem.W.Fast.tw15132721419335442316:True:=trivial
theorem PySem.W.Fast.tw15194882749585311966:True:=trivial
theorem PySem.W.Fast.tw15221895617451260287:True:=trivial
theorem PySem.W.Fast.tw15287076227864560367:True:=trivial
theorem PySem.W.Fast.tw15305845233937597014:True:=trivial
theorem PySem.W.Fast.tw15360073754995683015:True:=trivial
theorem PySem.W.Fast.tw15451754297245241005:True:=trivial
theorem PySem.W.Fast.tw15549835499834470672:True:=trivial
theorem PySem.W.Fast.tw15619846006867656505:True:=trivial
theorem PySem.W.Fast.tw15716943861279406286:True:=trivial
theorem PySem.W.Fast.tw15767865917060831417:True:=trivial
theorem PySem.W.Fast.tw15797487878714006103:True:=trivial
theorem PySem.W.Fast.tw15800282291885677498:True:=trivial
theorem PySem.W.Fast.tw16060838223297327239:True:=trivial
theorem PySem.W.Fast.tw1611694543201209272:True:=trivial
theorem PySem.W.Fast.tw16191269276355415353:True:=trivial
theorem PySem.W.Fast.tw16240549311727440504:True:=trivial
theorem PySem.W.Fast.tw16244969588865268100:True:=trivial
theorem PySem.W.Fast.tw16249311030267318318:True:=trivial
theorem PySem.W.Fast.tw16252063803579821584:True:=trivial
theorem PySem.W.Fast.tw16270287128834709373:True:=trivial
theorem PySem.W.Fast.tw16276036716805742110:True:=trivial
theorem PySem.W.Fast.tw1644552602753810083:True:=trivial
theorem PySem.W.Fast.tw16467898147546522216:True:=trivial
theorem PySem.W.Fast.tw16562941164789967343:True:=trivial
theorem PySem.W.Fast.tw16564491946583028520:True:=trivial
theorem PySem.W.Fast.tw16605400529493725847:True:=trivial
theorem PySem.W.Fast.tw16640671529622990549:True:=trivial
theorem PySem.W.Fast.tw16650683440330410893:True:=trivial
theorem PySem.W.Fast.tw16770461402860336002:True:=trivial
theorem PySem.W.Fast.tw16826132017027759925:True:=trivial
theorem PySem.W.Fast.tw1685694235066824250:True:=trivial
theorem PySem.W.Fast.tw16931328081602426139:True:=trivial
theorem PySem.W.Fast.tw16945514012197917629:True:=trivial
theorem PySem.W.Fast.tw17011392831519370200:True:=trivial
theorem PySem.W.Fast.tw17028294225531271771:True:=trivial
theorem PySem.W.Fast.tw17034741934748174918:True:=trivial
theorem PySem.W.Fast.tw17037178739186911537:True:=trivial
theorem PySem.W.Fast.tw17074253142865533678:True:=trivial
theorem PySem.W.Fast.tw1727898445715984711:True:=trivial
theorem PySem.W.Fast.tw17457622527873112198:True:=trivial
theorem PySem.W.Fast.tw17516845032957379766:True:=trivial
theorem PySem.W.Fast.tw1762220538180358187:True:=trivial
theorem PySem.W.Fast.tw17624534061185526841:True:=trivial
theorem PySem.W.Fast.tw17789954823872791969:True:=trivial
theorem PySem.W.Fast.tw17838773376554432332:True:=trivial
theorem PySem.W.Fast.tw17942009222179127152:True:=trivial
theorem PySem.W.Fast.tw18024489526065545485:True:=trivial
theorem PySem.W.Fast.tw18034100861257650634:True:=trivial
theorem PySem.W.Fast.tw18083882258826624893:True:=trivial
theorem PySem.W.Fast.tw18139345570121186059:True:=trivial
theorem PySem.W.Fast.tw18202117299009091782:True:=trivial
theorem PySem.W.Fast.tw18296094803220679791:True:=trivial
theorem PySem.W.Fast.tw1836185723649077016:True:=trivial
theorem PySem.W.Fast.tw18394141010815763016:True:=trivial
theorem PySem.W.Fast.tw1975807078431923150:True:=trivial
theorem PySem.W.Fast.tw1978744441846496852:True:=trivial
theorem PySem.W.Fast.tw2012284959993721403:True:=trivial
theorem PySem.W.Fast.tw202777442747151192:True:=trivial
theorem PySem.W.Fast.tw2055963474569250583:True:=trivial
theorem PySem.W.Fast.tw2060498619479133349:True:=trivial
theorem PySem.W.Fast.tw2151640974751015356:True:=trivial
theorem PySem.W.Fast.tw2157210185739872088:True:=trivial
theorem PySem.W.Fast.tw2335874028762844523:True:=trivial
theorem PySem.W.Fast.tw2346383690021252561:True:=trivial
theorem PySem.W.Fast.tw2533884472745413009:True:=trivial
theorem PySem.W.Fast.tw254134420657723191:True:=trivial
theorem PySem.W.Fast.tw2761606083405874520:True:=trivial
theorem PySem.W.Fast.tw2804749822588741143:True:=trivial
theorem PySem.W.Fast.tw3013967691808433147:True:=trivial
theorem PySem.W.Fast.tw3234363212948512692:True:=trivial
theorem PySem.W.Fast.tw3330276948890354660:True:=trivial
theorem PySem.W.Fast.tw335801718606926109:True:=trivial
theorem PySem.W.Fast.tw3456170188012161820:True:=trivial
theorem PySem.W.Fast.tw3521906670219221671:True:=trivial
theorem PySem.W.Fast.tw3785444820448171398:True:=trivial
theorem PySem.W.Fast.tw383513785112864467:True:=trivial
theorem PySem.W.Fast.tw3879565807773469680:True:=trivial
theorem PySem.W.Fast.tw3898253832477692556:True:=trivial
theorem PySem.W.Fast.tw4149315676476383876:True:=trivial
theorem PySem.W.Fast.tw4179211291154014069:True:=trivial
theorem PySem.W.Fast.tw4304849016932777422:True:=trivial
theorem PySem.W.Fast.tw4333503930109890862:True:=trivial
theorem PySem.W.Fast.tw4366192635031560840:True:=trivial
theorem PySem.W.Fast.tw4371915094734341485:True:=trivial
theorem PySem.W.Fast.tw4384196940442245954:True:=trivial
theorem PySem.W.Fast.tw4397536630205180775:True:=trivial
theorem PySem.W.Fast.tw4487773371248363369:True:=trivial
theorem PySem.W.Fast.tw4511737915437038583:True:=trivial
theorem PySem.W.Fast.tw451305382345338992:True:=trivial
theorem PySem.W.Fast.tw4524109781457987446:True:=trivial
theorem PySem.W.Fast.tw4603882672837875670:True:=trivial
theorem PySem.W.Fast.tw4656497855140517402:True:=trivial
theorem PySem.W.Fast.tw469395665860069991:True:=trivial
theorem PySem.W.Fast.tw4726488225507513319:True:=trivial
theorem PySem.W.Fast.tw4779720738935477760:True:=trivial
theorem PySem.W.Fast.tw4799118461879652655:True:=trivial
theorem PySem.W.Fast.tw4829807268349485256:True:=trivial
theorem PySem.W.Fast.tw4862655713147001754:True:=trivial
theorem PySem.W.Fast.tw5084872913243791130:True:=trivial
theorem PySem.W.Fast.tw5109236295926921566:True:=trivial
theorem PySem.W.Fast.tw5156789908118081281:True:=trivial
theorem PySem.W.Fast.tw5164887148812554267:True:=trivial
theorem PySem.W.Fast.tw5357664715920682095:True:=trivial
theorem PySem.W.Fast.tw5380872380731822240:True:=trivial
theorem PySem.W.Fast.tw5464656116418069115:True:=trivial
theorem PySem.W.Fast.tw5571550300665333535:True:=trivial
theorem PySem.W.Fast.tw5576940025832201232:True:=trivial
theorem PySem.W.Fast.tw5589973646365556541:True:=trivial
theorem PySem.W.Fast.tw5590213985124816571:True:=trivial
theorem PySem.W.Fast.tw5618014915920813236:True:=trivial
theorem PySem.W.Fast.tw5689301214043682615:True:=trivial
theorem PySem.W.Fast.tw5698482403564237625:True:=trivial
theorem PySem.W.Fast.tw5712726162969466572:True:=trivial
theorem PySem.W.Fast.tw5811445775205514908:True:=trivial
theorem PySem.W.Fast.tw5826845868352727091:True:=trivial
theorem PySem.W.Fast.tw5830883063835567445:True:=trivial
theorem PySem.W.Fast.tw5868412044053662216:True:=trivial
theorem PySem.W.Fast.tw6034199512362330263:True:=trivial
theorem PySem.W.Fast.tw6245018044183938242:True:=trivial
theorem PySem.W.Fast.tw6257174735943275140:True:=trivial
theorem PySem.W.Fast.tw6306000199348852526:True:=trivial
theorem PySem.W.Fast.tw6331465691489803499:True:=trivial
theorem PySem.W.Fast.tw6339519454167660931:True:=trivial
theorem PySem.W.Fast.tw6349686765503922396:True:=trivial
theorem PySem.W.Fast.tw6354259699496409311:True:=trivial
theorem PySem.W.Fast.tw6402942298377585793:True:=trivial
theorem PySem.W.Fast.tw6404177762142534374:True:=trivial
theorem PySem.W.Fast.tw6416567652595828971:True:=trivial
theorem PySem.W.Fast.tw6445481053576091017:True:=trivial
theorem PySem.W.Fast.tw6535135003163175938:True:=trivial
theorem PySem.W.Fast.tw6535730658744711628:True:=trivial
theorem PySem.W.Fast.tw6556027282446948881:True:=trivial
theorem PySem.W.Fast.tw6576966335215498019:True:=trivial
theorem PySem.W.Fast.tw6618459154223369347:True:=trivial
theorem PySem.W.Fast.tw6643910172471930632:True:=trivial
theorem PySem.W.Fast.tw6660963541804503916:True:=trivial
theorem PySem.W.Fast.tw6671043402705890027:True:=trivial
theorem PySem.W.Fast.tw6732015584354015562:True:=trivial
theorem PySem.W.Fast.tw6849662182358854647:True:=trivial
theorem PySem.W.Fast.tw6870430209702168913:True:=trivial
theorem PySem.W.Fast.tw6923473133449544450:True:=trivial
theorem PySem.W.Fast.tw7130164083674607732:True:=trivial
theorem PySem.W.Fast.tw7134468937728482107:True:=trivial
theorem PySem.W.Fast.tw7203719175811105908:True:=trivial
theorem PySem.W.Fast.tw7204001589756637192:True:=trivial
theorem PySem.W.Fast.tw7227984875153678574:True:=trivial
theorem PySem.W.Fast.tw728678727775490266:True:=trivial
theorem PySem.W.Fast.tw7479052168699790782:True:=trivial
theorem PySem.W.Fast.tw747937889864373753:True:=trivial
theorem PySem.W.Fast.tw7495732467136742139:True:=trivial
theorem PySem.W.Fast.tw7530986356545334976:True:=trivial
theorem PySem.W.Fast.tw7577696820553538084:True:=trivial
theorem PySem.W.Fast.tw7685405772310334164:True:=trivial
theorem PySem.W.Fast.tw7690863477277950768:True:=trivial
theorem PySem.W.Fast.tw7739861781735935853:True:=trivial
theorem PySem.W.Fast.tw775393472007935221:True:=trivial
theorem PySem.W.Fast.tw7907787995211310792:True:=trivial
theorem PySem.W.Fast.tw7970845993040013973:True:=trivial
theorem PySem.W.Fast.tw8004543396445757700:True:=trivial
theorem PySem.W.Fast.tw8008774869558107097:True:=trivial
theorem PySem.W.Fast.tw8028608559922594926:True:=trivial
theorem PySem.W.Fast.tw8083344268574162719:True:=trivial
theorem PySem.W.Fast.tw8096463740776838292:True:=trivial
theorem PySem.W.Fast.tw8201775840652911500:True:=trivial
theorem PySem.W.Fast.tw8287918190529554059:True:=trivial
theorem PySem.W.Fast.tw8290092826476044419:True:=trivial
theorem PySem.W.Fast.tw854396358516946291:True:=trivial
theorem PySem.W.Fast.tw8591056119009849979:True:=trivial
theorem PySem.W.Fast.tw8614460647650036427:True:=trivial
theorem PySem.W.Fast.tw8619664676495707403:True:=trivial
theorem PySem.W.Fast.tw8667182901375054299:True:=trivial
theorem PySem.W.Fast.tw8673416710270174239:True:=trivial
theorem PySem.W.Fast.tw876901353348417213:True:=trivial
theorem PySem.W.Fast.tw879099766784885846:True:=trivial
theorem PySem.W.Fast.tw8800731243333334494:True:=trivial
theorem PySem.W.Fast.tw8819378488015701609:True:=trivial
theorem PySem.W.Fast.tw904399230164417626:True:=trivial
theorem PySem.W.Fast.tw9047137690818442702:True:=trivial
theorem PySem.W.Fast.tw9102984714510862395:True:=trivial
theorem PySem.W.Fast.tw9197207817601655153:True:=trivial
theorem PySem.W.Fast.tw9291154820213950717:True:=trivial
theorem PySem.W.Fast.tw9363255042842530715:True:=trivial
theorem PySem.W.Fast.tw9439052885484377580:True:=trivial
theorem PySem.W.Fast.tw9512160031818000362:True:=trivial
theorem PySem.W.Fast.tw9515211066023003354:True:=trivial
theorem PySem.W.Fast.tw9568477745999581401:True:=trivial
theorem PySem.W.Fast.tw9621383923189185621:True:=trivial
theorem PySem.W.Fast.tw9655545119116794733:True:=trivial
theorem PySem.W.Fast.tw9740005281630729752:True:=trivial
theorem PySem.W.Fast.tw981601534072096076:True:=trivial
theorem PySem.W.Fast.tw9892827822539389645:True:=trivial
theorem PySem.W.Fast.tw9932742035596822306:True:=trivial
end
open PySem PySem.W PyProof.Rows
set_option maxRecDepth 100000 in
set_option maxHeartbeats 0 in
theorem PySem.Challenge.cw_bracketrows_k46_rows_that_keep_holds : PySem.Challenge.rw_bracketrows_k46_rows_that_keep.Holds := by
 w_on; o_law; k_head; (case hw => w_witness2)
 k_fill
 refine Bk.walk (l := PySem.Challenge.rw_bracketrows_k46_rows_that_keep) rfl rfl (fun w h Y => PySem.W.kIn_of Y) ?F
 case F =>
  intro w mg fa h KX G hmg
  refine' Bk.all_mk KX G hmg ?p0 ?p1 ?p2 ?p3 ?p4 ?p5 ?p6 ?p7 ?p8 ?p9 ?p10 ?p11 ?p12 ?p13 ?p14 ?p15 ?p16 ?p17 ?p18 ?a19 ?n19 ?l19 ?c19 ?k19 ?a20 ?n20 ?l20 ?c20 ?k20 ?a21 ?n21 ?l21 ?c21 ?k21 ?p22 ?p23 ?p24 ?p25 ?p26 ?p27 ?p28 ?p29 ?p30 ?p31 ?p32 ?p33 ?p34 ?p35 ?p36 ?p37 ?p38 ?yc ?pg ?hdi ?po ?sat ?mks ?kpc ?nf_k ?nf_rows ?y_RowError ?w_RowError ?y_NoKinds ?w_NoKinds ?y_NoLine ?w_NoLine ?y_NotRight ?w_NotRight ?y_NoTree ?w_NoTree ?y_NoNumber ?w_NoNumber ?y_NoWeights ?w_NoWeights ?y_NoPlace ?w_NoPlace ?y_NoFilling ?w_NoFilling ?y_TooMany ?w_TooMany ?y_NoName ?w_NoName ?y_NoRow ?w_NoRow ?m_NoKinds ?v_NoKinds ?q_NoKinds_NoKinds ?q_NoKinds_NoLine ?q_NoKinds_NotRight ?q_NoKinds_NoTree ?q_NoKinds_NoNumber ?q_NoKinds_NoWeights ?q_NoKinds_NoPlace ?q_NoKinds_NoFilling ?q_NoKinds_TooMany ?q_NoKinds_NoName ?q_NoKinds_NoRow ?m_NoLine ?v_NoLine ?q_NoLine_NoKinds ?q_NoLine_NoLine ?q_NoLine_NotRight ?q_NoLine_NoTree ?q_NoLine_NoNumber ?q_NoLine_NoWeights ?q_NoLine_NoPlace ?q_NoLine_NoFilling ?q_NoLine_TooMany ?q_NoLine_NoName ?q_NoLine_NoRow ?m_NoName ?v_NoName ?q_NoName_NoKinds ?q_NoName_NoLine ?q_NoName_NotRight ?q_NoName_NoTree ?q_NoName_NoNumber ?q_NoName_NoWeights ?q_NoName_NoPlace ?q_NoName_NoFilling ?q_NoName_TooMany ?q_NoName_NoName ?q_NoName_NoRow ?z_ValueError ?z_all ?z_bool ?z_int ?z_isinstance ?z_len ?z_list ?z_max ?z_min ?z_range ?z_reversed ?z_sorted ?z_str ?z_zip ?g_OPENING ?h_OPENING ?g_CLOSING ?h_CLOSING ?g_K ?l_K ?c_K ?s_K ?r_K ?g_UNKNOWN ?h_UNKNOWN ?g_MOST_SIGNS ?h_MOST_SIGNS ?g_DONE ?h_DONE ?g_NOTHING ?h_NOTHING ?g_FIRST_KINDS ?h_FIRST_KINDS ?g_LETTERS ?h_LETTERS ?g_MOST_LETTERS ?h_MOST_LETTERS ?g_FIGURES ?h_FIGURES ?g_MOST_FIGURES ?h_MOST_FIGURES ?gF ?lF ?xF ?eF ?hF ?mF ?u0 ?u1 ?u2 ?u3 ?u4 ?u5 ?u14 ?gD ?lD ?xD ?eD ?hD ?mD ?v0 ?v1 ?v2 ?v3 ?v4 ?v5 ?v14
  (case p0 | p1 | p2 | p3 | p4 | p5 | p6 | p7 | p8 | p9 | p10 | p11 | p12 | p13 | p14 | p15 | p16 | p17 | p18 | p22 | p23 | p24 | p25 | p26 | p27 | p28 | p29 | p30 | p31 | p32 | p33 | p34 | p35 | p36 | p37 | p38 => (apply Bk.FnAt.mk; k_is; k_is; k_is; k_is))
  (case yc | a19 | n19 | l19 | c19 | k19 | a20 | n20 | l20 | c20 | k20 | a21 | n21 | l21 | c21 | k21 | pg | hdi | po | sat | mks | kpc | nf_k | nf_rows | y_RowError => k_is)
  (case w_RowError => kernel_rfl)
  (case y_NoKinds => k_is)
  (case w_NoKinds => kernel_rfl)
  (case y_NoLine => k_is)
  (case w_NoLine => kernel_rfl)
  (case y_NotRight => k_is)
  (case w_NotRight => kernel_rfl)
  (case y_NoTree => k_is)
  (case w_NoTree => kernel_rfl)
  (case y_NoNumber => k_is)
  (case w_NoNumber => kernel_rfl)
  (case y_NoWeights => k_is)
  (case w_NoWeights => kernel_rfl)
  (case y_NoPlace => k_is)
  (case w_NoPlace => kernel_rfl)
  (case y_NoFilling => k_is)
  (case w_NoFilling => kernel_rfl)
  (case y_TooMany => k_is)
  (case w_TooMany => kernel_rfl)
  (case y_NoName => k_is)
  (case w_NoName => kernel_rfl)
  (case y_NoRow => k_is)
  (case w_NoRow => kernel_rfl)
  (case m_NoKinds => kernel_rfl)
  (case v_NoKinds => kernel_rfl)
  (case q_NoKinds_NoKinds => kernel_rfl)
  (case q_NoKinds_NoLine => kernel_rfl)
  (case q_NoKinds_NotRight => kernel_rfl)
  (case q_NoKinds_NoTree => kernel_rfl)
  (case q_NoKinds_NoNumber => kernel_rfl)
  (case q_NoKinds_NoWeights => kernel_rfl)
  (case q_NoKinds_NoPlace => kernel_rfl)
  (case q_NoKinds_NoFilling => kernel_rfl)
  (case q_NoKinds_TooMany => kernel_rfl)
  (case q_NoKinds_NoName => kernel_rfl)
  (case q_NoKinds_NoRow => kernel_rfl)
  (case m_NoLine => kernel_rfl)
  (case v_NoLine => kernel_rfl)
  (case q_NoLine_NoKinds => kernel_rfl)
  (case q_NoLine_NoLine => kernel_rfl)
  (case q_NoLine_NotRight => kernel_rfl)
  (case q_NoLine_NoTree => kernel_rfl)
  (case q_NoLine_NoNumber => kernel_rfl)
  (case q_NoLine_NoWeights => kernel_rfl)
  (case q_NoLine_NoPlace => kernel_rfl)
  (case q_NoLine_NoFilling => kernel_rfl)
  (case q_NoLine_TooMany => kernel_rfl)
  (case q_NoLine_NoName => kernel_rfl)
  (case q_NoLine_NoRow => kernel_rfl)
  (case m_NoName => kernel_rfl)
  (case v_NoName => kernel_rfl)
  (case q_NoName_NoKinds => kernel_rfl)
  (case q_NoName_NoLine => kernel_rfl)
  (case q_NoName_NotRight => kernel_rfl)
  (case q_NoName_NoTree => kernel_rfl)
  (case q_NoName_NoNumber => kernel_rfl)
  (case q_NoName_NoWeights => kernel_rfl)
  (case q_NoName_NoPlace => kernel_rfl)
  (case q_NoName_NoFilling => kernel_rfl)
  (case q_NoName_TooMany => kernel_rfl)
  (case q_NoName_NoName => kernel_rfl)
  (case q_NoName_NoRow => kernel_rfl)
  (case z_ValueError | z_all | z_bool | z_int | z_isinstance | z_len | z_list | z_max | z_min | z_range | z_reversed | z_sorted | z_str | z_zip | g_OPENING => k_is)
  (case h_OPENING => first | rfl | decide +kernel)
  (case g_CLOSING => k_is)
  (case h_CLOSING => first | rfl | decide +kernel)
  (case g_K | l_K => k_is)
  (case c_K => rfl)
  (case s_K => rfl)
  (case r_K => decide +kernel)
  (case g_UNKNOWN => k_is)
  (case h_UNKNOWN => first | rfl | decide +kernel)
  (case g_MOST_SIGNS => k_is)
  (case h_MOST_SIGNS => rfl)
  (case g_DONE => k_is)
  (case h_DONE => first | rfl | decide +kernel)
  (case g_NOTHING => k_is)
  (case h_NOTHING => first | rfl | decide +kernel)
  (case g_FIRST_KINDS => k_is)
  (case h_FIRST_KINDS => rfl)
  (case g_LETTERS => k_is)
  (case h_LETTERS => first | rfl | decide +kernel)
  (case g_MOST_LETTERS => k_is)
  (case h_MOST_LETTERS => rfl)
  (case g_FIGURES => k_is)
  (case h_FIGURES => first | rfl | decide +kernel)
  (case g_MOST_FIGURES => k_is)
  (case h_MOST_FIGURES => rfl)
  (case gF | lF => k_is)
  (case xF => exact ⟨rfl, rfl, rfl⟩)
  (case eF => rfl)
  (case hF => first | rfl | decide +kernel)
  (case mF => first | rfl | decide +kernel)
  (case u0 => (apply L2.FTu.mk; k_is; rfl; rfl; decide +kernel; decide))
  (case u1 => (apply L2.FTu.mk; k_is; rfl; rfl; decide +kernel; decide))
  (case u2 => (apply L2.FTu.mk; k_is; rfl; rfl; decide +kernel; decide))
  (case u3 => (apply L2.FTu.mk; k_is; rfl; rfl; decide +kernel; decide))
  (case u4 => (apply L2.FTu.mk; k_is; rfl; rfl; decide +kernel; decide))
  (case u5 => (apply L2.FTu.mk; k_is; rfl; rfl; decide +kernel; decide))
  (case u14 => (apply L2.FTu.mk; k_is; rfl; rfl; decide +kernel; decide))
  (case gD | lD => k_is)
  (case xD => exact ⟨rfl, rfl, rfl⟩)
  (case eD => rfl)
  (case hD => first | rfl | decide +kernel)
  (case mD => first | rfl | decide +kernel)
  (case v0 | v1 | v2 | v3 | v4 | v5 | v14 => k_is)

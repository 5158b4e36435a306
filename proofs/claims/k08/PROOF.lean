import PyProof.Rows.All
import Wide.All
import OpenK.AllK
import Wide.FinOn
import Lean
import PyProof.EqAt
import PyProof.EqKinds
import PyProof.TupleCall
import PyProof.ExcStrCall
import PyProof.ExcStrAll.ValueError
import PyProof.TupleOfStr
import PyProof.DictIter
import PyProof.DictWalks
import PyProof.Rows.SetFrom
import PyProof.CollectWalk
import PyProof.Rows.SortShell
import PyProof.Rows.SortWalk
import PyProof.ListRange
import PyProof.ZipIter
import PyProof.Draws
import PyProof.EnumMake
import PyProof.Rows.StrFirst
import PyProof.NeData
import PyProof.P3In
import PySem.Challenge.RW_bracketrows_k08_what_is_a_tree
set_option Elab.async false
set_option linter.all false
set_option maxRecDepth 100000

-- CHANGE: your row's module here, as the last of these rows

namespace L2
open PySem PySem.Spec PyProof.Rows


abbrev Key := Sum Int Str
def keyIs : Key → Value → Bool
  | .inl k, v => Value.isInt k v
  | .inr x, v => Value.isStrOf x v
def keyH (w : World) : Key → Int
  | .inl k => hashInt k
  | .inr x => hashStr w x
theorem keyIs_shape : ∀ {k : Key} {v : Value}, keyIs k v = true → (∃ i t, k = Sum.inl i ∧ v = Value.int i t) ∨ (∃ x t, k = Sum.inr x ∧ v = Value.str x t)
  | .inl i, v, h => by
    obtain ⟨t, e⟩ := Value.isInt_shape (k := i) (v := v) h
    exact .inl ⟨i, t, rfl, e⟩
  | .inr x, v, h => by
    obtain ⟨t, e⟩ := Value.isStrOf_shape (x := x) (v := v) h
    exact .inr ⟨x, t, rfl, e⟩
theorem key_ll (a b : Int) : decide ((Sum.inl a : Key) = Sum.inl b) = (a == b) := by
  by_cases e : a = b
  · subst e; simp
  · have h : ¬ (Sum.inl a : Key) = Sum.inl b := fun q => e (Sum.inl.inj q)
    rw [decide_eq_false h]
    exact (beq_eq_false_iff_ne.mpr e).symm
theorem key_rr (a b : Str) : decide ((Sum.inr a : Key) = Sum.inr b) = decide (a = b) := by
  by_cases e : a = b
  · subst e; simp
  · have h : ¬ (Sum.inr a : Key) = Sum.inr b := fun q => e (Sum.inr.inj q)
    rw [decide_eq_false h, decide_eq_false e]
theorem key_lr (a : Int) (b : Str) : decide ((Sum.inl a : Key) = Sum.inr b) = false := decide_eq_false (fun q => nomatch q)
theorem key_rl (a : Str) (b : Int) : decide ((Sum.inr a : Key) = Sum.inl b) = false := decide_eq_false (fun q => nomatch q)

def mixKind (prog : Program) (w : World) : PySem.KeyKind prog w Key where
  is := keyIs
  hash := keyH w
  inj := fun v a b ha hb => by
    rcases keyIs_shape ha with ⟨i, t, rfl, rfl⟩ | ⟨x, t, rfl, rfl⟩
    · rcases keyIs_shape hb with ⟨j, u, rfl, e⟩ | ⟨y, u, rfl, e⟩
      · injection e with e1 _; rw [e1]
      · exact nomatch e
    · rcases keyIs_shape hb with ⟨j, u, rfl, e⟩ | ⟨y, u, rfl, e⟩
      · exact nomatch e
      · injection e with e1 _; rw [e1]
  byValue := fun k v h => by
    rcases keyIs_shape h with ⟨i, t, rfl, rfl⟩ | ⟨x, t, rfl, rfl⟩ <;> rfl
  pyHash := fun hv h => by
    rcases keyIs_shape hv with ⟨i, t, rfl, rfl⟩ | ⟨x, t, rfl, rfl⟩
    · exact wpAny_pyHash_int h
    · exact wpAny_pyHash_str h
  eqBool := fun hu hv h => by
    rcases keyIs_shape hu with ⟨i, t, rfl, rfl⟩ | ⟨x, t, rfl, rfl⟩
    · rcases keyIs_shape hv with ⟨j, u, rfl, rfl⟩ | ⟨y, u, rfl, rfl⟩
      · rw [key_ll] at h; exact wpAny_eqBool_int h
      · rw [key_lr] at h; exact SeqAt.EqAt.int_str i t y u _ _ _ _ h
    · rcases keyIs_shape hv with ⟨j, u, rfl, rfl⟩ | ⟨y, u, rfl, rfl⟩
      · rw [key_rl] at h; exact SeqAt.EqAt.str_int x t j u _ _ _ _ h
      · rw [key_rr] at h; exact wpAny_eqBool_str h
  «strs» := fun k x t v h => by
    rcases keyIs_shape h with ⟨i, u, rfl, e⟩ | ⟨y, u, rfl, e⟩
    · exact nomatch e
    · injection e with e1 _
      subst e1
      cases v <;> rfl

end L2

namespace L2
open PySem PySem.Spec PyProof.Rows


inductive V where
  | non | bl (b : Bool) | int (i : Int) | str (x : Str) | byt (b : Array UInt8) | flt (b : UInt64) | ref (a : Addr) | ty (n : String)
  deriving DecidableEq

def RelV : V → Value → Prop
  | .non, u => u = Value.none
  | .bl b, u => u = Value.bool b
  | .int i, u => ∃ t, u = Value.int i t
  | .str x, u => ∃ t, u = Value.str x t
  | .byt b, u => ∃ t, u = Value.bytes b t
  | .flt b, u => ∃ t, u = Value.float b t
  | .ref a, u => u = Value.ref a
  | .ty n, u => u = Value.type n

abbrev Vals : List V → List Value → Prop := Paired RelV
theorem Vals.length {xs : List V} {us : List Value} (r : Vals xs us) : xs.length = us.length := Paired.length r
theorem Vals.get : ∀ {xs : List V} {us : List Value} {i : Nat} {x : V}, Vals xs us → xs[i]? = some x → ∃ u, us[i]? = some u ∧ RelV x u
  | _, _, _, _, .nil, e => by simp at e
  | _, _, 0, _, .cons r _, e => by simp at e; subst e; exact ⟨_, rfl, r⟩
  | _, _, i + 1, x, .cons _ t, e => by
    obtain ⟨u, h1, h2⟩ := Vals.get (i := i) (x := x) t (by simpa using e)
    exact ⟨u, by simpa using h1, h2⟩
theorem Vals.set {x : V} {u : Value} (r : RelV x u) : ∀ {xs : List V} {us : List Value} (i : Nat), Vals xs us → Vals (xs.set i x) (us.set i u)
  | _, _, _, .nil => .nil
  | _, _, 0, .cons _ t => .cons r t
  | _, _, i + 1, .cons q t => .cons q (Vals.set r i t)
theorem Vals.append : ∀ {xs ys : List V} {us ws : List Value}, Vals xs us → Vals ys ws → Vals (xs ++ ys) (us ++ ws)
  | _, _, _, _, .nil, s => s
  | _, _, _, _, .cons r t, s => .cons r (Vals.append t s)
theorem Vals.take : ∀ {xs : List V} {us : List Value} (n : Nat), Vals xs us → Vals (xs.take n) (us.take n)
  | _, _, 0, _ => .nil
  | _, _, _ + 1, .nil => .nil
  | _, _, n + 1, .cons r t => .cons r (Vals.take n t)
theorem Vals.drop : ∀ {xs : List V} {us : List Value} (n : Nat), Vals xs us → Vals (xs.drop n) (us.drop n)
  | _, _, 0, r => r
  | _, _, _ + 1, .nil => .nil
  | _, _, n + 1, .cons _ t => Vals.drop n t
def RelO : Option V → Option Value → Prop
  | some v, some u => RelV v u
  | none, none => True
  | _, _ => False
def KV {κ : Type} : List (κ × V) → List (κ × Value) → Prop := Paired fun (p : κ × V) (q : κ × Value) => p.1 = q.1 ∧ RelV p.2 q.2


def kV : Key → V
  | .inl i => .int i
  | .inr x => .str x


inductive HO where
  
  | lst (xs : List V)
  
  | tup (xs : List V)
  
  | dK (kvs : List (Key × V)) | dT (kvs : List (List Key × V))
  
  | set (S : Int → Bool) (n : Nat)
  
  | ins (C dx : Addr) (fs : List (Str × V))
  
  | own (x : Addr)
  
  | xd (fs : List (Str × V))
  
  | met (f x : Addr)
  
  | rng (lo hi : Int)
  
  | frz (o : Obj) (u : HO)
  
  | tbl (ps : Array Value)
  
  | ext (φ : Heap → Prop)

abbrev Hp := Addr → Option HO
def upd (H : Hp) (a : Addr) (o : HO) : Hp := fun b => if b = a then some o else H b
theorem upd_same {H : Hp} {a : Addr} {o : HO} : upd H a o a = some o := by unfold upd; rw [if_pos rfl]
theorem upd_ne {H : Hp} {a b : Addr} {o : HO} (h : b ≠ a) : upd H a o b = H b := by unfold upd; rw [if_neg h]
theorem ne_of {H : Hp} {a b : Addr} {o u : HO} (h : H a = some o) (h' : H b = some u) (d : o ≠ u) : a ≠ b := by
  intro e; subst e; rw [h] at h'; exact d (Option.some.inj h')
theorem ne_of_none {H : Hp} {a b : Addr} {o : HO} (h : H a = some o) (h' : H b = none) : a ≠ b := by
  intro e; subst e; rw [h] at h'; cases h'

section
variable (P : Program) (w : World)
def ObjOk (H : Hp) (h : Heap) (a : Addr) : HO → Prop
  | .lst xs => xs.length ≤ sizeLine ∧ ∃ (its : List Value) (n : Nat), Vals xs its ∧ h.get? a = some { cls := .type "list", data := .seq its.toArray n }
  | .tup xs => xs.length ≤ sizeLine ∧ ∃ its : List Value, Vals xs its ∧ IsTup h a its.toArray
  | .dK kvs => kvs.length ≤ sizeLine ∧ (a == sysModules) = false ∧ ∃ vs, KV kvs vs ∧ h.DictOf (mixKind P w) a vs
  | .dT kvs => kvs.length ≤ sizeLine ∧ (a == sysModules) = false ∧ ∃ xs : List (List Key × Addr × Value),
      Paired (fun (p : List Key × V) (q : List Key × Addr × Value) => p.1 = q.1 ∧ H q.2.1 = some (.tup (p.1.map kV)) ∧ RelV p.2 q.2.2) kvs xs ∧
      ∃ o es ep, h.get? a = some o ∧ o.ExactDict ∧ o.data = .dict es ep ∧ es.toList = xs.map (entryOfKey (tupleKind (mixKind P w))) ∧ (xs.map (·.1)).Nodup
  | .set S n => h.SetOf (intKind P w) a S n
  | .ins C dx fs => H dx = some (.own a) ∧ fs.length ≤ 1000 ∧ dx ≠ a ∧ h.get? a = some (PySem.W.instObj C dx) ∧
      ∃ mA, h.Ns1 dx mA ∧ (∀ f, RelO (fs.lookup f) (mA f)) ∧ PySem.Within mA (fs.map (·.1))
  | .own _ => ∃ o, h.get? a = some o
  | .xd fs => ∃ mA, h.Ns1 a mA ∧ ∀ f, RelO (fs.lookup f) (mA f)
  | .rng lo hi => ∃ t u v, h.get? a = some { cls := .type "range", data := .fields #[.int lo t, .int hi u, .int 1 v] }
  | .frz o u => h.get? a = some o ∧ ObjOk H h a u
  | .tbl ps => h.get? a = some { cls := .none, data := .fields ps }
  | .met f x => h.get? a = some (PySem.W.methodObj (.ref f) (.ref x))
  | .ext φ => φ h ∧ (∃ o, h.get? a = some o) ∧ ∀ h1 h2 : Heap, φ h1 → (∀ o, h1.get? a = some o → h2.get? a = some o) → φ h2

structure HOk (H : Hp) (h : Heap) : Prop where
  all : ∀ a o, H a = some o → ObjOk P w H h a o
  sm : ∀ o, H sysModules = some o → ∃ ob u, o = .frz ob u
  bg : ∃ b o, 1 < b ∧ h.get? b = some o
instance (H : Hp) (h : Heap) : CoeFun (HOk P w H h) fun _ => ∀ a o, H a = some o → ObjOk P w H h a o := ⟨HOk.all⟩
end

section
variable {P : Program} {w : World} {H H' : Hp} {h h' : Heap} {a : Addr} {o : HO}
theorem ObjOk.lt (x : ObjOk P w H h a o) : a < h.objs.size := by
  cases o with
  | lst xs => obtain ⟨_, _, _, _, e⟩ := x; exact Heap.lt_size e
  | tup xs => obtain ⟨_, _, _, p⟩ := x; exact p.lt
  | dK kvs => obtain ⟨_, _, _, _, o, _, _, e, _⟩ := x; exact Heap.lt_size e
  | dT kvs => obtain ⟨_, _, _, _, o, _, _, e, _⟩ := x; exact Heap.lt_size e
  | set S n => obtain ⟨o, _, _, _, e, _⟩ := x; exact Heap.lt_size e
  | ins C dx fs => obtain ⟨_, _, _, e, _⟩ := x; exact Heap.lt_size e
  | own y => obtain ⟨_, e⟩ := x; exact Heap.lt_size e
  | xd fs => obtain ⟨_, ⟨_, _, _, e, _⟩, _⟩ := x; exact Heap.lt_size e
  | rng lo hi => obtain ⟨_, _, _, e⟩ := x; exact Heap.lt_size e
  | frz ob u => obtain ⟨e, _⟩ := x; exact Heap.lt_size e
  | tbl ps => exact Heap.lt_size (show h.get? a = some _ from x)
  | met f y => exact Heap.lt_size (show h.get? a = some _ from x)
  | ext φ => obtain ⟨_, ⟨_, e⟩, _⟩ := x; exact Heap.lt_size e
theorem Paired.mapP {α β : Type} {F G : α → β → Prop} : ∀ {l₁ : List α} {l₂ : List β}, Paired F l₁ l₂ → (∀ a b, F a b → G a b) → Paired G l₁ l₂
  | _, _, .nil, _ => .nil
  | _, _, .cons r t, f => .cons (f _ _ r) (Paired.mapP t f)
theorem ObjOk.stay (x : ObjOk P w H h a o) (k : ∀ b u, (b = a ∨ H b = some (.own a)) → h.get? b = some u → h'.get? b = some u)
    (ho : ∀ b, H b = some (.own a) → H' b = some (.own a)) (ht : ∀ b xs, H b = some (.tup xs) → H' b = some (.tup xs)) : ObjOk P w H' h' a o := by
  induction o with
  | lst xs => obtain ⟨z, its, n, r, e⟩ := x; exact ⟨z, its, n, r, k _ _ (.inl rfl) e⟩
  | tup xs => obtain ⟨z, its, r, ob, e, c⟩ := x; exact ⟨z, its, r, ob, k _ _ (.inl rfl) e, c⟩
  | dK kvs => obtain ⟨z, y, vs, r, ob, es, ep, e, c⟩ := x; exact ⟨z, y, vs, r, ob, es, ep, k _ _ (.inl rfl) e, c⟩
  | dT kvs =>
    obtain ⟨z, y, xs, r, ob, es, ep, e, c⟩ := x
    exact ⟨z, y, xs, Paired.mapP r fun p q z => ⟨z.1, ht _ _ z.2.1, z.2.2⟩, ob, es, ep, k _ _ (.inl rfl) e, c⟩
  | set S n => obtain ⟨ob, es, ep, t, e, c⟩ := x; exact ⟨ob, es, ep, t, k _ _ (.inl rfl) e, c⟩
  | ins C dx fs =>
    obtain ⟨d, z, ne, e, mA, ⟨od, es, ep, e2, c⟩, r⟩ := x
    exact ⟨ho _ d, z, ne, k _ _ (.inl rfl) e, mA, ⟨od, es, ep, k _ _ (.inr d) e2, c⟩, r⟩
  | own y => obtain ⟨ob, e⟩ := x; exact ⟨ob, k _ _ (.inl rfl) e⟩
  | xd fs => obtain ⟨mA, ⟨od, es, ep, e, c⟩, r⟩ := x; exact ⟨mA, ⟨od, es, ep, k _ _ (.inl rfl) e, c⟩, r⟩
  | rng lo hi => obtain ⟨t, u, v, e⟩ := x; exact ⟨t, u, v, k _ _ (.inl rfl) e⟩
  | frz ob u ih => obtain ⟨e, q⟩ := x; exact ⟨k _ _ (.inl rfl) e, ih q⟩
  | tbl ps =>
    have e : h.get? a = some { cls := .none, data := .fields ps } := x
    show h'.get? a = some { cls := .none, data := .fields ps }
    exact k a _ (.inl rfl) e
  | met f y =>
    have e : h.get? a = some (PySem.W.methodObj (.ref f) (.ref y)) := x
    show h'.get? a = some (PySem.W.methodObj (.ref f) (.ref y))
    exact k a _ (.inl rfl) e
  | ext φ => obtain ⟨p, ⟨o, e⟩, st⟩ := x; exact ⟨st _ _ p fun o q => k _ _ (.inl rfl) q, ⟨o, k _ _ (.inl rfl) e⟩, st⟩
theorem HOk.lt (x : HOk P w H h) (e : H a = some o) : a < h.objs.size := (x a o e).lt
theorem HOk.fresh (x : HOk P w H h) (e : h.objs.size ≤ a) : H a = none := by
  cases q : H a with
  | none => rfl
  | some u => exact absurd (Nat.lt_of_lt_of_le (x.lt q) e) (Nat.lt_irrefl _)

theorem HOk.kept (x : HOk P w H h) (k : ∀ b u, h.get? b = some u → h'.get? b = some u) : HOk P w H h' := ⟨fun a o e =>
  (x a o e).stay (fun b u _ q => k b u q) (fun _ q => q) fun _ _ q => q, x.sm, let ⟨b, o, l, e⟩ := x.bg; ⟨b, o, l, k _ _ e⟩⟩

theorem HOk.laid (x : HOk P w H h) (k : ∀ b u, h.get? b = some u → h'.get? b = some u) (hp : h.objs.size ≤ a) (new : ObjOk P w (upd H a o) h' a o) : HOk P w (upd H a o) h' := by
  refine ⟨fun b u e => ?_, fun u e => ?_, let ⟨b, o, l, e⟩ := x.bg; ⟨b, o, l, k _ _ e⟩⟩
  rotate_left
  · by_cases hb : sysModules = a
    · obtain ⟨b, o, l, q⟩ := x.bg
      exact absurd (Nat.lt_trans l (show b < sysModules from by rw [hb]; exact Nat.lt_of_lt_of_le (Heap.lt_size q) hp)) (Nat.lt_irrefl 1)
    · rw [upd_ne hb] at e; exact x.sm u e
  have hn := x.fresh hp
  by_cases hb : b = a
  · subst hb; rw [upd_same] at e; cases e; exact new
  · rw [upd_ne hb] at e
    exact (x b u e).stay (fun c v _ q => k c v q) (fun c q => by rw [upd_ne (ne_of_none q hn)]; exact q) fun c xs q => by rw [upd_ne (ne_of_none q hn)]; exact q
end


def Rd (H : Hp) (a : Addr) (u : HO) : Prop := H a = some u ∨ ∃ o, H a = some (.frz o u)
theorem Rd.ok {P : Program} {w : World} {H : Hp} {h : Heap} {a : Addr} {u : HO} (r : Rd H a u) (x : HOk P w H h) : ObjOk P w H h a u := by
  rcases r with r | ⟨o, r⟩
  · exact x a u r
  · obtain ⟨_, q⟩ := x a _ r
    exact q

def Mut : Option HO → Prop
  | some (.lst _) => True
  | some (.dK _) => True
  | some (.dT _) => True
  | some (.set _ _) => True
  | some (.ins _ _ _) => True
  | some (.ext _) => True
  | _ => False
section
variable {P : Program} {w : World} {H : Hp} {h h' : Heap} {x e : Addr} {o' : HO}

theorem HOk.write (ok : HOk P w H h) (mu : Mut (H x)) (he : e = x ∨ H e = some (.own x)) (k : ∀ b u, b ≠ e → h.get? b = some u → h'.get? b = some u) (heo : ∃ u, h'.get? e = some u)
    (new : ObjOk P w (upd H x o') h' x o') : HOk P w (upd H x o') h' := by
  refine ⟨fun b u q => ?_, fun u q => ?_, ?_⟩
  rotate_left
  · by_cases hb : sysModules = x
    · exfalso
      subst hb
      cases z : H sysModules with
      | none => rw [z] at mu; exact mu
      | some o =>
        obtain ⟨ob, v, rfl⟩ := ok.sm o z
        rw [z] at mu; exact mu
    · rw [upd_ne hb] at q; exact ok.sm u q
  · obtain ⟨b, o, l, z⟩ := ok.bg
    by_cases hb : b = e
    · obtain ⟨v, hv⟩ := heo
      exact ⟨e, v, hb ▸ l, hv⟩
    · exact ⟨b, o, l, k b o hb z⟩
  have nown : ∀ c y, H c = some (.own y) → c ≠ x := fun c y r z => by subst z; rw [r] at mu; exact mu
  have ntup : ∀ c xs, H c = some (.tup xs) → c ≠ x := fun c xs r z => by subst z; rw [r] at mu; exact mu
  by_cases hb : b = x
  · subst hb; rw [upd_same] at q; cases q; exact new
  · rw [upd_ne hb] at q
    by_cases hbe : b = e
    · have q' : H b = some (.own x) := by
        rcases he with z | z
        · exact absurd (hbe.trans z) hb
        · rw [hbe]; exact z
      rw [q] at q'; cases q'
      obtain ⟨v, hv⟩ := heo
      exact ⟨v, by rw [hbe]; exact hv⟩
    · refine (ok b u q).stay (fun c v hc r => k c v ?_ r) (fun c r => by rw [upd_ne (nown c b r)]; exact r) fun c xs r => by rw [upd_ne (ntup c xs r)]; exact r
      rcases hc with rfl | hc
      · exact hbe
      · rintro rfl
        rcases he with z | z
        · exact nown c b hc z
        · rw [hc] at z; cases z; exact hb rfl
end


structure Un (fs ex : List Addr) (H H' : Hp) (h h' : Heap) : Prop where
  keep : ∀ b o, h.get? b = some o → H b = none → b ∉ fs → b ∉ ex → h'.get? b = some o
  slot : ∀ b o, h.get? b = some o → H b = none → b ∈ fs → b ∉ ex → ∃ sl, h'.get? b = some { o with slots := sl }
  free : ∀ b o, h.get? b = some o → H b = none → b ∉ ex → H' b = none
  there : ∀ b o, h.get? b = some o → b ∉ ex → ∃ o', h'.get? b = some o'
  tups : ∀ b xs, H b = some (.tup xs) → H' b = some (.tup xs)
  frzs : ∀ b o u, H b = some (.frz o u) → H' b = some (.frz o u)
  tbls : ∀ b ps, H b = some (.tbl ps) → ∃ more, H' b = some (.tbl (ps ++ more))
section
variable {fs fs' ex ex' : List Addr} {H H1 H2 : Hp} {h h1 h2 h' : Heap} {a x e : Addr} {o : HO}
theorem Un.any (u : Un fs ex H H1 h h1) {b : Addr} {ob : Obj} (q : h.get? b = some ob) (n : H b = none) (hx : b ∉ ex) : ∃ sl, h1.get? b = some { ob with slots := sl } := by
  by_cases hb : b ∈ fs
  · exact u.slot b ob q n hb hx
  · exact ⟨ob.slots, u.keep b ob q n hb hx⟩
theorem Un.trans (a : Un fs ex H H1 h h1) (b : Un fs ex H1 H2 h1 h2) : Un fs ex H H2 h h2 where
  keep := fun c ob q n hc hx => b.keep c ob (a.keep c ob q n hc hx) (a.free c ob q n hx) hc hx
  slot := fun c ob q n hc hx => by
    obtain ⟨sl, e1⟩ := a.slot c ob q n hc hx
    obtain ⟨sl', e2⟩ := b.slot c _ e1 (a.free c ob q n hx) hc hx
    exact ⟨sl', e2⟩
  free := fun c ob q n hx => by
    obtain ⟨o', e1⟩ := a.there c ob q hx
    exact b.free c o' e1 (a.free c ob q n hx) hx
  there := fun c ob q hx => by
    obtain ⟨o', e1⟩ := a.there c ob q hx
    exact b.there c o' e1 hx
  tups := fun c xs q => b.tups c xs (a.tups c xs q)
  frzs := fun c ob xs q => b.frzs c ob xs (a.frzs c ob xs q)
  tbls := fun c ps q => by
    obtain ⟨m1, e1⟩ := a.tbls c ps q
    obtain ⟨m2, e2⟩ := b.tbls c _ e1
    exact ⟨m1 ++ m2, by rw [e2, Array.append_assoc]⟩
theorem Un.kept (k : ∀ b u, h.get? b = some u → h'.get? b = some u) : Un fs ex H H h h' :=
  ⟨fun b ob q _ _ _ => k b ob q, fun b ob q _ _ _ => ⟨ob.slots, k b ob q⟩, fun _ _ _ n _ => n, fun b ob q _ => ⟨ob, k b ob q⟩, fun _ _ q => q, fun _ _ _ q => q, fun _ ps q => ⟨#[], by rw [q]; simp⟩⟩
theorem Un.refl : Un fs ex H H h h := Un.kept fun _ _ q => q
theorem Un.laid (k : ∀ b u, h.get? b = some u → h'.get? b = some u) (hp : h.objs.size ≤ a) (hn : H a = none) : Un fs ex H (upd H a o) h h' where
  keep := fun b u q _ _ _ => k b u q
  slot := fun b u q _ _ _ => ⟨u.slots, k b u q⟩
  free := fun b u q n _ => by rw [upd_ne (Nat.ne_of_lt (Nat.lt_of_lt_of_le (Heap.lt_size q) hp))]; exact n
  there := fun b u q _ => ⟨u, k b u q⟩
  tups := fun b xs q => by rw [upd_ne (ne_of_none q hn)]; exact q
  frzs := fun b u xs q => by rw [upd_ne (ne_of_none q hn)]; exact q
  tbls := fun b ps q => ⟨#[], by rw [upd_ne (ne_of_none q hn), q]; simp⟩
theorem Un.write (mu : Mut (H x)) (he : e = x ∨ H e = some (.own x)) (k : ∀ b u, b ≠ e → h.get? b = some u → h'.get? b = some u) (heo : ∃ u, h'.get? e = some u) : Un fs ex H (upd H x o) h h' := by
  have hx : ∀ b, H b = none → b ≠ x := fun b n z => by subst z; rw [n] at mu; exact mu
  have hb : ∀ b, H b = none → b ≠ e := fun b n z => by
    subst z
    rcases he with r | r
    · exact hx b n r
    · rw [n] at r; cases r
  have hm : ∀ b u, H b = some u → ¬ Mut (some u) → b ≠ x := fun b u q nm z => by subst z; rw [q] at mu; exact nm mu
  refine ⟨fun b u q n _ _ => k b u (hb b n) q, fun b u q n _ _ => ⟨u.slots, k b u (hb b n) q⟩, fun b u q n _ => by rw [upd_ne (hx b n)]; exact n, fun b u q _ => ?_,
    fun b xs q => by rw [upd_ne (hm b _ q fun z => z)]; exact q, fun b u xs q => by rw [upd_ne (hm b _ q fun z => z)]; exact q, fun b ps q => ⟨#[], by rw [upd_ne (hm b _ q fun z => z), q]; simp⟩⟩
  by_cases hbe : b = e
  · subst hbe; exact heo
  · exact ⟨u, k b u hbe q⟩
end


def trk (h : Heap) (H : Hp) : List Addr := (List.range h.objs.size).filter fun a => (H a).isSome
def hidT (h : Heap) (H : Hp) : Heap := PySem.W.hideAll h (trk h H)
theorem hidT_size (h : Heap) (H : Hp) : (hidT h H).objs.size = h.objs.size := PySem.W.hideAll_size _ _
theorem hidT_get {h : Heap} {H : Hp} {b : Addr} {o : Obj} (e : h.get? b = some o) (n : H b = none) : (hidT h H).get? b = some o :=
  PySem.W.hideAll_get _ e fun hm => by
    have q : (H b).isSome = true := (List.mem_filter.mp hm).2
    rw [n] at q; simp at q
theorem of_hidT {h : Heap} {H : Hp} {b : Addr} {o : Obj} (e : (hidT h H).get? b = some o) : h.get? b = some o ∧ H b = none := by
  have e' : h.get? b = some o := PySem.W.of_hideAll (trk h H) e
  refine ⟨e', ?_⟩
  cases q : H b with
  | none => rfl
  | some x =>
    have hm : b ∈ trk h H := List.mem_filter.mpr ⟨List.mem_range.mpr (Heap.lt_size e'), by simp [q]⟩
    have z : (hidT h H).get? b = none := PySem.W.hideAll_none (trk h H) hm
    rw [z] at e; cases e


end L2

namespace L2
open PySem PySem.Spec PyProof.Rows


structure Mod (K : PySem.W.Frag) (mg : Str → Option Value) (base : Heap) : Prop where
  kin : K.In base
  glob : base.Ns mainGlobals mg
  blt : ∃ mb, base.Ns builtinsNs mb ∧ ∀ x : Str, x ≠ "__name__" → mb x = bootBuiltins x
  nolimit : base.NoLimit


structure Cx where
  prog : Program
  w : World
  K : PySem.W.Frag
  mg : Str → Option Value
  base : Heap
  A : Around
  N : List Str
  s₀ : Shared
  H₀ : Hp
  env : Env
  outer : List Env
  stack : List Env
  ex : List Addr
  fn : Str → Bool
  calm : Bool
  pn : List (Addr × Obj)
  xe : Value → Shared → Prop

def frs (l : List Env) : List Addr := l.filterMap (·.frame)
abbrev Cx.fs (X : Cx) : List Addr := frs X.outer

def Vis (sc : Scope) (x : Str) : Prop := sc.names.lookup x = some .local ∨ sc.names.lookup x = some .cell ∨ sc.names.lookup x = some .free
def Loc (sc : Scope) (x : Str) : Prop := sc.names.lookup x = some .local ∨ sc.names.lookup x = some .cell
def Look (env : Env) (h : Heap) (m : Str → Option Value) (x : Str) (u : Value) : Prop :=
  (env.kindOf x = some .local ∧ m x = some u) ∨ ((env.kindOf x = some .cell ∨ env.kindOf x = some .free) ∧ ∃ c, env.cells.lookup x = some c ∧ h.IsCell c (some u))

structure Cx.Ok (X : Cx) : Prop where
  mod : Mod X.K X.mg X.base
  kind : X.env.scope.kind = .function
  glob : X.env.globals = mainGlobals
  blt : X.env.builtins = builtinsNs
  above : X.s₀.heap.objs.size ≤ X.env.locals
  inj : ∀ x y c, X.env.cells.lookup x = some c → X.env.cells.lookup y = some c → x = y
  has : ∀ x, (X.env.kindOf x = some .cell ∨ X.env.kindOf x = some .free) → ∃ c, X.env.cells.lookup x = some c
  cab : ∀ x c, X.fn x = true → X.env.cells.lookup x = some c → X.s₀.heap.objs.size ≤ c
  hd : X.calm = true → X.A.handled = none
  frames : X.A.frames = some X.stack
  stk : X.stack = X.outer ∨ (X.stack = X.env :: X.outer ∧ X.env.frame = some X.env.locals)
  exf : ∀ b ∈ X.ex, b ≠ X.env.locals ∧ ∀ x c, X.env.cells.lookup x = some c → c ≠ b
  bs : ∀ b o, X.base.get? b = some o → X.s₀.heap.get? b = some o ∧ X.H₀ b = none
  bsz : X.base.objs.size ≤ X.s₀.heap.objs.size
  noex : ∀ b o, X.base.get? b = some o → b ∉ X.ex
  exfs : ∀ b ∈ X.ex, b ∉ X.fs
  funs : X.s₀.heap.FunFrames X.base X.outer
  frf : ∀ b ∈ X.fs, X.H₀ b = none

structure Inv (X : Cx) (pins : List (Addr × Obj)) (σ : List (Option V)) (H : Hp) (s : Shared) : Prop where
  ok : X.Ok
  os : s.os = X.s₀.os
  bare : AllBare s.gens
  base : Un X.fs X.ex X.H₀ H X.s₀.heap s.heap
  loc : ∃ m, s.heap.Ns X.env.locals m ∧ ∀ (i : Nat) (x : Str) (v : V), X.N[i]? = some x → σ[i]? = some (some v) → Vis X.env.scope x → ∃ u, RelV v u ∧ Look X.env s.heap m x u
  cell : ∀ x c, X.env.cells.lookup x = some c → ∃ v, s.heap.IsCell c v
  free : H X.env.locals = none
  freeC : ∀ x c, X.env.cells.lookup x = some c → H c = none
  pin : ∀ p ∈ X.pn ++ pins, s.heap.get? p.1 = some p.2 ∧ H p.1 = none ∧ p.1 ≠ X.env.locals ∧ p.1 ∉ X.fs ∧ ∀ v, p.2.data ≠ .cell v
  hok : HOk X.prog X.w H s.heap
  len : σ.length = X.N.length

section
variable {X : Cx} {pins : List (Addr × Obj)} {σ : List (Option V)} {H H' : Hp} {s : Shared} {h' : Heap}

theorem Cx.Ok.nofr (ok : X.Ok) {b : Addr} {o : Obj} (e : X.base.get? b = some o) : b ∉ X.fs := fun hb => by
  have := (ok.funs.mem hb).1
  rw [e] at this; cases this
theorem Inv.bs (I : Inv X pins σ H s) : ∀ b o, X.base.get? b = some o → s.heap.get? b = some o ∧ H b = none := fun b o e =>
  ⟨I.base.keep b o (I.ok.bs b o e).1 (I.ok.bs b o e).2 (I.ok.nofr e) (I.ok.noex b o e), I.base.free b o (I.ok.bs b o e).1 (I.ok.bs b o e).2 (I.ok.noex b o e)⟩
theorem Inv.bk (I : Inv X pins σ H s) : ∀ b o, X.base.get? b = some o → s.heap.get? b = some o := fun b o e => (I.bs b o e).1
theorem Inv.mod (I : Inv X pins σ H s) : Mod X.K X.mg X.base := I.ok.mod
theorem Inv.kIn (I : Inv X pins σ H s) : X.K.In s.heap := I.ok.mod.kin.keeps I.bk
theorem Inv.lt (I : Inv X pins σ H s) : X.env.locals < s.heap.objs.size := let ⟨_, hn, _⟩ := I.loc; hn.lt
theorem Inv.sz (I : Inv X pins σ H s) : X.s₀.heap.objs.size ≤ s.heap.objs.size := Nat.le_trans I.ok.above (Nat.le_of_lt I.lt)
theorem Inv.nofs (I : Inv X pins σ H s) {a : Addr} (h : s.heap.objs.size ≤ a) : a ∉ X.fs := fun hb => by
  obtain ⟨_, o, ho, _⟩ := I.ok.funs.mem hb
  exact absurd (Nat.lt_of_lt_of_le (Heap.lt_size ho) (Nat.le_trans I.sz h)) (Nat.lt_irrefl _)
theorem Inv.cne (I : Inv X pins σ H s) : ∀ x c, X.env.cells.lookup x = some c → c ≠ X.env.locals := fun x c e z => by
  obtain ⟨v, o, ho, hd⟩ := I.cell x c e
  obtain ⟨m, ⟨o', es, ep, ho', hd', _⟩, _⟩ := I.loc
  rw [z, ho'] at ho; cases ho; rw [hd'] at hd; cases hd
theorem Inv.funs (I : Inv X pins σ H s) : s.heap.FunFrames X.base X.outer := by
  have all : ∀ (l : List Env), (∀ b ∈ frs l, b ∈ X.fs) → X.s₀.heap.FunFrames X.base l → s.heap.FunFrames X.base l := by
    intro l
    induction l with
    | nil => intro _ _; trivial
    | cons env r ih =>
      intro hs hl
      obtain ⟨hk, ⟨L, o, hf, hn, ho, hd⟩, hr⟩ := hl
      have hL : L ∈ X.fs := hs L (by unfold frs; rw [List.filterMap_cons, hf]; exact List.mem_cons_self)
      obtain ⟨sl, e⟩ := I.base.slot L o ho (I.ok.frf L hL) hL fun z => I.ok.exfs L z hL
      exact ⟨hk, ⟨L, _, hf, hn, e, hd⟩, ih (fun b hb => hs b (by unfold frs; rw [List.filterMap_cons, hf]; exact List.mem_cons_of_mem _ hb)) hr⟩
  exact all X.outer (fun _ hb => hb) I.ok.funs


theorem Inv.stack (I : Inv X pins σ H s) : s.heap.FunFrames X.base X.stack := by
  rcases I.ok.stk with e | ⟨e, hf⟩
  · rw [e]; exact I.funs
  · rw [e]
    obtain ⟨m, hn, _⟩ := I.loc
    refine .cons (by rw [I.ok.kind]; decide) hf hn ?_ I.funs
    exact Heap.get?_none_of_le (Nat.le_trans I.ok.bsz I.ok.above)
theorem Inv.stkSub (I : Inv X pins σ H s) : ∀ b ∈ frs X.stack, b ∈ X.env.locals :: X.fs := fun b hb => by
  rcases I.ok.stk with e | ⟨e, hf⟩
  · rw [e] at hb; exact List.mem_cons_of_mem _ hb
  · rw [e] at hb
    unfold frs at hb
    rw [List.filterMap_cons, hf] at hb
    exact hb
theorem Inv.stkFree (I : Inv X pins σ H s) : ∀ b ∈ frs X.stack, H b = none := fun b hb => by
  rcases List.mem_cons.mp (I.stkSub b hb) with e | hb
  · rw [e]; exact I.free
  · obtain ⟨_, o, ho, _⟩ := I.ok.funs.mem hb
    exact I.base.free b o ho (I.ok.frf b hb) fun z => I.ok.exfs b z hb


theorem Inv.step {g' : Array GenState} {t' : Nat} {d' : Drawn} {ch : List Addr} (I : Inv X pins σ H s)
    (hch : ∀ b ∈ ch, (b ∈ X.ex ∨ X.s₀.heap.objs.size ≤ b) ∧ b ≠ X.env.locals ∧ (∀ x c, X.env.cells.lookup x = some c → c ≠ b) ∧ ∀ p ∈ X.pn ++ pins, p.1 ≠ b)
    (keep : ∀ b o, b ≠ X.env.locals → b ∉ X.fs → b ∉ ch → s.heap.get? b = some o → H b = none → h'.get? b = some o)
    (slot : ∀ b o, b ≠ X.env.locals → b ∈ X.fs → b ∉ ch → s.heap.get? b = some o → H b = none → ∃ sl, h'.get? b = some { o with slots := sl }) (free : ∀ b o, b ∉ ch → s.heap.get? b = some o → H b = none → H' b = none)
    (there : ∀ b o, b ∉ ch → s.heap.get? b = some o → ∃ o', h'.get? b = some o')
    (tups : ∀ b xs, H b = some (.tup xs) → H' b = some (.tup xs)) (frzs : ∀ b o u, H b = some (.frz o u) → H' b = some (.frz o u)) (tbls : ∀ b ps, H b = some (.tbl ps) → ∃ more, H' b = some (.tbl (ps ++ more)))
    (ns : ∀ m, s.heap.Ns X.env.locals m → h'.Ns X.env.locals m) (hok : HOk X.prog X.w H' h') (hg : AllBare g') :
    Inv X pins σ H' { s with heap := h', gens := g', drawn := d', toks := t' } := by
  have neL : ∀ b o, X.s₀.heap.get? b = some o → b ≠ X.env.locals := fun b o e => Nat.ne_of_lt (Nat.lt_of_lt_of_le (Heap.lt_size e) I.ok.above)
  have neC : ∀ b o, X.s₀.heap.get? b = some o → b ∉ X.ex → b ∉ ch := fun b o e hx hb => by
    rcases (hch b hb).1 with z | z
    · exact hx z
    · exact absurd (Nat.lt_of_lt_of_le (Heap.lt_size e) z) (Nat.lt_irrefl _)
  have cellK : ∀ x c, X.env.cells.lookup x = some c → ∀ v, s.heap.IsCell c v → h'.IsCell c v := fun x c e v ⟨o, ho, hd⟩ => by
    have nch : c ∉ ch := fun z => (hch c z).2.2.1 x c e rfl
    by_cases hc : c ∈ X.fs
    · obtain ⟨sl, q⟩ := slot c o (I.cne x c e) hc nch ho (I.freeC x c e)
      exact ⟨_, q, hd⟩
    · exact ⟨o, keep c o (I.cne x c e) hc nch ho (I.freeC x c e), hd⟩
  refine ⟨I.ok, I.os, hg, ⟨fun b o e n hb hx => ?_, fun b o e n hb hx => ?_, fun b o e n hx => ?_, fun b o e hx => ?_, fun b xs e => tups b xs (I.base.tups b xs e), fun b o xs e => frzs b o xs (I.base.frzs b o xs e), fun b ps e => ?_⟩, ?_, fun x c e => ?_, ?_, fun x c e => ?_, fun p hp => ?_, hok, I.len⟩
  · exact keep b o (neL b o e) hb (neC b o e hx) (I.base.keep b o e n hb hx) (I.base.free b o e n hx)
  · obtain ⟨sl, e1⟩ := I.base.slot b o e n hb hx
    obtain ⟨sl', e2⟩ := slot b _ (neL b o e) hb (neC b o e hx) e1 (I.base.free b o e n hx)
    exact ⟨sl', e2⟩
  · obtain ⟨o', e1⟩ := I.base.there b o e hx
    exact free b o' (neC b o e hx) e1 (I.base.free b o e n hx)
  · obtain ⟨o', e1⟩ := I.base.there b o e hx
    exact there b o' (neC b o e hx) e1
  · obtain ⟨m1, e1⟩ := I.base.tbls b ps e
    obtain ⟨m2, e2⟩ := tbls b _ e1
    exact ⟨m1 ++ m2, by rw [e2, Array.append_assoc]⟩
  · obtain ⟨m, hn, hl⟩ := I.loc
    refine ⟨m, ns m hn, fun i x v e1 e2 e3 => ?_⟩
    obtain ⟨u, r, l⟩ := hl i x v e1 e2 e3
    refine ⟨u, r, ?_⟩
    rcases l with l | ⟨k, c, e, z⟩
    · exact .inl l
    · exact .inr ⟨k, c, e, cellK x c e _ z⟩
  · obtain ⟨v, z⟩ := I.cell x c e
    exact ⟨v, cellK x c e v z⟩
  · obtain ⟨m, ⟨o, _, _, ho, _⟩, _⟩ := I.loc
    exact free _ o (fun z => (hch _ z).2.1 rfl) ho I.free
  · obtain ⟨v, o, ho, hd⟩ := I.cell x c e
    exact free c o (fun z => (hch c z).2.2.1 x c e rfl) ho (I.freeC x c e)
  · obtain ⟨e, n, ne, nf, d⟩ := I.pin p hp
    have nch : p.1 ∉ ch := fun z => (hch p.1 z).2.2.2 p hp rfl
    exact ⟨keep p.1 p.2 ne nf nch e n, free p.1 p.2 nch e n, ne, nf, d⟩

theorem Inv.un {t' : Nat} (I : Inv X pins σ H s) (u : Un X.fs [] H H' s.heap h') (hok : HOk X.prog X.w H' h') : Inv X pins σ H' { s with heap := h', toks := t' } := by
  obtain ⟨m, ⟨o, es, ep, ho, r⟩, _⟩ := id I.loc
  obtain ⟨sl, hL⟩ := u.any ho I.free (by simp)
  exact I.step (g' := s.gens) (d' := s.drawn) (ch := []) (fun _ z => nomatch z) (fun b o _ hb _ e n => u.keep b o e n hb (by simp)) (fun b o _ hb _ e n => u.slot b o e n hb (by simp)) (fun b o _ e n => u.free b o e n (by simp)) (fun b o _ e => u.there b o e (by simp)) u.tups u.frzs u.tbls (fun m' hm => by
    obtain ⟨o', es', ep', ho', r'⟩ := hm
    rw [ho] at ho'; cases ho'
    exact ⟨_, es', ep', hL, r'⟩) hok I.bare

theorem Inv.call {g' : Array GenState} {t' : Nat} {d' : Drawn} {ch : List Addr} (I : Inv X pins σ H s) (u : Un (frs X.stack) ch H H' s.heap h') (hok : HOk X.prog X.w H' h') (hg : AllBare g')
    (hch : ∀ b ∈ ch, (b ∈ X.ex ∨ X.s₀.heap.objs.size ≤ b) ∧ b ≠ X.env.locals ∧ (∀ x c, X.env.cells.lookup x = some c → c ≠ b) ∧ ∀ p ∈ X.pn ++ pins, p.1 ≠ b) :
    Inv X pins σ H' { s with heap := h', gens := g', drawn := d', toks := t' } := by
  obtain ⟨m, ⟨o, es, ep, ho, r⟩, _⟩ := id I.loc
  obtain ⟨sl, hL⟩ := u.any ho I.free fun z => (hch _ z).2.1 rfl
  exact I.step (ch := ch) hch (fun b o hL hb hc e n => u.keep b o e n (fun z => (List.mem_cons.mp (I.stkSub b z)).elim hL hb) hc) (fun b o _ _ hc e n => u.any e n hc) (fun b o hc e n => u.free b o e n hc) (fun b o hc e => u.there b o e hc) u.tups u.frzs u.tbls (fun m' hm => by
    obtain ⟨o', es', ep', ho', r'⟩ := hm
    rw [ho] at ho'; cases ho'
    exact ⟨_, es', ep', hL, r'⟩) hok hg

theorem Inv.turned {t' : Nat} {it : Addr} (I : Inv X pins σ H s) (k : ∀ b o, b ≠ it → s.heap.get? b = some o → h'.get? b = some o) (hn : H it = none) (hL : it ≠ X.env.locals)
    (h1 : it ∈ X.ex ∨ X.s₀.heap.objs.size ≤ it) (h2 : ∀ x c, X.env.cells.lookup x = some c → c ≠ it) (h3 : ∀ p ∈ X.pn ++ pins, p.1 ≠ it) : Inv X pins σ H { s with heap := h', toks := t' } := by
  have nit : ∀ b u, H b = some u → b ≠ it := fun b u e z => by rw [z, hn] at e; cases e
  refine I.step (g' := s.gens) (d' := s.drawn) (ch := [it]) (fun b hb => ?_) (fun b o _ _ hc e _ => k b o (fun z => hc (by simp [z])) e) (fun b o _ _ hc e _ => ⟨o.slots, k b o (fun z => hc (by simp [z])) e⟩) (fun _ _ _ _ n => n)
    (fun b o hc e => ⟨o, k b o (fun z => hc (by simp [z])) e⟩) (fun _ _ e => e) (fun _ _ _ e => e) (fun b ps e => ⟨#[], by rw [e]; simp⟩) (fun m hm => ?_) ⟨fun b u e => ?_, I.hok.sm, let ⟨o, _, _, e, _⟩ := I.ok.mod.glob; ⟨mainGlobals, o, by decide, k _ _ (fun z => by
      rcases h1 with q | q
      · exact I.ok.noex _ _ e (z ▸ q)
      · exact absurd (Nat.lt_of_lt_of_le (Heap.lt_size e) (Nat.le_trans I.ok.bsz q)) (by rw [z]; exact Nat.lt_irrefl _)) (I.bk _ _ e)⟩⟩ I.bare
  · have e : b = it := by simpa using hb
    subst e
    exact ⟨h1, hL, h2, h3⟩
  · obtain ⟨o, es, ep, ho, r⟩ := hm
    exact ⟨o, es, ep, k _ o (Ne.symm hL) ho, r⟩
  · refine (I.hok b u e).stay (fun c v hc q => k c v ?_ q) (fun _ q => q) fun _ _ q => q
    rcases hc with z | z
    · rw [z]; exact nit b u e
    · exact nit c _ z
theorem Inv.tok (I : Inv X pins σ H s) (t : Nat) : Inv X pins σ H { s with toks := t } := I.un (h' := s.heap) (t' := t) Un.refl I.hok

theorem Inv.kept {t' : Nat} (I : Inv X pins σ H s) (k : ∀ b u, s.heap.get? b = some u → h'.get? b = some u) : Inv X pins σ H { s with heap := h', toks := t' } := I.un (Un.kept k) (I.hok.kept k)

theorem Inv.laid {a : Addr} {o : HO} {t' : Nat} (I : Inv X pins σ H s) (k : ∀ b u, s.heap.get? b = some u → h'.get? b = some u) (hp : s.heap.objs.size ≤ a) (new : ObjOk X.prog X.w (upd H a o) h' a o) :
    Inv X pins σ (upd H a o) { s with heap := h', toks := t' } := I.un (Un.laid k hp (I.hok.fresh hp)) (I.hok.laid k hp new)

theorem Inv.write {x e : Addr} {o : HO} {t' : Nat} (I : Inv X pins σ H s) (mu : Mut (H x)) (he : e = x ∨ H e = some (.own x)) (k : ∀ b u, b ≠ e → s.heap.get? b = some u → h'.get? b = some u) (heo : ∃ u, h'.get? e = some u)
    (new : ObjOk X.prog X.w (upd H x o) h' x o) : Inv X pins σ (upd H x o) { s with heap := h', toks := t' } := I.un (Un.write mu he k heo) (I.hok.write mu he k heo new)

theorem Inv.weak {σ' : List (Option V)} (I : Inv X pins σ H s) (hl : σ'.length = σ.length) (w : ∀ (i : Nat) v, σ'[i]? = some (some v) → σ[i]? = some (some v)) : Inv X pins σ' H s :=
  ⟨I.ok, I.os, I.bare, I.base, let ⟨m, hn, hl'⟩ := I.loc; ⟨m, hn, fun i x v e1 e2 e3 => hl' i x v e1 (w i v e2) e3⟩, I.cell, I.free, I.freeC, I.pin, I.hok, hl.trans I.len⟩
theorem Inv.pins_of {pins' : List (Addr × Obj)} (I : Inv X pins σ H s) (h : ∀ p ∈ pins', s.heap.get? p.1 = some p.2 ∧ H p.1 = none ∧ p.1 ≠ X.env.locals ∧ p.1 ∉ X.fs ∧ ∀ v, p.2.data ≠ .cell v) : Inv X pins' σ H s :=
  ⟨I.ok, I.os, I.bare, I.base, I.loc, I.cell, I.free, I.freeC, fun p hp => (List.mem_append.mp hp).elim (fun z => I.pin p (List.mem_append_left _ z)) (h p), I.hok, I.len⟩

theorem nodup_ix {N : List Str} (hN : N.Nodup) {i j : Nat} {x : Str} (a : N[i]? = some x) (b : N[j]? = some x) : i = j := by
  obtain ⟨h1, e1⟩ := List.getElem?_eq_some_iff.mp a
  obtain ⟨h2, e2⟩ := List.getElem?_eq_some_iff.mp b
  exact (List.getElem_inj hN).mp (e1.trans e2.symm)


theorem store_ok2 {M : Model} {A : Around} {E : Value → Shared → Prop} {i : Nat} {x : Str} {v : V} {u : Value} {Q : Unit → Shared → Prop} (I : Inv X pins σ H s) (hN : X.N.Nodup) (hi : X.N[i]? = some x) (hx : Loc X.env.scope x) (r : RelV v u)
    (h : ∀ s', Inv X pins (σ.set i (some v)) H s' → (∃ a, Heap.SameBut a s.heap s'.heap ∧ (a = X.env.locals ∨ X.env.cells.lookup x = some a)) → Q () s') (hf : X.fn x = true ∨ X.env.scope.names.lookup x = some .local := by first | exact .inl rfl | exact .inr rfl | assumption) : wpAny M A (storeName X.env x u) Q E s := by
  obtain ⟨m, hn, hl⟩ := id I.loc
  have hcls : (X.env.scope.kind == .class || (X.env.scope.kind == .module && X.env.locals != X.env.globals)) = false := by rw [I.ok.kind]; rfl
  have hiσ : i < σ.length := by rw [I.len]; exact (List.getElem?_eq_some_iff.mp hi).1
  have cne := I.cne
  have tracked : ∀ {a : Addr} {h' : Heap}, (∃ o, s.heap.get? a = some o ∧ H a = none) → Heap.SameBut a s.heap h' → (∃ o', h'.get? a = some o') → HOk X.prog X.w H h' := fun {a h'} ha hs hz => by
    refine ⟨fun b ob e => ?_, I.hok.sm, ?_⟩
    rotate_left
    · obtain ⟨b, o, l, e⟩ := I.hok.bg
      by_cases hb : b = a
      · obtain ⟨v, hv⟩ := hz
        exact ⟨a, v, hb ▸ l, hv⟩
      · exact ⟨b, o, l, (hs.2 b hb).trans e⟩
    obtain ⟨_, _, hfree⟩ := ha
    refine (I.hok b ob e).stay (fun c w' hc q => (hs.2 c ?_).trans q) (fun _ q => q) fun _ _ q => q
    rintro rfl
    rcases hc with rfl | hc
    · rw [hfree] at e; cases e
    · rw [hfree] at hc; cases hc
  rcases hx with hk | hk
  · refine wpAny_storeName_local hk hn (fun h' hn' hs => ?_) hcls
    obtain ⟨oL, _, _, hoL, _⟩ := id hn
    refine h _ ⟨I.ok, I.os, I.bare, ⟨fun b o e n hb hx => ?_, fun b o e n hb hx => ?_, I.base.free, fun b o e hx => ?_, I.base.tups, I.base.frzs, I.base.tbls⟩, ⟨_, hn', fun j y v' e1 e2 e3 => ?_⟩, fun y c e => ?_, I.free, I.freeC, fun p hp => ?_, tracked ⟨oL, hoL, I.free⟩ hs (let ⟨o, _, _, e, _⟩ := hn'; ⟨o, e⟩), by simpa using I.len⟩ ⟨_, hs, .inl rfl⟩
    · exact (hs.2 b (Nat.ne_of_lt (Nat.lt_of_lt_of_le (Heap.lt_size e) I.ok.above))).trans (I.base.keep b o e n hb hx)
    · obtain ⟨sl, e1⟩ := I.base.slot b o e n hb hx
      exact ⟨sl, (hs.2 b (Nat.ne_of_lt (Nat.lt_of_lt_of_le (Heap.lt_size e) I.ok.above))).trans e1⟩
    · obtain ⟨o', e1⟩ := I.base.there b o e hx
      exact ⟨o', (hs.2 b (Nat.ne_of_lt (Nat.lt_of_lt_of_le (Heap.lt_size e) I.ok.above))).trans e1⟩
    · by_cases hj : j = i
      · subst hj
        rw [hi] at e1; cases e1
        rw [List.getElem?_set_self hiσ] at e2
        cases e2
        exact ⟨u, r, .inl ⟨hk, by simp⟩⟩
      · rw [List.getElem?_set_ne (Ne.symm hj)] at e2
        obtain ⟨u', r', q⟩ := hl j y v' e1 e2 e3
        refine ⟨u', r', ?_⟩
        rcases q with ⟨k, e⟩ | ⟨k, c, e, z⟩
        · refine .inl ⟨k, ?_⟩
          have : y ≠ x := fun e => hj (nodup_ix hN e1 (e ▸ hi))
          simp [this, e]
        · exact .inr ⟨k, c, e, z.sameBut hs (cne y c e)⟩
    · obtain ⟨w', z⟩ := I.cell y c e
      exact ⟨w', z.sameBut hs (cne y c e)⟩
    · obtain ⟨e, n, ne, nf, d⟩ := I.pin p hp
      exact ⟨(hs.2 p.1 ne).trans e, n, ne, nf, d⟩
  · have hfn : X.fn x = true := by
      rcases hf with z | z
      · exact z
      · rw [z] at hk; cases hk
    obtain ⟨c, hc⟩ := I.ok.has x (.inl hk)
    obtain ⟨w', z⟩ := I.cell x c hc
    refine wpAny_storeName_cell I.ok.kind hk hc z (fun h' hc' hs => ?_)
    obtain ⟨oc, hoc, hocd⟩ := id z
    refine h { s with heap := h' } ⟨I.ok, I.os, I.bare, ⟨fun b o e n hb hx => ?_, fun b o e n hb hx => ?_, I.base.free, fun b o e hx => ?_, I.base.tups, I.base.frzs, I.base.tbls⟩, ⟨m, hn.sameBut hs (Ne.symm (cne x c hc)), fun j y v' e1 e2 e3 => ?_⟩, fun y c' e => ?_, I.free, I.freeC, fun p hp => ?_, tracked ⟨oc, hoc, I.freeC x c hc⟩ hs (let ⟨o, e, _⟩ := hc'; ⟨o, e⟩), by simpa using I.len⟩ ⟨c, hs, .inr hc⟩
    · exact (hs.2 b (Nat.ne_of_lt (Nat.lt_of_lt_of_le (Heap.lt_size e) (I.ok.cab x c hfn hc)))).trans (I.base.keep b o e n hb hx)
    · obtain ⟨sl, e1⟩ := I.base.slot b o e n hb hx
      exact ⟨sl, (hs.2 b (Nat.ne_of_lt (Nat.lt_of_lt_of_le (Heap.lt_size e) (I.ok.cab x c hfn hc)))).trans e1⟩
    · obtain ⟨o', e1⟩ := I.base.there b o e hx
      exact ⟨o', (hs.2 b (Nat.ne_of_lt (Nat.lt_of_lt_of_le (Heap.lt_size e) (I.ok.cab x c hfn hc)))).trans e1⟩
    · by_cases hj : j = i
      · subst hj
        rw [hi] at e1; cases e1
        rw [List.getElem?_set_self hiσ] at e2
        cases e2
        exact ⟨u, r, .inr ⟨.inl hk, c, hc, hc'⟩⟩
      · rw [List.getElem?_set_ne (Ne.symm hj)] at e2
        obtain ⟨u', r', q⟩ := hl j y v' e1 e2 e3
        refine ⟨u', r', ?_⟩
        rcases q with q | ⟨k, c', e, z'⟩
        · exact .inl q
        · refine .inr ⟨k, c', e, z'.sameBut hs ?_⟩
          rintro rfl
          exact hj (nodup_ix hN e1 (I.ok.inj _ _ _ e hc ▸ hi))
    · by_cases hcc : c' = c
      · subst hcc; exact ⟨_, hc'⟩
      · obtain ⟨w2, z2⟩ := I.cell y c' e
        exact ⟨w2, z2.sameBut hs hcc⟩
    · obtain ⟨e, n, ne, nf, d⟩ := I.pin p hp
      refine ⟨(hs.2 p.1 ?_).trans e, n, ne, nf, d⟩
      intro q
      rw [q, hoc] at e
      have q' : oc = p.2 := Option.some.inj e
      exact d w' (by rw [← q']; exact hocd)
theorem store_ok {M : Model} {A : Around} {E : Value → Shared → Prop} {i : Nat} {x : Str} {v : V} {u : Value} {Q : Unit → Shared → Prop} (I : Inv X pins σ H s) (hN : X.N.Nodup) (hi : X.N[i]? = some x) (hx : Loc X.env.scope x) (r : RelV v u)
    (h : ∀ s', Inv X pins (σ.set i (some v)) H s' → Q () s') (hf : X.fn x = true ∨ X.env.scope.names.lookup x = some .local := by first | exact .inl rfl | exact .inr rfl | assumption) : wpAny M A (storeName X.env x u) Q E s :=
  store_ok2 I hN hi hx r (fun s' I' _ => h s' I') hf

theorem Inv.call' {s' : Shared} {ch : List Addr} (I : Inv X pins σ H s) (ho : s'.os = s.os) (u : Un (frs X.stack) ch H H' s.heap s'.heap) (hok : HOk X.prog X.w H' s'.heap) (hg : AllBare s'.gens)
    (hch : ∀ b ∈ ch, (b ∈ X.ex ∨ X.s₀.heap.objs.size ≤ b) ∧ b ≠ X.env.locals ∧ (∀ x c, X.env.cells.lookup x = some c → c ≠ b) ∧ ∀ p ∈ X.pn ++ pins, p.1 ≠ b) : Inv X pins σ H' s' := by
  obtain ⟨h', g', d', t', o'⟩ := s'
  have e : o' = s.os := ho
  subst e
  exact I.call (g' := g') (t' := t') (d' := d') u hok hg hch
end



abbrev XK := Value → Option Addr → Hp → Prop
abbrev St := List (Option V)
abbrev VK := V → Hp → Prop

abbrev TE := St → Hp → VK → Prop
abbrev TT := St → Hp → (Bool → Hp → Prop) → Prop
abbrev TA := St → Hp → (List V → Hp → Prop) → Prop

structure Ends where
  nx : St → Hp → Prop
  rt : VK
  bk : St → Hp → Prop := fun _ _ => False
  ct : St → Hp → Prop := fun _ _ => False
abbrev TS := Ends → St → Hp → Prop

def EP (X : Cx) (pins : List (Addr × Obj)) (σ : St) (Q : VK) (u : Value) (s' : Shared) : Prop := ∃ v H', Inv X pins σ H' s' ∧ RelV v u ∧ Q v H'
def TP (X : Cx) (pins : List (Addr × Obj)) (σ : St) (Q : Bool → Hp → Prop) (b : Bool) (s' : Shared) : Prop := ∃ H', Inv X pins σ H' s' ∧ Q b H'
def AP (X : Cx) (pins : List (Addr × Obj)) (σ : St) (Q : List V → Hp → Prop) (us : List Value) (s' : Shared) : Prop := ∃ vs H', Inv X pins σ H' s' ∧ Vals vs us ∧ Q vs H'
def SP (X : Cx) (pins : List (Addr × Obj)) (D : Ends) (f : Flow) (s' : Shared) : Prop :=
  match f with
  | .next => ∃ σ' H', Inv X pins σ' H' s' ∧ D.nx σ' H'
  | .brk => ∃ σ' H', Inv X pins σ' H' s' ∧ D.bk σ' H'
  | .cont => ∃ σ' H', Inv X pins σ' H' s' ∧ D.ct σ' H'
  | .ret u => ∃ v σ' H', Inv X pins σ' H' s' ∧ RelV v u ∧ D.rt v H'

def PE (X : Cx) (e : Expr) (t : TE) : Prop :=
  ∀ (pins : List (Addr × Obj)) (s : Shared) (σ : St) (H : Hp) (Q : VK), Inv X pins σ H s → t σ H Q → wpAny (model X.prog X.w) X.A (eval e X.env) (EP X pins σ Q) X.xe s
def PT (X : Cx) (e : Expr) (t : TT) : Prop :=
  ∀ (pins : List (Addr × Obj)) (s : Shared) (σ : St) (H : Hp) (Q : Bool → Hp → Prop), Inv X pins σ H s → t σ H Q → wpAny (model X.prog X.w) X.A (isTrue e X.env (eval e X.env)) (TP X pins σ Q) X.xe s

def PW (X : Cx) (e : Expr) (t : TT) : Prop :=
  ∀ (whole : Sem Value) (pins : List (Addr × Obj)) (s : Shared) (σ : St) (H : Hp) (Q : Bool → Hp → Prop), Inv X pins σ H s → t σ H Q → wpAny (model X.prog X.w) X.A (isTrue e X.env whole) (TP X pins σ Q) X.xe s
theorem PW.pt {X : Cx} {e : Expr} {t : TT} (h : PW X e t) : PT X e t := h _

def PA (X : Cx) (es : List Expr) (t : TA) : Prop :=
  ∀ (pos : Pos) (pins : List (Addr × Obj)) (s : Shared) (σ : St) (H : Hp) (Q : List V → Hp → Prop), Inv X pins σ H s → t σ H Q → wpAny (model X.prog X.w) X.A (spliced (backTo pos (starEach es X.env))) (AP X pins σ Q) X.xe s
def PS (X : Cx) (st : Stmt) (t : TS) : Prop :=
  ∀ (pins : List (Addr × Obj)) (s : Shared) (σ : St) (H : Hp) (D : Ends), Inv X pins σ H s → t D σ H → wpAny (model X.prog X.w) X.A (exec st X.env) (SP X pins D) X.xe s
def PSs (X : Cx) (st : List Stmt) (t : TS) : Prop :=
  ∀ (pins : List (Addr × Obj)) (s : Shared) (σ : St) (H : Hp) (D : Ends), Inv X pins σ H s → t D σ H → wpAny (model X.prog X.w) X.A (execs st X.env) (SP X pins D) X.xe s

theorem thn {α : Type} {t : Sem α} {Q Q' : α → Shared → Prop} {M : Model} {A : Around} {E : Value → Shared → Prop} {s : Shared} (h : wpAny M A t Q E s) (hQ : ∀ a s, Q a s → Q' a s) : wpAny M A t Q' E s := wpAny_mono h hQ fun _ _ x => x
end L2

namespace L2
open PySem PySem.Spec PyProof.Rows
section
variable {X : Cx}


def tVar (i : Nat) : TE := fun σ H Q => ∃ v, σ[i]? = some (some v) ∧ Q v H
def tC (v : V) : TE := fun _ H Q => Q v H
theorem pe_var {i : Nat} {x : Str} {pos : Pos} (hN : X.N[i]? = some x) (hv : Vis X.env.scope x) (hd : (x == ("__debug__" : Str)) = false := by decide) (hcd : (x == ("__classdict__" : Str)) = false := by decide) : PE X (.Name x pos) (tVar i) := by
  intro pins s σ H Q I h
  obtain ⟨v, e, h⟩ := h
  obtain ⟨m, hn, hl⟩ := I.loc
  obtain ⟨u, r, l⟩ := hl i x v hN e hv
  have fin : EP X pins σ Q u s := ⟨v, H, I, r, h⟩
  rcases l with ⟨hk, hm⟩ | ⟨hk, c, hc, hcell⟩
  · exact wpAny_Name (wpAny_loadName_local I.ok.kind hk hn hm fin) hd
  · rcases hk with hk | hk
    · exact wpAny_Name (wpAny_loadName_cell I.ok.kind hk hc hcell fin) hd
    · exact wpAny_Name (wpAny_loadName_free I.ok.kind hk hc hcell fin hcd) hd
theorem pe_int {i j pos} : PE X (.Constant (.int i) j pos) (tC (.int i)) := fun _ _ _ H _ I h => wpAny_Constant_int ⟨.int i, H, I.tok _, ⟨_, rfl⟩, h⟩
theorem pe_bl {b j pos} : PE X (.Constant (.bool b) j pos) (tC (.bl b)) := fun _ _ _ H _ I h => Constant_bool ⟨.bl b, H, I, rfl, h⟩
theorem pe_non {j pos} : PE X (.Constant .none j pos) (tC .non) := fun _ _ _ H _ I h => Constant_none ⟨.non, H, I, rfl, h⟩
theorem pe_str {x j pos} : PE X (.Constant (.str x) j pos) (tC (.str x)) := fun _ _ _ H _ I h => Calls.Constant_str ⟨.str x, H, I.tok _, ⟨_, rfl⟩, h⟩


def Gl (X : Cx) (x : Str) : Prop := X.env.kindOf x = some .globalImplicit
theorem ld_glob {E : Value → Shared → Prop} {pins : List (Addr × Obj)} {s : Shared} {σ : St} {H : Hp} {x : Str} {u : Value} {pos : Pos} {Q : Value → Shared → Prop} (I : Inv X pins σ H s) (hg : Gl X x) (hm : X.mg x = some u) (h : Q u s)
    (hd : (x == ("__debug__" : Str)) = false := by decide) : wpAny (model X.prog X.w) X.A (eval (.Name x pos) X.env) Q E s :=
  Calls.Name_function_global I.ok.kind hg (Calls.loadGlobal_global (by rw [I.ok.glob]; exact I.mod.glob.keeps I.bk) hm h) hd
theorem ld_blt {E : Value → Shared → Prop} {pins : List (Addr × Obj)} {s : Shared} {σ : St} {H : Hp} {x : Str} {u : Value} {pos : Pos} {Q : Value → Shared → Prop} (I : Inv X pins σ H s) (hg : Gl X x) (hm : X.mg x = none) (hv : bootBuiltins x = some u) (h : Q u s)
    (hn : x ≠ "__name__" := by decide) (hd : (x == ("__debug__" : Str)) = false := by decide) : wpAny (model X.prog X.w) X.A (eval (.Name x pos) X.env) Q E s := by
  obtain ⟨mb, h1, h2⟩ := I.mod.blt
  exact Calls.Name_function_global I.ok.kind hg (Calls.loadGlobal_builtin (by rw [I.ok.glob]; exact I.mod.glob.keeps I.bk) hm (by rw [I.ok.blt]; exact h1.keeps I.bk) ((h2 x hn).trans hv) h) hd

theorem pe_glob {x : Str} {v : V} {u : Value} {pos : Pos} (hg : Gl X x) (hm : X.mg x = some u) (r : RelV v u) (hd : (x == ("__debug__" : Str)) = false := by decide) : PE X (.Name x pos) (tC v) :=
  fun _ _ _ H _ I h => ld_glob I hg hm ⟨v, H, I, r, h⟩ hd
theorem pe_bltn {x : Str} {v : V} {u : Value} {pos : Pos} (hg : Gl X x) (hm : X.mg x = none) (hv : bootBuiltins x = some u) (r : RelV v u) (hn : x ≠ "__name__" := by decide) (hd : (x == ("__debug__" : Str)) = false := by decide) : PE X (.Name x pos) (tC v) :=
  fun _ _ _ H _ I h => ld_blt I hg hm hv ⟨v, H, I, r, h⟩ hn hd



variable {a b : Expr} {ta tb : TE} {pos : Pos}
variable {tA tB' : TT} {rest : List Expr}
def tOr (t u : TT) : TT := fun σ H Q => t σ H fun c H1 => if c = true then Q true H1 else u σ H1 Q
def tNot (t : TT) : TT := fun σ H Q => t σ H fun c H1 => Q (!c) H1
theorem pw_or1 (ha : PT X a tA) : PW X (.BoolOp .Or [a] pos) tA := by
  intro wh pins s σ H Q I h
  refine isTrue_or (thn (ha pins s σ H Q I h) fun c s1 e => ?_)
  cases c with
  | false => exact isTrue_or_nil e
  | true => exact e
theorem pw_or (ha : PT X a tA) (hb : PW X (.BoolOp .Or (b :: rest) pos) tB') : PW X (.BoolOp .Or (a :: b :: rest) pos) (tOr tA tB') := by
  intro wh pins s σ H Q I h
  refine isTrue_or (thn (ha pins s σ H _ I h) fun c s1 ⟨H1, I1, q1⟩ => ?_)
  cases c with
  | true => exact ⟨H1, I1, q1⟩
  | false => exact hb wh pins s1 σ H1 Q I1 q1
theorem pt_not (ha : PT X a tA) : PT X (.UnaryOp .Not a pos) (tNot tA) := by
  intro pins s σ H Q I h
  exact isTrue_not (ha pins s σ H (fun c H1 => Q (!c) H1) I h)

def tAndV (ta tb : TE) : TE := fun σ H Q => ta σ H fun x H1 => ∃ c, x = .bl c ∧ if c = true then tb σ H1 Q else Q (.bl false) H1
def tNotV (ta : TE) : TE := fun σ H Q => ta σ H fun x H1 => ∃ c, x = .bl c ∧ Q (.bl (!c)) H1
theorem pe_one {op} {t : TE} (h : PE X a t) : PE X (.BoolOp op [a] pos) t := fun pins s σ H Q I hw => BoolOp_one (h pins s σ H Q I hw)
theorem pe_and (ha : PE X a ta) (hb : PE X (.BoolOp .And (b :: rest) pos) tb) : PE X (.BoolOp .And (a :: b :: rest) pos) (tAndV ta tb) := by
  intro pins s σ H Q I h
  refine BoolOp_and (thn (ha pins s σ H _ I h) fun v s1 ⟨x, H1, I1, r1, q1⟩ => ?_)
  obtain ⟨c, rfl, q1⟩ := q1
  cases r1
  refine wpAny_truthy_bool ?_
  cases c with
  | true => exact hb pins s1 σ H1 Q I1 q1
  | false => exact ⟨.bl false, H1, I1, rfl, q1⟩
theorem pe_not (ha : PE X a ta) : PE X (.UnaryOp .Not a pos) (tNotV ta) := by
  intro pins s σ H Q I h
  refine UnaryOp_ (thn (ha pins s σ H _ I h) fun v s1 ⟨x, H1, I1, r1, q1⟩ => ?_)
  obtain ⟨c, rfl, q1⟩ := q1
  cases r1
  exact not_of (wpAny_truthy_bool ⟨.bl (!c), H1, I1, rfl, q1⟩)

end
end L2

namespace L2
open PySem PySem.Spec PyProof.Rows


def SqL (K : PySem.W.Frag) (H : Hp) (a : Addr) (xs : List V) : Prop :=
  Rd H a (.lst xs) ∨
    ∃ (o : Obj) (its : Array Value) (n : Nat), K.lookup a = some o ∧ o.cls = .type "list" ∧ o.dict = none ∧ o.data = .seq its n ∧ its.size ≤ sizeLine ∧ Vals xs its.toList
def SqT (K : PySem.W.Frag) (H : Hp) (a : Addr) (xs : List V) : Prop :=
  Rd H a (.tup xs) ∨
    ∃ (o : Obj) (its : Array Value) (n : Nat), K.lookup a = some o ∧ o.cls = .type "tuple" ∧ o.data = .seq its n ∧ its.size ≤ sizeLine ∧ Vals xs its.toList
def absV : Value → Option V
  | .none => some .non
  | .bool b => some (.bl b)
  | .int i _ => some (.int i)
  | .str x _ => some (.str x)
  | .bytes b _ => some (.byt b)
  | .float b _ => some (.flt b)
  | .ref a => some (.ref a)
  | .type n => some (.ty n)
  | _ => none
theorem RelV.abs {x : V} {u : Value} (r : RelV x u) : absV u = some x := by
  cases x with
  | non => cases r; rfl
  | bl _ => cases r; rfl
  | int _ => obtain ⟨t, rfl⟩ := r; rfl
  | str _ => obtain ⟨t, rfl⟩ := r; rfl
  | byt _ => obtain ⟨t, rfl⟩ := r; rfl
  | flt _ => obtain ⟨t, rfl⟩ := r; rfl
  | ref _ => cases r; rfl
  | ty _ => cases r; rfl
theorem RelV.inj {x y : V} {u : Value} (r : RelV x u) (q : RelV y u) : x = y := Option.some.inj (r.abs.symm.trans q.abs)
theorem Vals.inj : ∀ {xs ys : List V} {us : List Value}, Vals xs us → Vals ys us → xs = ys
  | _, _, _, .nil, .nil => rfl
  | _, _, _, .cons r t, .cons r' t' => by rw [r.inj r', Vals.inj t t']
section
variable {X : Cx} {pins : List (Addr × Obj)} {σ : St} {H : Hp} {s : Shared} {a : Addr} {xs ys : List V}
theorem SqL.of {K : PySem.W.Frag} (h : H a = some (.lst xs)) : SqL K H a xs := .inl (.inl h)
theorem SqT.of {K : PySem.W.Frag} (h : H a = some (.tup xs)) : SqT K H a xs := .inl (.inl h)
theorem Inv.list (I : Inv X pins σ H s) (h : SqL X.K H a xs) : ∃ its : List Value, Vals xs its ∧ PlainL s.heap a its.toArray ∧ xs.length ≤ sizeLine := by
  rcases h with h | ⟨o, its, n, hk, hc, hd, hs, hz, r⟩
  · obtain ⟨z, its, n, r, e⟩ := h.ok I.hok
    exact ⟨its, r, ⟨_, n, e, rfl, rfl, rfl⟩, z⟩
  · refine ⟨its.toList, r, ⟨o, n, I.kIn a o hk, hc, hd, by simpa using hs⟩, ?_⟩
    have e := r.length
    simp only [Array.length_toList] at e
    omega
theorem Inv.tuple (I : Inv X pins σ H s) (h : SqT X.K H a xs) : ∃ its : List Value, Vals xs its ∧ IsTup s.heap a its.toArray ∧ xs.length ≤ sizeLine := by
  rcases h with h | ⟨o, its, n, hk, hc, hs, hz, r⟩
  · obtain ⟨z, its, r, p⟩ := h.ok I.hok
    exact ⟨its, r, p, z⟩
  · refine ⟨its.toList, r, ⟨o, I.kIn a o hk, hc, n, by simpa using hs⟩, ?_⟩
    have e := r.length
    simp only [Array.length_toList] at e
    omega
theorem Inv.list_inj (I : Inv X pins σ H s) (h : SqL X.K H a xs) (h' : SqL X.K H a ys) : xs = ys := by
  obtain ⟨its, r, ⟨o, n, e, _, _, d⟩, _⟩ := I.list h
  obtain ⟨its', r', ⟨o', n', e', _, _, d'⟩, _⟩ := I.list h'
  rw [e] at e'; cases e'
  rw [d] at d'
  injection d' with d1 _
  have : its = its' := by simpa using congrArg Array.toList d1
  subst this
  exact r.inj r'
end


abbrev Cx.wish (X : Cx) (E : Value → Shared → Prop) : Cx := { X with xe := E }

abbrev Cx.nox (X : Cx) : Cx := X.wish fun _ _ => False
theorem Cx.Ok.wish {X : Cx} (ok : X.Ok) (E : Value → Shared → Prop) : (X.wish E).Ok :=
  ⟨ok.mod, ok.kind, ok.glob, ok.blt, ok.above, ok.inj, ok.has, ok.cab, ok.hd, ok.frames, ok.stk, ok.exf, ok.bs, ok.bsz, ok.noex, ok.exfs, ok.funs, ok.frf⟩
theorem Cx.Ok.unwish {X : Cx} {E : Value → Shared → Prop} (ok : (X.wish E).Ok) : X.Ok :=
  ⟨ok.mod, ok.kind, ok.glob, ok.blt, ok.above, ok.inj, ok.has, ok.cab, ok.hd, ok.frames, ok.stk, ok.exf, ok.bs, ok.bsz, ok.noex, ok.exfs, ok.funs, ok.frf⟩
section
variable {X : Cx} {pins : List (Addr × Obj)} {σ : St} {H : Hp} {s : Shared} {E : Value → Shared → Prop}
theorem Inv.wish (I : Inv X pins σ H s) (E : Value → Shared → Prop) : Inv (X.wish E) pins σ H s := ⟨I.ok.wish E, I.os, I.bare, I.base, I.loc, I.cell, I.free, I.freeC, I.pin, I.hok, I.len⟩
theorem Inv.unwish (I : Inv (X.wish E) pins σ H s) : Inv X pins σ H s := ⟨I.ok.unwish, I.os, I.bare, I.base, I.loc, I.cell, I.free, I.freeC, I.pin, I.hok, I.len⟩
theorem SP.unwish {D : Ends} {f : Flow} {s' : Shared} (h : SP (X.wish E) pins D f s') : SP X pins D f s' := by
  cases f with
  | next => obtain ⟨σ', H', I, q⟩ := h; exact ⟨σ', H', I.unwish, q⟩
  | brk => obtain ⟨σ', H', I, q⟩ := h; exact ⟨σ', H', I.unwish, q⟩
  | cont => obtain ⟨σ', H', I, q⟩ := h; exact ⟨σ', H', I.unwish, q⟩
  | ret u => obtain ⟨v, σ', H', I, r, q⟩ := h; exact ⟨v, σ', H', I.unwish, r, q⟩
theorem PSs.nox {st : List Stmt} {t : TS} (h : PSs X.nox st t) : PSs X st t := fun pins s σ H D I hw =>
  wpAny_mono (h pins s σ H D (I.wish _) hw) (fun _ _ q => q.unwish) fun _ _ z => False.elim z
end


section
variable {X : Cx} {st : Stmt} {rest : List Stmt} {t u : TS} {e : Expr} {te : TE} {pos : Pos}
def tNext : TS := fun D σ H => D.nx σ H
def tSeq (t u : TS) : TS := fun D σ H => t { D with nx := u D } σ H
theorem pss_nil : PSs X [] tNext := fun _ _ σ H _ I h => wpAny_execs_nil ⟨σ, H, I, h⟩
theorem pss_cons (h1 : PS X st t) (h2 : PSs X rest u) : PSs X (st :: rest) (tSeq t u) := by
  intro pins s σ H D I h
  refine wpAny_execs_cons (thn (h1 pins s σ H { D with nx := u D } I h) fun f s1 q => ?_)
  cases f with
  | next =>
    obtain ⟨σ', H', I', q⟩ := q
    exact h2 pins s1 σ' H' D I' q
  | ret v => exact q
  | brk => exact q
  | cont => exact q
theorem pss_one (h1 : PS X st t) : PSs X [st] t := by
  intro pins s σ H D I h
  refine wpAny_execs_cons (thn (h1 pins s σ H D I h) fun f s1 q => ?_)
  cases f with
  | next => exact wpAny_execs_nil q
  | ret v => exact q
  | brk => exact q
  | cont => exact q
theorem Inv.quiet {pins : List (Addr × Obj)} {σ : St} {H : Hp} {s : Shared} (I : Inv X pins σ H s) : interactive X.env = false := by simp [interactive, I.ok.kind]

def tDrop (te : TE) : TS := fun D σ H => te σ H fun _ H1 => D.nx σ H1
theorem ps_expr (he : PE X e te) (hs : swapsWith e none pos.line X.env = pure false := by rfl) : PS X (.Expr e pos) (tDrop te) := by
  intro pins s σ H D I h
  exact wpAny_Expr_any (thn (he pins s σ H _ I h) fun v s1 ⟨x, H1, I1, r1, q1⟩ => ⟨σ, H1, I1, q1⟩) I.quiet hs
def tRet (te : TE) : TS := fun D σ H => te σ H D.rt
theorem ps_ret (he : PE X e te) : PS X (.Return (some e) pos) (tRet te) := by
  intro pins s σ H D I h
  exact wpAny_Return_some (thn (he pins s σ H _ I h) fun v s1 ⟨x, H1, I1, r1, q1⟩ => ⟨x, σ, H1, I1, r1, q1⟩)
def tIfS (c : TT) (t u : TS) : TS := fun D σ H => c σ H fun b H1 => if b = true then t D σ H1 else u D σ H1
theorem ps_if {c : Expr} {a b : List Stmt} {tc : TT} (hc : PT X c tc) (ha : PSs X a t) (hb : PSs X b u) : PS X (.If c a b pos) (tIfS tc t u) := by
  intro pins s σ H D I h
  refine wpAny_If (thn (hc pins s σ H _ I h) fun d s1 ⟨H1, I1, q1⟩ => ?_)
  cases d with
  | true => exact ha pins s1 σ H1 D I1 q1
  | false => exact hb pins s1 σ H1 D I1 q1

def tNever : TS := fun _ _ _ => False
theorem ps_never : PS X st tNever := fun _ _ _ _ _ _ h => h.elim
end


abbrev TG := V → St → Hp → (St → Hp → Prop) → Prop
abbrev TGs := List V → St → Hp → (St → Hp → Prop) → Prop
def PG (X : Cx) (target : Expr) (t : TG) : Prop :=
  ∀ (pins : List (Addr × Obj)) (s : Shared) (σ : St) (H : Hp) (v : V) (u : Value) (Q : St → Hp → Prop), Inv X pins σ H s → RelV v u → t v σ H Q →
    wpAny (model X.prog X.w) X.A (assign target X.env u) (fun _ s' => ∃ σ' H', Inv X pins σ' H' s' ∧ Q σ' H') X.xe s

def PGs (X : Cx) (ts : List Expr) (t : TGs) : Prop :=
  ∀ (pins : List (Addr × Obj)) (s : Shared) (σ : St) (H : Hp) (vs : List V) (us : List Value) (Q : St → Hp → Prop), Inv X pins σ H s → Vals vs us → t vs σ H Q →
    wpAny (model X.prog X.w) X.A (assignInOrder ((assignEach ts X.env).map (·.2)) us) (fun _ s' => ∃ σ' H', Inv X pins σ' H' s' ∧ Q σ' H') X.xe s

abbrev TSet := V → V → V → Hp → (Hp → Prop) → Prop
def PSet (X : Cx) (t : TSet) : Prop :=
  ∀ (pins : List (Addr × Obj)) (s : Shared) (σ : St) (H : Hp) (o i v : V) (ov iv u : Value) (Q : Hp → Prop), Inv X pins σ H s → RelV o ov → RelV i iv → RelV v u → t o i v H Q →
    wpAny (model X.prog X.w) X.A (setItem ov iv u) (fun _ s' => ∃ H', Inv X pins σ H' s' ∧ Q H') X.xe s

abbrev TIp := V → V → Hp → VK → Prop
def PIp (X : Cx) (op : Operator) (t : TIp) : Prop :=
  ∀ (pins : List (Addr × Obj)) (s : Shared) (σ : St) (H : Hp) (x y : V) (v u : Value) (Q : VK), Inv X pins σ H s → RelV x v → RelV y u → t x y H Q →
    wpAny (model X.prog X.w) X.A (inplaceOp op v u) (EP X pins σ Q) X.xe s
section
variable {X : Cx} {pos : Pos}
def gName (i : Nat) : TG := fun v σ H Q => Q (σ.set i (some v)) H
theorem pg_name {i : Nat} {x : Str} (hN : X.N.Nodup) (hi : X.N[i]? = some x) (hx : Loc X.env.scope x) (hf : X.fn x = true ∨ X.env.scope.names.lookup x = some .local := by first | exact .inl rfl | exact .inr rfl | assumption) : PG X (.Name x pos) (gName i) := by
  intro pins s σ H v u Q I r h
  exact wpAny_assign_Name (store_ok I hN hi hx r (fun s' I' => ⟨_, H, I', h⟩) hf)
def gNil : TGs := fun vs σ H Q => vs = [] ∧ Q σ H
def gCons (t : TG) (u : TGs) : TGs := fun vs σ H Q => ∃ v r, vs = v :: r ∧ t v σ H fun σ' H' => u r σ' H' Q
theorem pgs_nil : PGs X [] gNil := by
  intro pins s σ H vs us Q I r h
  obtain ⟨e, h⟩ := h
  subst e
  cases r
  exact assignInOrder_nil ⟨σ, H, I, h⟩
theorem pgs_cons {e : Expr} {es : List Expr} {t : TG} {u : TGs} (h1 : PG X e t) (h2 : PGs X es u)
    (hs : (assignEach (e :: es) X.env).map (·.2) = assign e X.env :: (assignEach es X.env).map (·.2) := by rfl) : PGs X (e :: es) (gCons t u) := by
  intro pins s σ H vs us Q I r h
  obtain ⟨v, vr, e1, h⟩ := h
  subst e1
  cases r with
  | cons r rr =>
    rw [hs]
    refine assignInOrder_cons (thn (h1 pins s σ H _ _ _ I r h) fun _ s1 ⟨σ1, H1, I1, q1⟩ => ?_)
    exact h2 pins s1 σ1 H1 _ _ Q I1 rr q1

def gTup (K : PySem.W.Frag) (n : Nat) (t : TGs) : TG := fun v σ H Q => ∃ a xs, v = .ref a ∧ SqT K H a xs ∧ xs.length = n ∧ t xs σ H Q
theorem pg_tup {es : List Expr} {k : Nat} {t : TGs} {n : Nat} (hc : X.calm = true) (h : PGs X es t)
    (hn : (assignEach es X.env).length = n := by rfl) (hst : (assignEach es X.env).findIdx? (·.1) = none := by rfl) : PG X (.Tuple es k pos) (gTup X.K n t) := by
  intro pins s σ H v u Q I r hw
  obtain ⟨a, xs, e1, hq, hl, hw⟩ := hw
  subst e1
  cases r
  obtain ⟨its, rv, ht, hz⟩ := I.tuple hq
  refine assign_Tuple_tuple (I.ok.hd hc) ht (by simp [hn, ← hl, rv.length]) hst fun h' hx => ?_
  have I1 : Inv X pins σ H { s with heap := h' } := I.kept (t' := s.toks) fun b o e => hx b o (Nat.ne_of_lt (Heap.lt_size e)) e
  exact h pins _ σ H xs _ Q I1 (by simpa using rv) hw

def gSub (to ti : TE) (t : TSet) : TG := fun v σ H Q => to σ H fun o H1 => ti σ H1 fun i H2 => t o i v H2 fun H3 => Q σ H3
theorem pg_sub {o i : Expr} {to ti : TE} {t : TSet} (ho : PE X o to) (hi : PE X i ti) (hs : PSet X t)
    (ha : ∀ v, assign (.Subscript o i pos) X.env v = (do
      let ov ← holding [v] (eval o X.env)
      let iv ← holding [v, ov] (eval i X.env)
      standAt pos
      holding [v, ov, iv] (setItem ov iv v)
      release [v, ov, iv] []) := by intro _; rfl) : PG X (.Subscript o i pos) (gSub to ti t) := by
  intro pins s σ H v u Q I r h
  rw [ha]
  refine wpAny_bind (wpAny_holding (thn (ho pins s σ H _ I h) fun ov s1 ⟨x, H1, I1, r1, q1⟩ => ?_))
  refine wpAny_bind (wpAny_holding (thn (hi pins s1 σ H1 _ I1 q1) fun iv s2 ⟨y, H2, I2, r2, q2⟩ => ?_))
  refine wpAny_bind (wpAny_standAt (wpAny_bind (wpAny_holding (thn (hs pins s2 σ H2 x y v ov iv u _ I2 r1 r2 r q2) fun _ s3 ⟨H3, I3, q3⟩ => ?_))))
  exact wpAny_release ⟨σ, H3, I3, q3⟩

def tAsg (te : TE) (g : TG) : TS := fun D σ H => te σ H fun x H1 => g x σ H1 D.nx
theorem ps_asg {tg e : Expr} {te : TE} {g : TG} (he : PE X e te) (hg : PG X tg g) (hs : swapsWithSole [tg] e pos.line X.env = pure false := by rfl) (hw : swappedStores [tg] e X.env = pure none := by rfl)
    (h1 : (assignEach [tg] X.env).map (·.2) = [assign tg X.env] := by rfl) : PS X (.Assign [tg] e pos) (tAsg te g) := by
  intro pins s σ H D I h
  refine wpAny_Assign_stores (thn (he pins s σ H _ I h) fun v s1 ⟨x, H1, I1, r1, q1⟩ => ?_) hs hw
  rw [h1]
  exact thn (hg pins s1 σ H1 x v _ I1 r1 q1) fun _ s2 q => q

theorem ps_set {i : Nat} {x : Str} {e : Expr} {te : TE} {pos' : Pos} (hN : X.N.Nodup) (hi : X.N[i]? = some x) (hx : Loc X.env.scope x) (he : PE X e te) (hs : swapsWith e (some (.Name x pos')) pos.line X.env = pure false := by rfl) (hf : X.fn x = true ∨ X.env.scope.names.lookup x = some .local := by first | exact .inl rfl | exact .inr rfl | assumption) :
    PS X (.Assign [.Name x pos'] e pos) (tAsg te (gName i)) := by
  intro pins s σ H D I h
  refine wpAny_Assign_Name (thn (he pins s σ H _ I h) fun v s1 ⟨y, H1, I1, r1, q1⟩ => ?_) hs
  exact store_ok I1 hN hi hx r1 (fun s2 I2 => ⟨_, H1, I2, q1⟩) hf

def tAug (i : Nat) (te : TE) (ti : TIp) : TS := fun D σ H => ∃ x, σ[i]? = some (some x) ∧ te σ H fun y H1 => ti x y H1 fun z H2 => D.nx (σ.set i (some z)) H2
theorem ps_aug {i : Nat} {x : Str} {e : Expr} {te : TE} {op : Operator} {ti : TIp} {pos' : Pos} (hN : X.N.Nodup) (hi : X.N[i]? = some x) (hx : Loc X.env.scope x) (he : PE X e te) (ho : PIp X op ti) (hf : X.fn x = true ∨ X.env.scope.names.lookup x = some .local := by first | exact .inl rfl | exact .inr rfl | assumption) :
    PS X (.AugAssign (.Name x pos') op e pos) (tAug i te ti) := by
  intro pins s σ H D I h
  obtain ⟨v, e1, h⟩ := h
  obtain ⟨m, hn, hl⟩ := I.loc
  have vis : Vis X.env.scope x := by rcases hx with k | k; exact .inl k; exact .inr (.inl k)
  obtain ⟨u, r, l⟩ := hl i x v hi e1 vis
  refine wpAny_AugAssign_Name ?_
  have go : wpAny (model X.prog X.w) X.A (eval e X.env) (fun w s₂ => wpAny (model X.prog X.w) X.A (inplaceOp op u w) (fun r s₃ => wpAny (model X.prog X.w) X.A (storeName X.env x r) (fun _ => SP X pins D .next) X.xe s₃) X.xe s₂) X.xe s := by
    refine thn (he pins s σ H _ I h) fun w s1 ⟨y, H1, I1, r1, q1⟩ => ?_
    refine thn (ho pins s1 σ H1 v y u w _ I1 r r1 q1) fun z s2 ⟨zv, H2, I2, r2, q2⟩ => ?_
    exact store_ok I2 hN hi hx r2 (fun s3 I3 => ⟨_, H2, I3, q2⟩) hf
  rcases l with ⟨hk, hm⟩ | ⟨hk, c, hc, hcell⟩
  · exact wpAny_loadName_local I.ok.kind hk hn hm go
  · rcases hk with hk | hk
    · exact wpAny_loadName_cell I.ok.kind hk hc hcell go
    · rcases hx with k | k
      · have : X.env.scope.names.lookup x = some .free := hk
        rw [k] at this; cases this
      · have : X.env.scope.names.lookup x = some .free := hk
        rw [k] at this; cases this

def ipI (f : Int → Int → Int) : TIp := fun x y H Q => ∃ i j, x = .int i ∧ y = .int j ∧ Q (.int (f i j)) H
theorem ip_add : PIp X .Add (ipI fun i j => i + j) := by
  intro pins s σ H x y v u Q I r1 r2 h
  obtain ⟨i, j, e1, e2, q⟩ := h
  subst e1; subst e2
  obtain ⟨t, rfl⟩ := r1
  obtain ⟨t', rfl⟩ := r2
  exact iadd_int ⟨.int _, H, I.tok _, ⟨_, rfl⟩, q⟩
end


section
variable {X : Cx} {pos : Pos}

def tWhile (c : TT) (tb : TS) : TS := fun D σ H => ∃ W : Nat → St → Hp → Prop, (∃ m, W m σ H) ∧ ∀ m σ H, W m σ H →
  c σ H fun b H1 => if b = true then ∃ N : St → Hp → Prop, (∀ σ' H', N σ' H' → ∃ m', m' < m ∧ W m' σ' H') ∧ tb { D with nx := N, ct := N, bk := D.nx } σ H1 else D.nx σ H1
theorem ps_while {c : Expr} {body : List Stmt} {tc : TT} {tb : TS} (hp : PassesOwn (model X.prog X.w) X.A X.env X.xe) (hc : PT X c tc) (hb : PSs X body tb) : PS X (.While c body [] pos) (tWhile tc tb) := by
  intro pins s σ H D I h
  obtain ⟨W, ⟨m0, w0⟩, turn⟩ := h
  refine wpAny_While (codeAny_whileLoop (fun n s' => ∃ σ' H', Inv X pins σ' H' s' ∧ W n σ' H') ?_ m0 ⟨σ, H, I, w0⟩)
  rintro n s1 ⟨σ1, H1, I1, w1⟩
  refine wpAny_passesOwn hp (thn (hc pins s1 σ1 H1 _ I1 (turn n σ1 H1 w1)) fun b s2 ⟨H2, I2, q2⟩ => ?_)
  cases b with
  | true =>
    obtain ⟨N, hN, q2⟩ := q2
    rw [if_pos rfl]
    refine wpAny_passesOwn hp (thn (hb pins s2 σ1 H2 _ I2 q2) fun f s3 q3 => ?_)
    cases f with
    | next =>
      obtain ⟨σ3, H3, I3, n3⟩ := q3
      obtain ⟨m', hm, w3⟩ := hN σ3 H3 n3
      exact ⟨m', hm, σ3, H3, I3, w3⟩
    | cont =>
      obtain ⟨σ3, H3, I3, n3⟩ := q3
      obtain ⟨m', hm, w3⟩ := hN σ3 H3 n3
      exact ⟨m', hm, σ3, H3, I3, w3⟩
    | brk => exact q3
    | ret v => exact q3
  | false =>
    rw [if_neg Bool.false_ne_true]
    exact wpAny_execs_nil ⟨σ1, H2, I2, q2⟩
end



structure It where
  go : Nat → Hp → Prop
  yld : Nat → Hp → V → Hp → Prop
  stop : Nat → Hp → Prop

def FpOk (X : Cx) (pins : List (Addr × Obj)) (H : Hp) (b : Addr) : Prop :=
  H b = none ∧ b ≠ X.env.locals ∧ b ∉ X.fs ∧ (b ∈ X.ex ∨ X.s₀.heap.objs.size ≤ b) ∧ (∀ x c, X.env.cells.lookup x = some c → c ≠ b) ∧ ∀ p ∈ X.pn ++ pins, p.1 ≠ b
theorem Inv.fpOk {X : Cx} {pins : List (Addr × Obj)} {σ : St} {H H' : Hp} {s : Shared} {b : Addr} (I : Inv X pins σ H s) (hb : s.heap.objs.size ≤ b) (hn : H' b = none) : FpOk X pins H' b := by
  refine ⟨hn, Nat.ne_of_gt (Nat.lt_of_lt_of_le I.lt hb), I.nofs hb, .inr (Nat.le_trans I.sz hb), fun x c e z => ?_, fun p hp z => ?_⟩
  · obtain ⟨v, q⟩ := I.cell x c e
    exact absurd (Nat.lt_of_lt_of_le q.lt (by rw [z]; exact hb)) (Nat.lt_irrefl _)
  · exact absurd (Nat.lt_of_lt_of_le (Heap.lt_size (I.pin p hp).1) (by rw [z]; exact hb)) (Nat.lt_irrefl _)
structure Turn (P : Program) (w : World) (K : PySem.W.Frag) (tg : Expr) (J : It) (fp : List Addr) (it : Addr) (tn : Nat → Heap → Prop) : Prop where
  mem : it ∈ fp
  obj : ∀ i h, tn i h → ∀ b ∈ fp, ∃ o, h.get? b = some o ∧ ∀ v, o.data ≠ .cell v
  keep : ∀ i h h', tn i h → (∀ b ∈ fp, ∀ o, h.get? b = some o → h'.get? b = some o) → tn i h'
  item : ∀ (X : Cx), X.prog = P → X.w = w → X.K = K → X.calm = true → ∀ (i : Nat) (pins : List (Addr × Obj)) (s : Shared) (σ : St) (H : Hp) (E : Value → Shared → Prop), Inv X pins σ H s → (∀ b ∈ fp, FpOk X pins H b) → tn i s.heap → J.go i H →
    wpAny (model P w) X.A (pyNext (.ref it)) (fun r s1 => ∃ u, r = some u ∧
      wpAny (model P w) X.A (letOwnedTupleGo tg (.ref it) u) (fun _ s2 => ∃ x H', Inv X pins σ H' s2 ∧ RelV x u ∧ J.yld i H x H' ∧ tn (i + 1) s2.heap ∧ ∀ b ∈ fp, H' b = none) E s1) E s
  done : ∀ (X : Cx), X.prog = P → X.w = w → X.K = K → X.calm = true → ∀ (i : Nat) (pins : List (Addr × Obj)) (s : Shared) (σ : St) (H : Hp) (E : Value → Shared → Prop), Inv X pins σ H s → (∀ b ∈ fp, FpOk X pins H b) → tn i s.heap → J.stop i H →
    wpAny (model P w) X.A (pyNext (.ref it)) (fun r s1 => r = none ∧ Inv X pins σ H s1) E s
  self : ∀ (A : Around) (i : Nat) (s : Shared) (Q : Value → Shared → Prop) (E : Value → Shared → Prop), tn i s.heap → Q (.ref it) s → wpAny (model P w) A (pyIter (.ref it)) Q E s
abbrev TI := St → Hp → (It → Hp → Prop) → Prop

def PIE (X : Cx) (pins : List (Addr × Obj)) (σ : St) (tg : Expr) (R : It → Hp → Prop) (itv : Value) (s2 : Shared) : Prop :=
  ∃ (it : Addr) (fp : List Addr) (tn : Nat → Heap → Prop) (J : It) (H' : Hp), itv = .ref it ∧ Inv X pins σ H' s2 ∧ Turn X.prog X.w X.K tg J fp it tn ∧ tn 0 s2.heap ∧ (∀ b ∈ fp, FpOk X pins H' b) ∧ R J H'
def PI (X : Cx) (tg iter : Expr) (wi : TI) : Prop :=
  ∀ (pins : List (Addr × Obj)) (s : Shared) (σ : St) (H : Hp) (R : It → Hp → Prop), Inv X pins σ H s → wi σ H R →
    wpAny (model X.prog X.w) X.A (eval iter X.env) (fun v s1 => wpAny (model X.prog X.w) X.A (pyIter v) (PIE X pins σ tg R) X.xe s1) X.xe s


theorem go_of {M : Model} {A : Around} {E : Value → Shared → Prop} {s : Shared} {tg : Expr} {it : Addr} {u : Value} {o : Obj} {n : String} {vs : Array Value} {Q : Unit → Shared → Prop} (ho : s.heap.get? it = some o) (hc : o.cls = .type n) (hd : o.data = .fields vs)
    (hn : ["enumerate", "zip", "dict_itemiterator", "dict_reverseitemiterator", "odict_iterator", "itertools.zip_longest", "itertools.pairwise"].contains n = false) (hQ : Q () s) : wpAny M A (letOwnedTupleGo tg (.ref it) u) Q E s := by
  unfold letOwnedTupleGo
  cases tg <;> first
    | exact wpAny_pure hQ
    | (cases u <;> first
        | exact wpAny_pure hQ
        | (refine wpAny_bind (wpAny_load ho ?_)
           rw [hc, hd]
           show wpAny M A (if (["enumerate", "zip", "dict_itemiterator", "dict_reverseitemiterator", "odict_iterator", "itertools.zip_longest", "itertools.pairwise"].contains n && vs[0]? == some (rawInt _)) = true then _ else _) Q E s
           rw [if_neg (by intro h; rw [hn, Bool.false_and] at h; cases h)]
           exact wpAny_pure hQ))


def Itl (K : PySem.W.Frag) (a : Addr) : It :=
  ⟨fun i H => ∃ xs x, SqL K H a xs ∧ xs[i]? = some x, fun i H x H' => H' = H ∧ ∀ xs, SqL K H a xs → xs[i]? = some x, fun i H => ∃ xs, SqL K H a xs ∧ xs.length ≤ i⟩
def Itr (lo : Int) (n : Nat) : It := ⟨fun i _ => i < n, fun i H x H' => H' = H ∧ x = .int (lo + i), fun i _ => n ≤ i⟩
theorem turn_list {P : Program} {w : World} {K : PySem.W.Frag} {tg : Expr} (a it : Addr) : Turn P w K tg (Itl K a) [it] it (fun i h => h.IsListIter it a i) where
  mem := by simp
  obj := fun i h st b hb => by
    have e : b = it := by simpa using hb
    subst e
    obtain ⟨o, e, c, d⟩ := st
    exact ⟨o, e, fun v z => by rw [d] at z; cases z⟩
  keep := fun i h h' st k => st.at fun o e => k it (by simp) o e
  item := by
    intro X hP hw hK hc i pins s σ H E I hf st hg
    subst hP hw hK
    obtain ⟨xs, x, hq, hx⟩ := hg
    obtain ⟨its, rv, p, hz⟩ := I.list hq
    obtain ⟨u, hu, ru⟩ := rv.get hx
    obtain ⟨f0, f1, f2, f3, f4, f5⟩ := hf it (by simp)
    refine wpAny_pyNext_list_item st p.isList (x := u) (by simpa using hu) fun h' st' sb => ?_
    have I1 : Inv X pins σ H { s with heap := h' } := I.turned (t' := s.toks) (fun b o hb e => (sb.2 b hb).trans e) f0 f1 f3 f4 f5
    obtain ⟨o, e, c, d⟩ := id st'
    exact ⟨u, rfl, go_of (s := { s with heap := h' }) e c d (by decide) ⟨x, H, I1, ru, ⟨rfl, fun ys hy => by rw [I.list_inj hy hq]; exact hx⟩, st', fun b hb => (hf b hb).1⟩⟩
  done := by
    intro X hP hw hK hc i pins s σ H E I hf st hg
    subst hP hw hK
    obtain ⟨xs, hq, hx⟩ := hg
    obtain ⟨its, rv, p, hz⟩ := I.list hq
    obtain ⟨f0, f1, f2, f3, f4, f5⟩ := hf it (by simp)
    have hl := rv.length
    exact wpAny_pyNext_list_end (I.ok.hd hc) st p.isList (by simp; omega) fun h' eb => ⟨rfl, I.turned (t' := s.toks) (fun b o hb e => eb b o hb e) f0 f1 f3 f4 f5⟩
  self := fun _ _ _ _ _ st h => wpAny_pyIter_listiter st h
theorem turn_range {P : Program} {w : World} {K : PySem.W.Frag} {tg : Expr} (it : Addr) (lo : Int) (n : Nat) : Turn P w K tg (Itr lo n) [it] it (fun i h => IsRangeIter h it (lo + (i : Nat) * 1) ((n : Int) - (i : Nat)) 1) where
  mem := by simp
  obj := fun i h st b hb => by
    have e : b = it := by simpa using hb
    subst e
    exact ⟨_, st, fun v z => by
      have z' : Data.fields _ = Data.cell v := z
      cases z'⟩
  keep := fun i h h' st k => k it (by simp) _ st
  item := by
    intro X hP hw hK hc i pins s σ H E I hf st hg
    subst hP hw hK
    obtain ⟨f0, f1, f2, f3, f4, f5⟩ := hf it (by simp)
    have W := Walks.range (prog := X.prog) (w := X.w) (I.ok.hd hc) it lo 1 n
    refine W.item i s _ _ hg st fun v h' tk hv st' kk => ?_
    obtain ⟨t, rfl⟩ := hv
    have I1 : Inv X pins σ H { s with heap := h', toks := tk } := I.turned (fun b o hb e => kk b o (by simpa using hb) e) f0 f1 f3 f4 f5
    refine ⟨_, rfl, go_of (s := { s with heap := h', toks := tk }) (n := "range_iterator") st' rfl rfl (by decide) ⟨.int (lo + i), H, I1, ⟨t, ?_⟩, ⟨rfl, rfl⟩, st', fun b hb => (hf b hb).1⟩⟩
    rw [Int.mul_one]
  done := by
    intro X hP hw hK hc i pins s σ H E I hf st hg
    subst hP hw hK
    obtain ⟨f0, f1, f2, f3, f4, f5⟩ := hf it (by simp)
    exact wpAny_pyNext_range_end (I.ok.hd hc) st (by have : n ≤ i := hg; omega) fun h' eb => ⟨rfl, I.turned (t' := s.toks) (fun b o hb e => eb b o hb e) f0 f1 f3 f4 f5⟩
  self := fun _ _ _ _ _ st h => wpAny_pyIter_rangeiter st h
end L2

namespace L2
open PySem PySem.Spec PyProof.Rows
section
variable {X : Cx} {tg : Expr}
def iList (K : PySem.W.Frag) (tl : TE) : TI := fun σ H R => tl σ H fun x H1 => ∃ a, x = .ref a ∧ (∃ xs, SqL K H1 a xs) ∧ R (Itl K a) H1
theorem pi_list {l : Expr} {tl : TE} (hl : PE X l tl) : PI X tg l (iList X.K tl) := by
  intro pins s σ H R I h
  refine thn (hl pins s σ H _ I h) fun v s1 ⟨x, H1, I1, r1, q1⟩ => ?_
  obtain ⟨a, e, ⟨xs, hq⟩, q⟩ := q1
  subst e
  cases r1
  obtain ⟨its, rv, p, hz⟩ := I1.list hq
  refine wpAny_pyIter_list p.isList ?_
  refine ⟨s1.heap.objs.size, [s1.heap.objs.size], _, _, H1, rfl, I1.kept (t' := s1.toks) fun b o e => Heap.get?_push_of_some _ e, turn_list a _, ⟨_, Heap.get?_push_size _ rfl, rfl, rfl⟩, fun b hb => ?_, q⟩
  have e : b = s1.heap.objs.size := by simpa using hb
  subst e
  exact I1.fpOk (Nat.le_refl _) (I1.hok.fresh (Nat.le_refl _))
theorem range_it {pins : List (Addr × Obj)} {σ : St} {H : Hp} {s : Shared} {R : It → Hp → Prop} {E : Value → Shared → Prop} {lo hi : Int} {t u v : Tok} {tk : Nat} (I : Inv X pins σ H s) (h1 : -(2 ^ 62) ≤ lo) (h2 : lo < 2 ^ 62) (h3 : -(2 ^ 62) ≤ hi) (h4 : hi < 2 ^ 62)
    (q : R (Itr lo (hi - lo).toNat) H) : wpAny (model X.prog X.w) X.A (pyIter (.ref s.heap.objs.size)) (PIE X pins σ tg R) E { s with heap := s.heap.push { cls := .type "range", data := .fields #[.int lo t, .int hi u, .int 1 v] }, toks := tk } := by
  refine wpAny_pyIter_range (IsRange.new ..) (small_one h1 h2 h3 h4) ?_
  have I1 : Inv X pins σ H { s with heap := s.heap.push { cls := .type "range", data := .fields #[.int lo t, .int hi u, .int 1 v] }, toks := tk } := I.kept fun b o e => Heap.get?_push_of_some _ e
  refine ⟨(s.heap.push { cls := .type "range", data := .fields #[.int lo t, .int hi u, .int 1 v] }).objs.size, [(s.heap.push { cls := .type "range", data := .fields #[.int lo t, .int hi u, .int 1 v] }).objs.size], _, _, H, rfl,
    I1.kept (t' := tk) fun b o e => Heap.get?_push_of_some _ e, turn_range _ lo (hi - lo).toNat, ?_, fun b hb => ?_, q⟩
  · have e1 : lo + ((0 : Nat) : Int) * 1 = lo := by simp
    have e2 : (((hi - lo).toNat : Nat) : Int) - ((0 : Nat) : Int) = Builtin.Range.rangeSize lo hi 1 := by rw [rangeSize_one]; split <;> omega
    show IsRangeIter _ _ (lo + ((0 : Nat) : Int) * 1) ((((hi - lo).toNat : Nat) : Int) - ((0 : Nat) : Int)) 1
    rw [e1, e2]
    exact Heap.get?_push_size _ rfl
  · have e : b = (s.heap.push { cls := .type "range", data := .fields #[.int lo t, .int hi u, .int 1 v] }).objs.size := by simpa using hb
    subst e
    exact I1.fpOk (Nat.le_refl _) (I1.hok.fresh (Nat.le_refl _))
def iRng1 (ta : TA) : TI := fun σ H R => ta σ H fun vs H1 => ∃ j : Int, vs = [.int j] ∧ -(2 ^ 62) ≤ j ∧ j < 2 ^ 62 ∧ R (Itr 0 j.toNat) H1
theorem pi_range1 {a : Expr} {ta : TA} {p pos : Pos} (hg : Gl X "range") (hm : X.mg "range" = none) (ha : PA X [a] ta) (hs : starEach [a] X.env = [(false, eval a X.env)] := by rfl) : PI X tg (.Call (.Name "range" p) [a] [] pos) (iRng1 ta) := by
  intro pins s σ H R I h
  refine Call_ (ld_blt I hg hm boot_range (PyProof.Rows.callWith_type1 (thn (ha pos pins s σ H _ I h) fun us s1 ⟨vs, H1, I1, r1, q1⟩ => ?_) hs rfl))
  obtain ⟨j, e, q1, q2, q⟩ := q1
  subst e
  cases r1 with
  | cons r rr =>
    cases rr
    obtain ⟨t, rfl⟩ := r
    exact call_range_1 (range_it I1 (by omega) (by omega) q1 q2 (by simpa using q))
def tFor (wi : TI) (g : TG) (tb : TS) : TS := fun D σ H => wi σ H fun J H1 => ∃ W : Nat → Nat → St → Hp → Prop, (∃ m, W 0 m σ H1) ∧ ∀ i m σ H, W i m σ H →
  (J.stop i H ∧ D.nx σ H) ∨ (J.go i H ∧ ∃ N : St → Hp → Prop, (∀ σ' H', N σ' H' → ∃ m', m' < m ∧ W (i + 1) m' σ' H') ∧ ∀ x H', J.yld i H x H' → g x σ H' fun σ2 H2 => tb { D with nx := N, ct := N, bk := D.nx } σ2 H2)

def pinsAt (fp : List Addr) (h : Heap) : List (Addr × Obj) := fp.filterMap fun b => (h.get? b).map fun o => (b, o)
theorem mem_pinsAt {fp : List Addr} {h : Heap} {b : Addr} {o : Obj} (hb : b ∈ fp) (e : h.get? b = some o) : (b, o) ∈ pinsAt fp h := List.mem_filterMap.mpr ⟨b, hb, by rw [e]; rfl⟩
theorem of_pinsAt {fp : List Addr} {h : Heap} {p : Addr × Obj} (hp : p ∈ pinsAt fp h) : p.1 ∈ fp ∧ h.get? p.1 = some p.2 := by
  obtain ⟨b, hb, e⟩ := List.mem_filterMap.mp hp
  cases q : h.get? b with
  | none => rw [q] at e; cases e
  | some o =>
    rw [q] at e
    have e' : (b, o) = p := Option.some.inj e
    subst e'
    exact ⟨hb, q⟩
theorem Inv.pinned {pins : List (Addr × Obj)} {σ : St} {H : Hp} {s : Shared} {fp : List Addr} (I : Inv X pins σ H s) (hf : ∀ b ∈ fp, FpOk X pins H b) (ho : ∀ b ∈ fp, ∃ o, s.heap.get? b = some o ∧ ∀ v, o.data ≠ .cell v) : Inv X (pins ++ pinsAt fp s.heap) σ H s :=
  I.pins_of fun p hp => (List.mem_append.mp hp).elim (fun z => I.pin p (List.mem_append_right _ z)) fun z => by
    obtain ⟨hb, e⟩ := of_pinsAt z
    obtain ⟨f0, f1, f2, _⟩ := hf p.1 hb
    obtain ⟨o, e', d⟩ := ho p.1 hb
    rw [e] at e'; cases e'
    exact ⟨e, f0, f1, f2, d⟩
theorem Inv.unpinned {pins pl : List (Addr × Obj)} {σ : St} {H : Hp} {s : Shared} (I : Inv X (pins ++ pl) σ H s) : Inv X pins σ H s := I.pins_of fun p hp => I.pin p (List.mem_append_right _ (List.mem_append_left _ hp))
theorem ps_for {iter : Expr} {body : List Stmt} {wi : TI} {g : TG} {tb : TS} {pos : Pos} (hp : PassesOwn (model X.prog X.w) X.A X.env X.xe) (hc : X.calm = true) (hi : PI X tg iter wi) (hg : PG X tg g) (hb : PSs X body tb)
    (hs : ∀ x, foldedSetIterable iter X.env x = pure x := by intro _; rfl) : PS X (.For tg iter body [] pos) (tFor wi g tb) := by
  intro pins s σ H D I h
  refine wpAny_For (thn (hi pins s σ H _ I h) fun v s1 h1 => thn h1 fun itv s2 h2 => ?_) hs
  obtain ⟨it, fp, tn, J, H2, e, I2, T, st2, f2, W, ⟨m0, w0⟩, turn⟩ := h2
  subst e
  -- what stays true of the iterator's objects through the loop
  have stat : ∀ {H' : Hp}, (∀ b ∈ fp, H' b = none) → ∀ b ∈ fp, FpOk X pins H' b := fun hn b hb => ⟨hn b hb, (f2 b hb).2⟩
  refine codeAny_forLoop_any (fun n s' => ∃ i σ' H', Inv X pins σ' H' s' ∧ tn i s'.heap ∧ (∀ b ∈ fp, H' b = none) ∧ W i n σ' H') ?_ m0 ⟨0, σ, H2, I2, st2, fun b hb => (f2 b hb).1, w0⟩
  rintro n s3 ⟨i, σ3, H3, I3, st3, fr3, w3⟩
  rcases turn i n σ3 H3 w3 with ⟨stop, qn⟩ | ⟨go, N, hN, step⟩
  · refine wpAny_passesOwn hp (thn (T.done X rfl rfl rfl hc i pins s3 σ3 H3 X.xe I3 (stat fr3) st3 stop) fun r s4 ⟨hr, I4⟩ => ?_)
    subst hr
    exact wpAny_execs_nil ⟨σ3, H3, I4, qn⟩
  · refine wpAny_passesOwn hp (thn (T.item X rfl rfl rfl hc i pins s3 σ3 H3 X.xe I3 (stat fr3) st3 go) fun r s4 ⟨u, hr, h4⟩ => ?_)
    subst hr
    refine wpAny_passesOwn hp (thn h4 fun _ s5 ⟨x, H5, I5, r5, y5, st5, fr5⟩ => ?_)
    have I5' := I5.pinned (stat fr5) (T.obj _ _ st5)
    refine wpAny_passesOwn hp (thn (hg _ s5 σ3 H5 x u _ I5' r5 (step x H5 y5)) fun _ s6 ⟨σ6, H6, I6, q6⟩ => ?_)
    refine wpAny_passesOwn hp (thn (hb _ s6 σ6 H6 _ I6 q6) fun f s7 q7 => ?_)
    have again : ∀ {σ7 : St} {H7 : Hp}, Inv X (pins ++ pinsAt fp s5.heap) σ7 H7 s7 → N σ7 H7 → ∃ m, m < n ∧ ∃ i σ' H', Inv X pins σ' H' s7 ∧ tn i s7.heap ∧ (∀ b ∈ fp, H' b = none) ∧ W i m σ' H' := fun {σ7 H7} I7 n7 => by
      obtain ⟨m', hm, w7⟩ := hN σ7 H7 n7
      refine ⟨m', hm, i + 1, σ7, H7, I7.unpinned, T.keep _ _ _ st5 fun b hb o e => (I7.pin (b, o) (List.mem_append_right _ (List.mem_append_right _ (mem_pinsAt hb e)))).1, fun b hb => ?_, w7⟩
      obtain ⟨o, e, d⟩ := T.obj _ _ st5 b hb
      exact (I7.pin (b, o) (List.mem_append_right _ (List.mem_append_right _ (mem_pinsAt hb e)))).2.1
    cases f with
    | next => obtain ⟨σ7, H7, I7, n7⟩ := q7; exact again I7 n7
    | cont => obtain ⟨σ7, H7, I7, n7⟩ := q7; exact again I7 n7
    | brk => obtain ⟨σ7, H7, I7, q7⟩ := q7; exact ⟨σ7, H7, I7.unpinned, q7⟩
    | ret v => obtain ⟨x7, σ7, H7, I7, r7, q7⟩ := q7; exact ⟨x7, σ7, H7, I7.unpinned, r7, q7⟩
end



theorem for_list {K : PySem.W.Frag} {a : Addr} {xs : List V} {g : TG} {tb : TS} {D : Ends} {σ : St} {H : Hp} (Pv : Nat → St → Hp → Prop) (h0 : Pv 0 σ H) (hl : ∀ i σ H, i ≤ xs.length → Pv i σ H → SqL K H a xs)
    (hs : ∀ i x σ H, xs[i]? = some x → Pv i σ H → g x σ H fun σ2 H2 => tb { D with nx := Pv (i + 1), ct := Pv (i + 1), bk := D.nx } σ2 H2) (hd : ∀ σ H, Pv xs.length σ H → D.nx σ H) :
    ∃ W : Nat → Nat → St → Hp → Prop, (∃ m, W 0 m σ H) ∧ ∀ i m σ H, W i m σ H →
      ((Itl K a).stop i H ∧ D.nx σ H) ∨ ((Itl K a).go i H ∧ ∃ N : St → Hp → Prop, (∀ σ' H', N σ' H' → ∃ m', m' < m ∧ W (i + 1) m' σ' H') ∧ ∀ x H', (Itl K a).yld i H x H' → g x σ H' fun σ2 H2 => tb { D with nx := N, ct := N, bk := D.nx } σ2 H2) := by
  refine ⟨fun i m σ H => m = xs.length - i ∧ i ≤ xs.length ∧ Pv i σ H, ⟨xs.length, by simp, Nat.zero_le _, h0⟩, ?_⟩
  rintro i m σ H ⟨rfl, hi, p⟩
  have q := hl i σ H hi p
  by_cases hlt : i < xs.length
  · refine .inr ⟨⟨xs, xs[i], q, by simp [hlt]⟩, Pv (i + 1), fun σ' H' p' => ⟨xs.length - (i + 1), by omega, rfl, hlt, p'⟩, fun x H' y => ?_⟩
    obtain ⟨e, y⟩ := y
    subst e
    exact hs i x σ _ (y xs q) p
  · have e : i = xs.length := by omega
    subst e
    exact .inl ⟨⟨xs, q, Nat.le_refl _⟩, hd σ H p⟩
theorem for_range {lo : Int} {n : Nat} {g : TG} {tb : TS} {D : Ends} {σ : St} {H : Hp} (Pv : Nat → St → Hp → Prop) (h0 : Pv 0 σ H)
    (hs : ∀ i σ H, i < n → Pv i σ H → g (.int (lo + i)) σ H fun σ2 H2 => tb { D with nx := Pv (i + 1), ct := Pv (i + 1), bk := D.nx } σ2 H2) (hd : ∀ σ H, Pv n σ H → D.nx σ H) :
    ∃ W : Nat → Nat → St → Hp → Prop, (∃ m, W 0 m σ H) ∧ ∀ i m σ H, W i m σ H →
      ((Itr lo n).stop i H ∧ D.nx σ H) ∨ ((Itr lo n).go i H ∧ ∃ N : St → Hp → Prop, (∀ σ' H', N σ' H' → ∃ m', m' < m ∧ W (i + 1) m' σ' H') ∧ ∀ x H', (Itr lo n).yld i H x H' → g x σ H' fun σ2 H2 => tb { D with nx := N, ct := N, bk := D.nx } σ2 H2) := by
  refine ⟨fun i m σ H => m = n - i ∧ i ≤ n ∧ Pv i σ H, ⟨n, by simp, Nat.zero_le _, h0⟩, ?_⟩
  rintro i m σ H ⟨rfl, hi, p⟩
  by_cases hlt : i < n
  · refine .inr ⟨hlt, Pv (i + 1), fun σ' H' p' => ⟨n - (i + 1), by omega, rfl, hlt, p'⟩, fun x H' y => ?_⟩
    obtain ⟨e, y⟩ := y
    subst e y
    exact hs i σ _ hlt p
  · have e : i = n := by omega
    subst e
    exact .inl ⟨Nat.le_refl _, hd σ H p⟩

end L2

namespace L2
open PySem PySem.Spec PyProof.Rows

abbrev R2 := V → V → Hp → VK → Prop

def OpR (X : Cx) (f : Value → Value → Sem Value) (r : R2) : Prop :=
  ∀ (pins : List (Addr × Obj)) (s : Shared) (σ : St) (H : Hp) (x y : V) (v u : Value) (Q : VK), Inv X pins σ H s → RelV x v → RelV y u → r x y H Q →
    wpAny (model X.prog X.w) X.A (f v u) (EP X pins σ Q) X.xe s

def UnR (X : Cx) (f : Value → Sem Value) (r : V → Hp → VK → Prop) : Prop :=
  ∀ (pins : List (Addr × Obj)) (s : Shared) (σ : St) (H : Hp) (x : V) (v : Value) (Q : VK), Inv X pins σ H s → RelV x v → r x H Q →
    wpAny (model X.prog X.w) X.A (f v) (EP X pins σ Q) X.xe s

def CallR (X : Cx) (f : Value) (r : List V → Hp → VK → Prop) : Prop :=
  ∀ (pins : List (Addr × Obj)) (s : Shared) (σ : St) (H : Hp) (xs : List V) (us : List Value) (Q : VK), Inv X pins σ H s → Vals xs us → r xs H Q →
    wpAny (model X.prog X.w) X.A (call f us) (EP X pins σ Q) X.xe s

def TruR (X : Cx) (r : V → Hp → (Bool → Hp → Prop) → Prop) : Prop :=
  ∀ (pins : List (Addr × Obj)) (s : Shared) (σ : St) (H : Hp) (x : V) (v : Value) (Q : Bool → Hp → Prop), Inv X pins σ H s → RelV x v → r x H Q →
    wpAny (model X.prog X.w) X.A (truthy v) (TP X pins σ Q) X.xe s

def tOp (r : R2) (ta tb : TE) : TE := fun σ H Q => ta σ H fun x H1 => tb σ H1 fun y H2 => r x y H2 Q
def tUn (r : V → Hp → VK → Prop) (ta : TE) : TE := fun σ H Q => ta σ H fun x H1 => r x H1 Q

def rI (C : Int → Int → Prop) (g : Int → Int → V) : R2 := fun x y H Q => ∃ i j, x = .int i ∧ y = .int j ∧ C i j ∧ Q (g i j) H
def rI0 (g : Int → Int → V) : R2 := fun x y H Q => ∃ i j, x = .int i ∧ y = .int j ∧ Q (g i j) H
def rU (g : Int → V) : V → Hp → VK → Prop := fun x H Q => ∃ i, x = .int i ∧ Q (g i) H

section
variable {X : Cx} {a b c : Expr} {ta tb tc : TE} {pos : Pos}

theorem binT (ha : PE X a ta) (hb : PE X b tb) {pins : List (Addr × Obj)} {s : Shared} {σ : St} {H : Hp} {R : V → V → Hp → Prop} (I : Inv X pins σ H s)
    (h : ta σ H fun x H1 => tb σ H1 fun y H2 => R x y H2) {Q : Value → Shared → Prop} {f : Value → Value → Sem Value}
    (hf : ∀ v u s2 x y H2, Inv X pins σ H2 s2 → RelV x v → RelV y u → R x y H2 → wpAny (model X.prog X.w) X.A (f v u) Q X.xe s2) :
    wpAny (model X.prog X.w) X.A (eval a X.env) (fun v s₁ => wpAny (model X.prog X.w) X.A (eval b X.env) (fun u s₂ => wpAny (model X.prog X.w) X.A (f v u) Q X.xe s₂) X.xe s₁) X.xe s := by
  refine thn (ha pins s σ H _ I h) fun v s1 ⟨x, H1, I1, r1, q1⟩ => ?_
  refine thn (hb pins s1 σ H1 _ I1 q1) fun u s2 ⟨y, H2, I2, r2, q2⟩ => ?_
  exact hf v u s2 x y H2 I2 r1 r2 q2

theorem pe_op {op : Operator} {r : R2} (ho : OpR X (binaryOp op) r) (ha : PE X a ta) (hb : PE X b tb) : PE X (.BinOp a op b pos) (tOp r ta tb) := by
  intro pins s σ H Q I h
  exact wpAny_BinOp (binT ha hb I h fun v u s2 x y H2 I2 rx ry q => ho pins s2 σ H2 x y v u Q I2 rx ry q)
theorem pe_un {op : UnaryOp} {r : V → Hp → VK → Prop} (ho : UnR X (unaryOp op) r) (ha : PE X a ta) : PE X (.UnaryOp op a pos) (tUn r ta) := by
  intro pins s σ H Q I h
  exact UnaryOp_ (thn (ha pins s σ H _ I h) fun v s1 ⟨x, H1, I1, r1, q1⟩ => ho pins s1 σ H1 x v Q I1 r1 q1)

theorem opI {f : Value → Value → Sem Value} {C : Int → Int → Prop} {g : Int → Int → Int}
    (rule : ∀ (i j : Int) (t u : Tok) (s : Shared) (Q : Value → Shared → Prop) (E : Value → Shared → Prop), C i j → Q (.int (g i j) s.toks) { s with toks := s.toks + 1 } → wpAny (model X.prog X.w) X.A (f (.int i t) (.int j u)) Q E s) :
    OpR X f (rI C fun i j => .int (g i j)) := by
  intro pins s σ H x y v u Q I rx ry h
  obtain ⟨i, j, rfl, rfl, hc, q⟩ := h
  obtain ⟨t, rfl⟩ := rx
  obtain ⟨t', rfl⟩ := ry
  exact rule i j t t' s _ _ hc ⟨.int (g i j), H, I.tok _, ⟨_, rfl⟩, q⟩
theorem opI0 {f : Value → Value → Sem Value} {g : Int → Int → Int}
    (rule : ∀ (i j : Int) (t u : Tok) (s : Shared) (Q : Value → Shared → Prop) (E : Value → Shared → Prop), Q (.int (g i j) s.toks) { s with toks := s.toks + 1 } → wpAny (model X.prog X.w) X.A (f (.int i t) (.int j u)) Q E s) :
    OpR X f (rI0 fun i j => .int (g i j)) := by
  intro pins s σ H x y v u Q I rx ry h
  obtain ⟨i, j, rfl, rfl, q⟩ := h
  obtain ⟨t, rfl⟩ := rx
  obtain ⟨t', rfl⟩ := ry
  exact rule i j t t' s _ _ ⟨.int (g i j), H, I.tok _, ⟨_, rfl⟩, q⟩
theorem opB0 {f : Value → Value → Sem Value} {g : Int → Int → Bool}
    (rule : ∀ (i j : Int) (t u : Tok) (s : Shared) (Q : Value → Shared → Prop) (E : Value → Shared → Prop), Q (.bool (g i j)) s → wpAny (model X.prog X.w) X.A (f (.int i t) (.int j u)) Q E s) :
    OpR X f (rI0 fun i j => .bl (g i j)) := by
  intro pins s σ H x y v u Q I rx ry h
  obtain ⟨i, j, rfl, rfl, q⟩ := h
  obtain ⟨t, rfl⟩ := rx
  obtain ⟨t', rfl⟩ := ry
  exact rule i j t t' s _ _ ⟨.bl (g i j), H, I, rfl, q⟩

def CDiv (i j : Int) : Prop := 0 < j ∧ j < 1073741824
def CPow (i j : Int) : Prop := 0 ≤ j ∧ j ≤ 1000000 ∧ i.natAbs < 2 ^ 64
def CMul (i j : Int) : Prop := (-(2 ^ 64) < i ∧ i < 2 ^ 64) ∨ (-(2 ^ 64) < j ∧ j < 2 ^ 64)
theorem CMul.ok {i j : Int} (h : CMul i j) : IntMulOk i j := by
  rcases h with ⟨h1, h2⟩ | ⟨h1, h2⟩
  · exact .of_left (intBits_le_64 h1 h2)
  · exact .of_right (intBits_le_64 h1 h2)
theorem op_add : OpR X (binaryOp .Add) (rI0 fun i j => .int (i + j)) := opI0 fun _ _ _ _ _ _ _ q => add_int q
theorem op_sub : OpR X (binaryOp .Sub) (rI0 fun i j => .int (i - j)) := opI0 fun _ _ _ _ _ _ _ q => sub_int q
theorem op_mul : OpR X (binaryOp .Mult) (rI CMul fun i j => .int (i * j)) := opI fun _ _ _ _ _ _ _ hc q => mul_int q hc.ok

theorem op_fdiv : OpR X (binaryOp .FloorDiv) (rI CDiv fun i j => .int (i / j)) := opI fun i j _ _ _ _ _ hc q => by
  have h1 : (0 : Int) < j := hc.1
  have h2 : j < 1073741824 := hc.2
  exact floordiv_int (by omega) (by rw [Int.fdiv_eq_ediv_of_nonneg i (by omega)]; exact q) (.inl (PyProof.noPylong_small (by omega)))
theorem op_mod : OpR X (binaryOp .Mod) (rI (fun _ j => 0 < j) fun i j => .int (i % j)) := opI fun i j _ _ _ _ _ hc q => by
  have h1 : (0 : Int) < j := hc
  exact mod_int' (by omega) (by rw [Int.fmod_eq_emod_of_nonneg i (by omega)]; exact q)
theorem op_pow : OpR X (binaryOp .Pow) (rI CPow fun i j => .int (i ^ j.toNat)) := opI fun _ _ _ _ _ _ _ hc q => pow_int_small hc.1 hc.2.1 hc.2.2 q
theorem unI {f : Value → Sem Value} {g : Int → Int}
    (rule : ∀ (i : Int) (t : Tok) (s : Shared) (Q : Value → Shared → Prop) (E : Value → Shared → Prop), Q (.int (g i) s.toks) { s with toks := s.toks + 1 } → wpAny (model X.prog X.w) X.A (f (.int i t)) Q E s) :
    UnR X f (rU fun i => .int (g i)) := by
  intro pins s σ H x v Q I rx h
  obtain ⟨i, rfl, q⟩ := h
  obtain ⟨t, rfl⟩ := rx
  exact rule i t s _ _ ⟨.int (g i), H, I.tok _, ⟨_, rfl⟩, q⟩
theorem un_neg : UnR X (unaryOp .USub) (rU fun i => .int (-i)) := unI fun _ _ _ _ _ q => neg_int q
end



def scal : V → V → Bool
  | .non, .non => true | .non, .int _ => true | .int _, .non => true | .non, .bl _ => true | .bl _, .non => true | .non, .str _ => true | .str _, .non => true
  | .int _, .int _ => true | .bl _, .bl _ => true | .str _, .str _ => true | .byt _, .byt _ => true
  | .int _, .str _ => true | .str _, .int _ => true | .bl _, .str _ => true | .str _, .bl _ => true
  | _, _ => false
def rEq : R2 := fun x y H Q => scal x y = true ∧ Q (.bl (decide (x = y))) H
def rNe : R2 := fun x y H Q => scal x y = true ∧ Q (.bl (!decide (x = y))) H

theorem dec_int {i j : Int} : decide (V.int i = V.int j) = (i == j) := by
  rw [Bool.eq_iff_iff]
  simp
theorem dec_bl {i j : Bool} : decide (V.bl i = V.bl j) = (i == j) := by
  rw [Bool.eq_iff_iff]
  simp
theorem dec_str {i j : Str} : decide (V.str i = V.str j) = (i == j) := by
  rw [Bool.eq_iff_iff]
  simp
theorem dec_byt {i j : Array UInt8} : decide (V.byt i = V.byt j) = (i.toList == j.toList) := by
  rw [Bool.eq_iff_iff]
  cases i
  cases j
  simp

section
variable {X : Cx} {a b c : Expr} {ta tb tc : TE} {pos : Pos}
theorem fin_bl {pins : List (Addr × Obj)} {σ : St} {H : Hp} {s : Shared} {Q : VK} {k k' : Bool} (I : Inv X pins σ H s) (q : Q (.bl k) H) (e : k = k') : EP X pins σ Q (.bool k') s := by
  subst e
  exact ⟨.bl k, H, I, rfl, q⟩
theorem op_eq : OpR X (compareOp .Eq) rEq := by
  intro pins s σ H x y v u Q I rx ry h
  obtain ⟨hs, q⟩ := h
  cases x with
  | non =>
    cases rx
    cases y with
    | non => cases ry; exact PySem.EqNone.eq_none_none (fin_bl I q (by simp))
    | bl j => cases ry; exact PySem.EqNone.eq_none_bool (fin_bl I q (by simp))
    | int j => obtain ⟨t', rfl⟩ := ry; exact PySem.EqNone.eq_none_int (fin_bl I q (by simp))
    | str j => obtain ⟨t', rfl⟩ := ry; exact PySem.EqNone.eq_none_str (fin_bl I q (by simp))
    | _ => exact absurd (show false = true from hs) Bool.false_ne_true
  | bl i =>
    cases rx
    cases y with
    | non => cases ry; exact PySem.EqNone.eq_bool_none (fin_bl I q (by simp))
    | bl j => cases ry; exact eq_bool (fin_bl I q dec_bl)
    | str j => obtain ⟨t', rfl⟩ := ry; exact PySem.EqMixed.eq_bool_str (fin_bl I q (by simp))
    | _ => exact absurd (show false = true from hs) Bool.false_ne_true
  | int i =>
    obtain ⟨t, rfl⟩ := rx
    cases y with
    | non => cases ry; exact PySem.EqNone.eq_int_none (fin_bl I q (by simp))
    | int j => obtain ⟨t', rfl⟩ := ry; exact eq_int (fin_bl I q dec_int)
    | str j => obtain ⟨t', rfl⟩ := ry; exact PySem.EqMixed.eq_int_str (fin_bl I q (by simp))
    | _ => exact absurd (show false = true from hs) Bool.false_ne_true
  | str i =>
    obtain ⟨t, rfl⟩ := rx
    cases y with
    | non => cases ry; exact PySem.EqNone.eq_str_none (fin_bl I q (by simp))
    | bl j => cases ry; exact PySem.EqMixed.eq_str_bool (fin_bl I q (by simp))
    | int j => obtain ⟨t', rfl⟩ := ry; exact PySem.EqMixed.eq_str_int (fin_bl I q (by simp))
    | str j => obtain ⟨t', rfl⟩ := ry; exact eq_str (fin_bl I q dec_str)
    | _ => exact absurd (show false = true from hs) Bool.false_ne_true
  | byt i =>
    obtain ⟨t, rfl⟩ := rx
    cases y with
    | byt j => obtain ⟨t', rfl⟩ := ry; exact PySem.W.eq_bytes (fin_bl I q dec_byt)
    | _ => exact absurd (show false = true from hs) Bool.false_ne_true
  | _ => cases y <;> exact absurd (show false = true from hs) Bool.false_ne_true
theorem op_ne : OpR X (compareOp .NotEq) rNe := by
  intro pins s σ H x y v u Q I rx ry h
  obtain ⟨hs, q⟩ := h
  cases x with
  | non =>
    cases rx
    cases y with
    | non => cases ry; exact PySem.EqNone.ne_none_none (fin_bl I q (by simp))
    | bl j => cases ry; exact PySem.EqNone.ne_none_bool (fin_bl I q (by simp))
    | int j => obtain ⟨t', rfl⟩ := ry; exact PySem.EqNone.ne_none_int (fin_bl I q (by simp))
    | str j => obtain ⟨t', rfl⟩ := ry; exact PySem.EqNone.ne_none_str (fin_bl I q (by simp))
    | _ => exact absurd (show false = true from hs) Bool.false_ne_true
  | bl i =>
    cases rx
    cases y with
    | non => cases ry; exact PySem.EqNone.ne_bool_none (fin_bl I q (by simp))
    | bl j => cases ry; exact ne_bool (fin_bl I q (congrArg not dec_bl))
    | str j => obtain ⟨t', rfl⟩ := ry; exact PySem.EqMixed.ne_bool_str (fin_bl I q (by simp))
    | _ => exact absurd (show false = true from hs) Bool.false_ne_true
  | int i =>
    obtain ⟨t, rfl⟩ := rx
    cases y with
    | non => cases ry; exact PySem.EqNone.ne_int_none (fin_bl I q (by simp))
    | int j => obtain ⟨t', rfl⟩ := ry; exact ne_int (fin_bl I q (congrArg not dec_int))
    | str j => obtain ⟨t', rfl⟩ := ry; exact PySem.EqMixed.ne_int_str (fin_bl I q (by simp))
    | _ => exact absurd (show false = true from hs) Bool.false_ne_true
  | str i =>
    obtain ⟨t, rfl⟩ := rx
    cases y with
    | non => cases ry; exact PySem.EqNone.ne_str_none (fin_bl I q (by simp))
    | bl j => cases ry; exact PySem.EqMixed.ne_str_bool (fin_bl I q (by simp))
    | int j => obtain ⟨t', rfl⟩ := ry; exact PySem.EqMixed.ne_str_int (fin_bl I q (by simp))
    | str j => obtain ⟨t', rfl⟩ := ry; exact ne_str (fin_bl I q (congrArg not dec_str))
    | _ => exact absurd (show false = true from hs) Bool.false_ne_true
  | byt i =>
    obtain ⟨t, rfl⟩ := rx
    cases y with
    | byt j => obtain ⟨t', rfl⟩ := ry; exact PySem.W.ne_bytes (fin_bl I q (congrArg not dec_byt))
    | _ => exact absurd (show false = true from hs) Bool.false_ne_true
  | _ => cases y <;> exact absurd (show false = true from hs) Bool.false_ne_true

theorem op_lt : OpR X (compareOp .Lt) (rI0 fun i j => .bl (decide (i < j))) := opB0 fun _ _ _ _ _ _ _ q => lt_int q
theorem op_le : OpR X (compareOp .LtE) (rI0 fun i j => .bl (decide (i ≤ j))) := opB0 fun _ _ _ _ _ _ _ q => le_int q
theorem op_gt : OpR X (compareOp .Gt) (rI0 fun i j => .bl (decide (j < i))) := opB0 fun _ _ _ _ _ _ _ q => gt_int q
theorem op_ge : OpR X (compareOp .GtE) (rI0 fun i j => .bl (decide (j ≤ i))) := opB0 fun _ _ _ _ _ _ _ q => ge_int q
theorem OpR.or {f : Value → Value → Sem Value} {r r' : R2} (h : OpR X f r) (h' : OpR X f r') : OpR X f (fun x y H Q => r x y H Q ∨ r' x y H Q) := by
  intro pins s σ H x y v u Q I rx ry q
  rcases q with q | q
  · exact h pins s σ H x y v u Q I rx ry q
  · exact h' pins s σ H x y v u Q I rx ry q

theorem nomark (b : Expr) {op : CmpOp} (h : op ≠ .In := by decide) (h2 : op ≠ .NotIn := by decide) : behindInMarks op b = false := by
  have e1 : (op == CmpOp.In) = false := by cases op <;> first | rfl | exact absurd rfl h
  have e2 : (op == CmpOp.NotIn) = false := by cases op <;> first | rfl | exact absurd rfl h2
  cases b <;> simp [behindInMarks, e1, e2]

theorem pe_cmpR {op : CmpOp} {r : R2} (ho : OpR X (compareOp op) r) (ha : PE X a ta) (hb : PE X b tb) (hm : behindInMarks op b = false) : PE X (.Compare a [op] [b] pos) (tOp r ta tb) := by
  intro pins s σ H Q I h
  exact wpAny_Compare1 (binT ha hb I h fun v u s2 x y H2 I2 rx ry q => ho pins s2 σ H2 x y v u Q I2 rx ry q) hm

def tTest (t : TE) : TT := fun σ H Q => t σ H fun x H' => ∃ k, x = .bl k ∧ Q k H'
theorem pt_cmpR {op : CmpOp} {r : R2} (ho : OpR X (compareOp op) r) (ha : PE X a ta) (hb : PE X b tb) (hm : behindInMarks op b = false) : PT X (.Compare a [op] [b] pos) (tTest (tOp r ta tb)) := by
  intro pins s σ H Q I h
  refine wpAny_isTrue_Compare1 (thn (ha pins s σ H _ I h) fun v s1 ⟨x, H1, I1, r1, q1⟩ => thn (hb pins s1 σ H1 _ I1 q1) fun u s2 ⟨y, H2, I2, r2, q2⟩ =>
    thn (ho pins s2 σ H2 x y v u _ I2 r1 r2 q2) fun c s3 ⟨z, H3, I3, r3, k, e, q3⟩ => ?_) hm
  subst e
  cases r3
  exact wpAny_truthy_bool ⟨H3, I3, q3⟩

def tChain (r r' : R2) (ta tb tc : TE) : TE := fun σ H Q => ta σ H fun x H1 => tb σ H1 fun y H2 => r x y H2 fun z H3 => ∃ k, z = .bl k ∧
  (if k = true then tc σ H3 fun w' H4 => r' y w' H4 Q else Q (.bl false) H3)
theorem pe_chain {op op' : CmpOp} {r r' : R2} (ho : OpR X (compareOp op) r) (ho' : OpR X (compareOp op') r') (ha : PE X a ta) (hb : PE X b tb) (hc : PE X c tc)
    (hm : lastMarks [op, op'] [b, c] = false := by with_unfolding_all rfl) : PE X (.Compare a [op, op'] [b, c] pos) (tChain r r' ta tb tc) := by
  intro pins s σ H Q I h
  refine Compare_chain (thn (ha pins s σ H _ I h) fun v s1 ⟨x, H1, I1, r1, q1⟩ => chain_link (thn (hb pins s1 σ H1 _ I1 q1) fun u s2 ⟨y, H2, I2, r2, q2⟩ =>
    thn (ho pins s2 σ H2 x y v u _ I2 r1 r2 q2) fun d s3 ⟨z, H3, I3, r3, k, e, q3⟩ => ?_)) hm
  subst e
  cases r3
  refine wpAny_truthy_bool ?_
  cases k with
  | false => exact ite_ff ⟨.bl false, H3, I3, rfl, q3⟩
  | true => exact ite_tt (chain_last (thn (hc pins s3 σ H3 _ I3 q3) fun w' s4 ⟨z', H4, I4, r4, q4⟩ => ho' pins s4 σ H4 y z' u w' Q I4 r2 r4 q4))
theorem pt_chain {op op' : CmpOp} {r r' : R2} (ho : OpR X (compareOp op) r) (ho' : OpR X (compareOp op') r') (ha : PE X a ta) (hb : PE X b tb) (hc : PE X c tc)
    (hm : lastMarks [op, op'] [b, c] = false := by with_unfolding_all rfl) : PT X (.Compare a [op, op'] [b, c] pos) (tTest (tChain r r' ta tb tc)) := by
  intro pins s σ H Q I h
  refine isTrue_chain (thn (ha pins s σ H _ I h) fun v s1 ⟨x, H1, I1, r1, q1⟩ => test_link (thn (hb pins s1 σ H1 _ I1 q1) fun u s2 ⟨y, H2, I2, r2, q2⟩ =>
    thn (ho pins s2 σ H2 x y v u _ I2 r1 r2 q2) fun d s3 ⟨z, H3, I3, r3, k, e, q3⟩ => ?_)) hm
  subst e
  cases r3
  refine wpAny_truthy_bool ?_
  cases k with
  | false =>
    obtain ⟨k', e', q'⟩ := q3
    cases e'
    exact ite_ff ⟨H3, I3, q'⟩
  | true =>
    refine ite_tt (test_last (thn (hc pins s3 σ H3 _ I3 q3) fun w' s4 ⟨z', H4, I4, r4, q4⟩ => thn (ho' pins s4 σ H4 y z' u w' _ I4 r2 r4 q4) fun d' s5 ⟨z2, H5, I5, r5, k2, e2, q5⟩ => ?_))
    subst e2
    cases r5
    exact wpAny_truthy_bool ⟨H5, I5, q5⟩



def TruV (K : PySem.W.Frag) (x : V) (H : Hp) (k : Bool) : Prop :=
  match x with
  | .non => k = false
  | .bl b => k = b
  | .int i => k = (i != 0)
  | .str y => y.length ≤ sizeLine ∧ k = ((y.length : Int) != 0)
  | .byt y => y.size ≤ sizeLine ∧ k = ((y.size : Int) != 0)
  | .ref p => (∃ xs, SqL K H p xs ∧ k = !xs.isEmpty) ∨ (∃ xs, SqT K H p xs ∧ k = !xs.isEmpty) ∨ ∃ kvs, H p = some (.dK kvs) ∧ k = !kvs.isEmpty
  | _ => False
theorem isEmpty_kv {κ : Type} {kvs : List (κ × V)} {vs : List (κ × Value)} (r : KV kvs vs) : (!vs.isEmpty) = !kvs.isEmpty := by
  cases r <;> rfl
theorem isEmpty_of {xs : List V} {its : List Value} (r : Vals xs its) : (!its.toArray.isEmpty) = !xs.isEmpty := by
  cases r <;> simp
theorem line63 : (sizeLine : Nat) < 2 ^ 63 := by rw [sizeLine_eq]; decide
theorem tru_ok : TruR X (fun x H Q => ∃ k, TruV X.K x H k ∧ Q k H) := by
  intro pins s σ H x v Q I rx h
  obtain ⟨k, e, q⟩ := h
  have hl := line63
  have hs : sizeLine = 16777216 := sizeLine_eq
  cases x with
  | non =>
    cases rx
    have e' : k = false := e
    subst e'
    exact truthy_none ⟨H, I, q⟩
  | bl b =>
    cases rx
    have e' : k = b := e
    subst e'
    exact wpAny_truthy_bool ⟨H, I, q⟩
  | int i =>
    obtain ⟨t, rfl⟩ := rx
    have e' : k = (i != 0) := e
    subst e'
    exact PySem.P.truthy_int ⟨H, I, q⟩
  | str y =>
    obtain ⟨t, rfl⟩ := rx
    obtain ⟨hy, e'⟩ : y.length ≤ sizeLine ∧ k = ((y.length : Int) != 0) := e
    subst e'
    exact PySem.P.truthy_str (by omega) ⟨H, I.tok _, q⟩
  | byt y =>
    obtain ⟨t, rfl⟩ := rx
    obtain ⟨hy, e'⟩ : y.size ≤ sizeLine ∧ k = ((y.size : Int) != 0) := e
    subst e'
    exact PySem.W.truthy_bytes (by omega) ⟨H, I.tok _, q⟩
  | ref p =>
    cases rx
    have e' : (∃ xs, SqL X.K H p xs ∧ k = !xs.isEmpty) ∨ (∃ xs, SqT X.K H p xs ∧ k = !xs.isEmpty) ∨ ∃ kvs, H p = some (.dK kvs) ∧ k = !kvs.isEmpty := e
    rcases e' with ⟨xs, hx, e'⟩ | ⟨xs, hx, e'⟩ | ⟨kvs, hx, e'⟩
    · subst e'
      obtain ⟨its, r, pl, hz⟩ := I.list hx
      have hlen := r.length
      exact wpAny_truthy_list pl.isList (by simp only [List.size_toArray]; omega) ⟨H, I.tok _, by rw [isEmpty_of r]; exact q⟩
    · subst e'
      obtain ⟨its, r, pl, hz⟩ := I.tuple hx
      have hlen := r.length
      exact truthy_tuple pl (by simp only [List.size_toArray]; omega) ⟨H, I.tok _, by rw [isEmpty_of r]; exact q⟩
    · subst e'
      obtain ⟨hz, hS, vs, r, m⟩ : kvs.length ≤ sizeLine ∧ (p == sysModules) = false ∧ ∃ vs, KV kvs vs ∧ s.heap.DictOf (mixKind X.prog X.w) p vs := I.hok p _ hx
      have hlen : kvs.length = vs.length := Paired.length r
      exact wpAny_truthy_dict hS m (by omega) ⟨H, I.tok _, by rw [isEmpty_kv r]; exact q⟩
  | _ => exact (show False from e).elim

theorem pt_truth (ha : PE X a ta) (he : ∀ whole, isTrue a X.env whole = (do let v ← whole; standAt a.pos; holding [v] (truthy v))) :
    PT X a (fun σ H Q => ta σ H fun x H' => ∃ k, TruV X.K x H' k ∧ Q k H') := by
  intro pins s σ H Q I h
  exact isTrue_plain (thn (ha pins s σ H _ I h) fun v s1 ⟨x, H1, I1, r1, q1⟩ => tru_ok pins s1 σ H1 x v Q I1 r1 q1) (he _)


theorem op_add_str : OpR X (binaryOp .Add) (fun x y H Q => ∃ i j, x = .str i ∧ y = .str j ∧ i.length + j.length ≤ sizeLine ∧ Q (.str (i ++ j)) H) := by
  intro pins s σ H x y v u Q I rx ry h
  obtain ⟨i, j, rfl, rfl, hz, q⟩ := h
  obtain ⟨t, rfl⟩ := rx
  obtain ⟨t', rfl⟩ := ry
  exact add_str (fun t' tk => ⟨.str (i ++ j), H, I.tok _, ⟨_, rfl⟩, q⟩) hz
theorem vals1 {x : V} {us : List Value} (r : Vals [x] us) : ∃ u, us = [u] ∧ RelV x u := by
  cases r with
  | cons r1 r2 => cases r2; exact ⟨_, rfl, r1⟩
theorem vals2 {x y : V} {us : List Value} (r : Vals [x, y] us) : ∃ u w', us = [u, w'] ∧ RelV x u ∧ RelV y w' := by
  cases r with
  | cons r1 r2 =>
    cases r2 with
    | cons r3 r4 => cases r4; exact ⟨_, _, rfl, r1, r3⟩
theorem call_max2 (hc : X.calm = true) : CallR X (.builtin "max") (fun xs H Q => ∃ i j, xs = [.int i, .int j] ∧ Q (.int (if j > i then j else i)) H) := by
  intro pins s σ H xs us Q I r h
  obtain ⟨i, j, rfl, q⟩ := h
  obtain ⟨u, w', rfl, ⟨t, rfl⟩, ⟨t', rfl⟩⟩ := vals2 r
  refine max_two_ints (I.ok.hd hc) fun h' tk k => ⟨_, H, I.kept k, ?_, q⟩
  by_cases hj : j > i
  · rw [if_pos hj, if_pos hj]; exact ⟨_, rfl⟩
  · rw [if_neg hj, if_neg hj]; exact ⟨_, rfl⟩
theorem call_min2 (hc : X.calm = true) : CallR X (.builtin "min") (fun xs H Q => ∃ i j, xs = [.int i, .int j] ∧ Q (.int (if j < i then j else i)) H) := by
  intro pins s σ H xs us Q I r h
  obtain ⟨i, j, rfl, q⟩ := h
  obtain ⟨u, w', rfl, ⟨t, rfl⟩, ⟨t', rfl⟩⟩ := vals2 r
  refine min_two_ints (I.ok.hd hc) fun h' tk k => ⟨_, H, I.kept k, ?_, q⟩
  by_cases hj : j < i
  · rw [if_pos hj, if_pos hj]; exact ⟨_, rfl⟩
  · rw [if_neg hj, if_neg hj]; exact ⟨_, rfl⟩
end
end L2

namespace L2
open PySem PySem.Spec PyProof.Rows


structure ObjM (h : Heap) (x dx C : Addr) (mA : Str → Option Value) : Prop where
  obj : h.get? x = some (PySem.W.instObj C dx)
  ns : h.Ns1 dx mA
  ne : dx ≠ x

theorem lookIn_ns {h : Heap} {dx : Addr} {mA : Str → Option Value} (n : h.Ns1 dx mA) : ∃ od, h.get? dx = some od ∧ ∀ name, PySem.W.lookIn name od = some (mA name) := by
  obtain ⟨o, es, ep, ho, hd, hk, _, hm⟩ := n
  refine ⟨o, ho, fun name => ?_⟩
  have e := hm name
  unfold nsFind findBy at e
  rw [← Array.find?_toList] at e
  unfold PySem.W.lookIn
  rw [hd]
  dsimp only
  split
  · rename_i y q
    rw [q] at e
    exact congrArg some e
  · rename_i q
    rw [q] at e
    have a : es.toList.any (·.refKey) = false := by
      rw [List.any_eq_false]
      intro y hy
      obtain ⟨z, t, hkey⟩ := hk y (Array.mem_toList_iff.mp hy)
      simp [DictEntry.refKey, hkey]
    have a' : ¬ es.toList.any (·.refKey) = true := by rw [a]; exact Bool.false_ne_true
    rw [if_neg a']
    exact congrArg some e

theorem ObjM.look {h : Heap} {x dx C : Addr} {mA : Str → Option Value} (I : ObjM h x dx C mA) : ∃ od, PySem.W.InstAt h x (PySem.W.instObj C dx) C (some od) ∧ ∀ name, PySem.W.lookIn name od = some (mA name) :=
  let ⟨od, ho, hl⟩ := lookIn_ns I.ns
  ⟨od, ⟨I.obj, rfl, rfl, ho⟩, hl⟩

section
variable {prog : Program} {w : World} {A : Around} {E : Value → Shared → Prop} {s : Shared} {K : PySem.W.Frag} {x dx C f : Addr} {mA : Str → Option Value} {name : Str} {v : Value}

end


section
variable {P : Program} {w : World} {H H' : Hp} {h h' : Heap} {a C dx : Addr} {fs fs' : List (Str × V)}
theorem ins_get (hok : HOk P w H h) (e : H a = some (.ins C dx fs)) : ∃ mA, ObjM h a dx C mA ∧ (∀ f, RelO (fs.lookup f) (mA f)) ∧ PySem.Within mA (fs.map (·.1)) ∧ fs.length ≤ 1000 ∧ H dx = some (.own a) := by
  obtain ⟨d, z, ne, ob, mA, n, r, q⟩ := (show ObjOk P w H h a (.ins C dx fs) from hok a _ e)
  exact ⟨mA, ⟨ob, n, ne⟩, r, q, z, d⟩
end


structure Cls (K : PySem.W.Frag) (C : Addr) : Prop where
  pg : PySem.W.plainGet K C Str.empty = true
  hd : PySem.W.hasDictIn K C = true
  po : PySem.W.plainOver K C = true
  sa : PySem.W.findIn K (.ref C) "__setattr__" = some (some (.builtin "object.__setattr__"))
theorem Cls.get {K : PySem.W.Frag} {C : Addr} (c : Cls K C) (f : Str) : PySem.W.plainGet K C f = true := c.pg

section
variable {X : Cx} {pins : List (Addr × Obj)} {σ : St} {H : Hp} {s : Shared} {a C dx : Addr} {fs : List (Str × V)} {f : Str} {v : V} {A : Around} {E : Value → Shared → Prop}

end



section
variable {X : Cx} {o e value : Expr} {f : Str} {pos pos' tpos : Pos} {ta tv : TE}
end


section
variable {X : Cx} {pins : List (Addr × Obj)} {σ : St} {H : Hp} {s : Shared} {A : Around} {E : Value → Shared → Prop} {Q : Value → Shared → Prop} {c : Value} {b : Bool}

inductive TyOf (K : PySem.W.Frag) (H : Hp) : V → Value → Prop where
  | non : TyOf K H .non (.type "NoneType")
  | bl (x : Bool) : TyOf K H (.bl x) (.type "bool")
  | int (i : Int) : TyOf K H (.int i) (.type "int")
  | str (x : Str) : TyOf K H (.str x) (.type "str")
  | flt (x : UInt64) : TyOf K H (.flt x) (.type "float")
  | lst {a : Addr} {xs : List V} (e : H a = some (.lst xs)) : TyOf K H (.ref a) (.type "list")
  | frz {a : Addr} {o : Obj} {xs : List V} (e : H a = some (.frz o (.lst xs))) : TyOf K H (.ref a) (.type "list")
  | tup {a : Addr} {xs : List V} (e : H a = some (.tup xs)) : TyOf K H (.ref a) (.type "tuple")
  | dK {a : Addr} {kvs : List (Key × V)} (e : H a = some (.dK kvs)) : TyOf K H (.ref a) (.type "dict")
  | dT {a : Addr} {kvs : List (List Key × V)} (e : H a = some (.dT kvs)) : TyOf K H (.ref a) (.type "dict")
  | ins {a C dx : Addr} {fs : List (Str × V)} (e : H a = some (.ins C dx fs)) (cl : Cls K C) (ha : PySem.W.findIn K (.ref C) "__class__" = some (some (.builtin "object.__class__")))
      (hn : PySem.W.specialIn K (.builtin "object.__class__") "__get__" = some (some (.builtin "getset_descriptor.__get__"))) (htk : PySem.W.takesIn K (.builtin "object.__class__") = some true)
      (hm : PySem.W.mroIn K C (.type "object") = some true) : TyOf K H (.ref a) (.ref C)

theorem isinst_ok {x : V} {u t : Value} (I : Inv X pins σ H s) (rx : RelV x u) (ty : TyOf X.K H x t) (e : PySem.W.kitOne X.K t c = some b) (h : ∀ tk, Q (.bool b) { s with toks := tk }) :
    wpAny (model X.prog X.w) A (call (.builtin "isinstance") [u, c]) Q E s := by
  cases ty with
  | non => cases (show u = Value.none from rx); exact PySem.W.kia_one PySem.W.kitx_none I.kIn True.intro e (fun z => nomatch z) h
  | bl y => cases (show u = Value.bool y from rx); exact PySem.W.kia_one PySem.W.kitx_bool I.kIn True.intro e (fun z => nomatch z) h
  | int i => obtain ⟨t, q⟩ := (show ∃ t, u = Value.int i t from rx); cases q; exact PySem.W.kia_one PySem.W.kitx_int I.kIn True.intro e (fun z => nomatch z) h
  | str y => obtain ⟨t, q⟩ := (show ∃ t, u = Value.str y t from rx); cases q; exact PySem.W.kia_one PySem.W.kitx_str I.kIn True.intro e (fun z => nomatch z) h
  | flt y => obtain ⟨t, q⟩ := (show ∃ t, u = Value.float y t from rx); cases q; exact PySem.W.kia_one PySem.W.kitx_float I.kIn True.intro e (fun z => nomatch z) h
  | @lst a xs ea =>
    cases (show u = Value.ref a from rx)
    obtain ⟨_, _, n, _, h1⟩ := (show ObjOk X.prog X.w H s.heap a (.lst xs) from I.hok a _ ea)
    exact PySem.W.kia_one PySem.W.kitx_list I.kIn ⟨_, h1, rfl⟩ e (fun z => nomatch z) h
  | @frz a ob xs ea =>
    cases (show u = Value.ref a from rx)
    obtain ⟨_, _, _, n, _, h1⟩ := (show ObjOk X.prog X.w H s.heap a (.frz ob (.lst xs)) from I.hok a _ ea)
    exact PySem.W.kia_one PySem.W.kitx_list I.kIn ⟨_, h1, rfl⟩ e (fun z => nomatch z) h
  | @tup a xs ea =>
    cases (show u = Value.ref a from rx)
    obtain ⟨_, _, _, p⟩ := (show ObjOk X.prog X.w H s.heap a (.tup xs) from I.hok a _ ea)
    obtain ⟨o, h1, h2, _⟩ := p
    exact PySem.W.kia_one PySem.W.kitx_tuple I.kIn ⟨o, h1, h2⟩ e (fun z => nomatch z) h
  | @dK a kvs ea =>
    cases (show u = Value.ref a from rx)
    obtain ⟨_, _, vs, _, p⟩ := (show ObjOk X.prog X.w H s.heap a (.dK kvs) from I.hok a _ ea)
    obtain ⟨o, es, ep, h1, h2, _⟩ := p
    exact PySem.W.kia_one PySem.W.kitx_dict I.kIn ⟨o, h1, h2.1⟩ e (fun z => nomatch z) h
  | @dT a kvs ea =>
    cases (show u = Value.ref a from rx)
    obtain ⟨_, _, xs, _, o, es, ep, h1, h2, _⟩ := (show ObjOk X.prog X.w H s.heap a (.dT kvs) from I.hok a _ ea)
    exact PySem.W.kia_one PySem.W.kitx_dict I.kIn ⟨o, h1, h2.1⟩ e (fun z => nomatch z) h
  | @ins a C dx fs ea cl ha hn htk hm =>
    cases (show u = Value.ref a from rx)
    obtain ⟨mA, O, _⟩ := ins_get I.hok ea
    obtain ⟨od, J, _⟩ := O.look
    exact PySem.W.kia_one (PySem.W.kitx_own (cl.get _) cl.hd ha hn htk hm) I.kIn J e (fun z => nomatch z) h
end
end L2

namespace L2
open PySem PySem.Spec PyProof.Rows


structure Room (k : Nat) (A : Around) : Prop where
  hd : A.handled = none
  dp : A.depth + 3 * k + 5 < recursionLimit
  un : A.units + 16 * k + 200 < cLine
  gd : A.guards = some []
theorem Room.mono {j k : Nat} {A : Around} (r : Room k A) (h : j ≤ k) : Room j A := ⟨r.hd, by have := r.dp; omega, by have := r.un; omega, by first | exact r.gd | simpa [Around.deeper, Around.under, Code.guards, Code.isGuard, guardIds, pushGuards] using r.gd⟩
theorem Room.deeper {k : Nat} {A : Around} (r : Room (k + 1) A) (env : Env) : Room k (A.deeper env) :=
  ⟨r.hd, by have := r.dp; show A.depth + 1 + 3 * k + 5 < _; omega, by have := r.un; show A.units + 3 + 16 * k + 200 < _; omega, by first | exact r.gd | simpa [Around.deeper, Around.under, Code.guards, Code.isGuard, guardIds, pushGuards] using r.gd⟩
theorem Room.depth {k : Nat} {A : Around} (r : Room k A) : A.depth < recursionLimit := by have := r.dp; omega
theorem Room.units {k : Nat} {A : Around} (r : Room k A) : A.units + 64 < cLine := by have := r.un; omega
theorem Room.units0 {k : Nat} {A : Around} (r : Room k A) : A.units < cLine := by have := r.un; omega


def tNil : TA := fun _ H Q => Q [] H
def tCons (ta : TE) (tr : TA) : TA := fun σ H Q => ta σ H fun x H1 => tr σ H1 fun xs H2 => Q (x :: xs) H2
section
variable {X : Cx} {e : Expr} {es : List Expr} {te : TE} {t : TA} {pos : Pos}
theorem pa_nil : PA X [] tNil := fun _ _ _ _ H Q I h => Calls.spliced_nil ⟨[], H, I, .nil, h⟩
theorem pa_cons (ha : PE X e te) (hr : PA X es t) (hs : starEach (e :: es) X.env = (false, eval e X.env) :: starEach es X.env := by rfl) : PA X (e :: es) (tCons te t) := by
  intro pos pins s σ H Q I h
  rw [hs]
  show wpAny _ _ (spliced ((false, eval e X.env) :: backTo pos (starEach es X.env))) _ _ s
  refine Calls.spliced_cons (thn (ha pins s σ H _ I h) fun u s1 ⟨x, H1, I1, r1, q1⟩ => ?_)
  exact thn (hr pos pins s1 σ H1 _ I1 q1) fun us s2 ⟨xs, H2, I2, r2, q2⟩ => ⟨x :: xs, H2, I2, .cons r1 r2, q2⟩


def tTup (t : TA) : TE := fun σ H Q => t σ H fun xs H1 => xs.length ≤ sizeLine ∧ ∀ p, H1 p = none → Q (.ref p) (upd H1 p (.tup xs))
def tLst (t : TA) : TE := fun σ H Q => t σ H fun xs H1 => xs.length ≤ sizeLine ∧ ∀ p, H1 p = none → Q (.ref p) (upd H1 p (.lst xs))
theorem pe_tup {x1} (h : PA X es t) : PE X (.Tuple es x1 pos) (tTup t) := by
  intro pins s σ H Q I hq
  refine wpAny_Tuple_spliced (thn (h pos pins s σ H _ I hq) fun us s1 ⟨xs, H1, I1, r, z, q⟩ => ⟨by rw [← r.length]; exact z, ?_⟩)
  have hf : H1 s1.heap.objs.size = none := I1.hok.fresh (Nat.le_refl _)
  refine ⟨.ref s1.heap.objs.size, upd H1 s1.heap.objs.size (.tup xs), I1.laid (t' := s1.toks) (fun b u e => Heap.get?_push_of_some _ e) (Nat.le_refl _) ?_, rfl, q _ hf⟩
  exact ⟨z, us, r, ⟨_, Heap.get?_push_size _ rfl, rfl, _, rfl⟩⟩
theorem pe_lst (h : PA X es t) : PE X (.List es pos) (tLst t) := by
  intro pins s σ H Q I hq
  refine wpAny_List_spliced (thn (h pos pins s σ H _ I hq) fun us s1 ⟨xs, H1, I1, r, z, q⟩ => ⟨by rw [← r.length]; exact z, ?_⟩)
  have hf : H1 s1.heap.objs.size = none := I1.hok.fresh (Nat.le_refl _)
  refine ⟨.ref s1.heap.objs.size, upd H1 s1.heap.objs.size (.lst xs), I1.laid (t' := s1.toks) (fun b u e => Heap.get?_push_of_some _ e) (Nat.le_refl _) ?_, rfl, q _ hf⟩
  exact ⟨z, us, 0, r, Heap.get?_push_size _ rfl⟩
end



abbrev Sp := List V → Hp → VK → XK → Prop

abbrev CXT := List Env → Hp → Shared → XK → Value → Shared → Prop


structure Env0 (P : Program) (w : World) (K : PySem.W.Frag) (mg : Str → Option Value) (base : Heap) (A : Around) (outer : List Env) (s : Shared) (H : Hp) : Prop where
  frames : A.frames = some outer
  mod : Mod K mg base
  bs : ∀ b o, base.get? b = some o → s.heap.get? b = some o ∧ H b = none
  bsz : base.objs.size ≤ s.heap.objs.size
  funs : s.heap.FunFrames base outer
  frf : ∀ b ∈ frs outer, H b = none
  hok : HOk P w H s.heap
  bare : AllBare s.gens

def CE (outer : List Env) (P : Program) (w : World) (H : Hp) (s : Shared) (Q : VK) (u : Value) (s' : Shared) : Prop :=
  ∃ v H', s'.os = s.os ∧ AllBare s'.gens ∧ Un (frs outer) [] H H' s.heap s'.heap ∧ HOk P w H' s'.heap ∧ RelV v u ∧ Q v H'
def CR (CX : CXT) (outer : List Env) (P : Program) (w : World) (H : Hp) (s : Shared) (Q : VK) (E : XK) (r : Result) (s' : Shared) : Prop :=
  match r with
  | .ok (.ret u) => CE outer P w H s Q u s'
  | .ok _ => False
  | .error e => CX outer H s E e s'
structure FnOk (P : Program) (w : World) (K : PySem.W.Frag) (mg : Str → Option Value) (base : Heap) (CX : CXT) (k : Nat) (f : Addr) (fd : FuncData) (ps : List Str) (sp : Sp) : Prop where
  len : ∀ vs H Q E, sp vs H Q E → vs.length = ps.length
  run : ∀ (A : Around) (outer : List Env) (s : Shared) (H : Hp) (args : Args) (us : List Value) (vs : List V) (Q : VK) (E : XK), Room k A → Env0 P w K mg base A outer s H → BindsTo s fd args (ps.zip us) → Vals vs us → sp vs H Q E →
    codeAny (model P w) A (.call (.ref f) args) (CR CX outer P w H s Q E) s
theorem FnOk.mono {P : Program} {w : World} {K : PySem.W.Frag} {mg : Str → Option Value} {base : Heap} {CX : CXT} {j k : Nat} {f : Addr} {fd : FuncData} {ps : List Str} {sp : Sp} (F : FnOk P w K mg base CX j f fd ps sp) (h : j ≤ k) :
    FnOk P w K mg base CX k f fd ps sp := ⟨F.len, fun A outer s H args us vs Q E hr => F.run A outer s H args us vs Q E (hr.mono h)⟩

theorem FnOk.imp {P : Program} {w : World} {K : PySem.W.Frag} {mg : Str → Option Value} {base : Heap} {CX : CXT} {k : Nat} {f : Addr} {fd : FuncData} {ps : List Str} {sp sp' : Sp} (F : FnOk P w K mg base CX k f fd ps sp)
    (h : ∀ vs H Q E, sp' vs H Q E → sp vs H Q E) : FnOk P w K mg base CX k f fd ps sp' :=
  ⟨fun vs H Q E q => F.len vs H Q E (h _ _ _ _ q), fun A outer s H args us vs Q E hr he hb hv hs => F.run A outer s H args us vs Q E hr he hb hv (h _ _ _ _ hs)⟩

section
variable {X : Cx} {pins : List (Addr × Obj)} {σ : St} {H : Hp} {s s' : Shared}

theorem Inv.env0 (I : Inv X pins σ H s) : Env0 X.prog X.w X.K X.mg X.base X.A X.stack s H :=
  ⟨I.ok.frames, I.ok.mod, I.bs, Nat.le_trans I.ok.bsz I.sz, I.stack, I.stkFree, I.hok, I.bare⟩

theorem Inv.after {Q : VK} {u : Value} (I : Inv X pins σ H s) (h : CE X.stack X.prog X.w H s Q u s') : EP X pins σ Q u s' := by
  obtain ⟨v, H', os, bare, un, hok, r, q⟩ := h
  obtain ⟨hh, g, d, t, os'⟩ := s'
  obtain rfl : os' = s.os := os
  exact ⟨v, H', I.call (h' := hh) (g' := g) (d' := d) (t' := t) (ch := []) un hok bare (fun b z => absurd z (by simp)), r, q⟩
end



def tCall (sp : Sp) (dvs : List V) (E : XK) (t : TA) : TE := fun σ H Q => t σ H fun vs H1 => sp (vs ++ dvs) H1 Q E

def Binds (K : PySem.W.Frag) (fd : FuncData) (ps : List Str) (ds : List Value) : Prop :=
  ∀ (s : Shared) (us : List Value), K.In s.heap → (us ++ ds).length = ps.length → BindsTo s fd ⟨us, []⟩ (ps.zip (us ++ ds))

theorem Binds.all {K : PySem.W.Frag} {fd : FuncData} {ps : List Str} (h : ∀ us : List Value, us.length = ps.length → bindArgs fd ⟨us, []⟩ = pure (ps.zip us)) : Binds K fd ps [] := fun s us _ hl => by
  rw [List.append_nil] at hl ⊢
  exact .of_eq (h us hl)


def Passes (CX : CXT) (X : Cx) (E : XK) : Prop := ∀ (pins : List (Addr × Obj)) (σ : St) (H : Hp) (s : Shared) (e : Value) (s' : Shared), Inv X pins σ H s → CX X.stack H s E e s' → X.xe e s'

section
variable {X : Cx} {CX : CXT} {k : Nat} {f C : Addr} {fd : FuncData} {ps : List Str} {sp : Sp} {dvs : List V} {ds : List Value} {E : XK} {x m : Str} {p pos apos : Pos} {e o : Expr} {es : List Expr} {ta : TE} {t : TA}


theorem run_fn {pins : List (Addr × Obj)} {σ : St} {H : Hp} {s : Shared} {Q : VK} {us : List Value} {vs : List V} (F : FnOk X.prog X.w X.K X.mg X.base CX k f fd ps sp) (hr : Room k X.A) (hb : Binds X.K fd ps ds) (hd : Vals dvs ds) (hx : Passes CX X E)
    (I : Inv X pins σ H s) (r : Vals vs us) (h : sp (vs ++ dvs) H Q E) : wpAny (model X.prog X.w) X.A (call (.ref f) us) (EP X pins σ Q) X.xe s := by
  have r2 : Vals (vs ++ dvs) (us ++ ds) := r.append hd
  have hl : (us ++ ds).length = ps.length := by rw [← r2.length]; exact F.len _ _ _ _ h
  refine wpAny_call (codeAny_mono (F.run X.A X.stack s H ⟨us, []⟩ (us ++ ds) (vs ++ dvs) Q E hr I.env0 (hb s us I.kIn hl) r2 h) fun r s' hq => ?_)
  cases r with
  | error e => exact hx pins σ H s e s' I hq
  | ok fl =>
    cases fl with
    | ret u => exact I.after hq
    | next => exact False.elim hq
    | brk => exact False.elim hq
    | cont => exact False.elim hq

theorem pe_call (F : FnOk X.prog X.w X.K X.mg X.base CX k f fd ps sp) (hr : Room k X.A) (hg : Gl X x) (hm : X.mg x = some (.ref f)) (hk : PySem.W.keepIn X.K (.ref f) = true) (hb : Binds X.K fd ps ds) (hd : Vals dvs ds) (hx : Passes CX X E)
    (ha : PA X (e :: es) t) (hdb : (x == ("__debug__" : Str)) = false := by decide) (he : starEach (e :: es) X.env = (false, eval e X.env) :: starEach es X.env := by rfl) (hpl : (backTo pos (starEach es X.env)).any (·.1) = false := by rfl) :
    PE X (.Call (.Name x p) (e :: es) [] pos) (tCall sp dvs E t) := by
  intro pins s σ H Q I h
  refine wpAny_Call_Name_kw (ld_glob I hg hm ?_ hdb)
  refine PySem.W.callWith_K (h₀ := X.base) I.ok.mod.kin hk (thn (ha pos pins s σ H _ I h) fun us s1 ⟨vs, H1, I1, r, q⟩ => ⟨I1.kIn, ?_⟩) he hpl
  exact run_fn F hr hb hd hx I1 r q
end



section
variable {X : Cx} {CX : CXT} {k : Nat} {f C : Addr} {fd : FuncData} {ps ks : List Str} {sp : Sp} {E : XK} {x m : Str} {p pos apos kpos : Pos} {e o : Expr} {es : List Expr} {kws : List Keyword} {te ta : TE} {t tk : TA} {nm : Option Str}
variable {g : List Value → List Value → List Value} {gV : List V → List V → List V}
end



structure FnScope (N P : List Str) (sc : Scope) : Prop where
  kind : sc.kind = .function
  co : sc.isCoroutine = false
  gen : sc.isGenerator = false
  nd : N.Nodup
  pre : N.take P.length = P
  par : ∀ x ∈ P, sc.names.lookup x = some .local ∨ sc.names.lookup x = some .cell
  nofree : ∀ y ∈ sc.names, y.2 ≠ .free

theorem bindL_out {kindOf : Str → Option NameKind} {x : Str} : ∀ {binds : List (Str × Value)} {m : Str → Option Value}, (∀ v, (x, v) ∉ binds) → bindL kindOf binds m x = m x
  | [], _, _ => rfl
  | (n, v) :: r, m, h => by
    unfold bindL
    rw [bindL_out fun w hw => h w (List.mem_cons_of_mem _ hw)]
    split
    · have : x ≠ n := by rintro rfl; exact h v List.mem_cons_self
      simp [this]
    · rfl
theorem bindC_out {kindOf : Str → Option NameKind} {x : Str} : ∀ {binds : List (Str × Value)} {m : Str → Option Value}, (∀ v, (x, v) ∉ binds) → bindC kindOf binds m x = m x
  | [], _, _ => rfl
  | (n, v) :: r, m, h => by
    unfold bindC
    rw [bindC_out fun w hw => h w (List.mem_cons_of_mem _ hw)]
    split
    · rfl
    · have : x ≠ n := by rintro rfl; exact h v List.mem_cons_self
      simp [this]
theorem bindL_get {kindOf : Str → Option NameKind} {x : Str} {v : Value} : ∀ {P : List Str} {vs : List Value} {i : Nat} {m : Str → Option Value}, P.Nodup → P[i]? = some x → vs[i]? = some v → kindOf x = some .local →
    bindL kindOf (P.zip vs) m x = some v
  | [], _, _, _, _, h, _, _ => by simp at h
  | _ :: _, [], _, _, _, _, h, _ => by simp at h
  | p :: P, w :: vs, 0, m, nd, h1, h2, hk => by
    simp at h1 h2; subst h1; subst h2
    show bindL kindOf ((p, w) :: P.zip vs) m p = _
    unfold bindL
    rw [bindL_out fun v hv => (List.nodup_cons.mp nd).1 (List.of_mem_zip hv).1, if_pos hk]
    simp
  | p :: P, w :: vs, i + 1, m, nd, h1, h2, hk => by
    show bindL kindOf ((p, w) :: P.zip vs) m x = _
    unfold bindL
    exact bindL_get (i := i) (List.nodup_cons.mp nd).2 (by simpa using h1) (by simpa using h2) hk
theorem bindC_get {kindOf : Str → Option NameKind} {x : Str} {v : Value} : ∀ {P : List Str} {vs : List Value} {i : Nat} {m : Str → Option Value}, P.Nodup → P[i]? = some x → vs[i]? = some v → kindOf x ≠ some .local →
    bindC kindOf (P.zip vs) m x = some v
  | [], _, _, _, _, h, _, _ => by simp at h
  | _ :: _, [], _, _, _, _, h, _ => by simp at h
  | p :: P, w :: vs, 0, m, nd, h1, h2, hk => by
    simp at h1 h2; subst h1; subst h2
    show bindC kindOf ((p, w) :: P.zip vs) m p = _
    unfold bindC
    rw [bindC_out fun v hv => (List.nodup_cons.mp nd).1 (List.of_mem_zip hv).1, if_neg hk]
    simp
  | p :: P, w :: vs, i + 1, m, nd, h1, h2, hk => by
    show bindC kindOf ((p, w) :: P.zip vs) m x = _
    unfold bindC
    exact bindC_get (i := i) (List.nodup_cons.mp nd).2 (by simpa using h1) (by simpa using h2) hk


def start (N : List Str) (vs : List V) : St := vs.map some ++ List.replicate (N.length - vs.length) none


def cxOf (CX : CXT) (P : Program) (w : World) (K : PySem.W.Frag) (mg : Str → Option Value) (base : Heap) (N : List Str) (qual : Str) (scope : Scope) (f : Addr) (cd : Value) (A : Around) (outer : List Env) (s : Shared) (H : Hp) (E : XK) : Cx where
  prog := P
  w := w
  K := K
  mg := mg
  base := base
  A := A.deeper (envOfC qual scope s.heap.objs.size f cd)
  N := N
  s₀ := s
  H₀ := H
  env := envOfC qual scope s.heap.objs.size f cd
  outer := outer
  stack := envOfC qual scope s.heap.objs.size f cd :: outer
  ex := []
  calm := true
  fn := fun _ => true
  pn := []
  xe := fun e s' => wpAny (model P w) (A.deeper (envOfC qual scope s.heap.objs.size f cd)) (leaving (envOfC qual scope s.heap.objs.size f cd) e) (fun _ s'' => CX outer H s E e s'') (fun e' s'' => CX outer H s E e' s'') s'

theorem cell_has {sc : Scope} {n : Nat} {x : Str} (h : sc.names.lookup x = some .cell) : ∃ c, (cellsFrom n sc.names []).lookup x = some c := by
  have q := PySem.W.cellsFrom_some sc.names n [] (.inl h)
  exact Option.isSome_iff_exists.mp q

theorem inv_start {CX : CXT} {P : Program} {w : World} {K : PySem.W.Frag} {mg : Str → Option Value} {base : Heap} {N ps : List Str} {qual : Str} {scope : Scope} {f : Addr} {cd : Value} {A : Around} {outer : List Env} {s s1 : Shared} {H : Hp} {E : XK} {us : List Value} {vs : List V}
    (S : FnScope N ps scope) (hd : A.handled = none) (e0 : Env0 P w K mg base A outer s H) (hl : vs.length = ps.length) (r : Vals vs us)
    (x : InCallC s s.heap.objs.size (bindL (envOfC qual scope s.heap.objs.size f cd).kindOf (ps.zip us) fun _ => none) (cellsFrom (s.heap.objs.size + 1) scope.names []) (bindC (envOfC qual scope s.heap.objs.size f cd).kindOf (ps.zip us) fun _ => none) s1) :
    Inv (cxOf CX P w K mg base N qual scope f cd A outer s H E) [] (start N vs) H s1 := by
  have hpl : ps.length ≤ N.length := by have := congrArg List.length S.pre; rw [List.length_take] at this; omega
  obtain ⟨h1, tk, rfl, hk⟩ := x.done
  have noA : ∀ b : Addr, b ∉ (cxOf CX P w K mg base N qual scope f cd A outer s H E).ex := fun b z => absurd (show b ∈ ([] : List Addr) from z) (by simp)
  refine ⟨⟨e0.mod, S.kind, rfl, rfl, Nat.le_refl _, fun y z c h1 h2 => ?_, fun y hy => ?_, fun y c _ h => ?_, fun _ => hd, Around.frames_deeper e0.frames, .inr ⟨rfl, rfl⟩, fun b z => absurd z (noA b), e0.bs, e0.bsz, fun b _ _ => noA b, fun b z => absurd z (noA b), e0.funs, e0.frf⟩,
    rfl, e0.bare, Un.kept hk, ⟨_, x.toInCall.ns, fun i y v h1 h2 h3 => ?_⟩, fun y c h => ⟨_, x.cell y c h⟩, e0.hok.fresh (Nat.le_refl _), fun y c h => ?_, fun p hp => absurd (show p ∈ ([] : List (Addr × Obj)) from hp) (by simp), e0.hok.kept hk, ?_⟩
  · exact name_of_addr x.apart (PySem.mem_of_lookup h1) (PySem.mem_of_lookup h2)
  · have hy : scope.names.lookup y = some .cell ∨ scope.names.lookup y = some .free := hy
    rcases hy with hy | hy
    · exact cell_has hy
    · exact absurd rfl (S.nofree _ (PySem.mem_of_lookup hy))
  · exact Nat.le_of_lt (x.above y c (PySem.mem_of_lookup h))
  · have hi : i < vs.length := by
      unfold start at h2
      by_cases hi : i < vs.length
      · exact hi
      · rw [List.getElem?_append_right (by simpa using hi)] at h2
        rw [List.getElem?_replicate] at h2
        split at h2 <;> cases h2
    have ha : vs[i]? = some v := by
      unfold start at h2
      rw [List.getElem?_append_left (by simpa using hi), List.getElem?_map] at h2
      cases e : vs[i]? with
      | none => rw [e] at h2; cases h2
      | some a => rw [e] at h2; cases h2; rfl
    obtain ⟨u, hu, rv⟩ := r.get ha
    have hp : ps[i]? = some y := by
      rw [← S.pre, List.getElem?_take_of_lt (by omega)]; exact h1
    have ndP : ps.Nodup := by rw [← S.pre]; exact S.nd.sublist (List.take_sublist _ _)
    refine ⟨u, rv, ?_⟩
    rcases S.par y (List.mem_of_getElem? hp) with k | k
    · exact .inl ⟨k, bindL_get ndP hp hu k⟩
    · obtain ⟨c, e⟩ := cell_has (n := s.heap.objs.size + 1) k
      refine .inr ⟨.inl k, c, e, ?_⟩
      have q := x.cell y c e
      rw [bindC_get ndP hp hu (by show scope.names.lookup y ≠ _; rw [k]; decide)] at q
      exact q
  · exact e0.hok.fresh (Nat.le_of_lt (x.above y c (PySem.mem_of_lookup h)))
  · unfold start
    show _ = N.length
    rw [List.length_append, List.length_map, List.length_replicate]
    omega


theorem fn_of {CX : CXT} {P : Program} {w : World} {K : PySem.W.Frag} {mg : Str → Option Value} {base : Heap} {k : Nat} {f : Addr} {name qual : Str} {params : Arguments} {body : List Stmt} {scope : Scope} {dV kV doc pm cdv ct oc : Value} {an od : Option Addr}
    {osl : Array (Option Value)} {N ps : List Str} {sp : Sp} (lk : K.lookup f = some ⟨oc, od, .func (PySem.W.fnOf name qual params body scope dV kV doc pm an cdv ct), osl⟩) (hcd : PySem.W.codeIn K cdv qual = true) (S : FnScope N ps scope)
    (len : ∀ vs H Q E, sp vs H Q E → vs.length = ps.length)
    (hbody : ∀ (A : Around) (outer : List Env) (s : Shared) (H : Hp) (vs : List V) (Q : VK) (E : XK), Room k (A.deeper (envOfC qual scope s.heap.objs.size f cdv)) → sp vs H Q E →
      ∃ t, PSs (cxOf CX P w K mg base N qual scope f cdv A outer s H E) body t ∧ t { nx := fun _ H' => Q .non H', rt := Q } (start N vs) H) :
    FnOk P w K mg base CX (k + 1) f (PySem.W.fnOf name qual params body scope dV kV doc pm an cdv ct) ps sp := by
  refine ⟨len, fun A outer s H args us vs Q E hr e0 hb r hsp => ?_⟩
  have hl := len _ _ _ _ hsp
  have KX : K.In s.heap := e0.mod.kin.keeps fun b o e => (e0.bs b o e).1
  have lim : s.heap.NoLimit := e0.mod.nolimit.keeps fun b o e => (e0.bs b o e).1
  have hkind : ∀ y ∈ ps.zip us, scope.names.lookup y.1 = some .local ∨ (scope.names.lookup y.1 = some .cell ∧ ((cellsFrom (s.heap.objs.size + 1) scope.names []).lookup y.1).isSome = true) := fun ⟨n, v⟩ hy => by
    rcases S.par n (List.of_mem_zip hy).1 with q | q
    · exact .inl q
    · exact .inr ⟨q, PySem.W.cellsFrom_some _ _ _ (.inl q)⟩
  refine codeAny_call_function hr.depth (KX _ _ lk) rfl S.co S.gen rfl (PySem.W.codeRec_of KX hcd) (hb _ _ _ _ ?_)
  refine wpAny_newFunctionEnv_cells S.kind hkind fun env he s1 x => ?_
  subst he
  refine ⟨lim.keeps x.toInCall.keep, codeAny_func ?_⟩
  obtain ⟨t, ht, hq⟩ := hbody A outer s H vs Q E (hr.deeper _) hsp
  have I : Inv (cxOf CX P w K mg base N qual scope f cdv A outer s H E) [] (start N vs) H s1 := inv_start S hr.hd e0 hl r x
  refine wpAny_mono (ht [] s1 (start N vs) H _ I hq) (fun fl s' hs => ?_) fun e s' hs => hs
  have fin : ∀ {σ' : St} {H' : Hp} {v : V} {u : Value}, Inv (cxOf CX P w K mg base N qual scope f cdv A outer s H E) [] σ' H' s' → RelV v u → Q v H' → CE outer P w H s Q u s' :=
    fun {σ' H' v u} J rv q => ⟨v, H', J.os, J.bare, J.base, J.hok, rv, q⟩
  cases fl with
  | ret u =>
    obtain ⟨v, σ', H', J, rv, q⟩ := hs
    exact fin J rv q
  | next =>
    obtain ⟨σ', H', J, q⟩ := hs
    exact fin (v := V.non) (u := Value.none) J rfl q
  | brk =>
    obtain ⟨_, _, _, q⟩ := hs
    exact False.elim q
  | cont =>
    obtain ⟨_, _, _, q⟩ := hs
    exact False.elim q
end L2

namespace L2
open PySem PySem.Spec PyProof.Rows
section
variable {X : Cx} {x : Str} {p pos : Pos} {e : Expr} {es : List Expr} {t : TA} {id T : String} {r : List V → Hp → VK → Prop}

def tCB (r : List V → Hp → VK → Prop) (t : TA) : TE := fun σ H Q => t σ H fun vs H1 => r vs H1 Q

theorem pe_callB (hc : CallR X (.builtin id) r) (hg : Gl X x) (hm : X.mg x = none) (hv : bootBuiltins x = some (.builtin id)) (ha : PA X (e :: es) t) (hn : x ≠ "__name__" := by decide) (hdb : (x == ("__debug__" : Str)) = false := by decide)
    (he : starEach (e :: es) X.env = (false, eval e X.env) :: starEach es X.env := by rfl) (hpl : (backTo pos (starEach es X.env)).any (·.1) = false := by rfl) : PE X (.Call (.Name x p) (e :: es) [] pos) (tCB r t) := by
  intro pins s σ H Q I h
  refine wpAny_Call_Name_kw (ld_blt I hg hm hv ?_ hn hdb)
  exact PyProof.Rows.callWith_builtin1 (thn (ha pos pins s σ H _ I h) fun us s1 ⟨vs, H1, I1, r1, q1⟩ => hc pins s1 σ H1 vs us Q I1 r1 q1) he hpl

theorem pe_callTy (hc : CallR X (.type T) r) (hg : Gl X x) (hm : X.mg x = none) (hv : bootBuiltins x = some (.type T)) (ha : PA X (e :: es) t) (hn : x ≠ "__name__" := by decide) (hdb : (x == ("__debug__" : Str)) = false := by decide)
    (he : starEach (e :: es) X.env = (false, eval e X.env) :: starEach es X.env := by rfl) (hpl : (backTo pos (starEach es X.env)).any (·.1) = false := by rfl) : PE X (.Call (.Name x p) (e :: es) [] pos) (tCB r t) := by
  intro pins s σ H Q I h
  refine wpAny_Call_Name_kw (ld_blt I hg hm hv ?_ hn hdb)
  exact PyProof.Rows.callWith_type1 (thn (ha pos pins s σ H _ I h) fun us s1 ⟨vs, H1, I1, r1, q1⟩ => hc pins s1 σ H1 vs us Q I1 r1 q1) he hpl

end
end L2

namespace HT
open PySem PyProof.Rows


section
open PySem.SeqAt
open PySem.AutoSeq1 (wpAny_loadPart')
open PySem.MeetsSeq PySem.MeetsSeq2 PySem.MeetsSeq3

end

section
variable {prog : Program} {w : World} {A : Around} {E : Value → Shared → Prop} {s : Shared}

def sIx (n d : Nat) : Option Int → Nat
  | none => d
  | some v => if v < 0 then (v + (n : Int)).toNat else min v.toNat n
end
end HT

namespace L2
open PySem PySem.Spec PyProof.Rows


section
variable {X : Cx} {e : Expr} {te : TE} {lo hi : Option Expr} {tl th : TO} {pos p2 : Pos}

end
end L2

namespace L2
open PySem PySem.Spec PyProof.Rows



def ixN (n : Nat) (i : Int) : Option Nat := if 0 ≤ i then (if i < n then some i.toNat else none) else if -(n : Int) ≤ i then some (i + n).toNat else none
def atI {α : Type} (xs : List α) (i : Int) : Option α := (ixN xs.length i).bind fun j => xs[j]?
theorem ixN_seq {n : Nat} {i : Int} {j : Nat} (h : ixN n i = some j) : seqIndex? i n = some j ∧ j < n ∧ -(n : Int) ≤ i ∧ i < n := by
  unfold ixN at h
  by_cases h0 : 0 ≤ i
  · rw [if_pos h0] at h
    by_cases h1 : i < n
    · rw [if_pos h1] at h
      have e : i.toNat = j := Option.some.inj h
      exact ⟨by rw [seqIndex_of h0 h1, e], by omega, by omega, h1⟩
    · rw [if_neg h1] at h; cases h
  · rw [if_neg h0] at h
    by_cases h1 : -(n : Int) ≤ i
    · rw [if_pos h1] at h
      have e : (i + n).toNat = j := Option.some.inj h
      exact ⟨by rw [seqIndex_neg (by omega) h1, e], by omega, h1, by omega⟩
    · rw [if_neg h1] at h; cases h
theorem atI_get {α : Type} {xs : List α} {i : Int} {v : α} (h : atI xs i = some v) : ∃ j, seqIndex? i xs.length = some j ∧ xs[j]? = some v ∧ j < xs.length ∧ -(xs.length : Int) ≤ i ∧ i < xs.length := by
  unfold atI at h
  cases e : ixN xs.length i with
  | none => rw [e] at h; cases h
  | some j =>
    rw [e] at h
    obtain ⟨h1, h2, h3, h4⟩ := ixN_seq e
    exact ⟨j, h1, h, h2, h3, h4⟩
theorem atI_nat {α : Type} {xs : List α} {j : Nat} {v : α} (h : xs[j]? = some v) : atI xs (j : Int) = some v := by
  have hj : j < xs.length := (List.getElem?_eq_some_iff.mp h).1
  have e : ixN xs.length (j : Int) = some j := by
    unfold ixN
    rw [if_pos (by omega), if_pos (by omega)]; simp
  unfold atI; rw [e]; exact h
def PlainIx (b : Expr) : Prop := ∀ o i, subscripted b false o i = operate [o, i] (getItem o i)

def IxR (X : Cx) (r : R2) : Prop :=
  ∀ (value slice : Expr) (pins : List (Addr × Obj)) (s : Shared) (σ : St) (H : Hp) (x y : V) (v u : Value) (Q : VK), Inv X pins σ H s → RelV x v → RelV y u → r x y H Q →
    subscripted slice false v u = operate [v, u] (getItem v u) → wpAny (model X.prog X.w) X.A (subscriptTail value slice v u) (EP X pins σ Q) X.xe s

def MtR (X : Cx) (id : String) (r : V → List V → Hp → VK → Prop) : Prop :=
  ∀ (pins : List (Addr × Obj)) (s : Shared) (σ : St) (H : Hp) (x : V) (xs : List V) (v : Value) (us : List Value) (Q : VK), Inv X pins σ H s → RelV x v → Vals xs us → r x xs H Q →
    wpAny (model X.prog X.w) X.A (call (.builtin id) (v :: us)) (EP X pins σ Q) X.xe s
section
variable {X : Cx} {a b : Expr} {ta tb : TE} {pos : Pos}
theorem IxR.or {r r' : R2} (h : IxR X r) (h' : IxR X r') : IxR X (fun x y H Q => r x y H Q ∨ r' x y H Q) := by
  intro value slice pins s σ H x y v u Q I rx ry q hs
  rcases q with q | q
  · exact h value slice pins s σ H x y v u Q I rx ry q hs
  · exact h' value slice pins s σ H x y v u Q I rx ry q hs
theorem pe_ix {r : R2} (hr : IxR X r) (ha : PE X a ta) (hb : PE X b tb) (hs : PlainIx b) : PE X (.Subscript a b pos) (tOp r ta tb) := by
  intro pins s σ H Q I h
  exact Subscript_ (binT ha hb I h fun v u s2 x y H2 I2 rx ry q => hr a b pins s2 σ H2 x y v u Q I2 rx ry q (hs _ _))

def rIxL (K : PySem.W.Frag) : R2 := fun x y H Q => ∃ p xs i v, x = .ref p ∧ y = .int i ∧ SqL K H p xs ∧ atI xs i = some v ∧ Q v H
def rIxT (K : PySem.W.Frag) : R2 := fun x y H Q => ∃ p xs i v, x = .ref p ∧ y = .int i ∧ SqT K H p xs ∧ atI xs i = some v ∧ Q v H
def rIxS : R2 := fun x y H Q => ∃ z i c, x = .str z ∧ y = .int i ∧ z.length ≤ sizeLine ∧ atI z.cps.toList i = some c ∧ Q (.str ⟨#[c]⟩) H
theorem ix_list : IxR X (rIxL X.K) := by
  intro value slice pins s σ H x y v u Q I rx ry h hs
  obtain ⟨p, xs, i, z, rfl, rfl, hq, he, q⟩ := h
  cases rx
  obtain ⟨t, rfl⟩ := ry
  obtain ⟨its, r, pl, hz⟩ := I.list hq
  obtain ⟨j, h1, h2, h3, h4, h5⟩ := atI_get he
  obtain ⟨w, ew, rw'⟩ := r.get h2
  have hl := r.length
  have hn := line63
  have fin : EP X pins σ Q w s := ⟨z, H, I, rw', q⟩
  by_cases h0 : 0 ≤ i
  · have hj : i.toNat = j := by
      rw [seqIndex_of h0 h5] at h1
      exact Option.some.inj h1
    exact item_listR pl.isList h0 (by omega) (by rw [hj]; simpa using ew) fin hs
  · have hj : (i + (its.toArray.size : Int)).toNat = j := by
      rw [seqIndex_neg (by omega) h4] at h1
      rw [List.size_toArray, ← hl]
      exact Option.some.inj h1
    exact subscriptTail_builtinR (x := w) pl.isList.typeIs slot_list_getitem.lookup
      (wpAny_getItem_list_neg (Q := fun r s' => r = w ∧ EP X pins σ Q r s') pl.isList (by omega) (by rw [List.size_toArray] <;> omega) (by omega) (by rw [hj]; simpa using ew) ⟨rfl, fin⟩) hs
theorem ix_tup : IxR X (rIxT X.K) := by
  intro value slice pins s σ H x y v u Q I rx ry h hs
  obtain ⟨p, xs, i, z, rfl, rfl, hq, he, q⟩ := h
  cases rx
  obtain ⟨t, rfl⟩ := ry
  obtain ⟨its, r, pl, hz⟩ := I.tuple hq
  obtain ⟨j, h1, h2, h3, h4, h5⟩ := atI_get he
  obtain ⟨w, ew, rw'⟩ := r.get h2
  have hl := r.length
  have hn := line63
  have fin : EP X pins σ Q w s := ⟨z, H, I, rw', q⟩
  exact subscriptTail_builtinR (x := w) pl.typeIs slot_tuple_getitem.lookup
    (getItem_tuple (j := j) (Q := fun r s' => r = w ∧ EP X pins σ Q r s') pl (by omega) (by omega) (by rw [List.size_toArray, ← hl]; exact h1) (by simpa using ew) ⟨rfl, fin⟩) hs
theorem ix_str : IxR X rIxS := by
  intro value slice pins s σ H x y v u Q I rx ry h hs
  obtain ⟨z, i, c, rfl, rfl, hz, he, q⟩ := h
  obtain ⟨t, rfl⟩ := rx
  obtain ⟨t', rfl⟩ := ry
  obtain ⟨j, h1, h2, h3, h4, h5⟩ := atI_get he
  have hl : z.cps.toList.length = z.length := by simp [Str.length]
  rw [hl] at h1 h4 h5
  have hn := line63
  exact tail_any (typeIs_str s z t) slot_str_getitem.lookup (getItem_str (c := c) (by
    have e1 : decide (i < -(2 ^ 63 : Int)) = false := decide_eq_false (by omega)
    have e2 : decide (i ≥ 2 ^ 63) = false := decide_eq_false (by omega)
    rw [e1, e2, Bool.or_false]) (by rw [h1]; simpa using h2) ⟨.str ⟨#[c]⟩, H, I.tok _, ⟨_, rfl⟩, q⟩) hs

theorem mapSeq_set (its : List Value) (n j : Nat) (u : Value) : Obj.mapSeq (·.setIfInBounds j u) { cls := .type "list", data := .seq its.toArray n } = { cls := .type "list", data := .seq (its.set j u).toArray n } := by
  simp [Obj.mapSeq]
theorem Inv.lst {pins : List (Addr × Obj)} {σ : St} {H : Hp} {s : Shared} {p : Addr} {xs : List V} (I : Inv X pins σ H s) (h : H p = some (.lst xs)) :
    ∃ (its : List Value) (n : Nat), Vals xs its ∧ s.heap.get? p = some { cls := .type "list", data := .seq its.toArray n } ∧ xs.length ≤ sizeLine := by
  obtain ⟨z, its, n, r, e⟩ := I.hok p _ h
  exact ⟨its, n, r, e, z⟩

theorem Inv.lstUpd {pins : List (Addr × Obj)} {σ : St} {H : Hp} {s : Shared} {p : Addr} {xs ys : List V} {its its' : List Value} {n n' : Nat} {f : Obj → Obj} (I : Inv X pins σ H s) (h : H p = some (.lst xs))
    (ho : s.heap.get? p = some { cls := .type "list", data := .seq its.toArray n }) (hf : f { cls := .type "list", data := .seq its.toArray n } = { cls := .type "list", data := .seq its'.toArray n' }) (r : Vals ys its') (hz : ys.length ≤ sizeLine) (t : Nat) :
    Inv X pins σ (upd H p (.lst ys)) { s with heap := s.heap.update p f, toks := t } := by
  have e : (s.heap.update p f).get? p = some { cls := .type "list", data := .seq its'.toArray n' } := by
    rw [Heap.get?_update_self f ho (by rw [hf] <;> rfl), hf]
  refine I.write (x := p) (e := p) (by rw [h]; trivial) (.inl rfl) (fun b u hb q => (Heap.get?_update_other _ _ (Ne.symm hb)).trans q) ⟨_, e⟩ ?_
  exact ⟨hz, its', n', r, e⟩
def rSetL : V → V → V → Hp → (Hp → Prop) → Prop := fun o i v H Q => ∃ p xs k j, o = .ref p ∧ i = .int k ∧ H p = some (.lst xs) ∧ ixN xs.length k = some j ∧ Q (upd H p (.lst (xs.set j v)))
theorem set_list : PSet X rSetL := by
  intro pins s σ H o i v ov iv u Q I ro ri rv h
  obtain ⟨p, xs, k, j, rfl, rfl, hp, hj, q⟩ := h
  cases ro
  obtain ⟨t, rfl⟩ := ri
  obtain ⟨its, n, r, ho, hz⟩ := I.lst hp
  obtain ⟨h1, h2, h3, h4⟩ := ixN_seq hj
  have hl := r.length
  have hn := line63
  have I' : Inv X pins σ (upd H p (.lst (xs.set j v))) { s with heap := s.heap.update p (Obj.mapSeq (·.setIfInBounds j u)) } :=
    I.lstUpd hp ho (mapSeq_set its n j u) (r.set rv j) (by rw [List.length_set]; exact hz) s.toks
  by_cases h0 : 0 ≤ k
  · have hk : k.toNat = j := by
      rw [seqIndex_of h0 h4] at h1
      exact Option.some.inj h1
    exact PySem.W.ki_setAt ho h0 (by omega) (by rw [List.size_toArray, ← hl]; exact h4) (by rw [hk]; exact ⟨_, I', q⟩)
  · have hk : (k + (its.toArray.size : Int)).toNat = j := by
      rw [seqIndex_neg (by omega) h3] at h1
      rw [List.size_toArray, ← hl]
      exact Option.some.inj h1
    exact PySem.W.ki_setBack ho (by omega) (by rw [List.size_toArray, ← hl]; exact h3) (by omega) (by rw [hk]; exact ⟨_, I', q⟩)


def flatV : V → Bool
  | .non => true
  | .bl _ => true
  | .int _ => true
  | .str _ => true
  | _ => false

def eqV : V → V → Bool
  | .non, .non => true
  | .bl a, .bl b => a == b
  | .bl a, .int b => (if a then 1 else 0) == b
  | .int a, .bl b => a == (if b then 1 else 0)
  | .int a, .int b => a == b
  | .str a, .str b => a == b
  | _, _ => false
theorem eqAt_V {A : Around} {s : Shared} {y x : V} {u v : Value} (ry : RelV y u) (rx : RelV x v) (fy : flatV y = true) (fx : flatV x = true) : SeqAt.EqAt A s u v (eqV y x) := by
  cases y with
  | non =>
    cases ry
    cases x with
    | non => cases rx; exact SeqAt.EqAt.same _
    | bl b => cases rx; exact SeqAt.EqAt.none_bool b
    | int b => obtain ⟨t, rfl⟩ := rx; exact SeqAt.EqAt.none_int b t
    | str b => obtain ⟨t, rfl⟩ := rx; exact SeqAt.EqAt.none_str b t
    | _ => exact absurd (show false = true from fx) Bool.false_ne_true
  | bl a =>
    cases ry
    cases x with
    | non => cases rx; exact SeqAt.EqAt.bool_none a
    | bl b => cases rx; exact SeqAt.EqAt.bool_bool a b
    | int b => obtain ⟨t, rfl⟩ := rx; exact SeqAt.EqAt.bool_int a b t
    | str b => obtain ⟨t, rfl⟩ := rx; exact SeqAt.EqAt.bool_str a b t
    | _ => exact absurd (show false = true from fx) Bool.false_ne_true
  | int a =>
    obtain ⟨t', rfl⟩ := ry
    cases x with
    | non => cases rx; exact SeqAt.EqAt.int_none a t'
    | bl b => cases rx; exact SeqAt.EqAt.int_bool a t' b
    | int b => obtain ⟨t, rfl⟩ := rx; exact SeqAt.EqAt.int_int a t' b t
    | str b => obtain ⟨t, rfl⟩ := rx; exact SeqAt.EqAt.int_str a t' b t
    | _ => exact absurd (show false = true from fx) Bool.false_ne_true
  | str a =>
    obtain ⟨t', rfl⟩ := ry
    cases x with
    | non => cases rx; exact SeqAt.EqAt.str_none a t'
    | bl b => cases rx; exact SeqAt.EqAt.str_bool a t' b
    | int b => obtain ⟨t, rfl⟩ := rx; exact SeqAt.EqAt.str_int a t' b t
    | str b => obtain ⟨t, rfl⟩ := rx; exact SeqAt.EqAt.str_str a t' b t
    | _ => exact absurd (show false = true from fx) Bool.false_ne_true
  | _ => exact absurd (show false = true from fy) Bool.false_ne_true

theorem call_len_seq : CallR X (.builtin "len") (fun xs H Q => ∃ p ys, xs = [.ref p] ∧ (SqL X.K H p ys ∨ SqT X.K H p ys) ∧ Q (.int ys.length) H) := by
  intro pins s σ H xs us Q I r h
  obtain ⟨p, ys, rfl, hq, q⟩ := h
  obtain ⟨u, rfl, rx⟩ := vals1 r
  cases rx
  have hn := line63
  rcases hq with hq | hq
  · obtain ⟨its, r', pl, hz⟩ := I.list hq
    have hlen := r'.length
    exact Calls.call_len_list pl.isList (by simp only [List.size_toArray] <;> omega) ⟨.int ys.length, H, I.tok _, ⟨s.toks + 1, by rw [List.size_toArray, hlen]⟩, q⟩
  · obtain ⟨its, r', pl, hz⟩ := I.tuple hq
    have hlen := r'.length
    exact len_tuple pl (by simp only [List.size_toArray] <;> omega) ⟨.int ys.length, H, I.tok _, ⟨s.toks + 1, by rw [List.size_toArray, hlen]⟩, q⟩
theorem call_len_str : CallR X (.builtin "len") (fun xs H Q => ∃ z, xs = [.str z] ∧ z.length ≤ sizeLine ∧ Q (.int z.length) H) := by
  intro pins s σ H xs us Q I r h
  obtain ⟨z, rfl, hz, q⟩ := h
  obtain ⟨u, rfl, t, rfl⟩ := vals1 r
  have hn := line63
  exact len_str (by omega) ⟨.int z.length, H, I.tok _, ⟨_, rfl⟩, q⟩
theorem CallR.or {f : Value} {r r' : List V → Hp → VK → Prop} (h : CallR X f r) (h' : CallR X f r') : CallR X f (fun xs H Q => r xs H Q ∨ r' xs H Q) := by
  intro pins s σ H xs us Q I rs q
  rcases q with q | q
  · exact h pins s σ H xs us Q I rs q
  · exact h' pins s σ H xs us Q I rs q
theorem call_tuple_of : CallR X (.type "tuple") (fun xs H Q => ∃ p ys, xs = [.ref p] ∧ ((SqL X.K H p ys ∧ ∀ l, H l = none → Q (.ref l) (upd H l (.tup ys))) ∨ (SqT X.K H p ys ∧ Q (.ref p) H))) := by
  intro pins s σ H xs us Q I r h
  obtain ⟨p, ys, rfl, h⟩ := h
  obtain ⟨u, rfl, rx⟩ := vals1 r
  cases rx
  rcases h with ⟨hq, q⟩ | ⟨hq, q⟩
  · obtain ⟨its, r', pl, hz⟩ := I.list hq
    have hlen := r'.length
    refine call_tuple_list pl.isList (fun h' kp => ?_) (by simp only [List.size_toArray] <;> omega)
    have I1 : Inv X pins σ H { s with heap := h' } := I.kept (t' := s.toks) kp
    have I2 : Inv X pins σ (upd H h'.objs.size (.tup ys)) { s with heap := h'.push { cls := .type "tuple", data := .seq its.toArray } } :=
      I1.laid (t' := s.toks) (fun b o e => Heap.get?_push_of_some _ e) (Nat.le_refl _) (show ObjOk X.prog X.w _ _ _ (.tup ys) from ⟨hz, its, r', IsTup.new _ _⟩)
    exact ⟨.ref h'.objs.size, _, I2, rfl, q _ (I1.hok.fresh (Nat.le_refl _))⟩
  · obtain ⟨its, r', pl, hz⟩ := I.tuple hq
    exact call_tuple_same pl ⟨.ref p, H, I, rfl, q⟩



def tyV (K : PySem.W.Frag) (T : String) (x : V) (H : Hp) : Prop := match x with
  | .str _ => T = "str"
  | .int _ => T = "int"
  | .ref p => (T = "list" ∧ ∃ xs, SqL K H p xs) ∨ (T = "tuple" ∧ ∃ o, K.lookup p = some o ∧ o.cls = .type "tuple" ∧ o.dict = none) ∨
      (T = "dict" ∧ ((∃ kvs, H p = some (.dK kvs)) ∨ ∃ kvs, H p = some (.dT kvs))) ∨ (T = "set" ∧ ∃ S n, H p = some (.set S n))
  | _ => False
theorem tyV_is {pins : List (Addr × Obj)} {σ : St} {H : Hp} {s : Shared} {T : String} {x : V} {v : Value} (I : Inv X pins σ H s) (r : RelV x v) (ty : tyV X.K T x H) :
    s.TypeIs v T ∧ ∀ a, v = .ref a → ∃ ob, s.heap.get? a = some ob ∧ ob.dict = none := by
  cases x with
  | str z =>
    obtain ⟨t, rfl⟩ := r
    cases (show T = "str" from ty)
    exact ⟨typeIs_str s z t, fun _ e => nomatch e⟩
  | int i =>
    obtain ⟨t, rfl⟩ := r
    cases (show T = "int" from ty)
    exact ⟨typeIs_int s i t, fun _ e => nomatch e⟩
  | ref p =>
    cases r
    rcases ty with ⟨rfl, xs, hq⟩ | ⟨rfl, o, hk, hc, hd⟩ | ⟨rfl, hk⟩ | ⟨rfl, S, n, hk⟩
    · obtain ⟨its, _, pl, _⟩ := I.list hq
      refine ⟨pl.isList.typeIs, fun a e => ?_⟩
      cases e
      obtain ⟨o, n, e, c, hd, _⟩ := pl
      exact ⟨o, e, hd⟩
    · refine ⟨⟨o, I.kIn p o hk, hc⟩, fun a e => ?_⟩
      cases e
      exact ⟨o, I.kIn _ o hk, hd⟩
    · have z : ∃ o, s.heap.get? p = some o ∧ o.ExactDict := by
        rcases hk with ⟨kvs, hk⟩ | ⟨kvs, hk⟩
        · obtain ⟨_, _, _, _, o, _, _, e, ex, _⟩ := I.hok p _ hk
          exact ⟨o, e, ex⟩
        · obtain ⟨_, _, _, _, o, _, _, e, ex, _⟩ := I.hok p _ hk
          exact ⟨o, e, ex⟩
      obtain ⟨o, e, ex⟩ := z
      refine ⟨⟨o, e, ex.1⟩, fun a e2 => ?_⟩
      cases e2
      exact ⟨o, e, ex.2.1⟩
    · obtain ⟨o, _, _, _, e, ex, _⟩ := I.hok p _ hk
      refine ⟨⟨o, e, ex.1⟩, fun a e2 => ?_⟩
      cases e2
      exact ⟨o, e, ex.2.1⟩
  | _ => exact False.elim ty
def tBM0 (K : PySem.W.Frag) (T : String) (r : V → List V → Hp → VK → Prop) (to : TE) : TE := fun σ H Q => to σ H fun x H1 => tyV K T x H1 ∧ r x [] H1 Q
def tBM (K : PySem.W.Frag) (T : String) (r : V → List V → Hp → VK → Prop) (to : TE) (t : TA) : TE := fun σ H Q => to σ H fun x H1 => tyV K T x H1 ∧ t σ H1 fun xs H2 => r x xs H2 Q
variable {o e : Expr} {es : List Expr} {to : TE} {t : TA} {name : Str} {apos cpos : Pos} {T id : String} {r : V → List V → Hp → VK → Prop}
theorem pe_bm0 (pa : PlainAttrs T) (slot : Slot T name id) (hty : typeOf (.builtin id) = pure (.type "method_descriptor")) (hm : MtR X id r) (ho : PE X o to)
    (hbase : attributeBase o name X.env (eval o X.env) = eval o X.env := by rfl) (hline : (apos.endLine == cpos.line) = true := by rfl) : PE X (.Call (.Attribute o name apos) [] [] cpos) (tBM0 X.K T r to) := by
  intro pins s σ H Q I h
  refine wpAny_Call_method0_late hbase hline (thn (ho pins s σ H _ I h) fun v s1 ⟨x, H1, I1, r1, ty, q1⟩ => ?_)
  obtain ⟨h1, h2⟩ := tyV_is I1 r1 ty
  exact ⟨T, id, pa, slot, hty, h1, h2, Calls.callWith_builtin rfl (PySem.evalArgs_none (hm pins s1 σ H1 x [] v [] Q I1 r1 .nil q1))⟩
theorem pe_bm (pa : PlainAttrs T) (slot : Slot T name id) (hty : typeOf (.builtin id) = pure (.type "method_descriptor")) (hm : MtR X id r) (ho : PE X o to) (ha : PA X (e :: es) t)
    (hbase : attributeBase o name X.env (eval o X.env) = eval o X.env := by rfl)
    (hfew : ((backTo cpos (starEach (e :: es) X.env)).all (fun x => !x.1) && (backToKw cpos (keywordEach [] X.env)).all (fun x => x.1.isSome)
      && decide ((e :: es).length + ([] : List Keyword).length + (if ([] : List Keyword).isEmpty then 0 else 1) < 30)) = true := by rfl)
    (hline : (apos.endLine == cpos.line) = true := by rfl) (hs : starEach (e :: es) X.env = (false, eval e X.env) :: starEach es X.env := by rfl) (hplain : (backTo cpos (starEach es X.env)).any (·.1) = false := by rfl) :
    PE X (.Call (.Attribute o name apos) (e :: es) [] cpos) (tBM X.K T r to t) := by
  intro pins s σ H Q I h
  refine wpAny_Call_method_late hbase hfew hline rfl (thn (ho pins s σ H _ I h) fun v s1 ⟨x, H1, I1, r1, ty, q1⟩ => ?_)
  obtain ⟨h1, h2⟩ := tyV_is I1 r1 ty
  refine ⟨T, id, pa, slot, hty, h1, h2, ?_⟩
  have hA := ha cpos pins s1 σ H1 _ I1 q1
  rw [hs] at hA ⊢
  refine Calls.callWith_builtin (by show (false || (backTo cpos (starEach es X.env)).any (·.1)) = false; rw [hplain] <;> rfl) (Calls.evalArgs_plain ?_)
  exact thn hA fun us s2 ⟨vs, H2, I2, r2, q2⟩ => hm pins s2 σ H2 x vs v us Q I2 r1 r2 q2

end
end L2

namespace L2
open PySem PySem.Spec PyProof.Rows

def MtM (X : Cx) (id : String) (r : V → List V → Hp → VK → Prop) : Prop :=
  ∀ (pins : List (Addr × Obj)) (s : Shared) (σ : St) (H : Hp) (x : V) (xs : List V) (v : Value) (us : List Value) (Q : VK), Inv X pins σ H s → RelV x v → Vals xs us → r x xs H Q →
    wpAny (model X.prog X.w) X.A (call (.builtin id) (v :: us)) (EP X pins σ Q) X.xe s


theorem Vals.one : ∀ {x : V} {us : List Value}, Vals [x] us → ∃ u, us = [u] ∧ RelV x u
  | _, _, .cons r .nil => ⟨_, rfl, r⟩
theorem Vals.zero : ∀ {us : List Value}, Vals [] us → us = []
  | _, .nil => rfl
theorem Vals.dropLast {xs : List V} {us : List Value} (h : Vals xs us) : Vals xs.dropLast us.dropLast := by
  induction h with
  | nil => exact .nil
  | cons r t ih =>
    cases t with
    | nil => exact .nil
    | cons q t' => exact .cons r ih
theorem Vals.reverse {xs : List V} {us : List Value} (h : Vals xs us) : Vals xs.reverse us.reverse := by
  induction h with
  | nil => exact .nil
  | cons r t ih => rw [List.reverse_cons, List.reverse_cons]; exact Vals.append ih (.cons r .nil)
theorem Vals.rep {xs : List V} {us : List Value} (h : Vals xs us) : ∀ k : Nat, Vals (List.replicate k xs).flatten (List.replicate k us).flatten
  | 0 => .nil
  | k + 1 => by
    rw [List.replicate_succ, List.replicate_succ, List.flatten_cons, List.flatten_cons]
    exact Vals.append h (Vals.rep h k)
theorem erase_last {α : Type} (l : List α) : l.eraseIdx (l.length - 1) = l.dropLast := by
  induction l with
  | nil => rfl
  | cons a r ih =>
    cases r with
    | nil => rfl
    | cons b r =>
      have e : (a :: b :: r).length - 1 = ((b :: r).length - 1) + 1 := by
        have h1 : (a :: b :: r).length = r.length + 2 := rfl
        have h2 : (b :: r).length = r.length + 1 := rfl
        omega
      rw [e, List.eraseIdx_cons_succ, ih]
      all_goals rfl
theorem foldl_rep (its : List Value) : ∀ (k : Nat) (acc : List Value),
    List.foldl (fun x1 x2 => x1 ++ x2) acc.toArray (List.replicate k its.toArray) = (acc ++ (List.replicate k its).flatten).toArray
  | 0, acc => by simp
  | k + 1, acc => by
    have e : acc.toArray ++ its.toArray = (acc ++ its).toArray := by simp
    have e2 : (acc ++ its) ++ (List.replicate k its).flatten = acc ++ (List.replicate (k + 1) its).flatten := by
      rw [List.replicate_succ, List.flatten_cons, List.append_assoc]
    rw [← e2, ← foldl_rep its k (acc ++ its), ← e, List.replicate_succ, List.foldl_cons]

section
variable {X : Cx} {pins : List (Addr × Obj)} {σ : St} {H : Hp} {s : Shared} {l b : Addr} {xs ys zs : List V}


theorem Inv.lset {its its' : List Value} {n : Nat} {f : Array Value → Array Value} {t' : Nat} (I : Inv X pins σ H s) (hH : H l = some (.lst xs))
    (e : s.heap.get? l = some { cls := .type "list", data := .seq its.toArray n }) (hf : f its.toArray = its'.toArray) (hv : Vals ys its') (hz : ys.length ≤ sizeLine) :
    Inv X pins σ (upd H l (.lst ys)) { s with heap := s.heap.update l (Obj.mapSeq f), toks := t' } := by
  have q := PySem.IsL.update e f
  rw [hf] at q
  refine I.write (x := l) (e := l) (by rw [hH]; exact trivial) (.inl rfl) (fun b' u hb hu => (Heap.get?_update_other s.heap (Obj.mapSeq f) (Ne.symm hb)).trans hu) ⟨_, q⟩ ?_
  exact ⟨hz, its', _, hv, q⟩
theorem Inv.lnew {its : List Value} {t' : Nat} (I : Inv X pins σ H s) (hv : Vals ys its) (hz : ys.length ≤ sizeLine) :
    Inv X pins σ (upd H s.heap.objs.size (.lst ys)) { s with heap := s.heap.push { cls := .type "list", data := .seq its.toArray }, toks := t' } :=
  I.laid (fun _ _ q => Heap.get?_push_of_some _ q) (Nat.le_refl _) ⟨hz, its, 0, hv, Heap.get?_push_size _ rfl⟩
theorem Inv.fresh (I : Inv X pins σ H s) : H s.heap.objs.size = none := I.hok.fresh (Nat.le_refl _)
theorem Inv.lstM (I : Inv X pins σ H s) (hH : H l = some (.lst xs)) : xs.length ≤ sizeLine ∧ ∃ (its : List Value) (n : Nat), Vals xs its ∧ xs.length = its.length ∧ s.heap.get? l = some { cls := .type "list", data := .seq its.toArray n } := by
  obtain ⟨z, its, n, r, e⟩ := I.hok l _ hH
  exact ⟨z, its, n, r, r.length, e⟩

theorem notLongL {n : Nat} (h : n ≤ sizeLine) : Builtin.List.listTooLong n = false := by
  unfold Builtin.List.listTooLong
  exact decide_eq_false (by omega)
end

section
variable {X : Cx}


def rAppend : V → List V → Hp → VK → Prop := fun x vs H Q => ∃ l xs y, x = .ref l ∧ vs = [y] ∧ H l = some (.lst xs) ∧ xs.length < sizeLine ∧ Q .non (upd H l (.lst (xs ++ [y])))
theorem mt_append : MtM X "list.append" rAppend := by
  intro pins s σ H x vs v us Q I rx rv h
  obtain ⟨l, xs, y, rfl, rfl, hH, hz, q⟩ := h
  cases rx
  obtain ⟨u, rfl, ru⟩ := rv.one
  obtain ⟨z, its, n, r, hl, e⟩ := I.lstM hH
  refine call_meets F.slot_list_append ⟨_, e, rfl⟩ F.entry_list_append (F.args_list_append_2 _ _) (PySem.list_append l its.toArray n u (by rw [List.size_toArray]; omega)) ⟨e, ?_⟩
  refine ⟨.non, _, I.lset (its' := its ++ [u]) hH e (by simp) (r.append (.cons ru .nil)) ?_, rfl, q⟩
  rw [List.length_append, List.length_singleton]
  omega

def rPop : V → List V → Hp → VK → Prop := fun x vs H Q => ∃ l xs y, x = .ref l ∧ vs = [] ∧ H l = some (.lst xs) ∧ xs[xs.length - 1]? = some y ∧ Q y (upd H l (.lst xs.dropLast))
theorem mt_pop : MtM X "list.pop" rPop := by
  intro pins s σ H x vs v us Q I rx rv h
  obtain ⟨l, xs, y, rfl, rfl, hH, hy, q⟩ := h
  cases rx
  have hus := rv.zero
  subst hus
  obtain ⟨z, its, n, r, hl, e⟩ := I.lstM hH
  obtain ⟨u, hu, ru⟩ := r.get hy
  have hy' : its.toArray[its.toArray.size - 1]? = some u := by
    show its.toArray[its.length - 1]? = some u
    rw [← Array.getElem?_toList, ← hl]
    exact hu
  refine call_meets F.slot_list_pop ⟨_, e, rfl⟩ F.entry_list_pop (F.args_list_pop_1 _) (MeetsSeq.list_pop_last l its.toArray n u hy' (by rw [List.size_toArray]; omega)) ⟨e, ?_⟩
  refine ⟨y, _, I.lset (its' := its.dropLast) hH e ?_ r.dropLast ?_, ru, q⟩
  · show its.toArray.eraseIdxIfInBounds (its.toArray.size - 1) = its.dropLast.toArray
    rw [List.size_toArray, List.eraseIdxIfInBounds_toArray, erase_last]
  · rw [List.length_dropLast]
    omega

def rCat : R2 := fun x y H Q => ∃ l b xs zs, x = .ref l ∧ y = .ref b ∧ H l = some (.lst xs) ∧ H b = some (.lst zs) ∧ xs.length + zs.length ≤ sizeLine ∧ ∀ p, H p = none → Q (.ref p) (upd H p (.lst (xs ++ zs)))
theorem op_cat : OpR X (binaryOp .Add) rCat := by
  intro pins s σ H x y v u Q I rx ry h
  obtain ⟨l, b, xs, zs, rfl, rfl, hH, hB, hz, q⟩ := h
  cases rx
  cases ry
  obtain ⟨z, its, n, r, hl, e⟩ := I.lstM hH
  obtain ⟨z2, its2, n2, r2, hl2, e2⟩ := I.lstM hB
  refine PySem.P.add_list e e2 ?_ (by rw [List.size_toArray, List.size_toArray]; omega)
  have ea : its.toArray ++ its2.toArray = (its ++ its2).toArray := by simp
  rw [ea]
  exact ⟨.ref _, _, I.lnew (t' := s.toks) (r.append r2) (by rw [List.length_append]; omega), rfl, q _ I.fresh⟩

def rRep : R2 := fun x y H Q => ∃ l k xs, x = .ref l ∧ y = .int k ∧ H l = some (.lst xs) ∧ -(2 ^ 63) ≤ k ∧ k < 2 ^ 63 ∧ xs.length * k.toNat ≤ sizeLine ∧
  ∀ p, H p = none → Q (.ref p) (upd H p (.lst (List.replicate k.toNat xs).flatten))
theorem len_rep {α : Type} (xs : List α) (k : Nat) : (List.replicate k xs).flatten.length = k * xs.length := by
  induction k with
  | zero => simp
  | succ k ih => rw [List.replicate_succ, List.flatten_cons, List.length_append, ih, Nat.succ_mul, Nat.add_comm]
theorem op_rep : OpR X (binaryOp .Mult) rRep := by
  intro pins s σ H x y v u Q I rx ry h
  obtain ⟨l, k, xs, rfl, rfl, hH, h1, h2, hz, q⟩ := h
  cases rx
  obtain ⟨t, rfl⟩ := ry
  obtain ⟨z, its, n, r, hl, e⟩ := I.lstM hH
  have hlen : its.toArray.size * k.toNat ≤ sizeLine := by rw [List.size_toArray, ← hl]; exact hz
  have hcap : ¬ its.toArray.size * k.toNat > (2 ^ 63 - 1) / 8 := by
    have : (sizeLine : Nat) ≤ (2 ^ 63 - 1) / 8 := by decide
    omega
  have hfit : ¬ (!Builtin.List.listFitsIndex k) = true := by
    rw [fitsIndex_both h1 h2]
    exact Bool.false_ne_true
  have hlong : ¬ Builtin.List.listTooLong (its.toArray.size * k.toNat) = true := by
    rw [notLongL hlen]
    exact Bool.false_ne_true
  have hnew : List.foldl (fun x1 x2 => x1 ++ x2) #[] (List.replicate (if its.toArray.isEmpty = true then 0 else k.toNat) its.toArray) = (List.replicate k.toNat its).flatten.toArray := by
    have f0 : ∀ m : Nat, List.foldl (fun x1 x2 => x1 ++ x2) #[] (List.replicate m its.toArray) = (List.replicate m its).flatten.toArray := fun m => by
      have := foldl_rep its m []
      rw [List.nil_append] at this
      exact this
    rw [f0]
    cases its with
    | nil => simp
    | cons a r' => rw [if_neg (by simp)]
  refine wpAny_binaryOp_repeat_ref (T := "list") (U := "int") (by decide) ⟨_, e, rfl⟩ (fun s' => typeIs_int s' k t) noFill_list_mul F.fills_int_mul F.slot_int_rmul repeat_list F.slot_int_index.lookup
    (call_meets F.slot_int_rmul (typeIs_int s k t) F.entry_int_rmul (F.args_int_rmul_2 _ _) (int___rmul___int_list k t l its.toArray n)
      ⟨e, rfl, ⟨_, e, rfl⟩, call_meets F.slot_list_mul ⟨_, e, rfl⟩ F.entry_list_mul (F.args_list_mul_2 _ _) (AutoListH.list___mul___list_int_3 l its.toArray n k t hfit hcap hlong) ⟨e, ?_⟩⟩)
  rw [hnew]
  exact ⟨.ref _, _, I.lnew (t' := s.toks) (r.rep k.toNat) (by rw [len_rep, Nat.mul_comm]; exact hz), rfl, q _ I.fresh⟩


end


section
variable {prog : Program} {w : World} {A : Around} {E : Value → Shared → Prop} {s : Shared}
end

section
variable {X : Cx}

end
end L2

namespace Att
open PySem PySem.W PySem.Calls PyProof.Rows


theorem ints_of_wellAll {P : Params} {h : Heap} : ∀ (ns : List Int) (vs : List Value), WellAll P h vs (ns.map WData.int) → IntsAre vs ns := by
  intro ns
  induction ns with
  | nil =>
    intro vs w
    rw [List.map_nil] at w
    cases w
    exact .nil
  | cons n ns ih =>
    intro vs w
    rw [List.map_cons] at w
    cases w with
    | cons a b =>
      cases a
      exact .cons _ _ (ih _ b)

theorem script_of {l : OpenLaw} {n : Nat} (hn : l.most = some n) {P : Params} {h : Heap} {args : List WData} {vals : List Value}
    (hpre : l.row.toRowW.claim.pre args = true) (hwl : WellAll P h vals args) :
    ∃ a vs ns, vals = [Value.ref a] ∧ args = [WData.list (ns.map WData.int)] ∧ h.get? a = some { cls := .type "list", data := .seq vs.toArray } ∧ IntsAre vs ns ∧ ns.length ≤ n := by
  have hsh : WShape.hasAll [] args [.list .int] = true := (pre_splitW hpre).1
  have hc : l.pre.holds [] { args := args } = true := (pre_splitW hpre).2
  obtain ⟨d, r, rfl, h1, h2⟩ := hasAllW_cons hsh
  obtain rfl := hasAllW_nil h2
  obtain ⟨xs, rfl, h3⟩ := hasW_list h1
  obtain ⟨ns, rfl⟩ := items_int h3
  have hlen : ns.length ≤ n := by
    unfold OpenLaw.pre at hc
    have h4 : (WTm.not (.lt (.lit (.int (n : Int))) (.len (.arg 0)))).holds [] { args := [.list (ns.map .int)] } = true := by
      have h4 := (holds_andW hc).1
      rw [hn] at h4
      exact h4
    have h5 := condW_of h4 (w_not (w_lt w_lit (w_len_list (w_arg rfl))))
    rw [List.length_map] at h5
    refine Nat.le_of_not_lt fun q => ?_
    have q' : (n : Int) < ((ns.length : Nat) : Int) := by omega
    first
      | (rw [decide_eq_true q'] at h5; exact absurd h5 (by decide))
      | (simp at h5; omega)
  cases hwl with
  | cons w1 w2 =>
    cases w2
    cases w1 with
    | list ho hall => exact ⟨_, _, ns, rfl, rfl, ho, ints_of_wellAll ns _ hall, hlen⟩

theorem post_true (l : OpenLaw) (args : List WData) : l.row.toRowW.claim.post args (.bool true) args = true :=
  postW_of (r := l.row.toRowW) (X := (true == true))
    (show WShape.has [] (.bool true) .bool = true by first | rfl | decide | simp [WShape.has, WShape.arms, WShape.armsAll])
    (show (WTm.eq .res (.lit (.bool true))).value [] { args := args, res := some (.bool true), after := args } = some (.bool (true == true)) from w_eq_bool (w_res rfl) w_lit) rfl


theorem attach_call {l : OpenLaw} {n : Nat} {q : Program} {loose : List Str} {XP : (Str → Option Value) → Heap → Prop} {YP : World → Heap → Prop} {d : DefRec}
    (hn : l.most = some n) (hdf : d.params.defaults = [])
    (call : ∀ (w : World) (s₀ s₁ : Shared) (mg mb : Str → Option Value) (fa : Addr) (o : Obj) (pm cd doc : Value) (a : Addr) (vs : List Value) (ns : List Int),
      Ground q loose [] XP w s₀ mg mb s₁.heap → YP w s₁.heap →
      s₁.heap.get? fa = some o → o.data = .func (docDef d.name d.params d.body d.scope pm cd doc) → s₁.heap.CodeRec cd d.name → mg d.name = some (.ref fa) →
      s₁.heap.get? a = some { cls := .type "list", data := .seq vs.toArray } → IntsAre vs ns → ns.length ≤ n → s₁.gens = #[] →
      codeAny (model l.prog w) callerA (.call (.ref fa) ⟨[.ref a], []⟩) (fun r s' => r = .ok (.ret (.bool true)) ∧ OldK s₁.heap s'.heap ∧ s'.os = s₁.os ∧ AllBare s'.gens) s₁) :
    WalkO q loose XP YP l.row.toRowW d [] (fun f vs => PySem.call f vs) := by
  intro w s₀ s₁ mg mb G Y fa o pm cd doc dV kV ho hd hcd hD hmg hg args vals as hpre hlay hrd hwl hlo
  obtain rfl : dV = .none := Dflts.none hD hdf
  obtain rfl : kV = .none := Dflts.noKw hD
  obtain ⟨a, vs, ns, rfl, rfl, hobj, hints, hlen⟩ := script_of hn hpre hwl
  refine enter_call (codeAny_mono (call w s₀ s₁ mg mb fa o pm cd doc a vs ns G Y ho (fd_plain hd) hcd hmg hobj hints hlen hg) fun r s' hq => ?_)
  obtain ⟨rfl, h2, h3, h4⟩ := hq
  exact ⟨.inl ⟨.bool true, .bool true, [], rfl, fun _ => rfl, .bool true, post_true l _, fun _ => ⟨List.Pairwise.nil, fun _ hm => (nomatch hm)⟩⟩, h2, h3, h4⟩


section
variable {prog : Program} {w : World} {A : Around} {E : Value → Shared → Prop} {s : Shared} {K : Frag}


end
end Att

namespace L2
open PySem PySem.Spec PyProof.Rows

theorem vals_ints : ∀ {vs : List Value} {ns : List Int}, IntsAre vs ns → Vals (ns.map V.int) vs
  | _, _, .nil => .nil
  | _, _, .cons n t h => .cons ⟨t, rfl⟩ (vals_ints h)


def Only (H : Hp) : Prop := ∀ b, H b = none ∨ ∃ o xs, H b = some (.frz o (.lst xs))


theorem law_call {P : Program} {w : World} {K : PySem.W.Frag} {mg mb : Str → Option Value} {CX : CXT} {k : Nat} {fa a : Addr} {fd : FuncData} {x : Str} {sp : Sp} {s₁ : Shared} {vs : List Value} {ns : List Int}
    (KX : K.In s₁.heap) (hns : s₁.heap.Ns mainGlobals mg) (hb : s₁.heap.Ns builtinsNs mb) (hbb : ∀ x : Str, x ≠ "__name__" → mb x = bootBuiltins x) (hlim : s₁.heap.NoLimit) (hg : s₁.gens = #[])
    (ha : s₁.heap.get? a = some { cls := .type "list", data := .seq vs.toArray }) (hi : IntsAre vs ns) (hl : ns.length ≤ sizeLine) (hr : Room k callerA)
    (F : ∀ base : Heap, K.In base → base.Ns mainGlobals mg → FnOk P w K mg base CX k fa fd [x] sp) (hbind : ∀ (s : Shared) (u : Value), BindsTo s fd ⟨[u], []⟩ [(x, u)])
    (hsp : ∀ H : Hp, Only H → SqL K H a (ns.map V.int) → sp [.ref a] H (fun v _ => v = .bl true) fun _ _ _ => False)
    (hCX : ∀ H e s', CX [] H s₁ (fun _ _ _ => False) e s' → False) :
    codeAny (model P w) callerA (.call (.ref fa) ⟨[.ref a], []⟩) (fun r s' => r = .ok (.ret (.bool true)) ∧ OldK s₁.heap s'.heap ∧ s'.os = s₁.os ∧ AllBare s'.gens) s₁ := by
  have rv := vals_ints hi
  have lenV := hi.length
  -- from an abstract heap in which nothing but the script may be tracked
  have core : ∀ H : Hp, Only H → SqL K H a (ns.map V.int) → HOk P w H s₁.heap → (∀ b, H b ≠ none → b = a) → (H a ≠ none → K.lookup a = none) →
      codeAny (model P w) callerA (.call (.ref fa) ⟨[.ref a], []⟩) (fun r s' => r = .ok (.ret (.bool true)) ∧ OldK s₁.heap s'.heap ∧ s'.os = s₁.os ∧ AllBare s'.gens) s₁ := by
    intro H hO hS hok hA hK
    have base_of : ∀ {b : Addr} {o : Obj}, s₁.heap.get? b = some o → H b = none → (hidT s₁.heap H).get? b = some o := fun e n => hidT_get e n
    have noA : ∀ {b : Addr} {o : Obj} {es : Array DictEntry} {ep : Nat}, s₁.heap.get? b = some o → o.data = .dict es ep → H b = none := fun {b o es ep} e d => by
      cases q : H b with
      | none => rfl
      | some u =>
        have e' : b = a := hA b (by rw [q]; simp)
        subst e'
        rw [ha] at e; cases e
        have d' : Data.seq vs.toArray _ = Data.dict es ep := d
        cases d'
    have nsK : ∀ {b : Addr} {m : Str → Option Value}, s₁.heap.Ns b m → (hidT s₁.heap H).Ns b m := fun {b m} ⟨o, es, ep, e, d, r⟩ => ⟨o, es, ep, base_of e (noA e d), d, r⟩
    have hKb : K.In (hidT s₁.heap H) := fun b o e => base_of (KX b o e) (by
      cases q : H b with
      | none => rfl
      | some u =>
        have e' : b = a := hA b (by rw [q]; simp)
        subst e'
        rw [hK (by rw [q]; simp)] at e; cases e)
    have hM : Mod K mg (hidT s₁.heap H) := ⟨hKb, nsK hns, ⟨mb, nsK hb, hbb⟩, let ⟨mc, h1, h2⟩ := hlim; ⟨mc, nsK h1, h2⟩⟩
    have e0 : Env0 P w K mg (hidT s₁.heap H) callerA [] s₁ H := ⟨rfl, hM, fun b o e => of_hidT e, Nat.le_of_eq (hidT_size _ _), trivial, fun b hb => absurd (show b ∈ ([] : List Addr) from hb) (by simp), hok, .of_eq hg⟩
    refine codeAny_mono ((F _ hKb (nsK hns)).run callerA [] s₁ H ⟨[.ref a], []⟩ [.ref a] [.ref a] _ _ hr e0 (hbind s₁ (.ref a)) (.cons rfl .nil) (hsp H hO hS)) fun r s' h => ?_
    cases r with
    | error e => exact (hCX H e s' h).elim
    | ok fl =>
      cases fl with
      | next => exact False.elim h
      | brk => exact False.elim h
      | cont => exact False.elim h
      | ret u =>
        obtain ⟨v, H', os, bare, un, hok', r', q⟩ := h
        have q' : v = .bl true := q
        subst q'
        obtain rfl : u = Value.bool true := r'
        refine ⟨rfl, OldK.of_keep fun b o e => ?_, os, bare⟩
        cases q : H b with
        | none => exact un.keep b o e q (by intro z; exact absurd (show b ∈ ([] : List Addr) from z) (by simp)) (by simp)
        | some u =>
          rcases hO b with z | ⟨ob, xs, z⟩
          · rw [q] at z; cases z
          · have z2 := un.frzs b ob _ z
            obtain ⟨e1, _⟩ := hok b _ z
            obtain ⟨e2, _⟩ := hok' b _ z2
            rw [e] at e1; cases e1
            exact e2
  cases hk : K.lookup a with
  | some o =>
    -- the script is one of the module's own objects
    have e := KX a o hk
    rw [ha] at e
    cases e
    refine core (fun _ => none) (fun _ => .inl rfl) (.inr ⟨_, vs.toArray, _, hk, rfl, rfl, rfl, by rw [List.size_toArray, lenV]; exact hl, by simpa using rv⟩) ⟨(fun b u z => by have z' : (none : Option HO) = some u := z; cases z'), (fun u z => nomatch (show (none : Option HO) = some u from z)), let ⟨o, _, _, e, _⟩ := hns; ⟨mainGlobals, o, by decide, e⟩⟩ (fun b z => absurd rfl z) fun z => absurd rfl z
  | none =>
    refine core (fun b => if b = a then some (.frz { cls := .type "list", data := .seq vs.toArray } (.lst (ns.map V.int))) else none) (fun b => ?_) (.inl (.inr ⟨{ cls := .type "list", data := .seq vs.toArray }, if_pos rfl⟩)) ⟨fun b u z => ?_, (fun u z => by
      by_cases hb : sysModules = a
      · have z' := (if_pos hb).symm.trans z
        cases z'; exact ⟨_, _, rfl⟩
      · have z' := (if_neg hb).symm.trans z
        cases z'), let ⟨o, _, _, e, _⟩ := hns; ⟨mainGlobals, o, by decide, e⟩⟩ (fun b z => ?_) fun _ => hk
    · by_cases hb : b = a
      · exact .inr ⟨_, _, if_pos hb⟩
      · exact .inl (if_neg hb)
    · by_cases hb : b = a
      · have z' := (if_pos hb).symm.trans z
        cases z'
        subst hb
        exact ⟨ha, by rw [List.length_map]; exact hl, vs, _, rv, ha⟩
      · have z' := (if_neg hb).symm.trans z
        cases z'
    · by_cases hb : b = a
      · exact hb
      · exact absurd (if_neg hb) z
end L2

namespace L2
open PySem PySem.Spec PyProof.Rows

theorem walk_of {l : PySem.W.OpenLaw} {n k : Nat} {q : Program} {loose : List Str} {XP : (Str → Option Value) → Heap → Prop} {YP : World → Heap → Prop} {d : DefRec} {K : Params → PySem.W.Frag} {CX : World → CXT} {sp : World → Sp} {x : Str}
    (hn : l.most = some n) (hn2 : n ≤ sizeLine) (hdf : d.params.defaults = []) (hr : Room k callerA)
    (hY : ∀ (w : World) (h : Heap), YP w h → (K w.params).In h)
    (F : ∀ (w : World) (mg : Str → Option Value) (fa : Addr) (h : Heap), (K w.params).In h → h.Ns mainGlobals mg → mg d.name = some (.ref fa) →
      ∃ fd : FuncData, (∀ (s : Shared) (u : Value), BindsTo s fd ⟨[u], []⟩ [(x, u)]) ∧
        ∀ base : Heap, (K w.params).In base → base.Ns mainGlobals mg → FnOk l.prog w (K w.params) mg base (CX w) k fa fd [x] (sp w))
    (hsp : ∀ (w : World) (H : Hp) (a : Addr) (ns : List Int), ns.length ≤ n → Only H → SqL (K w.params) H a (ns.map V.int) → sp w [.ref a] H (fun v _ => v = .bl true) fun _ _ _ => False)
    (hCX : ∀ (w : World) (H : Hp) (s : Shared) (e : Value) (s' : Shared), CX w [] H s (fun _ _ _ => False) e s' → False) :
    PySem.W.WalkO q loose XP YP l.row.toRowW d [] (fun f vs => PySem.call f vs) := by
  refine Att.attach_call hn hdf fun w s₀ s₁ mg mb fa o pm cd doc a vs ns G Y ho hd hcd hmg hobj hints hlen hg => ?_
  have KX := hY w _ Y
  obtain ⟨fd, hb, hF⟩ := F w mg fa _ KX G.T.g hmg
  exact law_call KX G.T.g G.T.b G.T.builtins G.T.nolimit hg hobj hints (Nat.le_trans hlen hn2) hr hF hb (fun H hO hS => hsp w H a ns hlen hO hS) fun H e s' => hCX w H s₁ e s'

end L2




namespace L2
open PySem PySem.Spec PyProof.Rows



def defArgs (s : Stmt) : Arguments := match s with
  | .FunctionDef _ a _ _ _ _ _ _ _ _ => a
  | _ => { posonlyargs := [], args := [], vararg := none, kwonlyargs := [], kw_defaults := [], kwarg := none, defaults := [] }
def defBody (s : Stmt) : List Stmt := match s with
  | .FunctionDef _ _ b _ _ _ _ _ _ _ => b
  | _ => []
def defScope (s : Stmt) : Scope := match s with
  | .FunctionDef _ _ _ _ _ _ sc _ _ _ => sc
  | _ => { kind := .function, names := [], isGenerator := false, isCoroutine := false }


abbrev CX0 : CXT := fun _ _ _ _ _ _ => False
abbrev E0 : XK := fun _ _ _ => False
theorem pass0 {X : Cx} : Passes CX0 X E0 := fun _ _ _ _ _ _ _ h => h.elim


structure Fun (K : PySem.W.Frag) (x qual : Str) (st : Stmt) (f : Addr) (fd : FuncData) : Prop where
  ex : ∃ (oc : Value) (od : Option Addr) (kV doc pm : Value) (an : Option Addr) (cdv ct : Value) (osl : Array (Option Value)),
    fd = PySem.W.fnOf x qual (defArgs st) (defBody st) (defScope st) .none kV doc pm an cdv ct ∧ K.lookup f = some ⟨oc, od, .func fd, osl⟩ ∧ PySem.W.codeIn K cdv qual = true
  kp : PySem.W.keepIn K (.ref f) = true
section
variable {P : Program} {w : World} {K : PySem.W.Frag} {mg : Str → Option Value} {base : Heap}

theorem Fun.ok {x qual : Str} {st : Stmt} {f : Addr} {fd : FuncData} {N ps : List Str} {k : Nat} {sp : Sp} (F : Fun K x qual st f fd) (S : FnScope N ps (defScope st)) (len : ∀ vs H Q E, sp vs H Q E → vs.length = ps.length)
    (hbody : ∀ (cdv : Value) (A : Around) (outer : List Env) (s : Shared) (H : Hp) (vs : List V) (Q : VK) (E : XK), Room k (A.deeper (envOfC qual (defScope st) s.heap.objs.size f cdv)) → sp vs H Q E →
      ∃ t, PSs (cxOf CX0 P w K mg base N qual (defScope st) f cdv A outer s H E).nox (defBody st) t ∧ t { nx := fun _ H' => Q .non H', rt := Q } (start N vs) H) : FnOk P w K mg base CX0 (k + 1) f fd ps sp := by
  obtain ⟨oc, od, kV, doc, pm, an, cdv, ct, osl, rfl, lk, hcd⟩ := F.ex
  refine fn_of lk hcd S len fun A outer s H vs Q E hr hsp => ?_
  obtain ⟨t, h, q⟩ := hbody cdv A outer s H vs Q E hr hsp
  exact ⟨t, h.nox, q⟩

theorem Fun.binds {x qual : Str} {st : Stmt} {f : Addr} {fd : FuncData} {ps : List Str} (F : Fun K x qual st f fd)
    (h : ∀ (kV doc pm : Value) (an : Option Addr) (cdv ct : Value) (us : List Value), us.length = ps.length → bindArgs (PySem.W.fnOf x qual (defArgs st) (defBody st) (defScope st) .none kV doc pm an cdv ct) ⟨us, []⟩ = pure (ps.zip us)) : Binds K fd ps [] := by
  obtain ⟨oc, od, kV, doc, pm, an, cdv, ct, osl, rfl, lk, hcd⟩ := F.ex
  exact .all (h kV doc pm an cdv ct)
theorem fun_mk {x qual : Str} {st : Stmt} {f : Addr} {oc : Value} {od an : Option Addr} {osl : Array (Option Value)} {kV doc pm cdv ct : Value} (l : K.lookup f = some ⟨oc, od, .func (PySem.W.fnOf x qual (defArgs st) (defBody st) (defScope st) .none kV doc pm an cdv ct), osl⟩)
    (c : PySem.W.codeIn K cdv qual = true) (k : PySem.W.keepIn K (.ref f) = true) : Fun K x qual st f (PySem.W.fnOf x qual (defArgs st) (defBody st) (defScope st) .none kV doc pm an cdv ct) := ⟨⟨oc, od, kV, doc, pm, an, cdv, ct, osl, rfl, l, c⟩, k⟩
end
theorem small1000 {n : Nat} (h : n ≤ 1000) : n < sizeLine := Nat.lt_of_le_of_lt h (by decide)


section
variable {X : Cx}
theorem pv (i : Nat) {x : Str} {pos : Pos} (hN : X.N[i]? = some x := by rfl) (hv : Vis X.env.scope x := by first | exact Or.inl rfl | exact Or.inr (Or.inl rfl) | exact Or.inr (Or.inr rfl)) (hd : (x == ("__debug__" : Str)) = false := by decide)
    (hcd : (x == ("__classdict__" : Str)) = false := by decide) : PE X (.Name x pos) (tVar i) := pe_var hN hv hd hcd
end


theorem iteF {A B : Prop} (h : B) : if false = true then A else B := by
  rw [if_neg Bool.false_ne_true]
  exact h
theorem iteT {A B : Prop} (h : A) : if true = true then A else B := by
  rw [if_pos rfl]
  exact h
def Same (H H' : Hp) : Prop := ∀ b o, H b = some o → H' b = some o
theorem Same.refl (H : Hp) : Same H H := fun _ _ h => h
theorem Same.trans {H H1 H2 : Hp} (a : Same H H1) (b : Same H1 H2) : Same H H2 := fun c o h => b c o (a c o h)
theorem Same.free {H H' : Hp} (e : Same H H') {l : Addr} (h : H' l = Option.none) : H l = Option.none := by
  cases q : H l with
  | none => rfl
  | some o =>
    rw [e l o q] at h
    cases h
theorem Same.seq {K : PySem.W.Frag} {H H' : Hp} {a : Addr} {xs : List V} (e : Same H H') (h : SqL K H a xs) : SqL K H' a xs := by
  rcases h with (h | ⟨o, h⟩) | h
  · exact .inl (.inl (e _ _ h))
  · exact .inl (.inr ⟨o, e _ _ h⟩)
  · exact .inr h

end L2

set_option maxHeartbeats 8000000

namespace L2
open PySem PySem.Spec PyProof.Rows



theorem clos_go {env : Env} : ∀ (ns : List (Str × NameKind)) (acc : List (Str × Addr)), (∀ y ∈ ns, y.2 = .free → ∃ c, env.cells.lookup y.1 = some c) → (∀ x c, acc.lookup x = some c → env.cells.lookup x = some c) →
    ∃ cl, (forIn ns acc fun (y : Str × NameKind) cs => (if (y.2 == .free) = true then (do let c ← cellOf env y.1; pure (ForInStep.yield ((y.1, c) :: cs))) else pure (ForInStep.yield cs) : Sem (ForInStep (List (Str × Addr))))) = pure cl ∧
      (∀ x c, cl.lookup x = some c → env.cells.lookup x = some c) ∧ (∀ y ∈ ns, y.2 = .free → ∃ c, cl.lookup y.1 = some c) ∧ ∀ x c, acc.lookup x = some c → ∃ c', cl.lookup x = some c'
  | [], acc, _, ha => ⟨acc, rfl, ha, (fun _ h => nomatch h), fun x c e => ⟨c, e⟩⟩
  | (n, k) :: r, acc, hf, ha => by
    rw [List.forIn_cons]
    by_cases hk : k = .free
    · subst hk
      obtain ⟨c, hc⟩ := hf (n, .free) List.mem_cons_self rfl
      have hcell : cellOf env n = pure c := by unfold cellOf; rw [hc]
      have ha' : ∀ x c', List.lookup x ((n, c) :: acc) = some c' → env.cells.lookup x = some c' := fun x c' e => by
        rw [List.lookup_cons] at e
        cases hx : x == n with
        | true => rw [hx] at e; simp at e; subst e; rw [eq_of_beq hx]; exact hc
        | false => rw [hx] at e; exact ha x c' e
      obtain ⟨cl, e1, e2, e3, e4⟩ := clos_go r ((n, c) :: acc) (fun y hy => hf y (List.mem_cons_of_mem _ hy)) ha'
      refine ⟨cl, ?_, e2, fun y hy hyf => ?_, fun x c' e => ?_⟩
      · simp only [beq_self_eq_true, if_true, hcell, pure_bind]
        exact e1
      · rcases List.mem_cons.mp hy with rfl | hy
        · exact e4 n c (by simp [List.lookup_cons])
        · exact e3 y hy hyf
      · cases hx : x == n with
        | true => rw [eq_of_beq hx]; exact e4 n c (by simp [List.lookup_cons])
        | false => exact e4 x c' (by rw [List.lookup_cons, hx]; exact e)
    · have hb : (k == NameKind.free) = false := by simpa using hk
      obtain ⟨cl, e1, e2, e3, e4⟩ := clos_go r acc (fun y hy => hf y (List.mem_cons_of_mem _ hy)) ha
      refine ⟨cl, ?_, e2, fun y hy hyf => ?_, e4⟩
      · simp only [hb, Bool.false_eq_true, if_false, pure_bind]
        exact e1
      · rcases List.mem_cons.mp hy with rfl | hy
        · exact absurd hyf hk
        · exact e3 y hy hyf
theorem clos_ex {scope : Scope} {env : Env} (h : ∀ y ∈ scope.names, y.2 = .free → ∃ c, env.cells.lookup y.1 = some c) :
    ∃ cl, closureFor scope env = pure cl ∧ (∀ x c, cl.lookup x = some c → env.cells.lookup x = some c) ∧ ∀ y ∈ scope.names, y.2 = .free → ∃ c, cl.lookup y.1 = some c := by
  obtain ⟨cl, e1, e2, e3, _⟩ := clos_go (env := env) scope.names [] h (fun x c e => nomatch e)
  refine ⟨cl, ?_, e2, e3⟩
  have e : closureFor scope env = (forIn scope.names ([] : List (Str × Addr)) fun (y : Str × NameKind) cs => (if (y.2 == .free) = true then (do let c ← cellOf env y.1; pure (ForInStep.yield ((y.1, c) :: cs))) else pure (ForInStep.yield cs) : Sem (ForInStep (List (Str × Addr))))) >>= pure := by
    rfl
  rw [e, e1, pure_bind]


def cxIn (X : Cx) (own : List Str) (sel : List Nat) (scope : Scope) (cl : List (Str × Addr)) (C : Addr) (s2 : Shared) (H2 : Hp) (fp : List Addr) : Cx where
  prog := X.prog
  w := X.w
  K := X.K
  mg := X.mg
  base := X.base
  A := X.A
  N := own ++ sel.map fun j => X.N.getD j Str.empty
  s₀ := s2
  H₀ := H2
  env := compEnvC scope cl C X.env
  outer := X.stack
  stack := X.stack
  ex := fp
  fn := fun _ => false
  calm := X.calm
  pn := []
  xe := fun _ _ => False
def inSt (own : List Str) (sel : List Nat) (σ : St) : St := own.map (fun _ => none) ++ sel.map fun j => σ.getD j none


structure CompOk (osc : Scope) (N : List Str) (own : List Str) (sel : List Nat) (scope : Scope) : Prop where
  kind : scope.kind = .function
  cell : ∀ y ∈ scope.names, y.2 ≠ .cell
  names : ∀ y ∈ scope.names, y.2 = .local → scope.names.lookup y.1 = some .local
  free : ∀ y ∈ scope.names, y.2 = .free → osc.names.lookup y.1 = some .cell ∨ osc.names.lookup y.1 = some .free
  seln : ∀ j ∈ sel, j < N.length ∧ scope.names.lookup (N.getD j Str.empty) = some .free ∧ (osc.names.lookup (N.getD j Str.empty) = some .cell ∨ osc.names.lookup (N.getD j Str.empty) = some .free)


def PIf (Y : Cx) (ifs : List Expr) (t : TT) : Prop :=
  ∀ (pins : List (Addr × Obj)) (s : Shared) (σ : St) (H : Hp) (Q : Bool → Hp → Prop), Inv Y pins σ H s → t σ H Q →
    wpAny (model Y.prog Y.w) Y.A (forIn ifs true fun c r => if r = true then do let ok ← isTrue c Y.env (eval c Y.env); pure (ForInStep.yield ok) else pure (ForInStep.yield r)) (TP Y pins σ Q) Y.xe s
def tYes : TT := fun _ H Q => Q true H
theorem pif_nil {Y : Cx} : PIf Y [] tYes := fun pins s σ H Q I h => wpAny_tests_nil ⟨H, I, h⟩
def GK (n : Nat) (g : TG) : Prop := ∀ v σ H Q, g v σ H Q → g v σ H fun σ' H' => Q σ' H' ∧ σ'.length = σ.length ∧ ∀ i, n ≤ i → σ'[i]? = σ[i]?
def GKs (n : Nat) (g : TGs) : Prop := ∀ vs σ H Q, g vs σ H Q → g vs σ H fun σ' H' => Q σ' H' ∧ σ'.length = σ.length ∧ ∀ i, n ≤ i → σ'[i]? = σ[i]?
theorem gk_name {n i : Nat} (h : i < n) : GK n (gName i) := fun v σ H Q q => ⟨q, by simp, fun j hj => by rw [List.getElem?_set_ne (by omega)]⟩
theorem gk_nil {n : Nat} : GKs n gNil := fun vs σ H Q q => ⟨q.1, q.2, rfl, fun _ _ => rfl⟩

def GM (g : TG) : Prop := ∀ v σ H Q Q', (∀ σ' H', Q σ' H' → Q' σ' H') → g v σ H Q → g v σ H Q'
def GMs (g : TGs) : Prop := ∀ vs σ H Q Q', (∀ σ' H', Q σ' H' → Q' σ' H') → g vs σ H Q → g vs σ H Q'
theorem gm_name {i : Nat} : GM (gName i) := fun _ _ _ _ _ h q => h _ _ q
theorem gm_nil : GMs gNil := fun _ _ _ _ _ h q => ⟨q.1, h _ _ q.2⟩
theorem gm_cons {t : TG} {u : TGs} (h1 : GM t) (h2 : GMs u) : GMs (gCons t u) := fun vs σ H Q Q' h ⟨v, r, e, q⟩ => ⟨v, r, e, h1 _ _ _ _ _ (fun σ' H' z => h2 _ _ _ _ _ h z) q⟩
theorem gk_cons {n : Nat} {t : TG} {u : TGs} (m1 : GM t) (m2 : GMs u) (h1 : GK n t) (h2 : GKs n u) : GKs n (gCons t u) := fun vs σ H Q ⟨v, r, e, q⟩ => by
  refine ⟨v, r, e, m1 _ _ _ _ _ (fun σ' H' z => ?_) (h1 _ _ _ _ q)⟩
  obtain ⟨q', l, k⟩ := z
  exact m2 _ _ _ _ _ (fun σ2 H2 ⟨a, b, c⟩ => ⟨a, b.trans l, fun i hi => (c i hi).trans (k i hi)⟩) (h2 _ _ _ _ q')
theorem gk_tup {K : PySem.W.Frag} {n m : Nat} {t : TGs} (h : GKs n t) : GK n (gTup K m t) := fun v σ H Q ⟨a, xs, e1, e2, e3, q⟩ => ⟨a, xs, e1, e2, e3, h _ _ _ _ q⟩

def tComp (own : List Str) (sel : List Nat) (wi : TI) (g : TG) (tt : TT) (te : TE) : TE := fun σ H Q => wi σ H fun J H1 => ∀ D, H1 D = none →
  ∃ W : Nat → Nat → Hp → Prop, (∃ m, W 0 m (upd H1 D (.lst []))) ∧ ∀ i m H2, W i m H2 →
    (J.stop i H2 ∧ Q (.ref D) H2) ∨ (J.go i H2 ∧ ∀ x H3, J.yld i H2 x H3 → g x (inSt own sel σ) H3 fun σ4 H4 => tt σ4 H4 fun b H5 =>
      if b = true then te σ4 H5 fun v H6 => ∃ ys, H6 D = some (.lst ys) ∧ ys.length < sizeLine ∧ ∃ m', m' < m ∧ W (i + 1) m' (upd H6 D (.lst (ys ++ [v])))
      else ∃ m', m' < m ∧ W (i + 1) m' H5)

section
variable {prog : Program} {w : World} {A : Around} {R : Result → Shared → Prop} {s : Shared}

theorem comp_turns {elt target iter : Expr} {ifs : List Expr} {scope : Scope} {pos : Pos} {it acc : Value} {env : Env} (I : Nat → Shared → Prop)
    (turn : ∀ n s, I n s → wpAny (model prog w) A (pyNext it) (fun r s1 => match r with
      | none => R (.ok .next) s1
      | some v => wpAny (model prog w) A (letOwnedTupleGo target it v) (fun _ s0 => wpAny (model prog w) A (assign target env v) (fun _ s2 =>
          wpAny (model prog w) A (forIn ifs true fun c r => if r = true then do let ok ← isTrue c env (eval c env); pure (ForInStep.yield ok) else pure (ForInStep.yield r)) (fun ok s3 =>
            if ok = true then wpAny (model prog w) A (eval elt env) (fun x s4 => wpAny (model prog w) A (call (.builtin "list.append") [acc, x]) (fun _ s5 => ∃ m, m < n ∧ I m s5) (fun _ _ => False) s4) (fun _ _ => False) s3
            else ∃ m, m < n ∧ I m s3) (fun _ _ => False) s2) (fun _ _ => False) s0) (fun _ _ => False) s1) (fun _ _ => False) s)
    (n : Nat) (h : I n s) :
    codeAny (model prog w) A (.compLoop (.ListComp elt [⟨target, iter, ifs, 0⟩] scope pos) 0 it acc env) R s := by
  refine codeAny_loop rfl I (fun n s hI => ?_) n h
  show wpAny _ A ((compTurn (.ListComp elt [⟨target, iter, ifs, 0⟩] scope pos) 0 it acc env).onRaise (fun x => do noteFrame x env; theTreesLotGoes x)) _ _ s
  refine wpAny_noted ?_
  rw [compTurn_list]
  refine wpAny_bind (wpAny_standAt (wpAny_bind (wpAny_mono (turn n s hI) (fun r s1 h1 => ?_) fun _ _ z => z.elim)))
  cases r with
  | none => exact wpAny_pure h1
  | some v =>
    refine wpAny_bind (wpAny_mono h1 (fun _ s0 h0 => wpAny_bind (wpAny_mono h0 (fun _ s2 h2 => wpAny_bind (wpAny_mono h2 (fun ok s3 h3 => ?_) fun _ _ z => z.elim)) fun _ _ z => z.elim)) fun _ _ z => z.elim)
    cases ok with
    | false => exact wpAny_pure ⟨rfl, h3⟩
    | true =>
      exact wpAny_bind (wpAny_bind (wpAny_mono h3 (fun x s4 h4 => wpAny_bind (wpAny_mono h4 (fun _ s5 h5 => wpAny_pure (wpAny_pure ⟨rfl, h5⟩)) fun _ _ z => z.elim)) fun _ _ z => z.elim))
end

section
variable {X : Cx}
theorem relabel_lookup {env : Env} : ∀ {names : List (Str × NameKind)} {x : Str} {k : NameKind},
    (names.map fun (n, k) => if (k == NameKind.free && env.scope.kind == .function && env.kindOf n == some .cell) then (n, NameKind.cell) else (n, k)).lookup x = some k →
    names.lookup x = some k ∨ names.lookup x = some .free
  | [], _, _, h => by simp at h
  | (n, k') :: r, x, k, h => by
    have ih := @relabel_lookup env r x k
    have h' : List.lookup x ((if (k' == NameKind.free && env.scope.kind == .function && env.kindOf n == some .cell) = true then (n, NameKind.cell) else (n, k')) :: r.map fun (n, k) => if (k == NameKind.free && env.scope.kind == .function && env.kindOf n == some .cell) then (n, NameKind.cell) else (n, k)) = some k := h
    cases hx : x == n with
    | true =>
      rw [List.lookup_cons, hx]
      by_cases hc : (k' == NameKind.free && env.scope.kind == .function && env.kindOf n == some .cell) = true
      · have : k' = .free := by simp only [Bool.and_eq_true, beq_iff_eq] at hc; exact hc.1.1
        subst this
        exact .inr rfl
      · rw [if_neg hc, List.lookup_cons, hx] at h'
        exact .inl h'
    | false =>
      rw [List.lookup_cons, hx]
      by_cases hc : (k' == NameKind.free && env.scope.kind == .function && env.kindOf n == some .cell) = true
      · rw [if_pos hc, List.lookup_cons, hx] at h'; exact ih h'
      · rw [if_neg hc, List.lookup_cons, hx] at h'; exact ih h'

theorem relabel_free {env : Env} (hk : env.scope.kind = .function) : ∀ {names : List (Str × NameKind)} {x : Str}, names.lookup x = some .free → 
    (names.map fun (n, k) => if (k == NameKind.free && env.scope.kind == .function && env.kindOf n == some .cell) then (n, NameKind.cell) else (n, k)).lookup x = some .cell ∨
    (names.map fun (n, k) => if (k == NameKind.free && env.scope.kind == .function && env.kindOf n == some .cell) then (n, NameKind.cell) else (n, k)).lookup x = some .free
  | [], _, h => by simp at h
  | (n, k') :: r, x, h => by
    have ih := @relabel_free env hk r x
    show List.lookup x ((if (k' == NameKind.free && env.scope.kind == .function && env.kindOf n == some .cell) = true then (n, NameKind.cell) else (n, k')) :: _) = _ ∨ List.lookup x ((if (k' == NameKind.free && env.scope.kind == .function && env.kindOf n == some .cell) = true then (n, NameKind.cell) else (n, k')) :: _) = _
    cases hx : x == n with
    | true =>
      rw [List.lookup_cons, hx] at h
      by_cases hc : (k' == NameKind.free && env.scope.kind == .function && env.kindOf n == some .cell) = true
      · rw [if_pos hc, List.lookup_cons, hx]; exact .inl rfl
      · rw [if_neg hc, List.lookup_cons, hx]; exact .inr h
    | false =>
      rw [List.lookup_cons, hx] at h
      by_cases hc : (k' == NameKind.free && env.scope.kind == .function && env.kindOf n == some .cell) = true
      · rw [if_pos hc, List.lookup_cons, hx]; exact ih h
      · rw [if_neg hc, List.lookup_cons, hx]; exact ih h
end
end L2

namespace L2
open PySem PySem.Spec PyProof.Rows
section
variable {X : Cx}

theorem inSt_own {own : List Str} {sel : List Nat} {σ : St} {i : Nat} (h : i < own.length) : (inSt own sel σ)[i]? = some none := by
  unfold inSt
  rw [List.getElem?_append_left (by simpa using h), List.getElem?_map, List.getElem?_eq_getElem h]
  rfl
theorem inSt_sel {own : List Str} {sel : List Nat} {σ : St} {i : Nat} {v : V} (h : (inSt own sel σ)[i]? = some (some v)) : ∃ k j, i = own.length + k ∧ sel[k]? = some j ∧ σ[j]? = some (some v) := by
  by_cases hi : i < own.length
  · rw [inSt_own hi] at h; cases h
  · unfold inSt at h
    rw [List.getElem?_append_right (by simpa using hi), List.getElem?_map] at h
    rw [List.length_map] at h
    cases e : sel[i - own.length]? with
    | none => rw [e] at h; cases h
    | some j =>
      rw [e] at h
      simp only [Option.map_some, Option.some.injEq] at h
      refine ⟨i - own.length, j, by omega, e, ?_⟩
      rw [List.getD_eq_getElem?_getD] at h
      cases q : σ[j]? with
      | none => rw [q] at h; cases h
      | some u => rw [q] at h; simp at h; rw [h]
theorem inSt_len {own : List Str} {sel : List Nat} {σ : St} : (inSt own sel σ).length = own.length + sel.length := by
  unfold inSt; simp


structure Far (X : Cx) (pins : List (Addr × Obj)) (H : Hp) (C : Addr) : Prop where
  nt : H C = none
  nl : C ≠ X.env.locals
  up : X.s₀.heap.objs.size ≤ C
  nc : ∀ x c, X.env.cells.lookup x = some c → c ≠ C
  np : ∀ p ∈ X.pn ++ pins, p.1 ≠ C
theorem Inv.far {pins : List (Addr × Obj)} {σ : St} {H : Hp} {s : Shared} {h' : Heap} {C : Addr} (I : Inv X pins σ H s) (f : Far X pins H C) (k : Heap.SameBut C s.heap h') : Inv X pins σ H { s with heap := h' } :=
  I.turned (t' := s.toks) (fun b o hb e => (k.2 b hb).trans e) f.nt f.nl (.inr f.up) f.nc f.np

theorem comp_core {elt tg iter : Expr} {ifs : List Expr} {scope : Scope} {pos : Pos} {own : List Str} {sel : List Nat} {wi : TI} {g : TG} {tt : TT} {te : TE} {use : Option (Value → Sem Unit)} {Qo : Value → Shared → Prop}
    (S : CompOk X.env.scope X.N own sel scope) (hc : X.calm = true) (hi : PI X tg iter wi)
    (hg : ∀ cl C s2 H2 fp, PG (cxIn X own sel scope cl C s2 H2 fp) tg g) (hk : GK own.length g)
    (ht : ∀ cl C s2 H2 fp, PIf (cxIn X own sel scope cl C s2 H2 fp) ifs tt) (he : ∀ cl C s2 H2 fp, PE (cxIn X own sel scope cl C s2 H2 fp) elt te)
    (hs : ∀ x, foldedSetIterable iter X.env x = pure x) {pins : List (Addr × Obj)} {s : Shared} {σ : St} {H : Hp} {Q : VK} {ps : Pos} (I0 : Inv X pins σ H s) (h : tComp own sel wi g tt te σ H Q)
    (fin : ∀ (D C : Addr) (H' : Hp) (s' : Shared) (m : Str → Option Value), Inv X pins σ H' s' → s'.heap.Ns C m → Far X pins H' C → Q (.ref D) H' → compPost (model X.prog X.w) X.A X.xe use Qo (.ref D) C (.ok .next) s') :
    wpAny (model X.prog X.w) X.A (comprehension (.ListComp elt [⟨tg, iter, ifs, 0⟩] scope pos) scope X.env ps (newList []) false (eval iter X.env) use) Qo X.xe s := by
  obtain ⟨cl, hclos, hcl, hfree⟩ := clos_ex (scope := scope) (env := X.env) fun y hy e => I0.ok.has y.1 (S.free y hy e)
  refine wpAny_comprehension_free (use := use) rfl hs hclos S.kind S.names (thn (hi pins s σ H _ I0 h) fun v s1 h1 => thn h1 fun itv s2 h2 => ?_)
  obtain ⟨it, fp, tn, J, H2, e, I, T, st2, f2, h3⟩ := h2
  subst e
  clear h h1 I0
  refine wpAny_newObj_type (wpAny_newFunctionEnv S.cell (by intro y hy; simp at hy) (fun h1 hns1 hsb1 => ?_) S.kind)
  dsimp only at hns1 hsb1 ⊢
  generalize hP : s2.heap.push { cls := .type "list", dict := none, data := .seq ([] : List Value).toArray } = P1 at hns1 hsb1 ⊢
  generalize hD : s2.heap.objs.size = D at hns1 hsb1 ⊢
  generalize hC : P1.objs.size = C at hns1 hsb1 ⊢
  have hCD : C = D + 1 := by rw [← hC, ← hP, Heap.size_push, hD]
  have hlt : D < C := by rw [hCD]; exact Nat.lt_succ_self D
  have hDC : D ≠ C := Nat.ne_of_lt hlt
  have neC : ∀ b : Addr, b < D → b ≠ C := fun b hb => Nat.ne_of_lt (Nat.lt_trans hb hlt)
  have neD : ∀ b : Addr, b < D → b ≠ D := fun b hb => Nat.ne_of_lt hb
  have hsD : s2.heap.objs.size ≤ D := Nat.le_of_eq hD
  have hsC : s2.heap.objs.size ≤ C := Nat.le_trans hsD (Nat.le_of_lt hlt)
  have fresh : ∀ a, D ≤ a → H2 a = none := fun a ha => I.hok.fresh (by rw [hD]; exact ha)
  have hnD : H2 D = none := fresh D (Nat.le_refl _)
  have hnC : H2 C = none := fresh C (Nat.le_of_lt hlt)
  have below : ∀ b o, s2.heap.get? b = some o → b < D := fun b o e => by rw [← hD]; exact Heap.lt_size e
  have keep1 : ∀ b o, s2.heap.get? b = some o → h1.get? b = some o := fun b o e =>
    hsb1.extBut b o (neC b (below b o e)) (Heap.get?_push_of_some _ (hP ▸ Heap.get?_push_of_some _ e))
  have gD : h1.get? D = some { cls := .type "list", dict := none, data := .seq ([] : List Value).toArray } := by
    refine hsb1.extBut _ _ hDC (Heap.get?_push_of_some _ ?_)
    rw [← hP, ← hD]
    exact Heap.get?_push_size _ rfl
  obtain ⟨W, ⟨m0, w0⟩, turn⟩ := h3 D hnD
  have fpb : ∀ b ∈ fp, b < D := fun b hb => by obtain ⟨o, e, _⟩ := T.obj _ _ st2 b hb; exact below b o e
  -- the block's context
  generalize hY : cxIn X own sel scope cl C s2 H2 fp = Y
  have hg := hg cl C s2 H2 fp
  have ht := ht cl C s2 H2 fp
  have he := he cl C s2 H2 fp
  rw [hY] at hg ht he
  have okY : Y.Ok := by
    subst hY
    refine ⟨I.ok.mod, S.kind, I.ok.glob, I.ok.blt, ?_, fun x y c a b => I.ok.inj x y c (hcl _ _ a) (hcl _ _ b), fun x hx => ?_, (fun _ _ z => nomatch z), fun z => I.ok.hd z, I.ok.frames, .inl rfl, fun b hb => ⟨?_, fun x c e => (f2 b hb).2.2.2.2.1 x c (hcl _ _ e)⟩, I.bs,
      Nat.le_trans I.ok.bsz I.sz, fun b o e hb => ?_, fun b hb z => ?_, I.stack, I.stkFree⟩
    · exact hsC
    · have hx' : (relabel scope X.env).names.lookup x = some .cell ∨ (relabel scope X.env).names.lookup x = some .free := hx
      have hf : scope.names.lookup x = some .free := by
        rcases hx' with z | z
        · rcases relabel_lookup z with q | q
          · exact absurd rfl (S.cell _ (PySem.mem_of_lookup q))
          · exact q
        · rcases relabel_lookup z with q | q <;> exact q
      exact hfree _ (PySem.mem_of_lookup hf) rfl
    · exact neC b (fpb b hb)
    · rcases (f2 b hb).2.2.2.1 with z | z
      · exact I.ok.noex b o e z
      · exact absurd (Nat.lt_of_lt_of_le (Heap.lt_size e) (Nat.le_trans I.ok.bsz z)) (Nat.lt_irrefl _)
    · rcases List.mem_cons.mp (I.stkSub b z) with q | q
      · exact (f2 b hb).2.1 q
      · exact (f2 b hb).2.2.1 q
  -- the state ahead of the first turn
  have eo : ObjOk X.prog X.w (upd H2 D (.lst [])) h1 D (.lst []) := ⟨by decide, [], _, .nil, gD⟩
  have I1 : Inv Y [] (inSt own sel σ) (upd H2 D (.lst [])) { s2 with heap := h1, toks := s2.toks + ([] : List (Str × Value)).length } := by
    subst hY
    refine ⟨okY, rfl, I.bare, Un.laid keep1 hsD hnD, ⟨_, hns1, fun i x v e1 e2 e3 => ?_⟩, fun x c e => ?_, ?_, fun x c e => ?_, fun p hp => absurd (show p ∈ ([] : List (Addr × Obj)) from hp) (by simp), I.hok.laid keep1 hsD eo, ?_⟩
    · obtain ⟨k, j, ei, ej, es⟩ := inSt_sel e2
      subst ei
      have e1' : (own ++ sel.map fun j => X.N.getD j Str.empty)[own.length + k]? = some x := e1
      rw [List.getElem?_append_right (by omega), List.getElem?_map, show own.length + k - own.length = k by omega, ej] at e1'
      simp only [Option.map_some, Option.some.injEq] at e1'
      obtain ⟨hj, hfx, hkd⟩ := S.seln j (List.mem_of_getElem? ej)
      have hN : X.N[j]? = some x := by rw [← e1', List.getD_eq_getElem?_getD, List.getElem?_eq_getElem hj]; rfl
      rw [e1'] at hkd hfx
      obtain ⟨m, _, hl⟩ := I.loc
      obtain ⟨u, r, lk⟩ := hl j x v hN es (.inr hkd)
      refine ⟨u, r, .inr ⟨relabel_free I.ok.kind hfx, ?_⟩⟩
      rcases lk with ⟨z1, _⟩ | ⟨_, c, hc1, hc2⟩
      · have z1' : X.env.scope.names.lookup x = some .local := z1
        rcases hkd with q | q <;> (rw [z1'] at q; cases q)
      · obtain ⟨c', q⟩ := hfree _ (PySem.mem_of_lookup hfx) rfl
        have q2 := hcl _ _ q
        rw [hc1] at q2
        cases q2
        exact ⟨c, q, hc2.keeps keep1⟩
    · obtain ⟨u, z⟩ := I.cell x c (hcl _ _ e)
      exact ⟨u, z.keeps keep1⟩
    · show upd H2 D (.lst []) C = none
      rw [upd_ne (Ne.symm hDC)]; exact hnC
    · have q := I.freeC x c (hcl _ _ e)
      obtain ⟨u, o, z, _⟩ := I.cell x c (hcl _ _ e)
      rw [upd_ne (neD c (below c o z))]
      exact q
    · show (inSt own sel σ).length = (own ++ sel.map fun j => X.N.getD j Str.empty).length
      rw [inSt_len]; simp
  -- its end
  have fin : ∀ (σ' : St) (H' : Hp) (s' : Shared), Inv Y [] σ' H' s' → Q (.ref D) H' → compPost (model X.prog X.w) X.A X.xe use Qo (.ref D) C (.ok .next) s' := by
    intro σ' H' s' I' q
    subst hY
    obtain ⟨m, hn, _⟩ := I'.loc
    have J' : Inv X pins σ H' s' := I.call' I'.os I'.base I'.hok I'.bare fun b hb => ⟨(f2 b hb).2.2.2.1, (f2 b hb).2.1, (f2 b hb).2.2.2.2.1, (f2 b hb).2.2.2.2.2⟩
    refine fin D C H' s' m J' hn ⟨I'.free, Ne.symm (neC _ (by rw [← hD]; exact I.lt)), Nat.le_trans I.sz hsC, fun x c e => ?_, fun p hp => ?_⟩ q
    · obtain ⟨u, o, z, _⟩ := I.cell x c e
      exact neC c (below c o z)
    · exact neC p.1 (below p.1 p.2 (I.pin p hp).1)
  -- what stays true of the iterator's objects
  have stat : ∀ {H' : Hp}, (∀ b ∈ fp, H' b = none) → ∀ b ∈ fp, FpOk Y [] H' b := fun {H'} hn b hb => by
    subst hY
    refine ⟨hn b hb, neC b (fpb b hb), fun z => ?_, .inl hb, fun x c e => (f2 b hb).2.2.2.2.1 x c (hcl _ _ e), fun p hp => absurd (show p ∈ ([] : List (Addr × Obj)) from hp) (by simp)⟩
    rcases List.mem_cons.mp (I.stkSub b z) with q | q
    · exact (f2 b hb).2.1 q
    · exact (f2 b hb).2.2.1 q
  have loop : ∀ s3 : Shared, s3 = { s2 with heap := h1, toks := s2.toks + ([] : List (Str × Value)).length } →
      codeAny (model X.prog X.w) X.A (.compLoop (.ListComp elt [⟨tg, iter, ifs, 0⟩] scope pos) 0 (.ref it) (.ref D) (compEnvC scope cl C X.env)) (compPost (model X.prog X.w) X.A X.xe use Qo (.ref D) C) s3 := by
    rintro s3 rfl
    have eP : Y.prog = X.prog := by subst hY; rfl
    have eW : Y.w = X.w := by subst hY; rfl
    have eA : Y.A = X.A := by subst hY; rfl
    have eK : Y.K = X.K := by subst hY; rfl
    have eE : Y.env = compEnvC scope cl C X.env := by subst hY; rfl
    have eX : Y.xe = fun _ _ => False := by subst hY; rfl
    have eC : Y.calm = true := by subst hY; exact hc
    refine comp_turns (fun n s' => ∃ i H', Inv Y [] (inSt own sel σ) H' s' ∧ tn i s'.heap ∧ (∀ b ∈ fp, H' b = none) ∧ W i n H') ?_ m0
      ⟨0, _, I1, T.keep _ _ _ st2 fun b _ o e => keep1 b o e, fun b hb => by rw [upd_ne (neD b (fpb b hb))]; exact (f2 b hb).1, w0⟩
    rintro n s4 ⟨i, H4, I4, st4, fr4, w4⟩
    rcases turn i n H4 w4 with ⟨stop, q⟩ | ⟨go, step⟩
    · have dn := T.done Y eP eW eK eC i [] s4 _ H4 (fun _ _ => False) I4 (stat fr4) st4 stop
      rw [eA] at dn
      refine thn dn fun r s5 ⟨hr, I5⟩ => ?_
      subst hr
      exact fin _ _ _ I5 q
    · have im := T.item Y eP eW eK eC i [] s4 _ H4 (fun _ _ => False) I4 (stat fr4) st4 go
      rw [eA] at im
      refine thn im fun r s5 ⟨u, hr, h5⟩ => ?_
      subst hr
      refine thn h5 fun _ s6 ⟨x, H6, I6, r6, y6, st6, fr6⟩ => ?_
      have I6' := I6.pinned (stat fr6) (T.obj _ _ st6)
      have back : ∀ {σ7 : St} {H7 : Hp} {s7 : Shared} {k : Nat}, Inv Y ([] ++ pinsAt fp s6.heap) σ7 H7 s7 → σ7.length = (inSt own sel σ).length → (∀ j, own.length ≤ j → σ7[j]? = (inSt own sel σ)[j]?) → (∃ m', m' < n ∧ W (i + 1) m' H7) →
          ∃ m', m' < n ∧ ∃ i H', Inv Y [] (inSt own sel σ) H' s7 ∧ tn i s7.heap ∧ (∀ b ∈ fp, H' b = none) ∧ W i m' H' := fun {σ7 H7 s7 k} I7 l7 k7 w7 => by
        obtain ⟨m', hm, w7⟩ := w7
        refine ⟨m', hm, i + 1, H7, I7.unpinned.weak l7.symm fun j v e => ?_, T.keep _ _ _ st6 fun b hb o e => (I7.pin (b, o) (List.mem_append_right _ (List.mem_append_right _ (mem_pinsAt hb e)))).1, fun b hb => ?_, w7⟩
        · by_cases hj : j < own.length
          · rw [inSt_own hj] at e; cases e
          · rw [k7 j (Nat.le_of_not_lt hj)]; exact e
        · obtain ⟨o, e, d⟩ := T.obj _ _ st6 b hb
          exact (I7.pin (b, o) (List.mem_append_right _ (List.mem_append_right _ (mem_pinsAt hb e)))).2.1
      have ga := hg _ s6 _ H6 x u _ I6' r6 (hk _ _ _ _ (step x H6 y6))
      rw [eP, eW, eA, eE, eX] at ga
      refine thn ga fun _ s7 ⟨σ7, H7, I7, q7, l7, k7⟩ => ?_
      have ta := ht _ s7 σ7 H7 _ I7 q7
      rw [eP, eW, eA, eE, eX] at ta
      refine thn ta fun b s8 ⟨H8, I8, q8⟩ => ?_
      cases b with
      | false =>
        rw [if_neg Bool.false_ne_true] at q8 ⊢
        exact back (k := 0) I8 l7 k7 q8
      | true =>
        rw [if_pos rfl] at q8 ⊢
        have ea := he _ s8 σ7 H8 _ I8 q8
        rw [eP, eW, eA, eE, eX] at ea
        refine thn ea fun v s9 ⟨x9, H9, I9, r9, ys, hD9, hz9, q9⟩ => ?_
        have aa := mt_append (X := Y) _ s9 σ7 H9 (.ref D) [x9] (.ref D) [v] (fun _ H' => ∃ m', m' < n ∧ W (i + 1) m' H') I9 rfl (.cons r9 .nil) ⟨D, ys, x9, rfl, rfl, hD9, hz9, q9⟩
        rw [eP, eW, eA, eX] at aa
        exact thn aa fun _ s10 ⟨_, H10, I10, _, q10⟩ => back (k := 0) I10 l7 k7 q10
  exact codeAny_compStart_list (loop _ rfl) (T.self X.A 0 _ _ _ (T.keep _ _ _ st2 fun b _ o e => keep1 b o e) (loop _ rfl))

theorem pe_comp {elt tg iter : Expr} {ifs : List Expr} {scope : Scope} {pos : Pos} {own : List Str} {sel : List Nat} {wi : TI} {g : TG} {tt : TT} {te : TE}
    (S : CompOk X.env.scope X.N own sel scope) (hc : X.calm = true) (hi : PI X tg iter wi)
    (hg : ∀ cl C s2 H2 fp, PG (cxIn X own sel scope cl C s2 H2 fp) tg g) (hk : GK own.length g)
    (ht : ∀ cl C s2 H2 fp, PIf (cxIn X own sel scope cl C s2 H2 fp) ifs tt) (he : ∀ cl C s2 H2 fp, PE (cxIn X own sel scope cl C s2 H2 fp) elt te)
    (hs : ∀ x, foldedSetIterable iter X.env x = pure x := by intro _; rfl) :
    PE X (.ListComp elt [⟨tg, iter, ifs, 0⟩] scope pos) (tComp own sel wi g tt te) := by
  intro pins s σ H Q I h
  rw [eval_ListComp]
  refine comp_core (use := none) S hc hi hg hk ht he hs I h fun D C H' s' m I' hn f q => ?_
  exact ⟨m, hn, fun h' k => ⟨.ref D, H', I'.far f k, rfl, q⟩⟩

end
end L2

namespace L2
open PySem PySem.Spec PyProof.Rows
section
variable {X : Cx} {pins : List (Addr × Obj)} {σ : St} {H : Hp} {s : Shared} {h' : Heap}
end


section
variable {P : Program} {w : World} {K : PySem.W.Frag} {tg : Expr}
end
section
variable {P : Program} {w : World} {K : PySem.W.Frag} {elts : List Expr} {k : Nat} {tpos : Pos}

end
section
variable {X : Cx} {a : Expr} {ta : TA} {p pos : Pos} {elts : List Expr} {k : Nat} {tpos : Pos}
end
end L2

namespace L2
open PySem PySem.Spec PyProof.Rows


def tx (l : List Nat) : V := .str ⟨l.toArray⟩
theorem tx_len (a : List Nat) : (⟨a.toArray⟩ : Str).length = a.length := by simp [Str.length]
section
variable {X : Cx}
theorem pe_tx {x : Str} {l : List Nat} {j pos} (h : x = ⟨l.toArray⟩) : PE X (.Constant (.str x) j pos) (tC (tx l)) := by
  subst h
  exact pe_str
theorem op_addT : OpR X (binaryOp .Add) (fun x y H Q => ∃ a b, x = tx a ∧ y = tx b ∧ a.length + b.length ≤ sizeLine ∧ Q (tx (a ++ b)) H) := by
  intro pins s σ H x y v u Q I rx ry ⟨a, b, e1, e2, hz, q⟩
  subst e1 e2
  refine op_add_str pins s σ H _ _ v u Q I rx ry ⟨_, _, rfl, rfl, by rw [tx_len, tx_len]; exact hz, ?_⟩
  have e : (V.str ((⟨a.toArray⟩ : Str) ++ ⟨b.toArray⟩)) = tx (a ++ b) := by
    unfold tx
    congr 1
    show (⟨a.toArray ++ b.toArray⟩ : Str) = _
    simp
  rw [e]; exact q
def rIxT' : R2 := fun x y H Q => ∃ a i c, x = tx a ∧ y = .int i ∧ a.length ≤ sizeLine ∧ atI a i = some c ∧ Q (tx [c]) H
theorem ix_T : IxR X rIxT' := by
  intro value slice pins s σ H x y v u Q I rx ry ⟨a, i, c, e1, e2, hz, he, q⟩ hs
  subst e1 e2
  exact ix_str value slice pins s σ H _ _ v u Q I rx ry ⟨_, i, c, rfl, rfl, by rw [tx_len]; exact hz, by simpa using he, q⟩ hs
theorem call_lenT : CallR X (.builtin "len") (fun xs H Q => ∃ a, xs = [tx a] ∧ a.length ≤ sizeLine ∧ Q (.int a.length) H) := by
  intro pins s σ H xs us Q I r ⟨a, e, hz, q⟩
  subst e
  refine call_len_str pins s σ H _ us Q I r ⟨_, rfl, by rw [tx_len]; exact hz, ?_⟩
  rw [tx_len]; exact q
theorem rep_fold (a : List Nat) : ∀ (n : Nat) (acc : Array Nat), ((List.replicate n a.toArray).foldl (· ++ ·) acc) = (acc.toList ++ (List.replicate n a).flatten).toArray
  | 0, acc => by simp
  | n + 1, acc => by
    rw [List.replicate_succ, List.foldl_cons, rep_fold a n, List.replicate_succ, List.flatten_cons]
    simp
theorem op_mulT : OpR X (binaryOp .Mult) (fun x y H Q => ∃ a k, x = tx a ∧ y = .int k ∧ 0 ≤ k ∧ k ≤ 1000 ∧ a.length ≤ 1000 ∧ Q (tx (List.replicate k.toNat a).flatten) H) := by
  intro pins s σ H x y v u Q I rx ry ⟨a, k, e1, e2, h0, h1, hl, q⟩
  subst e1 e2
  obtain ⟨t, rfl⟩ := rx
  obtain ⟨t', rfl⟩ := ry
  have e : Txt.mul ⟨a.toArray⟩ k = ⟨((List.replicate k.toNat a).flatten).toArray⟩ := by
    unfold Txt.mul
    by_cases hk : k < 1
    · have : k = 0 := by omega
      subst this
      rfl
    · rw [if_neg hk]
      split
      · rename_i hc
        rw [tx_len] at hc
        simp only [Bool.or_eq_true, beq_iff_eq] at hc
        rcases hc with hc | hc
        · subst hc; simp
        · have : a = [] := List.length_eq_zero_iff.mp hc
          subst this
          simp
      · simp only
        rw [rep_fold]
        simp
  refine SB.mul ⟨by simp; omega, fun h2 _ => ?_, fun h2 _ => ?_⟩ fun t2 tk => ⟨tx (List.replicate k.toNat a).flatten, H, I.tok tk, ⟨t2, by rw [e]⟩, q⟩
  · rw [tx_len]
    have : (1000 : Int) ≤ (2 ^ 63 - 1) / k := by
      refine Int.le_ediv_of_mul_le (by omega) ?_
      omega
    omega
  · rw [tx_len]
    unfold Builtin.Str.tooLong
    have hs : sizeLine = 16777216 := sizeLine_eq
    have : a.length * k.toNat ≤ 1000 * 1000 := Nat.mul_le_mul hl (by omega)
    simp; omega


def cutL {α : Type} (xs : List α) (lo hi : Option Int) : List α := (xs.drop (HT.sIx xs.length 0 lo)).take (HT.sIx xs.length xs.length hi - HT.sIx xs.length 0 lo)
theorem call_isi : CallR X (.builtin "isinstance") (fun xs H Q => ∃ x T t b, xs = [x, .ty T] ∧ TyOf X.K H x t ∧ PySem.W.kitOne X.K t (.type T) = some b ∧ Q (.bl b) H) := by
  intro pins s σ H xs us Q I r ⟨x, T, t, b, e, ty, hk, q⟩
  subst e
  obtain ⟨u, w', rfl, ru, rw'⟩ := vals2 r
  cases rw'
  exact isinst_ok I ru ty hk fun tk => ⟨.bl b, H, I.tok tk, rfl, q⟩


def eqVs : List V → List V → Bool
  | [], [] => true
  | x :: xs, y :: ys => eqV x y && eqVs xs ys
  | _, _ => false
theorem eqVs_len : ∀ {xs ys : List V}, xs.length ≠ ys.length → eqVs xs ys = false
  | [], [], h => absurd rfl h
  | [], _ :: _, _ => rfl
  | _ :: _, [], _ => rfl
  | x :: xs, y :: ys, h => by
    have : eqVs xs ys = false := eqVs_len (by simpa using h)
    show (eqV x y && eqVs xs ys) = false
    rw [this, Bool.and_false]
theorem eqVs_range : ∀ (xs ys : List V), xs.length = ys.length → (List.range xs.length).all (fun i => eqV (xs.getD i .non) (ys.getD i .non)) = eqVs xs ys
  | [], [], _ => rfl
  | x :: xs, y :: ys, h => by
    have ih := eqVs_range xs ys (by simpa using h)
    rw [List.length_cons, List.range_succ_eq_map, List.all_cons, List.all_map]
    show (eqV x y && _) = (eqV x y && eqVs xs ys)
    rw [← ih]
    rfl
  | [], _ :: _, h => by simp at h
  | _ :: _, [], h => by simp at h
theorem eqVs_at {A : Around} {s : Shared} {xs ys : List V} {us ws : List Value} (r1 : Vals xs us) (r2 : Vals ys ws) (f1 : xs.all flatV = true) (f2 : ys.all flatV = true) :
    ∀ j (h1 : j < us.toArray.size) (h2 : j < ws.toArray.size), SeqAt.EqAt A s us.toArray[j] ws.toArray[j] (eqV (xs.getD j .non) (ys.getD j .non)) := by
  intro j h1 h2
  have l1 := r1.length
  have l2 := r2.length
  rw [List.size_toArray] at h1 h2
  have k1 : j < xs.length := by omega
  have k2 : j < ys.length := by omega
  obtain ⟨u, e1, q1⟩ := r1.get (i := j) (x := xs[j]) (by simp [k1])
  obtain ⟨w', e2, q2⟩ := r2.get (i := j) (x := ys[j]) (by simp [k2])
  have eu : us.toArray[j] = u := by
    have := List.getElem?_eq_getElem (l := us) (i := j) h1
    rw [e1] at this
    simpa using (Option.some.inj this).symm
  have ew : ws.toArray[j] = w' := by
    have := List.getElem?_eq_getElem (l := ws) (i := j) h2
    rw [e2] at this
    simpa using (Option.some.inj this).symm
  rw [eu, ew]
  have g1 : xs.getD j .non = xs[j] := by simp [List.getD_eq_getElem?_getD, k1]
  have g2 : ys.getD j .non = ys[j] := by simp [List.getD_eq_getElem?_getD, k2]
  rw [g1, g2]
  exact eqAt_V q1 q2 (List.all_eq_true.mp f1 _ (List.getElem_mem k1)) (List.all_eq_true.mp f2 _ (List.getElem_mem k2))
def rEqL (K : PySem.W.Frag) (neg : Bool) : R2 := fun x y H Q => ∃ a b xs ys, x = .ref a ∧ y = .ref b ∧ SqL K H a xs ∧ SqL K H b ys ∧ xs.all flatV = true ∧ ys.all flatV = true ∧ Q (.bl (if neg then !eqVs xs ys else eqVs xs ys)) H
theorem op_eqL (hu : X.A.units < cLine) : OpR X (compareOp .Eq) (rEqL X.K false) := by
  intro pins s σ H x y v u Q I rx ry ⟨a, b, xs, ys, e1, e2, q1, q2, f1, f2, q⟩
  subst e1 e2
  cases rx
  cases ry
  obtain ⟨us, r1, p1, z1⟩ := I.list q1
  obtain ⟨ws, r2, p2, z2⟩ := I.list q2
  have l1 := r1.length
  have l2 := r2.length
  by_cases hl : xs.length = ys.length
  · refine SeqAt.eq_listAt p1.isList p2.isList (by simp; omega) hu (eqVs_at r1 r2 f1 f2) ⟨.bl _, H, I, rfl, ?_⟩
    rw [List.size_toArray, ← l1, eqVs_range xs ys hl]
    exact q
  · refine SeqAt.eq_list_lengthsAt p1.isList p2.isList (by simp; omega) hu ⟨.bl _, H, I, rfl, ?_⟩
    rw [← eqVs_len hl]
    exact q
theorem op_neL (hu : X.A.units < cLine) : OpR X (compareOp .NotEq) (rEqL X.K true) := by
  intro pins s σ H x y v u Q I rx ry ⟨a, b, xs, ys, e1, e2, q1, q2, f1, f2, q⟩
  subst e1 e2
  cases rx
  cases ry
  obtain ⟨us, r1, p1, z1⟩ := I.list q1
  obtain ⟨ws, r2, p2, z2⟩ := I.list q2
  have l1 := r1.length
  have l2 := r2.length
  by_cases hl : xs.length = ys.length
  · refine SeqAt.RcNeAt.lists p1.isList p2.isList (by simp; omega) hu (eqVs_at r1 r2 f1 f2) _ _ _ _ ⟨.bl _, H, I, rfl, ?_⟩
    rw [List.size_toArray, ← l1, eqVs_range xs ys hl]
    exact q
  · refine SeqAt.RcNeAt.lists_lengths p1.isList p2.isList (by simp; omega) hu _ _ _ _ ⟨.bl _, H, I, rfl, ?_⟩
    have : eqVs xs ys = false := eqVs_len hl
    rw [if_pos rfl, this] at q
    exact q

def litV : V → Bool
  | .non => true
  | .bl _ => true
  | _ => false
theorem op_isB : OpR X (compareOp .Is) (fun x y H Q => litV y = true ∧ Q (.bl (decide (x = y))) H) := by
  intro pins s σ H x y v u Q I rx ry ⟨hl, q⟩
  refine wpAny_is_plain ?_ ⟨.bl _, H, I, ?_, q⟩
  · cases y <;> first
      | (exact absurd hl Bool.false_ne_true)
      | (cases ry; cases x <;> first | (cases rx; rfl) | (obtain ⟨t, rfl⟩ := rx; rfl))
  · cases y <;> first
      | (exact absurd hl Bool.false_ne_true)
      | (cases ry; cases x <;> first | (cases rx; rfl) | (obtain ⟨t, rfl⟩ := rx; rfl) | (cases rx; rename_i b1 _ b2; cases b1 <;> cases b2 <;> rfl) | (cases rx; rename_i b1 b2; cases b1 <;> cases b2 <;> rfl) | (cases rx; rename_i b1 _ b2 _; cases b1 <;> cases b2 <;> rfl))
end
end L2

namespace L2
open PySem PySem.Spec PyProof.Rows
section
variable {X : Cx}

def rPlus : R2 := fun x y H Q => (∃ i j, x = .int i ∧ y = .int j ∧ Q (.int (i + j)) H) ∨ (∃ a b, x = tx a ∧ y = tx b ∧ a.length + b.length ≤ sizeLine ∧ Q (tx (a ++ b)) H) ∨ rCat x y H Q
theorem op_plus : OpR X (binaryOp .Add) rPlus := op_add.or (op_addT.or op_cat)
def rMulT : R2 := fun x y H Q => ∃ a k, x = tx a ∧ y = .int k ∧ 0 ≤ k ∧ k ≤ 1000 ∧ a.length ≤ 1000 ∧ Q (tx (List.replicate k.toNat a).flatten) H
def rTimes : R2 := fun x y H Q => (∃ i j, x = .int i ∧ y = .int j ∧ CMul i j ∧ Q (.int (i * j)) H) ∨ rRep x y H Q ∨ rMulT x y H Q
theorem op_times : OpR X (binaryOp .Mult) rTimes := op_mul.or (op_rep.or op_mulT)
def rEqA (K : PySem.W.Frag) : R2 := fun x y H Q => rEq x y H Q ∨ rEqL K false x y H Q
theorem op_eqA (K : PySem.W.Frag) (hu : X.A.units < cLine) (hK : X.K = K := by rfl) : OpR X (compareOp .Eq) (rEqA K) := by subst hK; exact op_eq.or (op_eqL hu)
def rNeA (K : PySem.W.Frag) : R2 := fun x y H Q => rNe x y H Q ∨ rEqL K true x y H Q
theorem op_neA (K : PySem.W.Frag) (hu : X.A.units < cLine) (hK : X.K = K := by rfl) : OpR X (compareOp .NotEq) (rNeA K) := by subst hK; exact op_ne.or (op_neL hu)
def rIsA : R2 := fun x y H Q => litV y = true ∧ Q (.bl (decide (x = y))) H
theorem op_isA : OpR X (compareOp .Is) rIsA := op_isB
def rIxA (K : PySem.W.Frag) : R2 := fun x y H Q => rIxT' x y H Q ∨ rIxL K x y H Q ∨ rIxT K x y H Q
theorem ix_A (K : PySem.W.Frag) (hK : X.K = K := by rfl) : IxR X (rIxA K) := by subst hK; exact ix_T.or (ix_list.or ix_tup)
def rLen (K : PySem.W.Frag) : List V → Hp → VK → Prop := fun xs H Q => (∃ a, xs = [tx a] ∧ a.length ≤ sizeLine ∧ Q (.int a.length) H) ∨ ∃ p ys, xs = [.ref p] ∧ (SqL K H p ys ∨ SqT K H p ys) ∧ Q (.int ys.length) H
theorem call_lenA (K : PySem.W.Frag) (hK : X.K = K := by rfl) : CallR X (.builtin "len") (rLen K) := by subst hK; exact call_lenT.or call_len_seq
def rIsi (K : PySem.W.Frag) : List V → Hp → VK → Prop := fun xs H Q => ∃ x T t b, xs = [x, .ty T] ∧ TyOf K H x t ∧ PySem.W.kitOne K t (.type T) = some b ∧ Q (.bl b) H
theorem call_isiA (K : PySem.W.Frag) (hK : X.K = K := by rfl) : CallR X (.builtin "isinstance") (rIsi K) := by subst hK; exact call_isi
def rMax : List V → Hp → VK → Prop := fun xs H Q => ∃ i j, xs = [.int i, .int j] ∧ Q (.int (if j > i then j else i)) H
def rMin : List V → Hp → VK → Prop := fun xs H Q => ∃ i j, xs = [.int i, .int j] ∧ Q (.int (if j < i then j else i)) H
theorem call_maxA (hc : X.calm = true) : CallR X (.builtin "max") rMax := call_max2 hc
theorem call_minA (hc : X.calm = true) : CallR X (.builtin "min") rMin := call_min2 hc
def tTru (K : PySem.W.Frag) (ta : TE) : TT := fun σ H Q => ta σ H fun x H' => ∃ k, TruV K x H' k ∧ Q k H'
theorem pt_tru (K : PySem.W.Frag) {a : Expr} {ta : TE} (ha : PE X a ta) (he : ∀ whole, isTrue a X.env whole = (do let v ← whole; standAt a.pos; holding [v] (truthy v)) := by intro _; rfl) (hK : X.K = K := by rfl) : PT X a (tTru K ta) := by subst hK; exact pt_truth ha he

theorem pi_listK (K : PySem.W.Frag) {tg l : Expr} {tl : TE} (hl : PE X l tl) (hK : X.K = K := by rfl) : PI X tg l (iList K tl) := by subst hK; exact pi_list hl
theorem pg_tupK (K : PySem.W.Frag) {es : List Expr} {k : Nat} {t : TGs} {n : Nat} {pos : Pos} (hc : X.calm = true) (h : PGs X es t)
    (hn : (assignEach es X.env).length = n := by rfl) (hst : (assignEach es X.env).findIdx? (·.1) = none := by rfl) (hK : X.K = K := by rfl) : PG X (.Tuple es k pos) (gTup K n t) := by subst hK; exact pg_tup hc h hn hst
theorem pe_bm0K (K : PySem.W.Frag) {o : Expr} {to : TE} {name : Str} {apos cpos : Pos} {T id : String} {r : V → List V → Hp → VK → Prop} (pa : PlainAttrs T) (slot : Slot T name id) (hty : typeOf (.builtin id) = pure (.type "method_descriptor")) (hm : MtR X id r) (ho : PE X o to)
    (hbase : attributeBase o name X.env (eval o X.env) = eval o X.env := by rfl) (hline : (apos.endLine == cpos.line) = true := by rfl) (hK : X.K = K := by rfl) : PE X (.Call (.Attribute o name apos) [] [] cpos) (tBM0 K T r to) := by subst hK; exact pe_bm0 pa slot hty hm ho hbase hline
theorem pe_bmK (K : PySem.W.Frag) {o e : Expr} {es : List Expr} {to : TE} {t : TA} {name : Str} {apos cpos : Pos} {T id : String} {r : V → List V → Hp → VK → Prop} (pa : PlainAttrs T) (slot : Slot T name id) (hty : typeOf (.builtin id) = pure (.type "method_descriptor")) (hm : MtR X id r) (ho : PE X o to) (ha : PA X (e :: es) t)
    (hbase : attributeBase o name X.env (eval o X.env) = eval o X.env := by rfl)
    (hfew : ((backTo cpos (starEach (e :: es) X.env)).all (fun x => !x.1) && (backToKw cpos (keywordEach [] X.env)).all (fun x => x.1.isSome)
      && decide ((e :: es).length + ([] : List Keyword).length + (if ([] : List Keyword).isEmpty then 0 else 1) < 30)) = true := by rfl)
    (hline : (apos.endLine == cpos.line) = true := by rfl) (hs : starEach (e :: es) X.env = (false, eval e X.env) :: starEach es X.env := by rfl) (hplain : (backTo cpos (starEach es X.env)).any (·.1) = false := by rfl) (hK : X.K = K := by rfl) :
    PE X (.Call (.Attribute o name apos) (e :: es) [] cpos) (tBM K T r to t) := by subst hK; exact pe_bm pa slot hty hm ho ha hbase hfew hline hs hplain


theorem pe_gl {x : Str} {v : V} {pos : Pos} (h : ∃ u, X.mg x = some u ∧ RelV v u) (hg : Gl X x := by rfl) (hd : (x == ("__debug__" : Str)) = false := by decide) : PE X (.Name x pos) (tC v) := by
  obtain ⟨u, hm, r⟩ := h
  exact pe_glob hg hm r hd
theorem pe_ty {x : Str} {T : String} {pos : Pos} (hm : X.mg x = none) (hv : bootBuiltins x = some (.type T)) (hg : Gl X x := by rfl) (hn : x ≠ "__name__" := by decide) (hd : (x == ("__debug__" : Str)) = false := by decide) : PE X (.Name x pos) (tC (.ty T)) :=
  pe_bltn hg hm hv rfl hn hd


structure FnU (P : Program) (w : World) (K : PySem.W.Frag) (mg : Str → Option Value) (base : Heap) (k : Nat) (x : Str) (ps : List Str) (sp : Sp) : Prop where
  ex : ∃ f fd, FnOk P w K mg base CX0 k f fd ps sp ∧ mg x = some (.ref f) ∧ PySem.W.keepIn K (.ref f) = true ∧ Binds K fd ps []
theorem FnU.mono {P : Program} {w : World} {K : PySem.W.Frag} {mg : Str → Option Value} {base : Heap} {j k : Nat} {x : Str} {ps : List Str} {sp : Sp} (U : FnU P w K mg base j x ps sp) (h : j ≤ k) : FnU P w K mg base k x ps sp := by
  obtain ⟨f, fd, F, a, b, c⟩ := U.ex
  exact ⟨f, fd, F.mono h, a, b, c⟩
theorem pe_fn {k : Nat} {x : Str} {ps : List Str} {sp : Sp} {e : Expr} {es : List Expr} {t : TA} {p pos : Pos} (U : FnU X.prog X.w X.K X.mg X.base k x ps sp) (hr : Room k X.A) (ha : PA X (e :: es) t) (hg : Gl X x := by rfl)
    (hdb : (x == ("__debug__" : Str)) = false := by decide) (he : starEach (e :: es) X.env = (false, eval e X.env) :: starEach es X.env := by rfl) (hpl : (backTo pos (starEach es X.env)).any (·.1) = false := by rfl) :
    PE X (.Call (.Name x p) (e :: es) [] pos) (tCall sp [] E0 t) := by
  obtain ⟨f, fd, F, hm, hk, hb⟩ := U.ex
  exact pe_call F hr hg hm hk hb .nil pass0 ha hdb he hpl
end


section
variable {σ : St} {H : Hp} {Q : VK} {D : Ends} {K : PySem.W.Frag}
theorem s_seq {t u : TS} (h : t { D with nx := u D } σ H) : tSeq t u D σ H := h
theorem s_if {c : TT} {t u : TS} (h : c σ H fun b H1 => if b = true then t D σ H1 else u D σ H1) : tIfS c t u D σ H := h
theorem s_asg {te : TE} {g : TG} (h : te σ H fun x H1 => g x σ H1 D.nx) : tAsg te g D σ H := h
theorem s_aug {i : Nat} {te : TE} {ti : TIp} {x : V} (e : σ[i]? = some (some x)) (h : te σ H fun y H1 => ti x y H1 fun z H2 => D.nx (σ.set i (some z)) H2) : tAug i te ti D σ H := ⟨x, e, h⟩
theorem s_ipI {f : Int → Int → Int} {i j : Int} (h : Q (.int (f i j)) H) : ipI f (.int i) (.int j) H Q := ⟨i, j, rfl, rfl, h⟩
theorem s_ret {te : TE} (h : te σ H D.rt) : tRet te D σ H := h
theorem s_drop {te : TE} (h : te σ H fun _ H1 => D.nx σ H1) : tDrop te D σ H := h
theorem s_next (h : D.nx σ H) : tNext D σ H := h
theorem s_name {i : Nat} {v : V} {R : St → Hp → Prop} (h : R (σ.set i (some v)) H) : gName i v σ H R := h
theorem s_gnil {R : St → Hp → Prop} (h : R σ H) : gNil [] σ H R := ⟨rfl, h⟩
theorem s_gcons {t : TG} {u : TGs} {v : V} {r : List V} {R : St → Hp → Prop} (h : t v σ H fun σ' H' => u r σ' H' R) : gCons t u (v :: r) σ H R := ⟨v, r, rfl, h⟩
theorem s_gtup {n : Nat} {t : TGs} {a : Addr} {xs : List V} {R : St → Hp → Prop} (hq : SqT K H a xs) (hl : xs.length = n) (h : t xs σ H R) : gTup K n t (.ref a) σ H R := ⟨a, xs, rfl, hq, hl, h⟩
theorem s_gsub {to ti : TE} {t : TSet} {v : V} {R : St → Hp → Prop} (h : to σ H fun o H1 => ti σ H1 fun i H2 => t o i v H2 fun H3 => R σ H3) : gSub to ti t v σ H R := h
theorem s_var {i : Nat} {v : V} (e : σ[i]? = some (some v)) (q : Q v H) : tVar i σ H Q := ⟨v, e, q⟩
theorem s_c {v : V} (q : Q v H) : tC v σ H Q := q
theorem s_op {r : R2} {ta tb : TE} (h : ta σ H fun x H1 => tb σ H1 fun y H2 => r x y H2 Q) : tOp r ta tb σ H Q := h
theorem s_un {r : V → Hp → VK → Prop} {ta : TE} (h : ta σ H fun x H1 => r x H1 Q) : tUn r ta σ H Q := h
theorem s_neg {i : Int} {g : Int → V} (h : Q (g i) H) : rU g (.int i) H Q := ⟨i, rfl, h⟩
theorem s_call {sp : Sp} {dvs : List V} {E : XK} {t : TA} (h : t σ H fun vs H1 => sp (vs ++ dvs) H1 Q E) : tCall sp dvs E t σ H Q := h
theorem s_cons {ta : TE} {tr : TA} {R : List V → Hp → Prop} (h : ta σ H fun x H1 => tr σ H1 fun xs H2 => R (x :: xs) H2) : tCons ta tr σ H R := h
theorem s_nil {R : List V → Hp → Prop} (h : R [] H) : tNil σ H R := h
theorem s_cb {r : List V → Hp → VK → Prop} {t : TA} (h : t σ H fun vs H1 => r vs H1 Q) : tCB r t σ H Q := h
theorem s_lst {t : TA} (h : t σ H fun xs H1 => xs.length ≤ sizeLine ∧ ∀ p, H1 p = none → Q (.ref p) (upd H1 p (.lst xs))) : tLst t σ H Q := h
theorem s_tup {t : TA} (h : t σ H fun xs H1 => xs.length ≤ sizeLine ∧ ∀ p, H1 p = none → Q (.ref p) (upd H1 p (.tup xs))) : tTup t σ H Q := h
theorem s_or {t u : TT} {R : Bool → Hp → Prop} (h : t σ H fun c H1 => if c = true then R true H1 else u σ H1 R) : tOr t u σ H R := h
theorem s_not {t : TT} {R : Bool → Hp → Prop} (h : t σ H fun c H1 => R (!c) H1) : tNot t σ H R := h
theorem s_andV {ta tb : TE} (h : ta σ H fun x H1 => ∃ c, x = .bl c ∧ if c = true then tb σ H1 Q else Q (.bl false) H1) : tAndV ta tb σ H Q := h
theorem s_notV {ta : TE} (h : ta σ H fun x H1 => ∃ c, x = .bl c ∧ Q (.bl (!c)) H1) : tNotV ta σ H Q := h
theorem s_test {t : TE} {R : Bool → Hp → Prop} (h : t σ H fun x H' => ∃ k, x = .bl k ∧ R k H') : tTest t σ H R := h
theorem s_tru {ta : TE} {R : Bool → Hp → Prop} (h : ta σ H fun x H' => ∃ k, TruV K x H' k ∧ R k H') : tTru K ta σ H R := h
theorem s_chain {r r' : R2} {ta tb tc : TE} (h : ta σ H fun x H1 => tb σ H1 fun y H2 => r x y H2 fun z H3 => ∃ k, z = .bl k ∧ (if k = true then tc σ H3 fun w' H4 => r' y w' H4 Q else Q (.bl false) H3)) : tChain r r' ta tb tc σ H Q := h
theorem s_bl {c : Bool} {R : Bool → Prop} (h : R c) : ∃ k, V.bl c = V.bl k ∧ R k := ⟨c, rfl, h⟩
theorem s_truB {c : Bool} {R : Bool → Prop} (h : R c) : ∃ k, TruV K (.bl c) H k ∧ R k := ⟨c, rfl, h⟩
theorem s_truL {a : Addr} {xs : List V} {R : Bool → Prop} (hq : SqL K H a xs) (h : R (!xs.isEmpty)) : ∃ k, TruV K (.ref a) H k ∧ R k := ⟨_, .inl ⟨xs, hq, rfl⟩, h⟩
theorem s_addI {i j : Int} (h : Q (.int (i + j)) H) : rPlus (.int i) (.int j) H Q := .inl ⟨i, j, rfl, rfl, h⟩
theorem s_addL {a b : Addr} {xs ys : List V} (h1 : H a = some (.lst xs)) (h2 : H b = some (.lst ys)) (hz : xs.length + ys.length ≤ sizeLine) (h : ∀ p, H p = none → Q (.ref p) (upd H p (.lst (xs ++ ys)))) : rPlus (.ref a) (.ref b) H Q := .inr (.inr ⟨a, b, xs, ys, rfl, rfl, h1, h2, hz, h⟩)
theorem s_subI {g : Int → Int → V} {i j : Int} (h : Q (g i j) H) : rI0 g (.int i) (.int j) H Q := ⟨i, j, rfl, rfl, h⟩
theorem s_rI {C : Int → Int → Prop} {g : Int → Int → V} {i j : Int} (hc : C i j) (h : Q (g i j) H) : rI C g (.int i) (.int j) H Q := ⟨i, j, rfl, rfl, hc, h⟩
theorem s_mulI {i j : Int} (hc : CMul i j) (h : Q (.int (i * j)) H) : rTimes (.int i) (.int j) H Q := .inl ⟨i, j, rfl, rfl, hc, h⟩
theorem s_rep {a : Addr} {k : Int} {xs : List V} (h1 : H a = some (.lst xs)) (h2 : -(2 ^ 63) ≤ k) (h3 : k < 2 ^ 63) (hz : xs.length * k.toNat ≤ sizeLine) (h : ∀ p, H p = none → Q (.ref p) (upd H p (.lst (List.replicate k.toNat xs).flatten))) : rTimes (.ref a) (.int k) H Q := .inr (.inl ⟨a, k, xs, rfl, rfl, h1, h2, h3, hz, h⟩)
theorem s_eqS {x y : V} (hs : scal x y = true) (h : Q (.bl (decide (x = y))) H) : rEqA K x y H Q := .inl ⟨hs, h⟩
theorem s_eqI {i j : Int} (h : Q (.bl (decide (i = j))) H) : rEqA K (.int i) (.int j) H Q := .inl ⟨rfl, by rw [show decide (V.int i = V.int j) = decide (i = j) from by rw [dec_int]; exact (Bool.beq_eq_decide_eq i j)]; exact h⟩
theorem s_eqB {i j : Bool} (h : Q (.bl (decide (i = j))) H) : rEqA K (.bl i) (.bl j) H Q := .inl ⟨rfl, by rw [show decide (V.bl i = V.bl j) = decide (i = j) from by rw [dec_bl]; exact (Bool.beq_eq_decide_eq i j)]; exact h⟩
theorem s_neI {i j : Int} (h : Q (.bl (!decide (i = j))) H) : rNeA K (.int i) (.int j) H Q := .inl ⟨rfl, by rw [show decide (V.int i = V.int j) = decide (i = j) from by rw [dec_int]; exact (Bool.beq_eq_decide_eq i j)]; exact h⟩
theorem s_is {x y : V} (hl : litV y = true) (h : Q (.bl (decide (x = y))) H) : rIsA x y H Q := ⟨hl, h⟩
theorem s_ixL {p : Addr} {xs : List V} {i : Int} {v : V} (hq : SqL K H p xs) (he : atI xs i = some v) (h : Q v H) : rIxA K (.ref p) (.int i) H Q := .inr (.inl ⟨p, xs, i, v, rfl, rfl, hq, he, h⟩)
theorem s_ixU {p : Addr} {xs : List V} {i : Int} {v : V} (hq : SqT K H p xs) (he : atI xs i = some v) (h : Q v H) : rIxA K (.ref p) (.int i) H Q := .inr (.inr ⟨p, xs, i, v, rfl, rfl, hq, he, h⟩)
theorem s_lenL {p : Addr} {ys : List V} (hq : SqL K H p ys ∨ SqT K H p ys) (h : Q (.int ys.length) H) : rLen K [.ref p] H Q := .inr ⟨p, ys, rfl, hq, h⟩
theorem s_isi {x : V} {T : String} {t : Value} {b : Bool} (ty : TyOf K H x t) (e : PySem.W.kitOne K t (.type T) = some b) (h : Q (.bl b) H) : rIsi K [x, .ty T] H Q := ⟨x, T, t, b, rfl, ty, e, h⟩
theorem s_max {i j : Int} (h : Q (.int (if j > i then j else i)) H) : rMax [.int i, .int j] H Q := ⟨i, j, rfl, h⟩
theorem s_min {i j : Int} (h : Q (.int (if j < i then j else i)) H) : rMin [.int i, .int j] H Q := ⟨i, j, rfl, h⟩
theorem s_bm {T : String} {r : V → List V → Hp → VK → Prop} {to : TE} {t : TA} (h : to σ H fun x H1 => tyV K T x H1 ∧ t σ H1 fun xs H2 => r x xs H2 Q) : tBM K T r to t σ H Q := h
theorem s_bm0 {T : String} {r : V → List V → Hp → VK → Prop} {to : TE} (h : to σ H fun x H1 => tyV K T x H1 ∧ r x [] H1 Q) : tBM0 K T r to σ H Q := h
end


section
variable {g : TG} {tb : TS} {D : Ends} {σ : St} {H : Hp}

def ForW (J : It) (g : TG) (tb : TS) (D : Ends) (σ : St) (H : Hp) : Prop := ∃ W : Nat → Nat → St → Hp → Prop, (∃ m, W 0 m σ H) ∧ ∀ i m σ H, W i m σ H →
  (J.stop i H ∧ D.nx σ H) ∨ (J.go i H ∧ ∃ N : St → Hp → Prop, (∀ σ' H', N σ' H' → ∃ m', m' < m ∧ W (i + 1) m' σ' H') ∧ ∀ x H', J.yld i H x H' → g x σ H' fun σ2 H2 => tb { D with nx := N, ct := N, bk := D.nx } σ2 H2)
theorem s_for {wi : TI} (h : wi σ H fun J H1 => ForW J g tb D σ H1) : tFor wi g tb D σ H := h
theorem s_irng1 {ta : TA} {R : It → Hp → Prop} (h : ta σ H fun vs H1 => ∃ j : Int, vs = [.int j] ∧ -(2 ^ 62) ≤ j ∧ j < 2 ^ 62 ∧ R (Itr 0 j.toNat) H1) : iRng1 ta σ H R := h
theorem s_ilist {K : PySem.W.Frag} {tl : TE} {R : It → Hp → Prop} (h : tl σ H fun x H1 => ∃ a, x = .ref a ∧ (∃ xs, SqL K H1 a xs) ∧ R (Itl K a) H1) : iList K tl σ H R := h
theorem for_rng {lo : Int} {n : Nat} (Pv : Nat → St → Hp → Prop) (h0 : Pv 0 σ H)
    (hs : ∀ i σ H, i < n → Pv i σ H → g (.int (lo + i)) σ H fun σ2 H2 => tb { D with nx := Pv (i + 1), ct := Pv (i + 1), bk := D.nx } σ2 H2) (hd : ∀ σ H, Pv n σ H → D.nx σ H) : ForW (Itr lo n) g tb D σ H := for_range Pv h0 hs hd
theorem for_lst {K : PySem.W.Frag} {a : Addr} {xs : List V} (Pv : Nat → St → Hp → Prop) (h0 : Pv 0 σ H) (hl : ∀ i σ H, i ≤ xs.length → Pv i σ H → SqL K H a xs)
    (hs : ∀ i x σ H, xs[i]? = some x → Pv i σ H → g x σ H fun σ2 H2 => tb { D with nx := Pv (i + 1), ct := Pv (i + 1), bk := D.nx } σ2 H2) (hd : ∀ σ H, Pv xs.length σ H → D.nx σ H) : ForW (Itl K a) g tb D σ H := for_list Pv h0 hl hs hd
def CW (D : Addr) (n : Nat) (Pv : Nat → List V → Hp → Prop) (i m : Nat) (H : Hp) : Prop := m = n - i ∧ i ≤ n ∧ ∃ ys, H D = some (.lst ys) ∧ ys.length ≤ i ∧ Pv i ys H
def CompW (J : It) (own : List Str) (sel : List Nat) (σ : St) (g : TG) (tt : TT) (te : TE) (Q : VK) (H1 : Hp) : Prop := ∀ D, H1 D = none →
  ∃ W : Nat → Nat → Hp → Prop, (∃ m, W 0 m (upd H1 D (.lst []))) ∧ ∀ i m H2, W i m H2 →
    (J.stop i H2 ∧ Q (.ref D) H2) ∨ (J.go i H2 ∧ ∀ x H3, J.yld i H2 x H3 → g x (inSt own sel σ) H3 fun σ4 H4 => tt σ4 H4 fun b H5 =>
      if b = true then te σ4 H5 fun v H6 => ∃ ys, H6 D = some (.lst ys) ∧ ys.length < sizeLine ∧ ∃ m', m' < m ∧ W (i + 1) m' (upd H6 D (.lst (ys ++ [v])))
      else ∃ m', m' < m ∧ W (i + 1) m' H5)
theorem s_comp {own : List Str} {sel : List Nat} {wi : TI} {tt : TT} {te : TE} {Q : VK} (h : wi σ H fun J H1 => CompW J own sel σ g tt te Q H1) : tComp own sel wi g tt te σ H Q := h
theorem comp_of {J : It} {n : Nat} {own : List Str} {sel : List Nat} {tt : TT} {te : TE} {Q : VK} {H1 : Hp} (Pv : Addr → Nat → List V → Hp → Prop) (h0 : ∀ D, H1 D = none → Pv D 0 [] (upd H1 D (.lst [])))
    (hgo : ∀ D i ys H, H1 D = none → i < n → H D = some (.lst ys) → Pv D i ys H → J.go i H) (hst : ∀ D ys H, H1 D = none → H D = some (.lst ys) → ys.length ≤ n → Pv D n ys H → J.stop n H ∧ Q (.ref D) H)
    (hs : ∀ D i ys H x H3, H1 D = none → i < n → H D = some (.lst ys) → ys.length ≤ i → Pv D i ys H → J.yld i H x H3 → g x (inSt own sel σ) H3 fun σ4 H4 => tt σ4 H4 fun b H5 =>
      if b = true then te σ4 H5 fun v H6 => ∃ ys, H6 D = some (.lst ys) ∧ ys.length < sizeLine ∧ ∃ m', m' < n - i ∧ CW D n (Pv D) (i + 1) m' (upd H6 D (.lst (ys ++ [v])))
      else ∃ m', m' < n - i ∧ CW D n (Pv D) (i + 1) m' H5) : CompW J own sel σ g tt te Q H1 := by
  intro D hD
  refine ⟨CW D n (Pv D), ⟨n, by simp, Nat.zero_le _, [], upd_same, Nat.le_refl _, h0 D hD⟩, ?_⟩
  rintro i m H2 ⟨rfl, hi, ys, hy, hl, p⟩
  by_cases hlt : i < n
  · exact .inr ⟨hgo D i ys H2 hD hlt hy p, fun x H3 y => hs D i ys H2 x H3 hD hlt hy hl p y⟩
  · have e : i = n := by omega
    subst e
    exact .inl (hst D ys H2 hD hy hl p)
theorem s_yes {R : Bool → Hp → Prop} (h : R true H) : tYes σ H R := h
end


theorem small {n : Nat} (h : n ≤ 1000) : n ≤ sizeLine := Nat.le_of_lt (small1000 h)
theorem same_new {H : Hp} {p : Addr} (h : H p = none) (o : HO) : Same H (upd H p o) := fun b u q => by rw [upd_ne (ne_of_none q h)]; exact q

def SameBut1 (p : Addr) (H H' : Hp) : Prop := ∀ b o, H b = some o → b ≠ p → H' b = some o
theorem SameBut1.refl (p : Addr) (H : Hp) : SameBut1 p H H := fun _ _ h _ => h
theorem SameBut1.trans {p : Addr} {H H1 H2 : Hp} (a : SameBut1 p H H1) (b : SameBut1 p H1 H2) : SameBut1 p H H2 := fun c o h n => b c o (a c o h n) n
theorem SameBut1.of {p : Addr} {H H' : Hp} (a : Same H H') : SameBut1 p H H' := fun c o h _ => a c o h
theorem SameBut1.upd {p : Addr} {H : Hp} {o : HO} : SameBut1 p H (upd H p o) := fun c u h n => by rw [upd_ne n]; exact h
end L2

namespace L2
open PySem PySem.Spec PyProof.Rows

def compOkB (osc : Scope) (N : List Str) (own : List Str) (sel : List Nat) (scope : Scope) : Bool :=
  (scope.kind == .function) && scope.names.all (fun y => y.2 != .cell) && scope.names.all (fun y => y.2 != .local || scope.names.lookup y.1 == some .local) &&
  scope.names.all (fun y => y.2 != .free || osc.names.lookup y.1 == some .cell || osc.names.lookup y.1 == some .free) &&
  sel.all (fun j => decide (j < N.length) && scope.names.lookup (N.getD j Str.empty) == some .free && (osc.names.lookup (N.getD j Str.empty) == some .cell || osc.names.lookup (N.getD j Str.empty) == some .free))
theorem compOk_of {osc : Scope} {N : List Str} {own : List Str} {sel : List Nat} {scope : Scope} (h : compOkB osc N own sel scope = true) : CompOk osc N own sel scope := by
  unfold compOkB at h
  simp only [Bool.and_eq_true, List.all_eq_true] at h
  obtain ⟨⟨⟨⟨h1, h2⟩, h3⟩, h4⟩, h5⟩ := h
  refine ⟨by simpa using h1, fun y hy => by simpa using h2 y hy, fun y hy e => ?_, fun y hy e => ?_, fun j hj => ?_⟩
  · have := h3 y hy
    simp only [Bool.or_eq_true, bne_iff_ne, beq_iff_eq] at this
    rcases this with q | q
    · exact absurd e q
    · exact q
  · have := h4 y hy
    simp only [Bool.or_eq_true, bne_iff_ne, beq_iff_eq] at this
    rcases this with (q | q) | q
    · exact absurd e q
    · exact .inl q
    · exact .inr q
  · have := h5 j hj
    simp only [Bool.or_eq_true, beq_iff_eq, decide_eq_true_eq] at this
    exact ⟨this.1.1, this.1.2, this.2⟩


structure DefAt (K : PySem.W.Frag) (mg : Str → Option Value) (x : Str) (st : Stmt) (ps : List Str) (f : Addr) (fd : FuncData) : Prop where
  F : Fun K x x st f fd
  m : mg x = some (.ref f)
  b : Binds K fd ps []
theorem DefAt.fnU {P : Program} {w : World} {K : PySem.W.Frag} {mg : Str → Option Value} {base : Heap} {x : Str} {st : Stmt} {ps : List Str} {f : Addr} {fd : FuncData} {k : Nat} {sp : Sp} (d : DefAt K mg x st ps f fd) (ok : FnOk P w K mg base CX0 k f fd ps sp) : FnU P w K mg base k x ps sp :=
  ⟨f, fd, ok, d.m, d.F.kp, d.b⟩


def PoolAt (H : Hp) (p : Addr) (n : Nat) : Prop := ∃ a b c : Int, H p = some (.lst [.int a, .int b, .int c]) ∧ 0 ≤ c ∧ c ≤ n
theorem PoolAt.mono {H : Hp} {p : Addr} {n m : Nat} (h : PoolAt H p n) (hm : n ≤ m) : PoolAt H p m := by
  obtain ⟨a, b, c, e, h1, h2⟩ := h
  exact ⟨a, b, c, e, h1, by omega⟩
theorem PoolAt.same {H H' : Hp} {p : Addr} {n : Nat} (h : PoolAt H p n) (s : Same H H') : PoolAt H' p n := by
  obtain ⟨a, b, c, e, h1, h2⟩ := h
  exact ⟨a, b, c, s _ _ e, h1, h2⟩
theorem PoolAt.ne {H : Hp} {p q : Addr} {n : Nat} (h : PoolAt H p n) (hq : H q = none) : q ≠ p := by
  obtain ⟨a, b, c, e, _⟩ := h
  exact (ne_of_none e hq).symm
def spTake : Sp := fun vs H Q _ => ∃ p n m, vs = [.ref p, .int m] ∧ PoolAt H p n ∧ n ≤ 1000000 ∧ 0 < m ∧ m ≤ 1000000 ∧ ∀ r H', 0 ≤ r → r < m → PoolAt H' p (n + 1) → SameBut1 p H H' → Q (.int r) H'
def spPool (K : PySem.W.Frag) : Sp := fun vs H Q _ => ∃ (a : Addr) (ns : List Int) (k : Int), vs = [.ref a, .int k] ∧ SqL K H a (ns.map V.int) ∧ ns.length ≤ 63 ∧ 0 ≤ k ∧ k ≤ 63 ∧ ∀ p H', H p = none → Same H H' → PoolAt H' p 4599 → Q (.ref p) H'
theorem s_setL {p : Addr} {xs : List V} {k : Int} {j : Nat} {v : V} {H : Hp} {R : Hp → Prop} (h : H p = some (.lst xs)) (e : ixN xs.length k = some j) (q : R (upd H p (.lst (xs.set j v)))) : rSetL (.ref p) (.int k) v H R := ⟨p, xs, k, j, rfl, rfl, h, e, q⟩

def WN (Pv : St → Hp → Prop) (μ : St → Hp → Nat) (m : Nat) : St → Hp → Prop := fun σ' H' => Pv σ' H' ∧ μ σ' H' < m
theorem while_of {c : TT} {tb : TS} {D : Ends} {σ : St} {H : Hp} (Pv : St → Hp → Prop) (μ : St → Hp → Nat) (h0 : Pv σ H)
    (hs : ∀ σ H, Pv σ H → c σ H fun b H1 => if b = true then ∃ N : St → Hp → Prop, (∀ σ' H', N σ' H' → ∃ m', m' < μ σ H ∧ (m' = μ σ' H' ∧ Pv σ' H')) ∧ tb { D with nx := N, ct := N, bk := D.nx } σ H1 else D.nx σ H1) : tWhile c tb D σ H :=
  ⟨fun m σ H => m = μ σ H ∧ Pv σ H, ⟨_, rfl, h0⟩, fun m σ H ⟨e, p⟩ => by subst e; exact hs σ H p⟩
theorem wh_body {tb : TS} {D : Ends} {σ : St} {H1 : Hp} {Pv : St → Hp → Prop} {μ : St → Hp → Nat} {m : Nat} (h : tb { D with nx := WN Pv μ m, ct := WN Pv μ m, bk := D.nx } σ H1) :
    ∃ N : St → Hp → Prop, (∀ σ' H', N σ' H' → ∃ m', m' < m ∧ (m' = μ σ' H' ∧ Pv σ' H')) ∧ tb { D with nx := N, ct := N, bk := D.nx } σ H1 :=
  ⟨WN Pv μ m, fun σ' H' ⟨p, l⟩ => ⟨_, l, rfl, p⟩, h⟩
theorem rel_of_abs {u : Value} {x : V} (h : absV u = some x) : RelV x u := by
  cases u <;> first
    | (cases h; rfl)
    | (cases h; exact ⟨_, rfl⟩)
    | (exact absurd h (by intro z; cases z))
def tupIs (its : Array Value) (xs : List V) : Bool := decide (its.toList.map absV = xs.map some)
theorem vals_of_abs : ∀ {xs : List V} {us : List Value}, us.map absV = xs.map some → Vals xs us
  | [], [], _ => .nil
  | x :: xs, u :: us, h => by
    rw [List.map_cons, List.map_cons] at h
    injection h with h1 h2
    exact .cons (rel_of_abs h1) (vals_of_abs h2)
  | [], _ :: _, h => by cases h
  | _ :: _, [], h => by cases h
theorem tupIs_vals {its : Array Value} {xs : List V} (h : tupIs its xs = true) : Vals xs its.toList := vals_of_abs (of_decide_eq_true h)
theorem tupIs_size {its : Array Value} {xs : List V} (h : tupIs its xs = true) (hx : xs.length ≤ 1000) : its.size ≤ sizeLine := by
  have e := (tupIs_vals h).length
  have e2 : its.toList.length = its.size := by simp
  exact Nat.le_of_lt (small1000 (by omega))
theorem ifd {c A B : Prop} [Decidable c] (h1 : c → A) (h2 : ¬ c → B) : if decide c = true then A else B := by
  by_cases h : c
  · rw [if_pos (decide_eq_true h)]; exact h1 h
  · rw [if_neg (by rw [decide_eq_false h]; exact Bool.false_ne_true)]; exact h2 h
theorem ifp {c : Bool} {A B : Prop} (hc : c = true) (h : A) : if c = true then A else B := by rw [if_pos hc]; exact h
theorem ifq {c : Bool} {A B : Prop} (hc : c = false) (h : B) : if c = true then A else B := by rw [if_neg (by rw [hc]; exact Bool.false_ne_true)]; exact h
theorem atI_ints {ns : List Int} {k : Int} (h0 : 0 ≤ k) (h : k < (ns.length : Int)) : ∃ v : Int, atI (ns.map V.int) k = some (.int v) := by
  have hk : k.toNat < ns.length := by omega
  have ek : k = ((k.toNat : Nat) : Int) := by omega
  have q : atI (ns.map V.int) ((k.toNat : Nat) : Int) = some (.int ns[k.toNat]) := atI_nat (by rw [List.getElem?_map, List.getElem?_eq_getElem hk]; rfl)
  rw [← ek] at q
  exact ⟨_, q⟩
theorem pool_new {H : Hp} {p : Addr} {a b c : Int} {n : Nat} (h0 : 0 ≤ c) (h : c ≤ n) : PoolAt (upd H p (.lst [.int a, .int b, .int c])) p n := ⟨a, b, c, upd_same, h0, h⟩
end L2

namespace BrM
open L2

def opn : List Nat := [40, 91, 123, 60]
def cls : List Nat := [41, 93, 125, 62]
def clo (c : Nat) : Nat := if c = 40 then 41 else if c = 91 then 93 else if c = 123 then 125 else 62
def stp (st : List Nat) (c : Nat) : Option (List Nat) :=
  if c ∈ opn then some (clo c :: st) else match st with
    | d :: r => if c = d then some r else none
    | [] => none
def run : List Nat → List Nat → Option (List Nat)
  | st, [] => some st
  | st, c :: r => (stp st c).bind fun s => run s r
theorem stp_open {c : Nat} (h : c ∈ opn) (st : List Nat) : stp st c = some (clo c :: st) := by unfold stp; rw [if_pos h]
theorem stp_close {d : Nat} (h : d ∉ opn) (r : List Nat) : stp (d :: r) d = some r := by unfold stp; rw [if_neg h]; simp

def Rt (row : List Nat) : Prop := run [] row = some []

theorem take_use {H : Hp} {p : PySem.Addr} {n : Nat} {m : Int} {Q : VK} {E : XK} (hp : PoolAt H p n) (hn : n ≤ 1000000) (h0 : 0 < m) (h1 : m ≤ 1000000) (q : ∀ r H', 0 ≤ r → r < m → PoolAt H' p (n + 1) → SameBut1 p H H' → Q (.int r) H') :
    spTake ([.ref p, .int m] ++ []) H Q E := ⟨p, n, m, rfl, hp, hn, h0, h1, q⟩
end BrM

namespace BrM
open L2

def sg (c : Nat) : Int := if c ∈ opn then 1 else -1
def hg : List Nat → Int
  | [] => 0
  | c :: r => sg c + hg r
theorem hg_append (a b : List Nat) : hg (a ++ b) = hg a + hg b := by
  induction a with
  | nil => simp [hg]
  | cons c r ih => rw [List.cons_append, hg, hg, ih]; omega
def ht (a : List Nat) (i : Nat) : Int := hg (a.take i)
def Pr (a : List Nat) (x y : Nat) : Prop := x < y ∧ y < a.length ∧ ht a (y + 1) = ht a x ∧ ∀ m, x < m → m ≤ y → ht a x < ht a m
inductive WS (a : List Nat) (i : Nat) : List Nat → List Nat → Prop where
  | nil : WS a i [] []
  | cons {w c : Nat} {ws st : List Nat} : w < i → a[w]? = some c → c ∈ opn → ht a w = ws.length → (∀ m, w < m → m ≤ i → ht a w < ht a m) → WS a i ws st → WS a i (w :: ws) (clo c :: st)
theorem WS.len {a ws st : List Nat} {i : Nat} (h : WS a i ws st) : ws.length = st.length := by
  induction h with
  | nil => rfl
  | cons _ _ _ _ _ _ ih => simp [ih]
theorem WS.lt {a ws st : List Nat} {i : Nat} (h : WS a i ws st) : ∀ w ∈ ws, w < i := by
  induction h with
  | nil => intro w z; cases z
  | cons h1 _ _ _ _ _ ih =>
    intro w z
    rcases List.mem_cons.mp z with rfl | z
    · exact h1
    · exact ih w z
theorem WS.ext {a ws st : List Nat} {i : Nat} (h : WS a i ws st) (hh : (ws.length : Int) ≤ ht a (i + 1)) : WS a (i + 1) ws st := by
  induction h with
  | nil => exact .nil
  | cons h1 h2 h3 h4 h5 _ ih =>
    simp only [List.length_cons] at hh
    refine .cons (by omega) h2 h3 h4 (fun m hm1 hm2 => ?_) (ih (by omega))
    by_cases e : m = i + 1
    · subst e; omega
    · exact h5 m hm1 (by omega)
structure MI (a : List Nat) (i : Nat) (st ws : List Nat) (xs : List V) : Prop where
  rn : run [] (a.take i) = some st
  wk : WS a i ws st
  len : xs.length = a.length
  don : ∀ k, k < i → k ∈ ws ∨ ∃ p : Nat, xs[k]? = some (.int p) ∧ (Pr a k p ∨ Pr a p k)
theorem MI.top {a st : List Nat} {w : Nat} {ws : List Nat} {xs : List V} {i : Nat} (m : MI a i st (w :: ws) xs) : ∃ c r, a[w]? = some c ∧ c ∈ opn ∧ st = clo c :: r ∧ w < i := by
  have h := m.wk
  cases h with
  | cons h1 h2 h3 h4 h5 h6 => exact ⟨_, _, h2, h3, rfl, h1⟩
end BrM

namespace BrM
open L2 PySem

def plainTy : List String := ["NoneType", "bool", "int", "str", "list", "tuple", "dict"]
def spWhole (K : PySem.W.Frag) : Sp := fun vs H Q _ => ∃ x T, vs = [x] ∧ TyOf K H x (.type T) ∧ T ∈ plainTy ∧ Q (.bl (decide (T = "int"))) H
theorem whole_int {K : PySem.W.Frag} {H : Hp} {i : Int} {Q : VK} {E : XK} (q : Q (.bl true) H) : spWhole K ([.int i] ++ []) H Q E := ⟨.int i, "int", rfl, .int i, by decide, q⟩
def spKinds : Sp := fun vs H Q _ => ∃ k, vs = [.int k] ∧ 1 ≤ k ∧ k ≤ 4 ∧ Q .non H
theorem kinds_use {H : Hp} {k : Int} {Q : VK} {E : XK} (h1 : 1 ≤ k) (h2 : k ≤ 4) (q : Q .non H) : spKinds ([.int k] ++ []) H Q E := ⟨k, rfl, h1, h2, q⟩
def sgn (k : Int) : List Nat := opn.take k.toNat ++ cls.take k.toNat ++ [63]
def isRow (k : Int) (a : List Nat) : Bool := decide (a.length ≤ 40) && a.all fun c => decide (c ∈ sgn k)
instance (a : List Nat) : Decidable (Rt a) := by unfold Rt; infer_instance
def spLaw (K : PySem.W.Frag) : Sp := fun vs H Q _ => ∃ (a : Addr) (ns : List Int), vs = [.ref a] ∧ SqL K H a (ns.map V.int) ∧ ns.length ≤ 63 ∧ ∀ H', Q (.bl true) H'
theorem Same.but {H H1 H2 : Hp} {p : Addr} (a : Same H H1) (b : SameBut1 p H1 H2) (h : H p = none) : Same H H2 := fun c o z => b c o (a c o z) (ne_of_none z h)
theorem SameBut1.at {H H1 : Hp} {p b : Addr} {o : HO} (s : SameBut1 p H H1) (h : H b = some o) (n : b ≠ p) : H1 b = some o := s b o h n
end BrM

namespace BrM
open L2 PySem

def mx (a : List Nat) : Nat → Int
  | 0 => 0
  | i + 1 => if ht a (i + 1) > mx a i then ht a (i + 1) else mx a i
def deep (a : List Nat) : Int := mx a a.length

def piece (a : List Nat) (b e : Nat) : List Nat := cutL a (some (b : Int)) (some (e : Int))
def ct (a : List Nat) : Nat → List (List Nat) × Nat
  | 0 => ([], 0)
  | i + 1 => if ht a (i + 1) = 0 then ((ct a i).1 ++ [piece a (ct a i).2 (i + 1)], i + 1) else ct a i
def pts (a : List Nat) : List (List Nat) := (ct a a.length).1
end BrM

namespace BrM
open L2 PySem

end BrM

namespace BrR
open PySem PySem.Spec PyProof.Rows
open PySem.Builtin
end BrR

namespace BrR
open PySem PySem.Spec PyProof.Rows L2
open PySem.Builtin

section
variable {prog : Program} {w : World} {A : Around} {E : Value → Shared → Prop} {s : Shared}
end

end BrR

namespace L2
open PySem PySem.Spec PyProof.Rows BrR
section
variable {X : Cx}

end
section
variable {σ : St} {H : Hp} {Q : VK} {K : PySem.W.Frag}
theorem comp_rng {lo : Int} {n : Nat} {own : List Str} {sel : List Nat} {g : TG} {tt : TT} {te : TE} (hn : n ≤ sizeLine) (Pv : Addr → Nat → List V → Hp → Prop) (h0 : ∀ D, H D = none → Pv D 0 [] (upd H D (.lst [])))
    (hst : ∀ D ys H', H D = none → H' D = some (.lst ys) → Pv D n ys H' → Q (.ref D) H')
    (hs : ∀ D i ys H', H D = none → i < n → H' D = some (.lst ys) → ys.length ≤ i → Pv D i ys H' → g (.int (lo + i)) (inSt own sel σ) H' fun σ4 H4 => tt σ4 H4 fun b H5 =>
      if b = true then te σ4 H5 fun v H6 => ∃ ys, H6 D = some (.lst ys) ∧ ys.length < sizeLine ∧ ∃ m', m' < n - i ∧ CW D n (Pv D) (i + 1) m' (upd H6 D (.lst (ys ++ [v])))
      else ∃ m', m' < n - i ∧ CW D n (Pv D) (i + 1) m' H5) : CompW (Itr lo n) own sel σ g tt te Q H := by
  refine comp_of (n := n) Pv h0 (fun D i ys H' hD hi _ p => hi) (fun D ys H' hD hy hl p => ⟨Nat.le_refl _, hst D ys H' hD hy p⟩) (fun D i ys H' x H3 hD hi hy hl p y => ?_)
  obtain ⟨rfl, rfl⟩ := y
  exact hs D i ys _ hD hi hy hl p
end
end L2

namespace BrM
open L2 PySem BrR

def oth (c : Nat) : Nat := if c = 40 then 41 else if c = 91 then 93 else if c = 123 then 125 else if c = 60 then 62 else if c = 41 then 40 else if c = 93 then 91 else if c = 125 then 123 else if c = 62 then 60 else c
def trn (a : List Nat) : List Nat := a.reverse.map oth
end BrM

namespace L2
open PySem PySem.Spec PyProof.Rows BrR
section
variable {X : Cx}
end
section
variable {σ : St} {H : Hp} {Q : VK} {K : PySem.W.Frag}
end
end L2
namespace BrM
open L2 PySem

structure PtsOk (a : List Nat) : Prop where
  flat : (pts a).flatten = a
  form : ∀ p ∈ pts a, ∃ o M, p = [o] ++ M ++ [clo o] ∧ o ∈ opn ∧ Rt M
  le : ∀ p ∈ pts a, deep p ≤ deep a
  top : deep a = 0 ∨ ∃ p ∈ pts a, deep p = deep a
  back : pts (trn a) = ((pts a).map trn).reverse
theorem len_mem_flat {p : List Nat} : ∀ {l : List (List Nat)}, p ∈ l → p.length ≤ l.flatten.length
  | q :: r, h => by
    rw [List.flatten_cons, List.length_append]
    rcases List.mem_cons.mp h with z | z
    · subst z; omega
    · have := len_mem_flat z; omega
theorem PtsOk.len {a : List Nat} (h : PtsOk a) {p : List Nat} (hp : p ∈ pts a) : p.length ≤ a.length := by
  have := len_mem_flat hp
  rwa [h.flat] at this
end BrM
namespace L2
open PySem PySem.Spec PyProof.Rows BrR
section
variable {σ : St} {H : Hp} {Q : VK} {K : PySem.W.Frag}

end
end L2
namespace BrM
open L2 PySem
end BrM

namespace L2
open PySem PySem.Spec PyProof.Rows


section
variable {X : Cx}
end
end L2

namespace L2
open PySem PySem.Spec PyProof.Rows

section
variable {X : Cx} {tg : Expr}

end
section
variable {X : Cx}
end
section
variable {σ : St} {H : Hp} {Q : VK} {D : Ends} {K : PySem.W.Frag}
end
end L2

namespace L2
open PySem PySem.Spec PyProof.Rows

section
variable {X : Cx}
end
section
variable {σ : St} {H : Hp} {Q : VK} {K : PySem.W.Frag}
end


section
variable {σ : St} {H : Hp} {Q : VK} {K : PySem.W.Frag}
end
end L2

namespace BrC

def sm : Nat → (Nat → Int) → Int
  | 0, _ => 0
  | n + 1, f => sm n f + f n
theorem sm_congr {f g : Nat → Int} : ∀ n, (∀ i, i < n → f i = g i) → sm n f = sm n g
  | 0, _ => rfl
  | n + 1, h => by unfold sm; rw [sm_congr n fun i hi => h i (Nat.lt_succ_of_lt hi), h n (Nat.lt_succ_self n)]
theorem sm_add (f g : Nat → Int) : ∀ n, sm n (fun i => f i + g i) = sm n f + sm n g
  | 0 => rfl
  | n + 1 => by unfold sm; rw [sm_add f g n]; show sm n f + sm n g + (f n + g n) = _; omega
theorem sm_zero {f : Nat → Int} : ∀ n, (∀ i, i < n → f i = 0) → sm n f = 0
  | 0, _ => rfl
  | n + 1, h => by unfold sm; rw [sm_zero n fun i hi => h i (Nat.lt_succ_of_lt hi), h n (Nat.lt_succ_self n)]; rfl
theorem sm_nonneg {f : Nat → Int} : ∀ n, (∀ i, i < n → 0 ≤ f i) → 0 ≤ sm n f
  | 0, _ => Int.le_refl _
  | n + 1, h => by unfold sm; have := sm_nonneg n fun i hi => h i (Nat.lt_succ_of_lt hi); have := h n (Nat.lt_succ_self n); omega
theorem sm_mono {f g : Nat → Int} : ∀ n, (∀ i, i < n → f i ≤ g i) → sm n f ≤ sm n g
  | 0, _ => Int.le_refl _
  | n + 1, h => by unfold sm; have := sm_mono n fun i hi => h i (Nat.lt_succ_of_lt hi); have := h n (Nat.lt_succ_self n); omega
theorem sm_const (c : Int) : ∀ n, sm n (fun _ => c) = n * c
  | 0 => by simp [sm]
  | n + 1 => by rw [sm, sm_const c n]; rw [Int.natCast_add, Int.add_mul]; simp
theorem sm_one {f : Nat → Int} {n i : Nat} (hi : i < n) (h : ∀ j, j < n → j ≠ i → f j = 0) : sm n f = f i := by
  induction n with
  | zero => omega
  | succ n ih =>
    unfold sm
    by_cases e : i = n
    · subst e; rw [sm_zero i fun j hj => h j (by omega) (by omega)]; omega
    · rw [ih (by omega) fun j hj => h j (by omega), h n (by omega) (by omega)]; omega
def cv (P : Nat → Nat → Int) (k : Nat) : Nat → Nat → List Nat → Int
  | 0, _, [] => 1
  | 0, _, _ :: _ => 0
  | n + 1, i, st => sm k (fun p => P i (2 * p) * cv P k n (i + 1) (p :: st)) + (match st with | [] => 0 | o :: r => P i (2 * o + 1) * cv P k n (i + 1) r)
variable {P : Nat → Nat → Int} {k : Nat}
theorem cv_nil (n i : Nat) : cv P k (n + 1) i [] = sm k (fun p => P i (2 * p) * cv P k n (i + 1) [p]) := by
  rw [cv]; simp
theorem cv_cons (n i o : Nat) (st : List Nat) : cv P k (n + 1) i (o :: st) = sm k (fun p => P i (2 * p) * cv P k n (i + 1) (p :: o :: st)) + P i (2 * o + 1) * cv P k n (i + 1) st := by
  rw [cv]

def pr (P : Nat → Nat → Int) (k i j : Nat) : Int := sm k fun p => P i (2 * p) * P j (2 * p + 1)
theorem cv_bound {c : Int} (hc : 0 ≤ c) (h0 : ∀ i b, 0 ≤ P i b) (h1 : ∀ i b, P i b ≤ c) : ∀ (n i : Nat) (st : List Nat), 0 ≤ cv P k n i st ∧ cv P k n i st ≤ (((k : Int) + 1) * c) ^ n
  | 0, i, [] => ⟨by simp [cv], by simp [cv]⟩
  | 0, i, _ :: _ => ⟨by simp [cv], by simp [cv]⟩
  | n + 1, i, st => by
    have ih := cv_bound hc h0 h1 n (i + 1)
    have hB : 0 ≤ (((k : Int) + 1) * c) ^ n := Int.le_trans (ih []).1 (ih []).2
    have tm : ∀ b s', 0 ≤ P i b * cv P k n (i + 1) s' ∧ P i b * cv P k n (i + 1) s' ≤ c * (((k : Int) + 1) * c) ^ n := fun b s' =>
      ⟨Int.mul_nonneg (h0 i b) (ih s').1, Int.mul_le_mul (h1 i b) (ih s').2 (ih s').1 hc⟩
    have s1 : 0 ≤ sm k (fun p => P i (2 * p) * cv P k n (i + 1) (p :: st)) := sm_nonneg k fun p _ => (tm _ _).1
    have s2 : sm k (fun p => P i (2 * p) * cv P k n (i + 1) (p :: st)) ≤ k * (c * (((k : Int) + 1) * c) ^ n) := by
      rw [← sm_const]; exact sm_mono k fun p _ => (tm _ _).2
    have e : (((k : Int) + 1) * c) ^ (n + 1) = k * (c * (((k : Int) + 1) * c) ^ n) + c * (((k : Int) + 1) * c) ^ n := by
      rw [Int.pow_succ, Int.mul_comm, Int.mul_assoc, Int.add_mul, Int.one_mul]
    have s3 : 0 ≤ c * (((k : Int) + 1) * c) ^ n := Int.mul_nonneg hc hB
    cases st with
    | nil => rw [cv_nil, e]; exact ⟨s1, by omega⟩
    | cons o r =>
      have := tm (2 * o + 1) r
      rw [cv_cons, e]; constructor <;> omega

end BrC
namespace BrC
end BrC
namespace BrC
variable {P : Nat → Nat → Int} {k : Nat}

end BrC

namespace BrS
open L2 PySem BrM BrC

abbrev iL (l : List Int) : HO := .lst (l.map V.int)

def Pls (H : Hp) (r : Addr) (ps : List (List Int)) : Prop := ∃ ad : Nat → Addr, H r = some (.lst ((List.range ps.length).map fun i => V.ref (ad i))) ∧ ∀ i, i < ps.length → H (ad i) = some (iL (ps.getD i []))
def rwl (n : Nat) (f : Nat → Int) : List V := (List.range (n + 1)).map fun j => V.int (f j)
theorem rwl_set {n j : Nat} {f : Nat → Int} {v : Int} : (rwl n f).set j (.int v) = rwl n (fun x => if x = j then v else f x) := by
  apply List.ext_getElem?
  intro i
  unfold rwl
  rw [List.getElem?_set, List.getElem?_map, List.getElem?_map]
  by_cases e : j = i
  · subst e
    by_cases hj : j < n + 1
    · rw [List.getElem?_range hj]; simp [hj]
    · rw [if_pos rfl, if_neg (by simpa using hj)]
      rw [List.getElem?_eq_none (by simpa using hj)]; rfl
  · rw [if_neg e]
    by_cases hi : i < n + 1
    · rw [List.getElem?_range hi]; simp [Ne.symm e]
    · rw [List.getElem?_eq_none (by simpa using hi)]; rfl
theorem rwl_congr {n : Nat} {f g : Nat → Int} (h : ∀ j, j ≤ n → f j = g j) : rwl n f = rwl n g := by
  unfold rwl
  refine List.map_congr_left fun j hj => ?_
  rw [h j (by have := List.mem_range.mp hj; omega)]

structure Tb (H0 H : Hp) (s : Addr) (ad : Nat → Addr) (n : Nat) (T : Nat → Nat → Int) : Prop where
  fs : H0 s = none
  fa : ∀ i, i ≤ n → H0 (ad i) = none
  ns : ∀ i, i ≤ n → ad i ≠ s
  inj : ∀ i j, i ≤ n → j ≤ n → ad i = ad j → i = j
  top : H s = some (.lst ((List.range (n + 1)).map fun i => V.ref (ad i)))
  row : ∀ i, i ≤ n → H (ad i) = some (.lst (rwl n (T i)))
  sm : Same H0 H
section
variable {H0 H H' : Hp} {s : Addr} {ad : Nat → Addr} {n : Nat} {T T' : Nat → Nat → Int}
theorem Tb.congr (t : Tb H0 H s ad n T) (h : ∀ i j, i ≤ n → j ≤ n → T i j = T' i j) : Tb H0 H s ad n T' := ⟨t.fs, t.fa, t.ns, t.inj, t.top, fun i hi => by rw [t.row i hi, rwl_congr fun j hj => h i j hi hj], t.sm⟩
theorem Tb.at (t : Tb H0 H s ad n T) {i : Nat} (hi : i ≤ n) : ((List.range (n + 1)).map fun i => V.ref (ad i))[i]? = some (.ref (ad i)) := by
  rw [List.getElem?_map, List.getElem?_range (by omega)]; rfl
theorem Tb.set (t : Tb H0 H s ad n T) {i j : Nat} {v : Int} (hi : i ≤ n) : Tb H0 (upd H (ad i) (.lst ((rwl n (T i)).set j (.int v)))) s ad n (fun a b => if a = i ∧ b = j then v else T a b) := by
  refine ⟨t.fs, t.fa, t.ns, t.inj, by rw [upd_ne (Ne.symm (t.ns i hi))]; exact t.top, fun a ha => ?_, fun b o z => ?_⟩
  · by_cases e : a = i
    · subst e
      rw [upd_same, rwl_set]
      congr 2
      refine rwl_congr fun x _ => ?_
      by_cases q : x = j <;> simp [q]
    · rw [upd_ne (fun z => e (t.inj a i ha hi z)), t.row a ha]
      congr 2
      refine rwl_congr fun x _ => ?_
      simp [e]
  · rw [upd_ne (ne_of_none z (t.fa i hi))]; exact t.sm b o z
end

def brs : List Nat := [40, 41, 91, 93, 123, 125, 60, 62]
def plw (w : List Int) (c : Nat) : List Int := if c = 63 then w else (brs.take w.length).map fun b => if c = b then 1 else 0
theorem plw_len {w : List Int} {c : Nat} (h : w.length ≤ 8) : (plw w c).length = w.length := by
  unfold plw
  split
  · rfl
  · rw [List.length_map, List.length_take]; exact Nat.min_eq_left h
abbrev PP (ps : List (List Int)) : Nat → Nat → Int := fun i b => (ps.getD i []).getD b 0
abbrev ones (k : Nat) : List Int := List.replicate (2 * k) 1

def top30 : Int := 10 ^ 31
def Sm (l : List Int) : Prop := ∀ v ∈ l, 0 ≤ v ∧ v ≤ top30
theorem Sm.at {l : List Int} (h : Sm l) (b : Nat) : 0 ≤ l.getD b 0 ∧ l.getD b 0 ≤ top30 := by
  rw [List.getD_eq_getElem?_getD]
  cases e : l[b]? with
  | none => exact ⟨by simp, by simp [top30]⟩
  | some v => exact h v (List.mem_of_getElem? e)
def tbl (P : Nat → Nat → Int) (k : Nat) (i j : Nat) : Int := if i ≤ j then cv P k (j - i) i [] else 0
theorem ones_sm (k : Nat) : Sm (ones k) := fun v hv => by
  obtain rfl := List.eq_of_mem_replicate hv
  exact ⟨by decide, by decide⟩
theorem plw_sm {w : List Int} (h : Sm w) (c : Nat) : Sm (plw w c) := by
  unfold plw
  split
  · exact h
  · intro v hv
    obtain ⟨b, _, rfl⟩ := List.mem_map.mp hv
    split <;> exact ⟨by decide, by decide⟩

theorem PP_bound {ps : List (List Int)} (h : ∀ l ∈ ps, Sm l) (i b : Nat) : 0 ≤ PP ps i b ∧ PP ps i b ≤ top30 := by
  show 0 ≤ (ps.getD i []).getD b 0 ∧ (ps.getD i []).getD b 0 ≤ top30
  cases e : ps[i]? with
  | none =>
    have q : ps.getD i [] = [] := by rw [List.getD_eq_getElem?_getD, e]; rfl
    rw [q]; exact ⟨by simp, by simp [top30]⟩
  | some l =>
    have q : ps.getD i [] = l := by rw [List.getD_eq_getElem?_getD, e]; rfl
    rw [q]; exact (h l (List.mem_of_getElem? e)).at b
theorem pow_mono {x y : Int} (h0 : 0 ≤ x) (h : x ≤ y) : ∀ n : Nat, 0 ≤ x ^ n ∧ x ^ n ≤ y ^ n
  | 0 => by simp
  | n + 1 => by
    obtain ⟨a, b⟩ := pow_mono h0 h n
    rw [Int.pow_succ, Int.pow_succ]
    exact ⟨Int.mul_nonneg a h0, Int.mul_le_mul b h h0 (Int.le_trans a b)⟩
theorem pow_up {x : Int} (h1 : 1 ≤ x) {m n : Nat} (h : m ≤ n) : x ^ m ≤ x ^ n := by
  induction n with
  | zero => obtain rfl : m = 0 := by omega
            exact Int.le_refl _
  | succ n ih =>
    by_cases e : m = n + 1
    · subst e; exact Int.le_refl _
    · have h2 := ih (by omega)
      have h3 := (pow_mono (x := x) (y := x) (by omega) (Int.le_refl _) n).1
      rw [Int.pow_succ]
      have := Int.mul_le_mul (Int.le_refl (x ^ n)) h1 (by decide) h3
      omega
def cap : Int := (5 * top30) ^ 40
theorem cv_cap {ps : List (List Int)} {k : Nat} (hk : k ≤ 4) (h : ∀ l ∈ ps, Sm l) {n : Nat} (hn : n ≤ 40) (i : Nat) (st : List Nat) : 0 ≤ cv (PP ps) k n i st ∧ cv (PP ps) k n i st ≤ cap := by
  obtain ⟨a, b⟩ := cv_bound (P := PP ps) (k := k) (c := top30) (by decide) (fun i b => (PP_bound h i b).1) (fun i b => (PP_bound h i b).2) n i st
  refine ⟨a, Int.le_trans b ?_⟩
  have h1 : (0 : Int) ≤ ((k : Int) + 1) * top30 := Int.mul_nonneg (by omega) (by decide)
  have h2 : ((k : Int) + 1) * top30 ≤ 5 * top30 := Int.mul_le_mul_of_nonneg_right (by omega) (by decide)
  refine Int.le_trans (pow_mono h1 h2 n).2 (pow_up (by decide) hn)
end BrS
namespace BrS
open L2 PySem BrM BrC
theorem atI_end {α : Type} {xs : List α} {v : α} (h : 0 < xs.length) (e : xs[xs.length - 1]? = some v) : atI xs (-1) = some v := by
  unfold atI ixN
  rw [if_neg (by omega), if_pos (by omega)]
  have : ((-1 : Int) + xs.length).toNat = xs.length - 1 := by omega
  simp only [this, Option.bind]
  exact e
end BrS
namespace BrS
open L2 PySem BrM BrC
end BrS
namespace BrS
open L2 PySem BrM BrC

section
variable {P : Nat → Nat → Int} {k i q j n : Nat}
end
end BrS
namespace BrS
open L2 PySem BrM BrC
theorem many_places {k : Nat} {a : List Nat} (hk : k ≤ 4) : ∀ l ∈ a.map (plw (ones k)), l.length = 2 * k ∧ Sm l := fun l hl => by
  obtain ⟨c, _, rfl⟩ := List.mem_map.mp hl
  exact ⟨by rw [plw_len (by rw [List.length_replicate]; omega), List.length_replicate], plw_sm (ones_sm k) c⟩
end BrS

namespace BrS
open L2 PySem BrM BrC

def Deck (H : Hp) (p : Addr) : Prop := ∃ ds : List Int, H p = some (.lst (ds.map V.int)) ∧ ∀ d ∈ ds, 0 ≤ d ∧ d < 2147483648
theorem Deck.keep {H H' : Hp} {p r : Addr} (h : Deck H p) (s : SameBut1 r H H') (n : p ≠ r) : Deck H' p := by
  obtain ⟨ds, e, b⟩ := h
  exact ⟨ds, s _ _ e n, b⟩
theorem Deck.ne {H : Hp} {p q : Addr} (h : Deck H p) (hq : H q = none) : q ≠ p := by
  obtain ⟨ds, e, _⟩ := h
  exact (ne_of_none e hq).symm
theorem plw_unk (w : List Int) : plw w 63 = w := by unfold plw; rw [if_pos rfl]
end BrS
namespace BrS
open L2 PySem BrM BrC
section
variable {σ : St} {H : Hp} {Q : VK} {K : PySem.W.Frag}

end

end BrS
namespace BrS
open L2 PySem BrM BrC
end BrS
namespace BrS
open L2 PySem BrM BrC
end BrS

namespace BrS
open L2 PySem BrM BrC

def pw (k c b : Nat) : Int := (plw (ones k) c).getD b 0
def ws (k : Nat) : List Nat → List Nat → Int
  | [], [] => 1
  | [], _ :: _ => 0
  | c :: r, st => sm k (fun p => pw k c (2 * p) * ws k r (p :: st)) + (match st with | [] => 0 | o :: s' => pw k c (2 * o + 1) * ws k r s')
variable {k : Nat}
theorem pw_unk {b : Nat} (h : b < 2 * k) : pw k 63 b = 1 := by
  unfold pw
  rw [plw_unk]
  unfold ones
  rw [List.getD_eq_getElem?_getD, List.getElem?_replicate, if_pos h]; rfl
theorem brs_at {b c : Nat} (h : brs[b]? = some c) : b < 8 := by
  have := (List.getElem?_eq_some_iff.mp h).1
  exact this
theorem pw_at {b d c : Nat} (hb : b < 2 * k) (hb8 : b < 8) (hd : brs[d]? = some c) : pw k c b = if b = d then 1 else 0 := by
  have hd8 := brs_at hd
  have hn : c ≠ 63 := by
    rintro rfl
    revert hd
    have : d = 0 ∨ d = 1 ∨ d = 2 ∨ d = 3 ∨ d = 4 ∨ d = 5 ∨ d = 6 ∨ d = 7 := by omega
    rcases this with rfl | rfl | rfl | rfl | rfl | rfl | rfl | rfl <;> decide
  unfold pw plw
  rw [if_neg hn, List.getD_eq_getElem?_getD, List.getElem?_map, List.getElem?_take]
  rw [if_pos (show b < (ones k).length by unfold ones; rw [List.length_replicate]; exact hb)]
  have hb' : b = 0 ∨ b = 1 ∨ b = 2 ∨ b = 3 ∨ b = 4 ∨ b = 5 ∨ b = 6 ∨ b = 7 := by omega
  have hd' : d = 0 ∨ d = 1 ∨ d = 2 ∨ d = 3 ∨ d = 4 ∨ d = 5 ∨ d = 6 ∨ d = 7 := by omega
  rcases hd' with rfl | rfl | rfl | rfl | rfl | rfl | rfl | rfl <;> (cases hd; rcases hb' with rfl | rfl | rfl | rfl | rfl | rfl | rfl | rfl <;> decide)

theorem sm_pairs (f : Nat → Int) : ∀ k, sm (2 * k) f = sm k fun p => f (2 * p) + f (2 * p + 1)
  | 0 => rfl
  | k + 1 => by rw [show 2 * (k + 1) = 2 * k + 1 + 1 by omega, sm, sm, sm_pairs f k, sm]; omega

end BrS
namespace BrS
open L2 PySem BrM BrC

def clc (p : Nat) : Nat := cls.getD p 0
section
variable {k : Int}
end
end BrS
namespace BrS
open L2 PySem BrM BrC
section
variable {k : Int}
end
end BrS

namespace BrS
open L2 PySem BrM BrC

abbrev En := List Nat × List Nat
def exB (n at' c : Nat) (e : En) (b : Nat) : List En :=
  if c = 63 ∨ c = brs.getD b 0 then
    (if b % 2 = 0 then (if e.2.length + at' + 1 < n then [(e.1 ++ [brs.getD b 0], b / 2 :: e.2)] else [])
     else match e.2 with
       | [] => []
       | p :: r => if p = b / 2 then [(e.1 ++ [brs.getD b 0], r)] else [])
  else []
def exs (k n at' c : Nat) (e : En) : List En := (List.range (2 * k)).flatMap (exB n at' c e)
def fls (k : Nat) (a : List Nat) : Nat → List En
  | 0 => [([], [])]
  | i + 1 => (fls k a i).flatMap (exs k a.length i (a.getD i 0))
def res (k : Nat) (a : List Nat) : List (List Nat) := ((fls k a a.length).filter fun e => decide (e.2 = [])).map (·.1)
def sts (t : List Nat) : List Nat := (t.map clc).reverse
inductive Ens (H : Hp) : List Addr → List En → Prop
  | nil : Ens H [] []
  | cons {a : Addr} {e : En} {as : List Addr} {es : List En} (h : H a = some (.tup [tx e.1, tx (sts e.2)])) (r : Ens H as es) : Ens H (a :: as) (e :: es)
theorem Ens.len {H : Hp} {as : List Addr} {es : List En} (h : Ens H as es) : as.length = es.length := by
  induction h with
  | nil => rfl
  | cons _ _ ih => rw [List.length_cons, List.length_cons, ih]
theorem Ens.get {H : Hp} {as : List Addr} {es : List En} (h : Ens H as es) : ∀ {i : Nat} {a : Addr}, as[i]? = some a → ∃ e, es[i]? = some e ∧ H a = some (.tup [tx e.1, tx (sts e.2)]) := by
  induction h with
  | nil => intro i a z; simp at z
  | cons h r ih =>
    intro i a z
    cases i with
    | zero => simp at z; subst z; exact ⟨_, rfl, h⟩
    | succ i => simpa using ih (by simpa using z)
theorem Ens.there {H : Hp} {as : List Addr} {es : List En} (h : Ens H as es) : ∀ a ∈ as, ∃ o, H a = some o := by
  induction h with
  | nil => intro a z; cases z
  | cons h r ih =>
    intro a z
    rcases List.mem_cons.mp z with rfl | z
    · exact ⟨_, h⟩
    · exact ih a z
end BrS
namespace BrS
open L2 PySem BrM BrC

structure Gr (H1 H' : Hp) (lo : Addr) (as : List Addr) (L : List En) : Prop where
  fl : H1 lo = none
  sm : Same H1 H'
  at' : H' lo = some (.lst (as.map V.ref))
  en : Ens H' as L
  ni : lo ∉ as
theorem Gr.len {H1 H' : Hp} {lo : Addr} {as : List Addr} {L : List En} (g : Gr H1 H' lo as L) : as.length = L.length := g.en.len
end BrS

namespace L2
open PySem PySem.Spec PyProof.Rows


section
variable {κ : Type} [DecidableEq κ]
def valV (kvs : List (κ × V)) (k : κ) : Option V := (kvs.find? fun kv => decide (kv.1 = k)).map (·.2)

def putK (kvs : List (κ × V)) (k : κ) (v : V) : List (κ × V) :=
  if (kvs.any fun kv => decide (kv.1 = k)) = true then kvs.map (fun kv => if kv.1 = k then (kv.1, v) else kv) else kvs ++ [(k, v)]
def dropK (kvs : List (κ × V)) (k : κ) : List (κ × V) := kvs.filter fun kv => decide (kv.1 ≠ k)

theorem valV_nil {k : κ} : valV ([] : List (κ × V)) k = none := rfl
theorem RelO.getD {o : Option V} {u : Option Value} {d : V} {d' : Value} (r : RelO o u) (rd : RelV d d') : RelV (o.getD d) (u.getD d') := by
  cases o with
  | none => cases u with
    | none => exact rd
    | some _ => exact (show False from r).elim
  | some _ => cases u with
    | none => exact (show False from r).elim
    | some _ => exact r


theorem KV.any {kvs : List (κ × V)} {vs : List (κ × Value)} (r : KV kvs vs) (k : κ) : (kvs.any fun kv => decide (kv.1 = k)) = vs.any fun kv => decide (kv.1 = k) := by
  unfold KV at r
  induction r with
  | nil => rfl
  | cons h t ih => rw [List.any_cons, List.any_cons, ih, h.1]
theorem KV.drop {kvs : List (κ × V)} {vs : List (κ × Value)} (r : KV kvs vs) (k : κ) : KV (dropK kvs k) (without vs k) := by
  unfold KV at r ⊢
  unfold dropK without
  induction r with
  | nil => exact .nil
  | @cons p q ps qs h t ih =>
    obtain ⟨h1, h2⟩ := h
    rw [List.filter_cons, List.filter_cons]
    by_cases e : p.1 = k
    · have a : ¬ decide (p.1 ≠ k) = true := by simp [e]
      have b : ¬ decide (q.1 ≠ k) = true := by simp [h1.symm.trans e]
      rw [if_neg a, if_neg b]; exact ih
    · have e' : ¬ q.1 = k := fun z => e (h1.trans z)
      have a : decide (p.1 ≠ k) = true := by simp [e]
      have b : decide (q.1 ≠ k) = true := by simp [e']
      rw [if_pos a, if_pos b]; exact .cons ⟨h1, h2⟩ ih
theorem KV.length {kvs : List (κ × V)} {vs : List (κ × Value)} (r : KV kvs vs) : kvs.length = vs.length := Paired.length r
end



section
variable {P : Program} {w : World} {H : Hp} {h : Heap} {a : Addr}
end


def DGet (H : Hp) (a : Addr) (y : V) (r : Option V) : Prop :=
  (∃ kvs k, Rd H a (.dK kvs) ∧ y = kV k ∧ r = valV kvs k) ∨ ∃ kvs k b, Rd H a (.dT kvs) ∧ y = .ref b ∧ H b = some (.tup (k.map kV)) ∧ r = valV kvs k

def DPut (H : Hp) (a : Addr) (y v : V) (H' : Hp) : Prop :=
  (∃ kvs k, H a = some (.dK kvs) ∧ y = kV k ∧ kvs.length < sizeLine ∧ H' = upd H a (.dK (putK kvs k v))) ∨
  ∃ kvs k b, H a = some (.dT kvs) ∧ y = .ref b ∧ H b = some (.tup (k.map kV)) ∧ kvs.length < sizeLine ∧ H' = upd H a (.dT (putK kvs k v))
theorem DGet.k {H : Hp} {a : Addr} {kvs : List (Key × V)} {k : Key} (e : H a = some (.dK kvs)) : DGet H a (kV k) (valV kvs k) := .inl ⟨kvs, k, .inl e, rfl, rfl⟩
theorem DGet.t {H : Hp} {a b : Addr} {kvs : List (List Key × V)} {k : List Key} (e : H a = some (.dT kvs)) (eb : H b = some (.tup (k.map kV))) : DGet H a (.ref b) (valV kvs k) := .inr ⟨kvs, k, b, .inl e, rfl, eb, rfl⟩
theorem DPut.k {H : Hp} {a : Addr} {kvs : List (Key × V)} {k : Key} {v : V} (e : H a = some (.dK kvs)) (hl : kvs.length < sizeLine) : DPut H a (kV k) v (upd H a (.dK (putK kvs k v))) := .inl ⟨kvs, k, e, rfl, hl, rfl⟩
theorem DPut.t {H : Hp} {a b : Addr} {kvs : List (List Key × V)} {k : List Key} {v : V} (e : H a = some (.dT kvs)) (eb : H b = some (.tup (k.map kV))) (hl : kvs.length < sizeLine) :
    DPut H a (.ref b) v (upd H a (.dT (putK kvs k v))) := .inr ⟨kvs, k, b, e, rfl, eb, hl, rfl⟩


section
variable {X : Cx} {pins : List (Addr × Obj)} {σ : St} {H : Hp} {s : Shared} {a : Addr} {y v : V} {u r : Value} {o : Option V} {A : Around} {E : Value → Shared → Prop}

theorem Inv.big (I : Inv X pins σ H s) : sysModules < s.heap.objs.size := by
  have h : mainGlobals < s.heap.objs.size := (I.mod.glob.keeps I.bk).lt
  exact Nat.lt_trans (by decide) h


end

section
variable {X : Cx} {pins : List (Addr × Obj)} {σ : St} {H : Hp} {s : Shared} {a : Addr} {kvs : List (Key × V)} {k : Key} {u : Value} {A : Around} {E : Value → Shared → Prop}

end




section
variable {X : Cx} {o i e value : Expr} {pos pos' tpos : Pos} {td ty tv : TE}
end



theorem dk_empty {P : Program} {w : World} {H : Hp} (h : Heap) (hb : sysModules < h.objs.size) : ObjOk P w H (h.push { cls := .type "dict", data := .dict #[] }) h.objs.size (.dK []) :=
  ⟨Nat.zero_le _, beq_eq_false_iff_ne.mpr (Ne.symm (Nat.ne_of_lt hb)), [], .nil, Heap.DictOf.new h⟩
def tDNewK : TE := fun _ H Q => ∀ p, H p = none → Q (.ref p) (upd H p (.dK []))
section
variable {X : Cx} {pos : Pos}
theorem pe_dnewK : PE X (.Dict [] [] pos) tDNewK := fun pins s σ H Q I h =>
  wpAny_Dict_empty ⟨.ref s.heap.objs.size, _, I.laid (a := s.heap.objs.size) (o := .dK []) (t' := s.toks) (fun _ _ q => Heap.get?_push_of_some _ q) (Nat.le_refl _) (dk_empty s.heap I.big), rfl, h _ (I.hok.fresh (Nat.le_refl _))⟩
end


section
variable {X : Cx} {pins : List (Addr × Obj)} {σ : St} {H : Hp} {s : Shared} {a : Addr} {y d : V} {u r : Value} {o : Option V} {A : Around} {E : Value → Shared → Prop}

end

section
variable {X : Cx} {o e f : Expr} {apos cpos : Pos} {td ty tx : TE}
end


section
variable {X : Cx} {pins : List (Addr × Obj)} {σ : St} {H : Hp} {s : Shared} {a : Addr} {kvs : List (Key × V)} {A : Around} {E : Value → Shared → Prop}
end


section
variable {X : Cx} {pins : List (Addr × Obj)} {σ : St} {H : Hp} {s : Shared} {a : Addr} {y : V} {u : Value} {A : Around} {E : Value → Shared → Prop}

end
end L2
namespace L2
open PySem PySem.Spec PyProof.Rows

section
variable {κ : Type} [DecidableEq κ]
end
end L2

namespace L2
open PySem PySem.Spec PyProof.Rows

inductive Sc : V → PyData → Prop
  | non : Sc .non .none
  | bl (b : Bool) : Sc (.bl b) (.bool b)
  | int (i : Int) : Sc (.int i) (.int i)
  | str (x : Str) : Sc (.str x) (.str x)
def Sck (p : Key × V) (q : PyData × PyData) : Prop := Sc (kV p.1) q.1 ∧ Sc p.2 q.2
theorem Sc.reads {x : V} {d : PyData} {u : Value} {h : Heap} (c : Sc x d) (r : RelV x u) : Reads h u d [] := by
  cases c with
  | non => obtain rfl : u = Value.none := r; exact .none
  | bl b => obtain rfl : u = Value.bool b := r; exact .bool b
  | int i => obtain ⟨t, rfl⟩ := r; exact .int i t
  | str x => obtain ⟨t, rfl⟩ := r; exact .str x t
theorem key_rel {P : Program} {w : World} {k : Key} {u : Value} (h : (mixKind P w).is k u = true) : RelV (kV k) u := by
  rcases keyIs_shape h with ⟨i, t, rfl, rfl⟩ | ⟨x, t, rfl, rfl⟩ <;> exact ⟨t, rfl⟩
section
variable {X : Cx} {pins : List (Addr × Obj)} {σ : St} {H : Hp} {s : Shared}
theorem pairs_reads {P : Program} {w : World} {h : Heap} : ∀ {es : List DictEntry} {vs : List (Key × Value)} {kvs : List (Key × V)} {ds : List (PyData × PyData)}, Pairs (mixKind P w) es vs → KV kvs vs → Paired Sck kvs ds →
    ReadsAll h (es.map (·.key)) (ds.map (·.1)) [] ∧ ReadsAll h (es.map (·.val)) (ds.map (·.2)) []
  | [], _, _, _, .nil, .nil, .nil => ⟨.nil, .nil⟩
  | _ :: _, _ :: _, _ :: _, _ :: _, .cons hk hv pr, .cons r rr, .cons c cr => by
    obtain ⟨i1, i2⟩ := pairs_reads (h := h) pr rr cr
    obtain ⟨rk, rv⟩ := r
    rw [← rk] at hk
    constructor
    · have := ReadsAll.cons (c.1.reads (h := h) (key_rel hk)) i1
      simpa using this
    · have := ReadsAll.cons (c.2.reads (h := h) (hv ▸ rv)) i2
      simpa using this
end
def ShOk (d : PyData) : Prop := d.showable = true ∧ d.shown.length ≤ sizeLine ∧ d.depth ≤ 20
theorem text_le : ∀ (ts : List Str) (k : Nat) (acc : Str), (textFrom k acc ts).length ≤ acc.length + piled ts
  | [], _, acc => by rw [piled_nil]; exact Nat.le_refl _
  | t :: ts, k, acc => by
    rw [textFrom, piled_cons]
    refine Nat.le_trans (text_le ts (k + 1) _) ?_
    rw [strLen_append, strLen_append]
    have : (Str.ofString (if k > 0 then ", " else "")).length ≤ 2 := by split <;> decide
    omega
def Low (a : List Nat) : Prop := ∀ c ∈ a, c < 16 ^ 8
theorem repr_le {a : List Nat} (h : Low a) : (reprText ⟨a.toArray⟩).length ≤ 10 * a.length + 2 := by
  have := StrLaws.reprText_len ⟨a.toArray⟩ (fun c hc => h c (by simpa using hc))
  simpa [Str.length] using this
end L2

namespace L2
open PySem PySem.Spec PyProof.Rows
section
variable {X : Cx}
end
theorem sw_lst {es p x l env} : swapsWith (.List es p) x l env = pure false := rfl
theorem st_con {c z pos es env} : starEach (.Constant c z pos :: es) env = (false, eval (.Constant c z pos) env) :: starEach es env := rfl
theorem st_lst {c pos es env} : starEach (.List c pos :: es) env = (false, eval (.List c pos) env) :: starEach es env := rfl
theorem st_tup {c z pos es env} : starEach (.Tuple c z pos :: es) env = (false, eval (.Tuple c z pos) env) :: starEach es env := rfl
theorem st_dct {c z pos es env} : starEach (.Dict c z pos :: es) env = (false, eval (.Dict c z pos) env) :: starEach es env := rfl
theorem st_bin {c o d pos es env} : starEach (.BinOp c o d pos :: es) env = (false, eval (.BinOp c o d pos) env) :: starEach es env := rfl
theorem st_una {o c pos es env} : starEach (.UnaryOp o c pos :: es) env = (false, eval (.UnaryOp o c pos) env) :: starEach es env := rfl
theorem st_cal {f a k pos es env} : starEach (.Call f a k pos :: es) env = (false, eval (.Call f a k pos) env) :: starEach es env := rfl
theorem st_nam {x pos es env} : starEach (.Name x pos :: es) env = (false, eval (.Name x pos) env) :: starEach es env := rfl
theorem st_sub {a b pos es env} : starEach (.Subscript a b pos :: es) env = (false, eval (.Subscript a b pos) env) :: starEach es env := rfl
inductive Pl (X : Cx) : List Expr → List TE → Prop
  | nil : Pl X [] []
  | con {c z p t es ts} (h : PE X (.Constant c z p) t) (r : Pl X es ts) : Pl X (.Constant c z p :: es) (t :: ts)
  | lst {c p t es ts} (h : PE X (.List c p) t) (r : Pl X es ts) : Pl X (.List c p :: es) (t :: ts)
  | tup {c z p t es ts} (h : PE X (.Tuple c z p) t) (r : Pl X es ts) : Pl X (.Tuple c z p :: es) (t :: ts)
  | dct {c z p t es ts} (h : PE X (.Dict c z p) t) (r : Pl X es ts) : Pl X (.Dict c z p :: es) (t :: ts)
  | bin {c o d p t es ts} (h : PE X (.BinOp c o d p) t) (r : Pl X es ts) : Pl X (.BinOp c o d p :: es) (t :: ts)
  | una {o c p t es ts} (h : PE X (.UnaryOp o c p) t) (r : Pl X es ts) : Pl X (.UnaryOp o c p :: es) (t :: ts)
  | cal {f a k p t es ts} (h : PE X (.Call f a k p) t) (r : Pl X es ts) : Pl X (.Call f a k p :: es) (t :: ts)
  | nam {x p t es ts} (h : PE X (.Name x p) t) (r : Pl X es ts) : Pl X (.Name x p :: es) (t :: ts)
  | sub {a b p t es ts} (h : PE X (.Subscript a b p) t) (r : Pl X es ts) : Pl X (.Subscript a b p :: es) (t :: ts)
def tAll : List TE → TA
  | [] => tNil
  | t :: ts => tCons t (tAll ts)
theorem Pl.pa {X : Cx} {es : List Expr} {ts : List TE} (h : Pl X es ts) : PA X es (tAll ts) := by
  induction h with
  | nil => exact pa_nil
  | con h _ ih => exact pa_cons h ih st_con
  | lst h _ ih => exact pa_cons h ih st_lst
  | tup h _ ih => exact pa_cons h ih st_tup
  | dct h _ ih => exact pa_cons h ih st_dct
  | bin h _ ih => exact pa_cons h ih st_bin
  | una h _ ih => exact pa_cons h ih st_una
  | cal h _ ih => exact pa_cons h ih st_cal
  | nam h _ ih => exact pa_cons h ih st_nam
  | sub h _ ih => exact pa_cons h ih st_sub
theorem ps_setL {X : Cx} {st : Stmt} {i : Nat} {x : Str} {es : List Expr} {ts : List TE} {pos pos' p : Pos} (est : st = .Assign [.Name x pos'] (.List es p) pos) (hN : X.N.Nodup) (hi : X.N[i]? = some x) (hx : Loc X.env.scope x) (hf : X.fn x = true ∨ X.env.scope.names.lookup x = some .local) (hes : Pl X es ts) : PS X st (tAsg (tLst (tAll ts)) (gName i)) := by
  subst est
  exact ps_set hN hi hx (pe_lst hes.pa) sw_lst hf
inductive PSb (X : Cx) (st : Stmt) (t : TS) : Prop
  | mk (h : PS X st t) : PSb X st t
theorem PSb.ps {X : Cx} {st : Stmt} {t : TS} (h : PSb X st t) : PS X st t := h.casesOn fun h => h
inductive PEb (X : Cx) (e : Expr) (t : TE) : Prop
  | mk (h : PE X e t) : PEb X e t
theorem PEb.pe {X : Cx} {e : Expr} {t : TE} (h : PEb X e t) : PE X e t := h.casesOn fun h => h
theorem pe_lstB {X : Cx} {es : List Expr} {ts : List TE} {p : Pos} (h : Pl X es ts) : PEb X (.List es p) (tLst (tAll ts)) := ⟨pe_lst h.pa⟩
theorem ps_setB {X : Cx} {st : Stmt} {i : Nat} {x : Str} {es : List Expr} {ts : List TE} {pos pos' p : Pos} (est : st = .Assign [.Name x pos'] (.List es p) pos) (hN : X.N.Nodup) (hi : X.N[i]? = some x) (hx : Loc X.env.scope x) (hf : X.fn x = true ∨ X.env.scope.names.lookup x = some .local) (hes : Pl X es ts) : PSb X st (tAsg (tLst (tAll ts)) (gName i)) := ⟨ps_setL est hN hi hx hf hes⟩
end L2
namespace BrM
open L2 PySem
def Fine (a : List Nat) : Prop := Low a ∧ a.length ≤ 1000
inductive Th (p : Addr) (H : Hp) : V → Prop
  | txt (a : List Nat) (h : Fine a) : Th p H (tx a)
  | non : Th p H .non
  | int (i : Int) (h : i = 0 ∨ i = 7) : Th p H (.int i)
  | bl (b : Bool) : Th p H (.bl b)
  | lst {q : Addr} {l : List (List Nat)} (h : H q = some (.lst (l.map tx))) (n : q ≠ p) (f : ∀ a ∈ l, Fine a) (z : l.length ≤ 1100) : Th p H (.ref q)
  | tup {q : Addr} {l : List (List Nat)} (h : H q = some (.tup (l.map tx))) (n : q ≠ p) (f : ∀ a ∈ l, Fine a) (z : l.length ≤ 1) : Th p H (.ref q)
  | dc0 {q : Addr} (h : H q = some (.dK [])) (n : q ≠ p) : Th p H (.ref q)
  | dc1 {q : Addr} {a : List Nat} (h : H q = some (.dK [(.inr ⟨a.toArray⟩, .int 1)])) (n : q ≠ p) (f : Fine a) : Th p H (.ref q)
theorem Th.keep {p : Addr} {H H' : Hp} {v : V} (t : Th p H v) (s : SameBut1 p H H') : Th p H' v := by
  cases t with
  | txt a h => exact .txt a h
  | non => exact .non
  | int i h => exact .int i h
  | bl b => exact .bl b
  | lst h n f z => exact .lst (s _ _ h n) n f z
  | tup h n f z => exact .tup (s _ _ h n) n f z
  | dc0 h n => exact .dc0 (s _ _ h n) n
  | dc1 h n f => exact .dc1 (s _ _ h n) n f
theorem Th.kind {K : PySem.W.Frag} {p : Addr} {H : Hp} {v : V} (t : Th p H v) : (∃ a, v = tx a ∧ Fine a) ∨ ∃ T, TyOf K H v (.type T) ∧ T ∈ plainTy ∧ T ≠ "str" := by
  cases t with
  | txt a h => exact .inl ⟨a, rfl, h⟩
  | non => exact .inr ⟨_, .non, by decide, by decide⟩
  | int i h => exact .inr ⟨_, .int i, by decide, by decide⟩
  | bl b => exact .inr ⟨_, .bl b, by decide, by decide⟩
  | lst h n f z => exact .inr ⟨_, .lst h, by decide, by decide⟩
  | tup h n f z => exact .inr ⟨_, .tup h, by decide, by decide⟩
  | dc0 h n => exact .inr ⟨_, .dK h, by decide, by decide⟩
  | dc1 h n f => exact .inr ⟨_, .dK h, by decide, by decide⟩
def Nw (H : Hp) (v : V) : Prop := ∀ q, v = .ref q → H q = none
theorem Th.upd {p D : Addr} {H : Hp} {v : V} {o : HO} (t : Th p H v) (n : v ≠ .ref D) : Th p (upd H D o) v := by
  cases t with
  | txt a h => exact .txt a h
  | non => exact .non
  | int i h => exact .int i h
  | bl b => exact .bl b
  | lst h m f z => exact .lst (by rw [upd_ne (fun e => n (by rw [e]))]; exact h) m f z
  | tup h m f z => exact .tup (by rw [upd_ne (fun e => n (by rw [e]))]; exact h) m f z
  | dc0 h m => exact .dc0 (by rw [upd_ne (fun e => n (by rw [e]))]; exact h) m
  | dc1 h m f => exact .dc1 (by rw [upd_ne (fun e => n (by rw [e]))]; exact h) m f
end BrM
namespace BrM
open L2 PySem
theorem all_cons {p : Addr} {H : Hp} {x : V} {l : List V} (h1 : Th p H x) (h2 : ∀ v ∈ l, Th p H v) : ∀ v ∈ x :: l, Th p H v := fun v hv => (List.mem_cons.mp hv).elim (fun e => e ▸ h1) (h2 v)
theorem at_memV {l : List V} {i : Int} (h0 : 0 ≤ i) (h1 : i < (l.length : Int)) : ∃ v, atI l i = some v ∧ v ∈ l := by
  have hk : i.toNat < l.length := by omega
  have ek : i = ((i.toNat : Nat) : Int) := by omega
  have q : atI l ((i.toNat : Nat) : Int) = some l[i.toNat] := atI_nat (List.getElem?_eq_getElem hk)
  rw [← ek] at q
  exact ⟨_, q, List.getElem_mem hk⟩
end BrM

namespace L2
open PySem PySem.Spec PyProof.Rows

def ExcAt (x C : Addr) (h : Heap) : Prop := ∃ o vs, h.get? x = some o ∧ o.cls = .ref C ∧ o.data = .fields vs
theorem ExcAt.type {x C : Addr} {h : Heap} {M : Model} (e : ExcAt x C h) : PySem.W.Looks M h (typeOf (.ref x)) (.ref C) := by
  obtain ⟨o, vs, h1, h2, _⟩ := e
  exact h2 ▸ (PySem.W.Looks.ld h1).andThen .now
section
variable {prog : Program} {w : World} {A : Around} {E : Value → Shared → Prop} {s : Shared} {K : PySem.W.Frag} {x C : Addr}
end

theorem ObjOk.here {P : Program} {w : World} {H : Hp} {h : Heap} {a : Addr} {o : HO} (x : ObjOk P w H h a o) : ∃ ob, h.get? a = some ob := by
  cases o with
  | lst xs => obtain ⟨_, _, _, _, e⟩ := x; exact ⟨_, e⟩
  | tup xs => obtain ⟨_, _, _, _, e, _⟩ := x; exact ⟨_, e⟩
  | dK kvs => obtain ⟨_, _, _, _, _, _, _, e, _⟩ := x; exact ⟨_, e⟩
  | dT kvs => obtain ⟨_, _, _, _, _, _, _, e, _⟩ := x; exact ⟨_, e⟩
  | set S n => obtain ⟨_, _, _, _, e, _⟩ := x; exact ⟨_, e⟩
  | ins C dx fs => obtain ⟨_, _, _, e, _⟩ := x; exact ⟨_, e⟩
  | own y => exact x
  | xd fs => obtain ⟨_, ⟨_, _, _, e, _⟩, _⟩ := x; exact ⟨_, e⟩
  | rng lo hi => obtain ⟨_, _, _, e⟩ := x; exact ⟨_, e⟩
  | frz ob u => obtain ⟨e, _⟩ := x; exact ⟨_, e⟩
  | tbl ps => exact ⟨_, (show h.get? a = some _ from x)⟩
  | met f y => exact ⟨_, (show h.get? a = some _ from x)⟩
  | ext φ => obtain ⟨_, e, _⟩ := x; exact e
end L2

namespace L2
open PySem PySem.Spec PyProof.Rows

structure Aloft (P : Program) (w : World) (l : List Env) (H : Hp) (h : Heap) (x C : Addr) (a0 : Value) (H' : Hp) (B h' : Heap) : Prop where
  un : Un (frs l) [] H H' h h'
  ok : HOk P w H' B
  stay : ∀ b o, h.get? b = some o → H b = none → b ∉ frs l → B.get? b = some o
  here : ∀ b o, h.get? b = some o → b ∉ frs l → ∃ o', B.get? b = some o'
  fl : Heap.FlyingW B l x (.ref C) a0 h'
def CXE (P : Program) (w : World) : CXT := fun outer H s E e s' => ∃ (x C : Addr) (a0 : Value) (H' : Hp) (B : Heap), e = .ref x ∧ s'.os = s.os ∧ AllBare s'.gens ∧ Aloft P w outer H s.heap x C a0 H' B s'.heap ∧ E (.ref C) (some x) H'

section
variable {P : Program} {w : World} {l : List Env} {H H' : Hp} {h h' h2 B : Heap} {x C : Addr} {a0 : Value}
end
section
variable {X : Cx} {R : XR} {e : Value} {s' : Shared}

theorem Inv.old {pins : List (Addr × Obj)} {σ : St} {H : Hp} {s : Shared} (I : Inv X pins σ H s) {b : Addr} {o : Obj} (e : X.s₀.heap.get? b = some o) (hb : b ∉ X.fs) : b ∉ frs X.stack := fun z => by
  rcases List.mem_cons.mp (I.stkSub b z) with q | q
  · exact absurd (Heap.lt_size e) (by rw [q]; exact Nat.not_lt.mpr I.ok.above)
  · exact hb q
end
end L2

namespace L2
open PySem PySem.Spec PyProof.Rows

section
variable {X : Cx} {R : XR} {C : Addr} {x : Str} {e : Expr} {es : List Expr} {t : TA} {np cpos pos p : Pos}
structure FnUE (P : Program) (w : World) (K : PySem.W.Frag) (mg : Str → Option Value) (base : Heap) (k : Nat) (x : Str) (ps : List Str) (sp : Sp) : Prop where
  ex : ∃ f fd, FnOk P w K mg base (CXE P w) k f fd ps sp ∧ mg x = some (.ref f) ∧ PySem.W.keepIn K (.ref f) = true ∧ Binds K fd ps []
end
section
variable {P : Program} {w : World} {K : PySem.W.Frag} {mg : Str → Option Value} {base : Heap}

theorem FnU.e {k : Nat} {x : Str} {ps : List Str} {sp : Sp} (U : FnU P w K mg base k x ps sp) : FnUE P w K mg base k x ps sp := by
  obtain ⟨f, fd, F, r⟩ := U.ex
  exact ⟨f, fd, ⟨F.len, fun A outer s H args us vs Q E h1 h2 h3 h4 h5 => codeAny_mono (F.run A outer s H args us vs Q E h1 h2 h3 h4 h5) fun res s' q => by
    cases res with
    | error ev => exact False.elim q
    | ok fl => cases fl <;> exact q⟩, r⟩
end
end L2

namespace L2
open PySem PySem.Spec PyProof.Rows

section
variable {M : Model} {A : Around} {E : Value → Shared → Prop} {K : PySem.W.Frag} {x C CR : Addr}
end

section
variable {X : Cx} {pins : List (Addr × Obj)} {σ : St} {H : Hp} {s : Shared}
end
section
variable {X : Cx} {cn en : Str} {CR : Addr} {i : Nat} {body suite : List Stmt} {b₀ : Stmt} {np hpos pos : Pos} {tb : XR → TS} {ts : TS}
end
end L2

namespace L2
open PySem PySem.Spec PyProof.Rows PySem.SeqAt

section
variable {X : Cx}
end

structure RoomH (k : Nat) (A : Around) : Prop where
  dp : A.depth + 3 * k + 5 < recursionLimit
  un : A.units + 16 * k + 200 < cLine
  gd : A.guards = some []
theorem Room.h {k : Nat} {A : Around} (r : Room k A) (e : Value) : RoomH k (A.mark (some e)) := ⟨r.dp, r.un, r.gd⟩
section
variable {P : Program} {w : World} {K : PySem.W.Frag} {mg : Str → Option Value} {base : Heap}

end
end L2

namespace L2
open PySem PySem.Spec PyProof.Rows

mutual
inductive Sd (p : Addr) (H : Hp) : V → PyData → Prop
  | sc {x : V} {d : PyData} (h : Sc x d) : Sd p H x d
  | lst {a : Addr} {xs : List V} {ds : List PyData} (h : H a = some (.lst xs)) (n : a ≠ p) (r : Sds p H xs ds) : Sd p H (.ref a) (.list ds)
  | tup {a : Addr} {xs : List V} {ds : List PyData} (h : H a = some (.tup xs)) (n : a ≠ p) (r : Sds p H xs ds) : Sd p H (.ref a) (.tuple ds)
  | dct {a : Addr} {kvs : List (Key × V)} {ds : List (PyData × PyData)} (h : H a = some (.dK kvs)) (n : a ≠ p) (r : Paired Sck kvs ds) : Sd p H (.ref a) (.dict ds)
inductive Sds (p : Addr) (H : Hp) : List V → List PyData → Prop
  | nil : Sds p H [] []
  | cons {x : V} {d : PyData} {xs : List V} {ds : List PyData} (h : Sd p H x d) (t : Sds p H xs ds) : Sds p H (x :: xs) (d :: ds)
end
mutual
theorem Sd.keep {p : Addr} {H H' : Hp} (s : SameBut1 p H H') : ∀ {x : V} {d : PyData}, Sd p H x d → Sd p H' x d
  | _, _, .sc h => .sc h
  | _, _, .lst h n r => .lst (s _ _ h n) n (Sds.keep s r)
  | _, _, .tup h n r => .tup (s _ _ h n) n (Sds.keep s r)
  | _, _, .dct h n r => .dct (s _ _ h n) n r
theorem Sds.keep {p : Addr} {H H' : Hp} (s : SameBut1 p H H') : ∀ {xs : List V} {ds : List PyData}, Sds p H xs ds → Sds p H' xs ds
  | _, _, .nil => .nil
  | _, _, .cons h t => .cons (Sd.keep s h) (Sds.keep s t)
end
theorem Sd.same {p : Addr} {H H' : Hp} {x : V} {d : PyData} (h : Sd p H x d) (s : Same H H') : Sd p H' x d := h.keep (SameBut1.of s)
section
variable {X : Cx} {pins : List (Addr × Obj)} {σ : St} {H : Hp} {s : Shared}
theorem sm_ne (I : Inv X pins σ H s) {a : Addr} {o : HO} (h : H a = some o) (hf : ∀ ob u, o ≠ .frz ob u) : a ≠ sysModules := fun z => by
  subst z
  obtain ⟨ob, u, e⟩ := I.hok.sm o h
  exact hf ob u e
mutual
theorem Sd.reads (I : Inv X pins σ H s) {p : Addr} : ∀ {x : V} {d : PyData} {u : Value}, Sd p H x d → RelV x u → ∃ as, Reads s.heap u d as ∧ sysModules ∉ as
  | _, _, _, .sc c, r => ⟨[], c.reads r, fun z => nomatch z⟩
  | _, _, u, .lst (a := a) (xs := xs) h n c, r => by
    obtain rfl : u = Value.ref a := r
    obtain ⟨_, its, n, rv, e⟩ := (show ObjOk X.prog X.w H s.heap a (.lst xs) from I.hok a _ h)
    obtain ⟨as, rd, hs⟩ := Sds.reads I c rv
    refine ⟨_, .list e rfl rfl (by simpa using rd), fun z => ?_⟩
    rcases List.mem_cons.mp z with z | z
    · exact sm_ne I h (fun _ _ q => nomatch q) z.symm
    · exact hs z
  | _, _, u, .tup (a := a) (xs := xs) h n c, r => by
    obtain rfl : u = Value.ref a := r
    obtain ⟨_, its, rv, o, e1, e2, n, e3⟩ := (show ObjOk X.prog X.w H s.heap a (.tup xs) from I.hok a _ h)
    obtain ⟨as, rd, hs⟩ := Sds.reads I c rv
    exact ⟨as, .tuple e1 e2 e3 (by simpa using rd), hs⟩
  | _, _, u, .dct (a := a) (kvs := kvs) h n c, r => by
    obtain rfl : u = Value.ref a := r
    obtain ⟨_, ns, vs, rv, o, es, ep, e1, e2, e3, _, pr, _⟩ := (show ObjOk X.prog X.w H s.heap a (.dK kvs) from I.hok a _ h)
    obtain ⟨k1, k2⟩ := pairs_reads (h := s.heap) pr rv c
    refine ⟨_, .dict e1 e2.1 e3 k1 k2, fun z => ?_⟩
    have z' : sysModules ∈ [a] := by simpa using z
    rw [List.mem_singleton.mp z'] at ns
    simp at ns
theorem Sds.reads (I : Inv X pins σ H s) {p : Addr} : ∀ {xs : List V} {ds : List PyData} {us : List Value}, Sds p H xs ds → Vals xs us → ∃ as, ReadsAll s.heap us ds as ∧ sysModules ∉ as
  | _, _, _, .nil, .nil => ⟨[], .nil, fun z => nomatch z⟩
  | _, _, _, .cons h t, .cons r rs => by
    obtain ⟨as, r1, h1⟩ := Sd.reads I h r
    obtain ⟨bs, r2, h2⟩ := Sds.reads I t rs
    exact ⟨as ++ bs, .cons r1 r2, fun z => (List.mem_append.mp z).elim h1 h2⟩
end
end

end L2

namespace L2
open PySem PySem.Spec PyProof.Rows

def Fit (n m : Nat) (d : PyData) : Prop := d.showable = true ∧ d.shown.length ≤ n ∧ d.depth ≤ m
theorem Fit.ok {n m : Nat} {d : PyData} (h : Fit n m d) (hn : n ≤ 16777216) (hm : m ≤ 20) : ShOk d := ⟨h.1, Nat.le_trans h.2.1 (by rw [sizeLine_eq]; omega), Nat.le_trans h.2.2 hm⟩
theorem Fit.mono {n m n' m' : Nat} {d : PyData} (h : Fit n m d) (hn : n ≤ n') (hm : m ≤ m') : Fit n' m' d := ⟨h.1, Nat.le_trans h.2.1 hn, Nat.le_trans h.2.2 hm⟩
theorem fit_non : Fit 4 1 .none := ⟨rfl, by rw [PyData.shown]; decide, by simp [PyData.depth]⟩
theorem fit_bl (b : Bool) : Fit 5 1 (.bool b) := ⟨rfl, by rw [PyData.shown]; cases b <;> decide, by simp [PyData.depth]⟩
theorem log2_small {i : Int} (h : i.natAbs < 10 ^ 60) : i.natAbs.log2 < 1920 := by
  by_cases h0 : i.natAbs = 0
  · rw [h0]; decide +kernel
  · have e : (10 ^ 60 : Nat) ≤ 2 ^ 200 := by decide
    exact Nat.lt_trans ((Nat.log2_lt h0).mpr (Nat.lt_of_lt_of_le h e)) (by decide)
theorem fit_int {i : Int} (h : i.natAbs < 10 ^ 60) : Fit 1921 1 (.int i) :=
  ⟨by simpa [PyData.showable] using log2_small h, by rw [PyData.shown]; exact int_text_len_1921 (log2_small h), by simp [PyData.depth]⟩
theorem fit_str {a : List Nat} (h : Low a) : Fit (10 * a.length + 2) 1 (.str ⟨a.toArray⟩) := ⟨rfl, by rw [PyData.shown]; exact repr_le h, by simp [PyData.depth]⟩
theorem fit_dc0 : Fit 2 2 (.dict []) := ⟨rfl, by rw [PyData.shown]; decide +kernel, by simp [PyData.depth, PyData.depthKv]⟩
def Dt (p : Addr) (n m : Nat) (H : Hp) (v : V) : Prop := ∃ d, Sd p H v d ∧ Fit n m d
theorem Dt.keep {p : Addr} {n m : Nat} {H H' : Hp} {v : V} (h : Dt p n m H v) (s : SameBut1 p H H') : Dt p n m H' v := let ⟨d, a, b⟩ := h; ⟨d, a.keep s, b⟩
theorem allD_nil {P : V → Prop} : ∀ x ∈ ([] : List V), P x := fun _ z => nomatch z
theorem allD_cons {P : V → Prop} {y : V} {l : List V} (h1 : P y) (h2 : ∀ x ∈ l, P x) : ∀ x ∈ y :: l, P x := fun x hx => (List.mem_cons.mp hx).elim (fun e => e ▸ h1) (h2 x)
theorem allD_app {P : V → Prop} {l m : List V} (h1 : ∀ x ∈ l, P x) (h2 : ∀ x ∈ m, P x) : ∀ x ∈ l ++ m, P x := fun x hx => (List.mem_append.mp hx).elim (h1 x) (h2 x)
end L2

namespace L2
open PySem PySem.Spec PyProof.Rows BrM BrR BrS BrC

section
variable {σ : St} {H : Hp} {Q : VK} {D : Ends}
end

def NoN (K : PySem.W.Frag) (lo hi : Int) (H : Hp) (v : V) : Prop := ∃ ty, TyOf K H v (.type ty) ∧ ty ∈ plainTy ∧ ∀ i, v = .int i → i < lo ∨ hi < i
def NoL (K : PySem.W.Frag) (k : Int) (H : Hp) (v : V) : Prop := (∃ a, v = tx a ∧ a.length ≤ 1000 ∧ isRow k a = false) ∨ ∃ ty, TyOf K H v (.type ty) ∧ ty ∈ plainTy ∧ ty ≠ "str"
theorem TyOf.keep {K : PySem.W.Frag} {p : Addr} {H H' : Hp} {v : V} {t : Value} (h : TyOf K H v t) (n : ∀ a, v = .ref a → a ≠ p) (s : SameBut1 p H H') : TyOf K H' v t := by
  cases h with
  | non => exact .non
  | bl x => exact .bl x
  | int i => exact .int i
  | str x => exact .str x
  | flt x => exact .flt x
  | lst e => exact .lst (s _ _ e (n _ rfl))
  | frz e => exact .frz (s _ _ e (n _ rfl))
  | tup e => exact .tup (s _ _ e (n _ rfl))
  | dK e => exact .dK (s _ _ e (n _ rfl))
  | dT e => exact .dT (s _ _ e (n _ rfl))
  | ins e cl ha hn htk hm => exact .ins (s _ _ e (n _ rfl)) cl ha hn htk hm
theorem Dt.ne {p : Addr} {n m : Nat} {H : Hp} {v : V} (h : Dt p n m H v) (a : Addr) (e : v = .ref a) : a ≠ p := by
  obtain ⟨d, h, _⟩ := h
  subst e
  cases h with
  | sc c => cases c
  | lst _ n _ => exact n
  | tup _ n _ => exact n
  | dct _ n _ => exact n
theorem NoN.keep {K : PySem.W.Frag} {lo hi : Int} {p : Addr} {n m : Nat} {H H' : Hp} {v : V} (h : NoN K lo hi H v) (d : Dt p n m H v) (s : SameBut1 p H H') : NoN K lo hi H' v := let ⟨ty, a, b⟩ := h; ⟨ty, a.keep d.ne s, b⟩
theorem NoL.keep {K : PySem.W.Frag} {k : Int} {p : Addr} {n m : Nat} {H H' : Hp} {v : V} (h : NoL K k H v) (d : Dt p n m H v) (s : SameBut1 p H H') : NoL K k H' v := h.elim .inl fun ⟨ty, a, b⟩ => .inr ⟨ty, a.keep d.ne s, b⟩

end L2

namespace L2
open PySem PySem.Spec PyProof.Rows

theorem SqL.ty {K : PySem.W.Frag} {H : Hp} {p : Addr} {xs : List V} (h : SqL K H p xs) : tyV K "list" (.ref p) H := .inl ⟨rfl, _, h⟩
end L2
namespace BrS
open L2 PySem BrM BrC BrR

def Po (H : Hp) (p : Addr) : Prop := ∃ a b c : Int, H p = some (.lst [.int a, .int b, .int c])
theorem Po.keep {H H' : Hp} {p q : Addr} (h : Po H p) (s : SameBut1 q H H') (n : p ≠ q) : Po H' p := let ⟨a, b, c, e⟩ := h; ⟨a, b, c, s _ _ e n⟩
theorem Po.ne {H : Hp} {p q : Addr} (h : Po H p) (hq : H q = none) : q ≠ p := let ⟨_, _, _, e⟩ := h; (ne_of_none e hq).symm
end BrS

namespace BrS
open L2 PySem BrM BrC BrR

end BrS

namespace BrS
open L2 PySem BrM BrC BrR

def gd : V → Bool
  | .int i => decide (0 ≤ i)
  | _ => false
def Pln (K : PySem.W.Frag) (H : Hp) (v : V) : Prop := ∃ ty, TyOf K H v (.type ty) ∧ ty ∈ plainTy
def NoW (K : PySem.W.Frag) (k : Int) (H : Hp) (v : V) : Prop := (∃ ty, TyOf K H v (.type ty) ∧ ty ∈ plainTy ∧ ty ≠ "list") ∨
  ∃ q xs, v = .ref q ∧ H q = some (.lst xs) ∧ xs.length ≤ 1000 ∧ ((xs.length : Int) ≠ 2 * k ∨ ((∀ x ∈ xs, Pln K H x) ∧ ∃ x ∈ xs, gd x = false))
def NoB (K : PySem.W.Frag) (k : Int) (H : Hp) (v : V) : Prop := (∃ a, v = tx a ∧ a.length ≤ 1000 ∧ ∀ c, a = [c] → c ∉ brs.take (2 * k).toNat) ∨ ∃ ty, TyOf K H v (.type ty) ∧ ty ∈ plainTy ∧ ty ≠ "str"
theorem sm_zero (k : Nat) : sm k (fun _ => 0) = 0 := by
  induction k with
  | zero => rfl
  | succ k ih => rw [sm, ih]; rfl
def rTupA (K : PySem.W.Frag) : List V → Hp → VK → Prop := fun xs H Q => ∃ p ys, xs = [.ref p] ∧ ((SqL K H p ys ∧ ∀ l, H l = none → Q (.ref l) (upd H l (.tup ys))) ∨ (SqT K H p ys ∧ Q (.ref p) H))
theorem call_tupleA {X : Cx} (K : PySem.W.Frag) (hK : X.K = K := by rfl) : CallR X (.type "tuple") (rTupA K) := by subst hK; exact call_tuple_of
theorem s_tupL {K : PySem.W.Frag} {H : Hp} {Q : VK} {p : Addr} {ys : List V} (h : SqL K H p ys) (q : ∀ l, H l = none → Q (.ref l) (upd H l (.tup ys))) : rTupA K [.ref p] H Q := ⟨p, ys, rfl, .inl ⟨h, q⟩⟩

theorem sd_ne {p : Addr} {H : Hp} {v : V} {d : PyData} (h : Sd p H v d) (a : Addr) (e : v = .ref a) : a ≠ p := by
  subst e
  cases h with
  | sc c => cases c
  | lst _ n _ => exact n
  | tup _ n _ => exact n
  | dct _ n _ => exact n
theorem sds_ne {p : Addr} {H : Hp} : ∀ {xs : List V} {ds : List PyData}, Sds p H xs ds → ∀ x ∈ xs, ∀ a, x = .ref a → a ≠ p
  | _, _, .nil, _, h => nomatch h
  | _, _, .cons h t, x, hx => by
    rcases List.mem_cons.mp hx with rfl | z
    · exact sd_ne h
    · exact sds_ne t x z
theorem dt_nes {p q : Addr} {n m : Nat} {H : Hp} {xs : List V} (h : Dt p n m H (.ref q)) (e : H q = some (.lst xs)) : ∀ x ∈ xs, ∀ a, x = .ref a → a ≠ p := by
  obtain ⟨d, h, _⟩ := h
  cases h with
  | sc c => cases c
  | lst h n r => rw [e] at h; cases h; exact sds_ne r
  | tup h n r => rw [e] at h; cases h
  | dct h n r => rw [e] at h; cases h
theorem Pln.keep {K : PySem.W.Frag} {p : Addr} {H H' : Hp} {v : V} (h : Pln K H v) (n : ∀ a, v = .ref a → a ≠ p) (s : SameBut1 p H H') : Pln K H' v := let ⟨ty, a, b⟩ := h; ⟨ty, a.keep n s, b⟩
theorem NoW.keep {K : PySem.W.Frag} {k : Int} {p : Addr} {n m : Nat} {H H' : Hp} {v : V} (h : NoW K k H v) (d : Dt p n m H v) (s : SameBut1 p H H') : NoW K k H' v := by
  rcases h with ⟨ty, a, b⟩ | ⟨q, xs, rfl, h, l, c⟩
  · exact .inl ⟨ty, a.keep d.ne s, b⟩
  · exact .inr ⟨q, xs, rfl, s _ _ h (d.ne q rfl), l, c.elim .inl fun ⟨a, b⟩ => .inr ⟨fun x hx => (a x hx).keep (dt_nes d h x hx) s, b⟩⟩
theorem NoB.keep {K : PySem.W.Frag} {k : Int} {p : Addr} {n m : Nat} {H H' : Hp} {v : V} (h : NoB K k H v) (d : Dt p n m H v) (s : SameBut1 p H H') : NoB K k H' v := h.elim .inl fun ⟨ty, a, b⟩ => .inr ⟨ty, a.keep d.ne s, b⟩
end BrS

namespace L2
open PySem PySem.Spec PyProof.Rows


def ExcOne (x C t0 : Addr) (m : Str) (tk : Tok) (h : Heap) : Prop := (∃ o vs, h.get? x = some o ∧ o.cls = .ref C ∧ o.data = .fields vs ∧ vs[0]? = some (.ref t0)) ∧ ∃ o k, h.get? t0 = some o ∧ o.data = .seq (#[.str m tk]) k
theorem ExcOne.at {x C t0 : Addr} {m : Str} {tk : Tok} {h : Heap} (e : ExcOne x C t0 m tk h) : ExcAt x C h := let ⟨⟨o, vs, a, b, c, _⟩, _⟩ := e; ⟨o, vs, a, b, c⟩
section
variable {prog : Program} {w : World} {A : Around} {E : Value → Shared → Prop} {s : Shared} {K : PySem.W.Frag} {x C t0 : Addr} {m : Str} {tk : Tok}
end
section
variable {X : Cx} {C : Addr} {x : Str} {e : Expr} {te : TE} {np cpos sp pos : Pos}
end
end L2

namespace L2
open PySem PySem.Spec PyProof.Rows
section
variable {X : Cx}

end
end L2
namespace L2
open PySem PySem.Spec PyProof.Rows BrR
section
variable {σ : St} {H : Hp} {Q : VK} {K : PySem.W.Frag}

end
end L2
namespace BrS
open L2 PySem BrM BrC BrR

end BrS

namespace BrS
open L2 PySem BrM BrC BrR

end BrS

namespace L2
open PySem PySem.Spec PyProof.Rows

section
variable {X : Cx} {pins : List (Addr × Obj)} {σ : St} {H : Hp} {s : Shared} {a : Addr}
end
section
variable {K : PySem.W.Frag} {g : TG} {tb : TS} {D : Ends} {σ : St} {H : Hp} {Q : VK}
end
end L2

namespace L2
open PySem PySem.Spec PyProof.Rows

section
variable {K : PySem.W.Frag} {σ : St} {H : Hp} {Q : VK} {D : Ends}
end
end L2
namespace BrS
open L2 PySem BrM BrC BrR

def Ok4 (st : List Nat) : Prop := ∀ p ∈ st, p < 4
abbrev Es := List (List Nat × Int)
structure Wf (es : Es) : Prop where
  nd : (es.map (·.1)).Nodup
  ok : ∀ e ∈ es, Ok4 e.1
  pos : ∀ e ∈ es, 1 ≤ e.2
theorem Wf.nil : Wf [] := ⟨by simp, (fun _ h => nomatch h), (fun _ h => nomatch h)⟩
theorem Wf.tail {e : List Nat × Int} {r : Es} (w : Wf (e :: r)) : Wf r := ⟨(List.nodup_cons.mp w.nd).2, fun x h => w.ok x (List.mem_cons_of_mem _ h), fun x h => w.pos x (List.mem_cons_of_mem _ h)⟩
def stp (k s : Nat) (f : List Nat → Int) (st : List Nat) : Int := sm k (fun p => pw k s (2 * p) * f (p :: st)) + (match st with | [] => 0 | o :: s' => pw k s (2 * o + 1) * f s')
end BrS

namespace BrT
open PySem

def Rise (a : Array Nat) : Prop := a.toList.Pairwise (· < ·)
theorem Rise.lt {a : Array Nat} (r : Rise a) {i j x y : Nat} (hij : i < j) (hx : a[i]? = some x) (hy : a[j]? = some y) : x < y := by
  have hx' : a.toList[i]? = some x := by simpa using hx
  have hy' : a.toList[j]? = some y := by simpa using hy
  obtain ⟨hi, rfl⟩ := List.getElem?_eq_some_iff.mp hx'
  obtain ⟨hj, rfl⟩ := List.getElem?_eq_some_iff.mp hy'
  exact (List.pairwise_iff_getElem.mp r) i j hi hj hij
def Tb (l : Bool) (t : SetTable) : Prop := Rise t.place ∧ t.led = l
theorem Tb.plain {l : Bool} {t : SetTable} (h : Tb l t) : Tb l { t with plain := false } := h
end BrT

namespace BrT
open PySem PySem.Spec PyProof.Rows

def keyOf (e : Int × Value) : Int := match e.2 with | .int k _ => k | _ => 0
section
variable {prog : Program} {w : World} {A : Around} {E : Value → Shared → Prop} {s : Shared}
def SO (prog : Program) (w : World) (l : Bool) (es : Array (Int × Value)) (t : SetTable) (ms : List Int) : Prop :=
  ElemsOf (intKind prog w) es.toList ∧ (es.toList.map keyOf).Nodup ∧ (∀ k, k ∈ es.toList.map keyOf ↔ k ∈ ms) ∧ es.size ≤ ms.length ∧ t.fits es.size = true ∧ Tb l t
def SI (prog : Program) (w : World) (l : Bool) (h : Heap) (a : Addr) (ms : List Int) : Prop :=
  ∃ o es ep t, h.get? a = some o ∧ o.ExactSet ∧ o.data = .set es ep t ∧ SO prog w l es t ms
theorem SI.at {l : Bool} {h h' : Heap} {a : Addr} {ms : List Int} (i : SI prog w l h a ms) (k : ∀ o, h.get? a = some o → h'.get? a = some o) : SI prog w l h' a ms :=
  let ⟨o, es, ep, t, ho, r⟩ := i; ⟨o, es, ep, t, k o ho, r⟩
end
end BrT

namespace BrT
open PySem PySem.Spec PyProof.Rows
section
variable {prog : Program} {w : World} {A : Around} {E : Value → Shared → Prop} {s : Shared}

def byT (w : World) : Bool := w.params.followText "set-order"
end
end BrT

namespace BrT
open PySem PySem.Spec PyProof.Rows
section
variable {prog : Program} {w : World} {A : Around} {E : Value → Shared → Prop} {s : Shared}

structure It (h : Heap) (I : Addr) (f : Value) (i : Nat) (S : Addr) (n ep : Nat) : Prop where
  at_ : ∃ o, h.get? I = some o ∧ o.cls = .type "set_iterator" ∧ o.data = .fields #[f, .int i 0, .ref S, .int n 0, .int ep 0]
theorem It.ty {I : Addr} {f : Value} {i : Nat} {S : Addr} {n ep : Nat} (x : It s.heap I f i S n ep) : s.TypeIs (.ref I) "set_iterator" := let ⟨o, ho, hc, _⟩ := x.at_; ⟨o, ho, hc⟩
theorem It.keep {h h' : Heap} {I : Addr} {f : Value} {i : Nat} {S : Addr} {n ep : Nat} (x : It h I f i S n ep) (k : ∀ o, h.get? I = some o → h'.get? I = some o) : It h' I f i S n ep := let ⟨o, ho, r⟩ := x.at_; ⟨o, k o ho, r⟩
def Seto (h : Heap) (S : Addr) (es : Array (Int × Value)) (ep : Nat) (t : SetTable) : Prop := ∃ o, h.get? S = some o ∧ o.ExactSet ∧ o.data = .set es ep t ∧ t.fits es.size = true
theorem Seto.keep {h h' : Heap} {S : Addr} {es : Array (Int × Value)} {ep : Nat} {t : SetTable} (x : Seto h S es ep t) (k : ∀ o, h.get? S = some o → h'.get? S = some o) : Seto h' S es ep t := let ⟨o, ho, r⟩ := x; ⟨o, k o ho, r⟩
def slotP (t : SetTable) (i : Nat) : Nat := if i = 0 then 0 else t.place.getD (i - 1) 0 + 1
inductive Way (w : World) (S : Addr) (h : Heap) (es : Array (Int × Value)) (ep : Nat) (t : SetTable) : (Nat → Value) → List Value → Prop
  | places (hb : byT w = false) (hp : t.plain = true ∨ es.size ≤ 1) (hl : t.led = true) (r : Rise t.place) : Way w S h es ep t (fun i => rawInt (slotP t i : Nat)) (es.toList.map (·.2))
  | text (hb : byT w = true) : Way w S h es ep t (fun _ => rawInt (0 : Nat)) ((pickOrder (w.params.setOrder S ep) es).toList.map (·.2))
  | draws (T : Addr) (ps : List Nat) (o : Obj) (hT : h.get? T = some o) (hd : ∃ n, o.data = .seq (ps.map fun (i : Nat) => rawInt i).toArray n) (hp : ps.Perm (List.range es.size)) : Way w S h es ep t (fun _ => .ref T) (ps.map fun i => (es.getD i (0, .none)).2)
end
end BrT

namespace BrT
open PySem PySem.Spec PyProof.Rows
section
variable {prog : Program} {w : World} {A : Around} {E : Value → Shared → Prop} {s : Shared}

theorem Way.at {S : Addr} {h h' : Heap} {es : Array (Int × Value)} {ep : Nat} {t : SetTable} {f : Nat → Value} {ys : List Value} (x : Way w S h es ep t f ys) (k : ∀ T, f 0 = .ref T → ∀ o, h.get? T = some o → h'.get? T = some o) : Way w S h' es ep t f ys := by
  cases x with
  | places hb hp hl r => exact .places hb hp hl r
  | text hb => exact .text hb
  | draws T ps o hT hd hp => exact .draws T ps o (k T rfl o hT) hd hp

end
end BrT

namespace BrT
open PySem PySem.Spec PyProof.Rows
section
variable {prog : Program} {w : World} {A : Around} {E : Value → Shared → Prop} {s : Shared}
end
end BrT

namespace L2
open PySem PySem.Spec PyProof.Rows
section
variable {X : Cx} {e : Expr} {te : TE} {np cpos sp pos : Pos}

end
end L2

namespace BrT
open PySem PySem.Spec PyProof.Rows
section
variable {prog : Program} {w : World} {A : Around} {E : Value → Shared → Prop} {s : Shared}

end
end BrT
namespace L2
open PySem PySem.Spec PyProof.Rows
section
variable {X : Cx} {e : Expr} {te : TE} {np cpos sp pos : Pos}

end
end L2

namespace BrC
variable {P : Nat → Nat → Int} {k : Nat}

end BrC
namespace L2
open PySem PySem.Spec PyProof.Rows BrR
section
variable {σ : St} {H : Hp} {Q : VK} {K : PySem.W.Frag}

end
end L2
namespace BrS
open L2 PySem BrM BrC BrR

def F14 (k : Nat) (a : List Nat) (b e : Nat) : Int := cv (PP (a.map (plw (ones k)))) k (e - b) b []
def ky (b e : Nat) : List Key := [.inl (b : Int), .inl (e : Int)]
def DW (k : Nat) (a : List Nat) (kvs : List (List Key × V)) (E q : Nat) : Prop :=
  (∀ b e : Nat, valV kvs (ky b e) = if b ≤ e ∧ (e - b) % 2 = 0 ∧ (e < E ∨ (e = E ∧ E < b + 2 * q)) then some (.int (F14 k a b e)) else none) ∧ kvs.length ≤ E * 41 + q
theorem DW.get {k : Nat} {a : List Nat} {kvs : List (List Key × V)} {E q b e : Nat} (h : DW k a kvs E q) (h1 : b ≤ e) (h2 : (e - b) % 2 = 0) (h3 : e < E ∨ (e = E ∧ E < b + 2 * q)) : valV kvs (ky b e) = some (.int (F14 k a b e)) := by
  rw [h.1, if_pos ⟨h1, h2, h3⟩]
theorem DW.at {k : Nat} {a : List Nat} {kvs : List (List Key × V)} {E q b e : Nat} {H : Hp} {d T : Addr} (h : DW k a kvs E q) (gd : H d = some (.dT kvs)) (hT : H T = none) (h1 : b ≤ e) (h2 : (e - b) % 2 = 0) (h3 : e < E) : DGet (upd H T (.tup [.int (b : Int), .int (e : Int)])) d (.ref T) (some (.int (F14 k a b e))) := by
  rw [← h.get h1 h2 (.inl h3)]
  exact DGet.t (k := ky b e) (by rw [upd_ne (ne_of_none gd hT)]; exact gd) upd_same
theorem DW.zero {k : Nat} {a : List Nat} : DW k a [] 0 0 := ⟨fun b e => by rw [valV_nil, if_neg (by omega)], by simp⟩

end BrS

namespace L2
open PySem PySem.Spec PyProof.Rows BrR
section
variable {X : Cx}

end
end L2

namespace L2
open PySem PySem.Spec PyProof.Rows

section
variable {X : Cx} {k : Nat} {C : Addr} {m x : Str} {ps : List Str} {sp : Sp} {e o value : Expr} {es : List Expr} {ta tv : TE} {t : TA} {p pos apos pos' tpos : Pos} {f : Str}
end
section
variable {σ : St} {H : Hp} {Q : VK} {K : PySem.W.Frag} {D : Ends} {C : Addr} {m f : Str} {sp : Sp} {E : XK} {ta tv : TE} {t : TA} {rd : V → V → Hp → VK → Prop}
end

section
variable {X : Cx}
end
end L2

namespace BrS
open L2 PySem BrM BrC BrR

abbrev pa_ (k : Nat) (a : List Nat) : Nat → Nat → Int := PP (a.map (plw (ones k)))

def W (k : Nat) (a : List Nat) (i : Nat) (st : List Nat) : Int := cv (pa_ k a) k (a.length - i) i st
def rowW (k : Nat) (a : List Nat) (st : List Nat) : List Int := (List.range (a.length + 1)).map fun i => W k a i st
theorem W_cap {k : Nat} {a : List Nat} (hk : k ≤ 4) (ha : a.length ≤ 40) (i : Nat) (st : List Nat) : 0 ≤ W k a i st ∧ W k a i st ≤ cap := cv_cap hk (fun l hl => (many_places hk l hl).2) (by omega) i st
def clsV (st : List Nat) : List V := st.reverse.map fun p : Nat => V.int (2 * (p : Int) + 1)
def cf (pl sm cl rs : Addr) (at' : Int) : List (Str × V) := [("places", .ref pl), ("sums", .ref sm), ("at", .int at'), ("closings", .ref cl), ("rests", .ref rs)]
structure CoS (C : Addr) (H0 H : Hp) (co : Addr) (k : Nat) (a : List Nat) (at' : Nat) (st : List Nat) (dx pl sm cl rs : Addr) (Hz Hb : Hp) (ad : Nat → Addr) (ra : List Addr) : Prop where
  ob : H co = some (.ins C dx (cf pl sm cl rs at'))
  pls : Pls Hb pl (a.map (plw (ones k)))
  tb : Tb Hz Hb sm ad a.length (tbl (pa_ k a) k)
  keep : SameBut1 co Hb H
  nco : ∀ xs, Hb co ≠ some (.lst xs)
  ncl : Hb cl = none
  nrs : Hb rs = none
  ne : cl ≠ rs
  clo : H cl = some (.lst (clsV st))
  res : H rs = some (.lst (ra.map V.ref))
  ral : ra.length = st.length + 1
  rows : ∀ (j : Nat) x, ra[j]? = some x → H x = some (iL (rowW k a (st.drop (st.length - j)))) ∧ x ≠ cl ∧ x ≠ rs
  h0 : Same H0 H
  h0co : H0 co = none
  h0cl : H0 cl = none
  h0rs : H0 rs = none
  len : a.length ≤ 40
  hk : k ≤ 4
section
variable {C : Addr} {H0 H : Hp} {co : Addr} {k : Nat} {a : List Nat} {at' : Nat} {st : List Nat} {dx pl sm cl rs : Addr} {Hz Hb : Hp} {ad : Nat → Addr} {ra : List Addr}
theorem CoS.lst (c : CoS C H0 H co k a at' st dx pl sm cl rs Hz Hb ad ra) {b : Addr} {xs : List V} (h : Hb b = some (.lst xs)) : H b = some (.lst xs) := c.keep _ _ h fun z => c.nco xs (by rw [← z]; exact h)
theorem CoS.top (c : CoS C H0 H co k a at' st dx pl sm cl rs Hz Hb ad ra) : ∃ x, atI (ra.map V.ref) (-1) = some (.ref x) ∧ H x = some (iL (rowW k a st)) := by
  obtain ⟨x, hx⟩ : ∃ x, ra[st.length]? = some x := ⟨_, List.getElem?_eq_getElem (by rw [c.ral]; omega)⟩
  refine ⟨x, atI_end (by rw [List.length_map, c.ral]; omega) (by rw [List.length_map, c.ral, List.getElem?_map, Nat.add_sub_cancel, hx]; rfl), ?_⟩
  have := (c.rows _ x hx).1
  rwa [Nat.sub_self, List.drop_zero] at this
end
def mw (k : Nat) (a : List Nat) (i : Nat) (st : List Nat) (b : Nat) : Int := if b % 2 = 0 then pa_ k a i b * W k a (i + 1) (b / 2 :: st) else match st with | [] => 0 | o :: s' => if 2 * o + 1 = b then pa_ k a i b * W k a (i + 1) s' else 0
def stb (st : List Nat) (b : Nat) : List Nat := if b % 2 = 0 then b / 2 :: st else st.tail
end BrS
namespace L2
open PySem PySem.Spec PyProof.Rows
end L2
namespace BrS
open L2 PySem BrM BrC BrR
theorem pa_top {k : Nat} {a : List Nat} (hk : k ≤ 4) (i b : Nat) : 0 ≤ pa_ k a i b ∧ pa_ k a i b ≤ top30 := PP_bound (fun l hl => (many_places hk l hl).2) i b
end BrS
namespace BrS
open L2 PySem BrM BrC BrR
theorem pa_01 {k : Nat} {a : List Nat} (hk : k ≤ 4) {i b : Nat} (hi : i < a.length) : pa_ k a i b = 0 ∨ pa_ k a i b = 1 := by
  show ((a.map (plw (ones k))).getD i []).getD b 0 = 0 ∨ ((a.map (plw (ones k))).getD i []).getD b 0 = 1
  rw [List.getD_eq_getElem?_getD (l := a.map (plw (ones k))), List.getElem?_map, List.getElem?_eq_getElem hi]
  show (plw (ones k) a[i]).getD b 0 = 0 ∨ (plw (ones k) a[i]).getD b 0 = 1
  unfold plw
  rw [List.getD_eq_getElem?_getD]
  split
  · cases e : (ones k)[b]? with
    | none => exact .inl rfl
    | some v =>
      have := List.mem_of_getElem? e
      rw [List.eq_of_mem_replicate this]
      exact .inr rfl
  · rw [List.getElem?_map]
    cases e : (brs.take (ones k).length)[b]? with
    | none => exact .inl rfl
    | some v =>
      show (if a[i] = v then (1 : Int) else 0) = 0 ∨ (if a[i] = v then (1 : Int) else 0) = 1
      split
      · exact .inr rfl
      · exact .inl rfl
end BrS
namespace BrS
open L2 PySem BrM BrC BrR
section
variable {C : Addr} {H0 H : Hp} {co : Addr} {k : Nat} {a : List Nat} {i : Nat} {st : List Nat} {dx pl sm cl rs : Addr} {Hz Hb : Hp} {ad : Nat → Addr} {ra : List Addr}
theorem CoS.nl (c : CoS C H0 H co k a i st dx pl sm cl rs Hz Hb ad ra) {b : Addr} {xs : List V} (h : H b = some (.lst xs)) : b ≠ co := fun z => by rw [z, c.ob] at h; cases h
theorem CoS.at (c : CoS C H0 H co k a i st dx pl sm cl rs Hz Hb ad ra) (j : Nat) : CoS C H0 (upd H co (.ins C dx (cf pl sm cl rs j))) co k a j st dx pl sm cl rs Hz Hb ad ra :=
  { ob := upd_same, pls := c.pls, tb := c.tb, keep := c.keep.trans SameBut1.upd, nco := c.nco, ncl := c.ncl, nrs := c.nrs, ne := c.ne
    clo := by rw [upd_ne (c.nl c.clo)]; exact c.clo
    res := by rw [upd_ne (c.nl c.res)]; exact c.res
    ral := c.ral
    rows := fun n x hx => ⟨by rw [upd_ne (c.nl (c.rows n x hx).1)]; exact (c.rows n x hx).1, (c.rows n x hx).2⟩
    h0 := fun b o z => by rw [upd_ne (ne_of_none z c.h0co)]; exact c.h0 _ _ z
    h0co := c.h0co, h0cl := c.h0cl, h0rs := c.h0rs, len := c.len, hk := c.hk }

end
end BrS
namespace BrS
open L2 PySem BrM BrC BrR
theorem mw_nonneg {k : Nat} {a : List Nat} (hk : k ≤ 4) (ha : a.length ≤ 40) (i : Nat) (st : List Nat) (b : Nat) : 0 ≤ mw k a i st b := by
  unfold mw
  split
  · exact Int.mul_nonneg (pa_top hk _ _).1 (W_cap hk ha _ _).1
  · cases st with
    | nil => exact Int.le_refl _
    | cons o s' =>
      show 0 ≤ (if 2 * o + 1 = b then pa_ k a i b * W k a (i + 1) s' else 0)
      split
      · exact Int.mul_nonneg (pa_top hk _ _).1 (W_cap hk ha _ _).1
      · exact Int.le_refl _
def cwq (k : Nat) (a : List Nat) (i : Nat) : List Nat → Nat → Int
  | [], _ => 0
  | o :: s', p => if o = p then pa_ k a i (2 * p + 1) * W k a (i + 1) s' else 0
theorem mw_all {k : Nat} {a : List Nat} {i : Nat} {st : List Nat} (hi : i < a.length) (hst : ∀ o ∈ st, o < k) : sm (2 * k) (mw k a i st) = W k a i st := by
  rw [sm_pairs]
  have e1 : ∀ p, mw k a i st (2 * p) = pa_ k a i (2 * p) * W k a (i + 1) (p :: st) := fun p => by
    unfold mw
    rw [if_pos (by omega), show 2 * p / 2 = p by omega]
  have e2 : ∀ p, mw k a i st (2 * p + 1) = cwq k a i st p := fun p => by
    unfold mw
    rw [if_neg (by omega)]
    cases st with
    | nil => rfl
    | cons o s' =>
      show (if 2 * o + 1 = 2 * p + 1 then _ else _) = (if o = p then _ else _)
      by_cases h : o = p
      · rw [if_pos h, if_pos (by omega)]
      · rw [if_neg h, if_neg (by omega)]
  obtain ⟨m, hm⟩ : ∃ m, a.length - i = m + 1 := ⟨a.length - i - 1, by omega⟩
  have hm2 : a.length - (i + 1) = m := by omega
  rw [sm_congr k fun p _ => by rw [e1, e2], sm_add]
  unfold W
  rw [hm, hm2]
  cases st with
  | nil => rw [cv_nil, BrC.sm_zero (f := fun i_1 => cwq k a i [] i_1) k (fun _ _ => rfl), Int.add_zero]
  | cons o s' =>
    rw [cv_cons]
    congr 1
    have ho := hst o List.mem_cons_self
    rw [sm_one (f := fun i_1 => cwq k a i (o :: s') i_1) ho]
    · show (if o = o then pa_ k a i (2 * o + 1) * W k a (i + 1) s' else 0) = _
      rw [if_pos rfl]
      unfold W
      rw [hm2]
    · intro j hj hne
      show (if o = j then _ else _) = (0 : Int)
      rw [if_neg (fun z => hne z.symm)]

def NF (k : Nat) (a : List Nat) : Nat → List Nat → Int → List Nat → Prop
  | i, _, l, [] => i = a.length ∧ l = 0
  | i, st, l, b :: bs => b < 2 * k ∧ sm b (mw k a i st) ≤ l ∧ l < sm (b + 1) (mw k a i st) ∧ NF k a (i + 1) (stb st b) (l - sm b (mw k a i st)) bs
def brt (bs : List Nat) : List Nat := bs.map fun b => brs.getD b 0
end BrS
namespace BrS
open L2 PySem BrM BrC BrR
theorem cum_mono {k : Nat} {a : List Nat} (hk : k ≤ 4) (ha : a.length ≤ 40) (i : Nat) (st : List Nat) {b c : Nat} (h : b ≤ c) : sm b (mw k a i st) ≤ sm c (mw k a i st) := by
  induction c with
  | zero => rw [show b = 0 by omega]; exact Int.le_refl _
  | succ c ih =>
    by_cases e : b = c + 1
    · rw [e]; exact Int.le_refl _
    · have h1 := ih (by omega)
      have h2 := mw_nonneg hk ha i st c
      show _ ≤ sm c (mw k a i st) + mw k a i st c
      omega
theorem mw_pos {k : Nat} {a : List Nat} (hk : k ≤ 4) (ha : a.length ≤ 40) {i : Nat} (hi : i < a.length) {st : List Nat} {b : Nat} (hst : ∀ o ∈ st, o < k) (hb : b < 2 * k) (h : 0 < mw k a i st b) : mw k a i st b = W k a (i + 1) (stb st b) ∧ (b % 2 = 1 → st ≠ []) ∧ (∀ o ∈ stb st b, o < k) ∧ (stb st b).length ≤ st.length + 1 := by
  have h01 : pa_ k a i b ≠ 0 → pa_ k a i b = 1 := fun z => (pa_01 hk hi).resolve_left z
  by_cases hev : b % 2 = 0
  · have e : mw k a i st b = pa_ k a i b * W k a (i + 1) (b / 2 :: st) := by unfold mw; rw [if_pos hev]
    have es : stb st b = b / 2 :: st := by unfold stb; rw [if_pos hev]
    rw [e] at h ⊢
    have h1 := h01 fun z => by rw [z, Int.zero_mul] at h; exact absurd h (Int.lt_irrefl _)
    rw [es, h1, Int.one_mul]
    refine ⟨rfl, by omega, fun o ho => ?_, by simp⟩
    rcases List.mem_cons.mp ho with z | z
    · omega
    · exact hst o z
  · have es : stb st b = st.tail := by unfold stb; rw [if_neg hev]
    rw [es]
    cases st with
    | nil =>
      unfold mw at h
      rw [if_neg hev] at h
      exact absurd h (Int.lt_irrefl _)
    | cons o s' =>
      have e : mw k a i (o :: s') b = if 2 * o + 1 = b then pa_ k a i b * W k a (i + 1) s' else 0 := by unfold mw; rw [if_neg hev]
      rw [e] at h ⊢
      by_cases ho : 2 * o + 1 = b
      · rw [if_pos ho] at h ⊢
        have h1 := h01 fun z => by rw [z, Int.zero_mul] at h; exact absurd h (Int.lt_irrefl _)
        rw [h1, Int.one_mul]
        exact ⟨rfl, fun _ => by simp, fun x hx => hst x (List.mem_cons_of_mem _ hx), by simp; omega⟩
      · rw [if_neg ho] at h
        exact absurd h (Int.lt_irrefl _)
theorem W_end (k : Nat) (a : List Nat) (st : List Nat) : W k a a.length st = if st = [] then 1 else 0 := by
  unfold W
  rw [Nat.sub_self]
  cases st <;> rfl
end BrS

namespace BrS
open L2 PySem BrM BrC BrR

def num (k : Nat) (a : List Nat) : Nat → List Nat → List Nat → Int
  | _, _, [] => 0
  | i, st, b :: bs => sm b (mw k a i st) + num k a (i + 1) (stb st b) bs
theorem NF.num {k : Nat} {a : List Nat} : ∀ {bs : List Nat} {i : Nat} {st : List Nat} {l : Int}, NF k a i st l bs → num k a i st bs = l
  | [], _, _, _, h => h.2.symm
  | b :: bs, i, st, l, h => by
    have := NF.num h.2.2.2
    show sm b (mw k a i st) + BrS.num k a (i + 1) (stb st b) bs = l
    omega
def Fi (k : Nat) (a : List Nat) : Nat → List Nat → List Nat → Prop
  | i, st, [] => i = a.length ∧ st = []
  | i, st, b :: bs => b < 2 * k ∧ pa_ k a i b = 1 ∧ (b % 2 = 1 → ∃ s', st = b / 2 :: s') ∧ Fi k a (i + 1) (stb st b) bs
theorem Fi.len {k : Nat} {a : List Nat} : ∀ {bs : List Nat} {i : Nat} {st : List Nat}, Fi k a i st bs → i + bs.length = a.length
  | [], _, _, h => h.1
  | b :: bs, i, st, h => by
    have := Fi.len h.2.2.2
    rw [List.length_cons]
    omega
theorem Fi.pos {k : Nat} {a : List Nat} (hk : k ≤ 4) (ha : a.length ≤ 40) : ∀ {bs : List Nat} {i : Nat} {st : List Nat}, (∀ o ∈ st, o < k) → Fi k a i st bs → NF k a i st (BrS.num k a i st bs) bs ∧ 0 ≤ BrS.num k a i st bs ∧ BrS.num k a i st bs < W k a i st
  | [], i, st, hst, h => by
    obtain ⟨h1, h2⟩ := h
    subst h1 h2
    refine ⟨⟨rfl, rfl⟩, Int.le_refl _, ?_⟩
    rw [W_end, if_pos rfl]
    exact Int.zero_lt_one
  | b :: bs, i, st, hst, h => by
    obtain ⟨h1, h2, h3, h4⟩ := h
    have hi : i < a.length := by have := Fi.len h4; omega
    have hst' : ∀ o ∈ stb st b, o < k := by
      unfold stb
      split
      · intro o ho
        rcases List.mem_cons.mp ho with z | z
        · omega
        · exact hst o z
      · intro o ho
        exact hst o (List.mem_of_mem_tail ho)
    obtain ⟨g1, g2, g3⟩ := Fi.pos hk ha hst' h4
    have ew : mw k a i st b = W k a (i + 1) (stb st b) := by
      unfold mw stb
      by_cases hev : b % 2 = 0
      · rw [if_pos hev, if_pos hev, h2, Int.one_mul]
      · obtain ⟨s', rfl⟩ := h3 (by omega)
        rw [if_neg hev, if_neg hev]
        show (if 2 * (b / 2) + 1 = b then pa_ k a i b * W k a (i + 1) s' else 0) = _
        rw [if_pos (by omega), h2, Int.one_mul]
        rfl
    have hs : sm (b + 1) (mw k a i st) = sm b (mw k a i st) + mw k a i st b := rfl
    have h0 : 0 ≤ sm b (mw k a i st) := sm_nonneg b fun j _ => mw_nonneg hk ha i st j
    have en : BrS.num k a i st (b :: bs) = sm b (mw k a i st) + BrS.num k a (i + 1) (stb st b) bs := rfl
    have hm := cum_mono hk ha i st (show b + 1 ≤ 2 * k by omega)
    rw [mw_all hi hst] at hm
    rw [en]
    refine ⟨⟨h1, by omega, by omega, ?_⟩, by omega, by omega⟩
    rw [show sm b (mw k a i st) + BrS.num k a (i + 1) (stb st b) bs - sm b (mw k a i st) = BrS.num k a (i + 1) (stb st b) bs by omega]
    exact g1

theorem NF.fl {k : Nat} {a : List Nat} (hk : k ≤ 4) (ha : a.length ≤ 40) : ∀ {bs : List Nat} {i : Nat} {st : List Nat} {l : Int}, i + bs.length = a.length → (∀ o ∈ st, o < k) → 0 ≤ l → l < W k a i st → NF k a i st l bs → Fi k a i st bs
  | [], i, st, l, hn, hst, l0, l1, h => by
    have e : i = a.length := h.1
    subst e
    rw [W_end] at l1
    refine ⟨rfl, ?_⟩
    by_cases z : st = []
    · exact z
    · rw [if_neg z] at l1; omega
  | b :: bs, i, st, l, hn, hst, l0, l1, h => by
    obtain ⟨h1, h2, h3, h4⟩ := h
    rw [List.length_cons] at hn
    have hi : i < a.length := by omega
    have hs : sm (b + 1) (mw k a i st) = sm b (mw k a i st) + mw k a i st b := rfl
    obtain ⟨ew, hodd, hst', _⟩ := mw_pos hk ha hi hst h1 (by omega)
    have hp : 0 < mw k a i st b := by omega
    refine ⟨h1, (pa_01 hk hi).resolve_left fun z => ?_, fun ho => ?_, NF.fl hk ha (by omega) hst' (by omega) (by omega) h4⟩
    · unfold mw at hp
      rw [z] at hp
      split at hp
      · rw [Int.zero_mul] at hp; omega
      · cases st with
        | nil => exact absurd hp (Int.lt_irrefl _)
        | cons o s' =>
          have hp : 0 < (if 2 * o + 1 = b then 0 * W k a (i + 1) s' else 0) := hp
          split at hp
          · rw [Int.zero_mul] at hp; omega
          · omega
    · cases st with
      | nil => exact absurd rfl (hodd ho)
      | cons o s' =>
        unfold mw at hp
        rw [if_neg (by omega)] at hp
        have hp : 0 < (if 2 * o + 1 = b then pa_ k a i b * W k a (i + 1) s' else 0) := hp
        split at hp
        · rename_i e
          exact ⟨s', by rw [show b / 2 = o by omega]⟩
        · omega
end BrS
namespace BrS
open L2 PySem BrM BrC BrR
end BrS
namespace L2
open PySem PySem.Spec PyProof.Rows

def fnd (l : List Nat) (c : Nat) : Int := Txt.find ⟨l.toArray⟩ ⟨#[c]⟩
end L2
namespace BrS
open L2 PySem BrM BrC BrR
theorem fnd_brs : ∀ b, b < 8 → fnd brs (brs.getD b 0) = b := by decide +kernel
end BrS

namespace PySem.SeqAt
open AutoSeq1 (wpAny_loadPart')
open MeetsSeq MeetsSeq2 MeetsSeq3 SeqRoads2
section
variable {prog : Program} {w : World} {A : Around} {E : Value → Shared → Prop} {s : Shared}
end
end PySem.SeqAt
namespace L2
open PySem PySem.Spec PyProof.Rows BrS
end L2

namespace PySem
open Sem (wp)
section
variable {prog : Program} {w : World} {A : Around} {E : Value → Shared → Prop} {s : Shared}
variable {z TI TO i1 i2 : Addr} {fp1 fp2 : List Addr} {n1 n2 i : Nat} {P1 P2 : Nat → Value → Prop} {S1 S2 : Nat → Heap → Prop} {a b : Value}
end

end PySem

namespace L2
open PySem PySem.Spec PyProof.Rows

section
variable {P : Program} {w : World} {K : PySem.W.Frag} {elts : List Expr} {k : Nat} {tpos : Pos}
end
section
variable {X : Cx} {a b : Expr} {ta : TA} {p pos : Pos} {elts : List Expr} {k : Nat} {tpos : Pos}
end
end L2

namespace L2
open PySem PySem.Spec PyProof.Rows
section
variable {σ : St} {H : Hp} {Q : VK} {K : PySem.W.Frag}
end
end L2
namespace BrS
open L2 PySem BrM BrC BrR

theorem brs_get {b : Nat} (h : b < 8) : brs[b]? = some (brs.getD b 0) := by
  match b, h with
  | 0, _ => rfl
  | 1, _ => rfl
  | 2, _ => rfl
  | 3, _ => rfl
  | 4, _ => rfl
  | 5, _ => rfl
  | 6, _ => rfl
  | 7, _ => rfl
theorem brs_evn : ∀ o, o < 4 → brs.getD (2 * o) 0 ∈ opn ∧ clo (brs.getD (2 * o) 0) = brs.getD (2 * o + 1) 0 ∧ brs.getD (2 * o + 1) 0 ∉ opn := by decide
theorem brs_ne : ∀ b, b < 8 → brs.getD b 0 ≠ 63 := by decide
theorem brs_sgn : ∀ k : Nat, k ≤ 4 → ∀ b, b < 2 * k → brs.getD b 0 ∈ sgn (k : Int) := by decide +kernel
def cl_ (st : List Nat) : List Nat := st.map fun o => brs.getD (2 * o + 1) 0
theorem Fi.run {k : Nat} {a : List Nat} (hk : k ≤ 4) : ∀ {bs : List Nat} {i : Nat} {st : List Nat}, (∀ o ∈ st, o < k) → Fi k a i st bs → run (cl_ st) (brt bs) = some []
  | [], i, st, hst, h => by
    obtain ⟨_, rfl⟩ := h
    rfl
  | b :: bs, i, st, hst, h => by
    obtain ⟨h1, h2, h3, h4⟩ := h
    have e : brt (b :: bs) = brs.getD b 0 :: brt bs := rfl
    rw [e]
    show (BrM.stp (cl_ st) (brs.getD b 0)).bind _ = _
    by_cases hev : b % 2 = 0
    · obtain ⟨q1, q2, q3⟩ := brs_evn (b / 2) (by omega)
      rw [show 2 * (b / 2) = b by omega] at q1 q2 q3
      rw [stp_open q1, q2]
      have es : stb st b = b / 2 :: st := by unfold stb; rw [if_pos hev]
      rw [es] at h4
      have := Fi.run hk (st := b / 2 :: st) (fun o ho => by
        rcases List.mem_cons.mp ho with z | z
        · omega
        · exact hst o z) h4
      have ec : cl_ (b / 2 :: st) = brs.getD (b + 1) 0 :: cl_ st := by
        show brs.getD (2 * (b / 2) + 1) 0 :: cl_ st = _
        rw [show 2 * (b / 2) = b by omega]
      rw [ec] at this
      exact this
    · obtain ⟨s', rfl⟩ := h3 (by omega)
      obtain ⟨q1, q2, q3⟩ := brs_evn (b / 2) (by omega)
      have eb : 2 * (b / 2) + 1 = b := by omega
      rw [eb] at q3
      have ec : cl_ (b / 2 :: s') = brs.getD b 0 :: cl_ s' := by
        show brs.getD (2 * (b / 2) + 1) 0 :: cl_ s' = _
        rw [eb]
      rw [ec, stp_close q3]
      have es : stb (b / 2 :: s') b = s' := by unfold stb; rw [if_neg hev]; rfl
      rw [es] at h4
      exact Fi.run hk (fun o ho => hst o (List.mem_cons_of_mem _ ho)) h4
theorem pw_one {k c b : Nat} (hk : k ≤ 4) (hb : b < 2 * k) (h : pw k c b = 1) : c = 63 ∨ c = brs.getD b 0 := by
  by_cases hc : c = 63
  · exact .inl hc
  · refine .inr ?_
    unfold pw plw at h
    rw [if_neg hc, List.getD_eq_getElem?_getD, List.getElem?_map, List.getElem?_take, if_pos (show b < (ones k).length by unfold ones; rw [List.length_replicate]; exact hb), brs_get (by omega)] at h
    have h : (if c = brs.getD b 0 then (1 : Int) else 0) = 1 := h
    split at h
    · assumption
    · cases h
theorem pa_pw {k : Nat} {a : List Nat} {i c : Nat} (h : a[i]? = some c) (b : Nat) : pa_ k a i b = pw k c b := by
  show ((a.map (plw (ones k))).getD i []).getD b 0 = _
  have e : (a.map (plw (ones k))).getD i [] = plw (ones k) c := by rw [List.getD_eq_getElem?_getD, List.getElem?_map, h]; rfl
  rw [e]; rfl

def Fll (k : Nat) : List Nat → List Nat → List Nat → Prop
  | [], st, [] => st = []
  | c :: r, st, b :: bs => b < 2 * k ∧ pw k c b = 1 ∧ (b % 2 = 1 → ∃ s', st = b / 2 :: s') ∧ Fll k r (stb st b) bs
  | _, _, _ => False
theorem Fi.l {k : Nat} {a : List Nat} : ∀ {bs : List Nat} {i : Nat} {st : List Nat}, Fi k a i st bs → Fll k (a.drop i) st bs
  | [], i, st, h => by
    obtain ⟨rfl, rfl⟩ := h
    rw [List.drop_length]
    rfl
  | b :: bs, i, st, h => by
    have hi : i < a.length := by have := h.len; rw [List.length_cons] at this; omega
    obtain ⟨h1, h2, h3, h4⟩ := h
    rw [List.drop_eq_getElem_cons hi]
    rw [pa_pw (List.getElem?_eq_getElem hi)] at h2
    exact ⟨h1, h2, h3, Fi.l h4⟩
theorem Fll.fl {k : Nat} {a : List Nat} : ∀ {bs : List Nat} {i : Nat} {st : List Nat}, i ≤ a.length → Fll k (a.drop i) st bs → Fi k a i st bs
  | [], i, st, hi, h => by
    cases e : a.drop i with
    | nil =>
      rw [e] at h
      have := List.drop_eq_nil_iff.mp e
      exact ⟨by omega, h⟩
    | cons c r => rw [e] at h; exact h.elim
  | b :: bs, i, st, hi, h => by
    by_cases hi' : i < a.length
    · rw [List.drop_eq_getElem_cons hi'] at h
      obtain ⟨h1, h2, h3, h4⟩ := h
      exact ⟨h1, by rw [pa_pw (List.getElem?_eq_getElem hi')]; exact h2, h3, Fll.fl hi' h4⟩
    · rw [List.drop_eq_nil_iff.mpr (by omega)] at h
      exact h.elim
theorem Fll.len {k : Nat} : ∀ {a st bs : List Nat}, Fll k a st bs → bs.length = a.length
  | [], _, [], _ => rfl
  | c :: r, st, b :: bs, h => by rw [List.length_cons, List.length_cons, Fll.len h.2.2.2]
  | [], _, _ :: _, h => h.elim
  | _ :: _, _, [], h => h.elim
theorem Fll.at {k : Nat} : ∀ {a st bs : List Nat}, Fll k a st bs → ∀ {i c b : Nat}, a[i]? = some c → bs[i]? = some b → b < 2 * k ∧ pw k c b = 1
  | c :: r, st, b :: bs, h, 0, c', b', h1, h2 => by
    obtain rfl : c = c' := Option.some.inj h1
    obtain rfl : b = b' := Option.some.inj h2
    exact ⟨h.1, h.2.1⟩
  | c :: r, st, b :: bs, h, i + 1, c', b', h1, h2 => Fll.at h.2.2.2 (i := i) h1 h2
  | [], _, _, _, i, _, _, h1, _ => by simp at h1
  | _ :: _, _, [], _, i, _, _, _, h2 => by simp at h2
def exk (p q o : Nat) : Nat := if o = p then q else if o = q then p else o
def exb (p q b : Nat) : Nat := 2 * exk p q (b / 2) + b % 2
def exc (p q c : Nat) : Nat := if c = 63 then 63 else brs.getD (exb p q (fnd brs c).toNat) 0
theorem exk_lt {p q o k : Nat} (hp : p < k) (hq : q < k) (ho : o < k) : exk p q o < k := by unfold exk; split; exact hq; split; exact hp; exact ho
theorem exb_lt {p q b k : Nat} (hp : p < k) (hq : q < k) (hb : b < 2 * k) : exb p q b < 2 * k := by
  have := exk_lt hp hq (show b / 2 < k by omega)
  unfold exb
  omega
theorem exb_half (p q b : Nat) : exb p q b / 2 = exk p q (b / 2) := by unfold exb; omega
theorem exb_mod (p q b : Nat) : exb p q b % 2 = b % 2 := by unfold exb; omega
theorem exc_brs {p q b : Nat} (h : b < 8) : exc p q (brs.getD b 0) = brs.getD (exb p q b) 0 := by
  unfold exc
  rw [if_neg (brs_ne b h), fnd_brs b h, Int.toNat_natCast]
theorem Fll.ex {p q k : Nat} (hk : k ≤ 4) (hp : p < k) (hq : q < k) : ∀ {a st bs : List Nat}, Fll k a st bs → Fll k (a.map (exc p q)) (st.map (exk p q)) (bs.map (exb p q))
  | [], st, [], h => by
    have h : st = [] := h
    subst h
    rfl
  | c :: r, st, b :: bs, h => by
    obtain ⟨h1, h2, h3, h4⟩ := h
    have hb' := exb_lt hp hq h1
    have es : stb (st.map (exk p q)) (exb p q b) = (stb st b).map (exk p q) := by
      unfold stb
      rw [exb_mod, exb_half]
      split
      · rfl
      · rw [List.map_tail]
    refine ⟨hb', ?_, fun ho => ?_, ?_⟩
    · rcases pw_one hk h1 h2 with rfl | rfl
      · exact pw_unk hb'
      · show pw k (exc p q (brs.getD b 0)) _ = 1
        rw [exc_brs (by omega), pw_at hb' (by omega) (brs_get (by omega)), if_pos rfl]
    · rw [exb_mod] at ho
      obtain ⟨s', rfl⟩ := h3 ho
      exact ⟨s'.map (exk p q), by rw [exb_half]; rfl⟩
    · rw [es]
      exact Fll.ex hk hp hq h4
  | [], _, _ :: _, h => h.elim
  | _ :: _, _, [], h => h.elim
end BrS
namespace BrS
open L2 PySem BrM BrC BrR
theorem Fll.lt {k : Nat} : ∀ {a st bs : List Nat}, Fll k a st bs → ∀ b ∈ bs, b < 2 * k
  | [], _, [], _, _, hb => nomatch hb
  | c :: r, st, b :: bs, h, x, hx => by
    rcases List.mem_cons.mp hx with z | z
    · rw [z]; exact h.1
    · exact Fll.lt h.2.2.2 x z
  | [], _, _ :: _, h, _, _ => h.elim
  | _ :: _, _, [], h, _, _ => h.elim
theorem isRow_brt {k : Nat} {bs : List Nat} (hk : k ≤ 4) (hl : bs.length ≤ 40) (h : ∀ b ∈ bs, b < 2 * k) : isRow (k : Int) (brt bs) = true := by
  unfold isRow brt
  rw [Bool.and_eq_true, List.length_map]
  refine ⟨decide_eq_true hl, ?_⟩
  rw [List.all_eq_true]
  intro c hc
  obtain ⟨b, hb, rfl⟩ := List.mem_map.mp hc
  exact decide_eq_true (brs_sgn k hk b (h b hb))
end BrS
namespace BrS
open L2 PySem BrM BrC BrR
end BrS
namespace BrS
open L2 PySem BrM BrC BrR
end BrS
namespace L2
open PySem PySem.Spec PyProof.Rows
section
variable {σ : St} {H : Hp} {Q : VK} {K : PySem.W.Frag}

end
end L2
namespace L2
open PySem
end L2

namespace BrS
open L2 PySem BrM BrC BrR

def filB (k : Int) (a b : List Nat) : Bool := isRow k b && decide (b.length = a.length) && decide (Rt b) && (List.range a.length).all fun i => decide (a.getD i 0 = 63) || decide (a.getD i 0 = b.getD i 0)
theorem Fi.filB {k : Nat} {a bs : List Nat} (hk : k ≤ 4) (hl : a.length ≤ 40) (hf : Fi k a 0 [] bs) : filB (k : Int) a (brt bs) = true := by
  have hbl := hf.len
  have hbt : (brt bs).length = bs.length := by unfold brt; rw [List.length_map]
  have hll := hf.l
  rw [List.drop_zero] at hll
  have hrt : Rt (brt bs) := hf.run hk (by simp)
  unfold BrS.filB
  rw [isRow_brt hk (by omega) hll.lt, decide_eq_true (show (brt bs).length = a.length by omega), decide_eq_true hrt, Bool.true_and, Bool.true_and, Bool.true_and, List.all_eq_true]
  intro i hi
  have hi := List.mem_range.mp hi
  have e1 : a[i]? = some (a.getD i 0) := by rw [List.getD_eq_getElem?_getD, List.getElem?_eq_getElem hi]; rfl
  have e2 : bs[i]? = some (bs.getD i 0) := by rw [List.getD_eq_getElem?_getD, List.getElem?_eq_getElem (show i < bs.length by omega)]; rfl
  have e3 : (brt bs).getD i 0 = brs.getD (bs.getD i 0) 0 := by unfold brt; rw [List.getD_eq_getElem?_getD, List.getElem?_map, e2]; rfl
  obtain ⟨q1, q2⟩ := hll.at e1 e2
  rw [e3, Bool.or_eq_true]
  rcases pw_one hk q1 q2 with z | z
  · exact .inl (decide_eq_true z)
  · exact .inr (decide_eq_true z)

def NoF (K : PySem.W.Frag) (k : Int) (a : List Nat) (H : Hp) (v : V) : Prop := (∃ b, v = tx b ∧ b.length ≤ 1000 ∧ filB k a b = false) ∨ ∃ ty, TyOf K H v (.type ty) ∧ ty ∈ plainTy ∧ ty ≠ "str"
theorem NoF.keep {K : PySem.W.Frag} {k : Int} {a : List Nat} {p : Addr} {n m : Nat} {H H' : Hp} {v : V} (h : NoF K k a H v) (d : Dt p n m H v) (s : SameBut1 p H H') : NoF K k a H' v := h.elim .inl fun ⟨ty, a, b⟩ => .inr ⟨ty, a.keep d.ne s, b⟩
end BrS

namespace BrB
open BrM BrC


def cl : List Nat → Nat → Option (List Nat)
  | [], _ => none
  | p :: s, q => if p = q then some s else none
theorem cl_cons (p : Nat) (s : List Nat) (q : Nat) : cl (p :: s) q = if p = q then some s else none := rfl
def nx (k : Nat) (st : List Nat) (b : Nat) : Option (List Nat) := if b < 2 * k then (if b % 2 = 0 then some (b / 2 :: st) else cl st (b / 2)) else none
def go (k : Nat) : List Nat → List Nat → Option (List Nat)
  | st, [] => some st
  | st, b :: r => (nx k st b).bind fun s => go k s r
theorem go_nil {k : Nat} (st : List Nat) : go k st [] = some st := by rw [go]
theorem go_cons {k : Nat} (st : List Nat) (b : Nat) (r : List Nat) : go k st (b :: r) = (nx k st b).bind fun s => go k s r := by rw [go]
theorem nx_some {k : Nat} {st s : List Nat} {b : Nat} (h : nx k st b = some s) : b < 2 * k ∧ ((b % 2 = 0 ∧ s = b / 2 :: st) ∨ (b % 2 = 1 ∧ st = b / 2 :: s)) := by
  unfold nx at h
  by_cases h1 : b < 2 * k
  · rw [if_pos h1] at h
    by_cases h2 : b % 2 = 0
    · rw [if_pos h2] at h; cases h; exact ⟨h1, .inl ⟨h2, rfl⟩⟩
    · rw [if_neg h2] at h
      cases st with
      | nil => cases h
      | cons p q =>
        rw [cl_cons] at h
        by_cases h3 : p = b / 2
        · rw [if_pos h3] at h; cases h; exact ⟨h1, .inr ⟨by omega, by rw [h3]⟩⟩
        · rw [if_neg h3] at h; cases h
  · rw [if_neg h1] at h; cases h
def Rg (k : Nat) (l : List Nat) : Prop := go k [] l = some []
theorem go_app {k : Nat} : ∀ (l r st : List Nat), go k st (l ++ r) = (go k st l).bind fun s => go k s r
  | [], r, st => by rw [List.nil_append, go_nil]; rfl
  | b :: l, r, st => by
    rw [List.cons_append, go_cons, go_cons]
    cases nx k st b with
    | none => rfl
    | some s => exact go_app l r s
theorem go_len {k : Nat} : ∀ (l st s : List Nat), go k st l = some s → st.length ≤ s.length + l.length ∧ (st.length + s.length + l.length) % 2 = 0
  | [], st, s, h => by rw [go_nil] at h; cases h; simp; omega
  | b :: l, st, s, h => by
    rw [go_cons] at h
    obtain ⟨s1, h1, h2⟩ := Option.bind_eq_some_iff.mp h
    have := go_len l _ _ h2
    obtain ⟨hb, ⟨h3, rfl⟩ | ⟨h3, rfl⟩⟩ := nx_some h1
    · simp only [List.length_cons] at this ⊢; omega
    · simp only [List.length_cons] at this ⊢; omega
theorem lt_tri (a b : List Nat) : a < b ∨ a = b ∨ b < a := by
  by_cases h : a < b
  · exact .inl h
  · by_cases h2 : b < a
    · exact .inr (.inr h2)
    · exact .inr (.inl (List.le_antisymm (List.not_lt.mp h2) (List.not_lt.mp h)))
theorem nlt_trans {a b c : List Nat} (h1 : ¬ b < a) (h2 : ¬ c < b) : ¬ c < a := fun h => by
  rcases lt_tri b c with z | z | z
  · exact h1 (List.lt_trans z h)
  · exact h1 (z ▸ h)
  · exact h2 z

abbrev O := Option (Int × List Nat)
def lik : O → O → O
  | none, b => b
  | some a, none => some a
  | some (x, l), some (y, m) => if x = y then (if l < m then some (x, l) else some (y, m)) else if x > y then some (x, l) else some (y, m)
def Best (S : List Nat → Prop) (f : List Nat → Int) : O → Prop
  | none => ∀ l, S l → f l ≤ 0
  | some (w, l) => S l ∧ f l = w ∧ 0 < w ∧ ∀ m, S m → f m < w ∨ (f m = w ∧ ¬ m < l)
theorem Best.un {S S' : List Nat → Prop} {f : List Nat → Int} : ∀ {a b : O}, Best S f a → Best S' f b → Best (fun l => S l ∨ S' l) f (lik a b)
  | none, none, h, g => fun l hl => hl.elim (h l) (g l)
  | none, some (v, m), h, ⟨g1, g2, g3, g4⟩ => ⟨.inr g1, g2, g3, fun x hx => hx.elim (fun z => .inl (by have := h x z; omega)) (g4 x)⟩
  | some (w, l), none, ⟨h1, h2, h3, h4⟩, g => ⟨.inl h1, h2, h3, fun x hx => hx.elim (h4 x) (fun z => .inl (by have := g x z; omega))⟩
  | some (w, l), some (v, m), ⟨h1, h2, h3, h4⟩, ⟨g1, g2, g3, g4⟩ => by
    show Best _ f (if w = v then (if l < m then some (w, l) else some (v, m)) else if w > v then some (w, l) else some (v, m))
    by_cases e : w = v
    · subst e
      rw [if_pos rfl]
      by_cases e2 : l < m
      · rw [if_pos e2]
        refine ⟨.inl h1, h2, h3, fun x hx => hx.elim (h4 x) fun z => (g4 x z).imp id fun ⟨a, b⟩ => ⟨a, nlt_trans (fun t => List.lt_irrefl _ (List.lt_trans t e2)) b⟩⟩
      · rw [if_neg e2]
        refine ⟨.inr g1, g2, g3, fun x hx => hx.elim (fun z => (h4 x z).imp id fun ⟨a, b⟩ => ⟨a, nlt_trans e2 b⟩) (g4 x)⟩
    · rw [if_neg e]
      by_cases e2 : w > v
      · rw [if_pos e2]
        exact ⟨.inl h1, h2, h3, fun x hx => hx.elim (h4 x) fun z => .inl (by rcases g4 x z with y | ⟨y, _⟩ <;> omega)⟩
      · rw [if_neg e2]
        exact ⟨.inr g1, g2, g3, fun x hx => hx.elim (fun z => .inl (by rcases h4 x z with y | ⟨y, _⟩ <;> omega)) (g4 x)⟩
theorem Best.pos {S : List Nat → Prop} {f : List Nat → Int} {w : Int} {l : List Nat} (h : Best S f (some (w, l))) : 0 < w := h.2.2.1

def Dn (k s t : Nat) (l : List Nat) : Prop := Rg k l ∧ s + l.length = t

def Sq (k s q t : Nat) (l : List Nat) : Prop := ∃ j p u v, j < q ∧ p < k ∧ l = 2 * p :: (u ++ (2 * p + 1) :: v) ∧ Rg k u ∧ u.length = 2 * j ∧ Rg k v ∧ s + 2 + 2 * j + v.length = t
def Nw (k s q t : Nat) (l : List Nat) : Prop := ∃ p u v, p < k ∧ l = 2 * p :: (u ++ (2 * p + 1) :: v) ∧ Rg k u ∧ u.length = 2 * q ∧ Rg k v ∧ s + 2 + 2 * q + v.length = t
theorem Sq.zero (k s t : Nat) (l : List Nat) : ¬ Sq k s 0 t l := fun ⟨j, _, _, _, h, _⟩ => absurd h (Nat.not_lt_zero _)
theorem Sq.len {k s q t : Nat} {l : List Nat} (h : Sq k s q t l) : s + l.length = t := by
  obtain ⟨j, p, u, v, _, _, rfl, _, hu, _, e⟩ := h
  simp only [List.length_cons, List.length_append]; omega
theorem Nw.len {k s q t : Nat} {l : List Nat} (h : Nw k s q t l) : s + l.length = t := by
  obtain ⟨p, u, v, _, rfl, _, hu, _, e⟩ := h
  simp only [List.length_cons, List.length_append]; omega
theorem Dn.nil (k s : Nat) (l : List Nat) : Dn k s s l ↔ l = [] := by
  constructor
  · rintro ⟨_, e⟩; exact List.eq_nil_of_length_eq_zero (by omega)
  · rintro rfl; exact ⟨by unfold Rg; rw [go_nil], rfl⟩

end BrB

namespace PySem.SeqAt
open AutoSeq1 (wpAny_loadPart')
open MeetsSeq MeetsSeq2 MeetsSeq3 SeqRoads2
section
variable {prog : Program} {w : World} {A : Around} {E : Value → Shared → Prop} {s : Shared}
end
end PySem.SeqAt
namespace L2
open PySem PySem.Spec PyProof.Rows

abbrev nL (bs : List Nat) : List V := bs.map fun b : Nat => V.int (b : Int)

end L2

namespace L2
open PySem PySem.Spec PyProof.Rows
section
variable {X : Cx}

end
end L2
namespace BrS
open L2 PySem BrM BrC BrB

def Bt (F : Addr → Prop) (H : Hp) (v : V) : O → Prop
  | none => v = .non
  | some (w, l) => ∃ T a, v = .ref T ∧ F T ∧ F a ∧ H T = some (.tup [.int w, .ref a]) ∧ H a = some (.lst (nL l))
theorem Bt.keep {F : Addr → Prop} {H H' : Hp} {v : V} {o : O} (h : Bt F H v o) (k : ∀ b x, F b → H b = some x → H' b = some x) : Bt F H' v o := by
  match o, h with
  | none, h => exact h
  | some (w, l), ⟨T, a, e, f1, f2, g1, g2⟩ => exact ⟨T, a, e, f1, f2, k _ _ f1 g1, k _ _ f2 g2⟩
theorem Bt.imp {F G : Addr → Prop} {H : Hp} {v : V} {o : O} (h : Bt F H v o) (k : ∀ b x, F b → H b = some x → G b) : Bt G H v o := by
  match o, h with
  | none, h => exact h
  | some (w, l), ⟨T, a, e, f1, f2, g1, g2⟩ => exact ⟨T, a, e, k _ _ f1 g1, k _ _ f2 g2, g1, g2⟩
def rwv (n : Nat) (f : Nat → V) : List V := (List.range (n + 1)).map f
theorem rwv_set {n j : Nat} {f : Nat → V} {v : V} : (rwv n f).set j v = rwv n (fun x => if x = j then v else f x) := by
  apply List.ext_getElem?
  intro i
  unfold rwv
  rw [List.getElem?_set, List.getElem?_map, List.getElem?_map]
  by_cases e : j = i
  · subst e
    by_cases hj : j < n + 1
    · rw [List.getElem?_range hj]; simp [hj]
    · rw [if_pos rfl, if_neg (by simpa using hj)]
      rw [List.getElem?_eq_none (by simpa using hj)]; rfl
  · rw [if_neg e]
    by_cases hi : i < n + 1
    · rw [List.getElem?_range hi]; simp [Ne.symm e]
    · rw [List.getElem?_eq_none (by simpa using hi)]; rfl

structure Tv (H0 H1 H : Hp) (s : Addr) (ad : Nat → Addr) (n : Nat) (T : Nat → Nat → V) : Prop where
  fs : H0 s = none
  fa : ∀ i, i ≤ n → H0 (ad i) = none
  ns : ∀ i, i ≤ n → ad i ≠ s
  inj : ∀ i j, i ≤ n → j ≤ n → ad i = ad j → i = j
  old : ∀ i, i ≤ n → H1 (ad i) ≠ none
  top : H s = some (.lst ((List.range (n + 1)).map fun i => V.ref (ad i)))
  row : ∀ i, i ≤ n → H (ad i) = some (.lst (rwv n (T i)))
  sm : Same H0 H
  gr : ∀ b, H b = none → H1 b = none
section
variable {H0 H1 H H' : Hp} {s : Addr} {ad : Nat → Addr} {n : Nat} {T T' : Nat → Nat → V}
theorem Tv.at (t : Tv H0 H1 H s ad n T) {i : Nat} (hi : i ≤ n) : ((List.range (n + 1)).map fun i => V.ref (ad i))[i]? = some (.ref (ad i)) := by
  rw [List.getElem?_map, List.getElem?_range (by omega)]; rfl
theorem Tv.set (t : Tv H0 H1 H s ad n T) {i j : Nat} {v : V} (hi : i ≤ n) : Tv H0 H1 (upd H (ad i) (.lst ((rwv n (T i)).set j v))) s ad n (fun a b => if a = i then (if b = j then v else T a b) else T a b) := by
  refine ⟨t.fs, t.fa, t.ns, t.inj, t.old, by rw [upd_ne (Ne.symm (t.ns i hi))]; exact t.top, fun a ha => ?_, fun b o z => ?_, fun b z => ?_⟩
  · by_cases e : a = i
    · subst e
      rw [upd_same, rwv_set]
      simp
    · rw [upd_ne (fun z => e (t.inj a i ha hi z)), t.row a ha]
      simp [e]
  · rw [upd_ne (ne_of_none z (t.fa i hi))]; exact t.sm b o z
  · by_cases e : b = ad i
    · subst e; rw [upd_same] at z; cases z
    · rw [upd_ne e] at z; exact t.gr b z
theorem Tv.keep (t : Tv H0 H1 H s ad n T) {i : Nat} (hi : i ≤ n) {o : HO} (b : Addr) (x : HO) (f : H1 b = none) (z : H b = some x) : (upd H (ad i) o) b = some x := by
  have ne : b ≠ ad i := fun e => t.old i hi (by rw [← e]; exact f)
  rw [upd_ne ne]; exact z
end
end BrS

namespace PySem
open Sem (wp)
end PySem

namespace L2
open PySem PySem.Spec PyProof.Rows

section
variable {P : Program} {w : World} {K : PySem.W.Frag} {elts : List Expr} {k : Nat} {tpos : Pos}
end
section
variable {X : Cx} {a b : Expr} {ta : TA} {p pos : Pos} {elts : List Expr} {k : Nat} {tpos : Pos}
end
end L2

namespace BrB
open BrM BrC BrS

abbrev Fe := List Nat × List Nat
theorem go_take {k : Nat} {l : List Nat} (h : Rg k l) (j : Nat) : ∃ s, go k [] (l.take j) = some s ∧ go k s (l.drop j) = some [] := by
  unfold Rg at h
  rw [← List.take_append_drop j l, go_app] at h
  obtain ⟨s, h1, h2⟩ := Option.bind_eq_some_iff.mp h
  exact ⟨s, h1, h2⟩
end BrB

namespace BrS
open L2 PySem BrM BrC BrB BrR

def Fs (fu : Addr) (H : Hp) (vs : List V) (es : List Fe) : Prop := vs.length = es.length ∧ ∀ (i : Nat) (e : Fe), es[i]? = some e → ∃ T p s : Addr, vs[i]? = some (V.ref T) ∧ T ≠ fu ∧ p ≠ fu ∧ s ≠ fu ∧ H T = some (.tup [.ref p, .ref s]) ∧ H p = some (.lst (nL e.1)) ∧ H s = some (.lst (nL e.2.reverse))
theorem Fs.keep {fu : Addr} {H H' : Hp} {vs : List V} {es : List Fe} (h : Fs fu H vs es) (k : SameBut1 fu H H') : Fs fu H' vs es := ⟨h.1, fun i e he => by
  obtain ⟨T, p, s, a1, a2, a3, a4, a5, a6, a7⟩ := h.2 i e he
  exact ⟨T, p, s, a1, a2, a3, a4, k _ _ a5 a2, k _ _ a6 a3, k _ _ a7 a4⟩⟩
theorem Fs.nil (fu : Addr) (H : Hp) : Fs fu H [] [] := ⟨rfl, fun i e he => by simp at he⟩
end BrS
namespace L2
open PySem PySem.Spec PyProof.Rows
section
variable {σ : St} {H : Hp} {Q : VK} {K : PySem.W.Frag}

theorem compL {a : Addr} {xs : List V} {own : List Str} {sel : List Nat} {g : TG} {tt : TT} {te : TE} (Pv : Addr → Nat → List V → Hp → Prop) (ht : ∀ D i ys H', Pv D i ys H' → H' a = some (.lst xs)) (h0 : ∀ D, H D = none → Pv D 0 [] (upd H D (.lst [])))
    (hst : ∀ D ys H', H D = none → H' D = some (.lst ys) → Pv D xs.length ys H' → Q (.ref D) H')
    (hs : ∀ D i x ys H', H D = none → xs[i]? = some x → i < xs.length → H' D = some (.lst ys) → ys.length ≤ i → Pv D i ys H' → g x (inSt own sel σ) H' fun σ4 H4 => tt σ4 H4 fun b H5 =>
      if b = true then te σ4 H5 fun v H6 => ∃ ys, H6 D = some (.lst ys) ∧ ys.length < sizeLine ∧ ∃ m', m' < xs.length - i ∧ CW D xs.length (Pv D) (i + 1) m' (upd H6 D (.lst (ys ++ [v])))
      else ∃ m', m' < xs.length - i ∧ CW D xs.length (Pv D) (i + 1) m' H5) : CompW (Itl K a) own sel σ g tt te Q H := by
  refine comp_of (n := xs.length) Pv h0 (fun D i ys H' hD hi hy p => ⟨xs, xs[i], SqL.of (ht _ _ _ _ p), List.getElem?_eq_getElem hi⟩) (fun D ys H' hD hy hl p => ⟨⟨_, SqL.of (ht _ _ _ _ p), Nat.le_refl _⟩, hst D ys H' hD hy p⟩) ?_
  rintro D i ys H' x H3 hD hi hy hl p ⟨rfl, hx⟩
  exact hs D i x ys H3 hD (hx _ (SqL.of (ht _ _ _ _ p))) hi hy hl p
end
end L2
namespace BrS
open L2 PySem BrM BrC BrB BrR
end BrS
namespace BrS
open L2 PySem PyProof.Rows BrM BrC BrB BrR
end BrS

namespace BrB
open BrM BrC BrS

def sms (L : List Int) : Int := L.foldr (· + ·) 0
end BrB
namespace BrB
open BrM BrC BrS
theorem Best.ext {S S' : List Nat → Prop} {f : List Nat → Int} {o : O} (h : Best S f o) (h1 : ∀ l, S l → S' l) (h2 : ∀ l, S' l → S l ∨ f l ≤ 0) : Best S' f o := by
  match o, h with
  | none, h => exact fun l hl => (h2 l hl).elim (h l) id
  | some (w, l), ⟨a, b, c, d⟩ => exact ⟨h1 l a, b, c, fun m hm => (h2 m hm).elim (d m) fun z => .inl (by omega)⟩
end BrB
namespace BrS
open L2 PySem PySem.Spec PyProof.Rows BrM BrC BrB BrR

end BrS

namespace BrI
open BrM BrC BrS

section
variable {P : Nat → Nat → Int} {k n : Nat}
theorem tb_self (i : Nat) : tbl P k i i = 1 := by unfold tbl; rw [if_pos (Nat.le_refl _), Nat.sub_self]; rfl
theorem tb_gt {i j : Nat} (h : j < i) : tbl P k i j = 0 := by unfold tbl; rw [if_neg (by omega)]
def Of (P : Nat → Nat → Int) (k n : Nat) : Nat → Nat → Nat → Int
  | 0, _, _ => 0
  | f + 1, t, j => (if j = n then tbl P k 0 t else 0) + sm n (fun u => tbl P k (u + 1) t * (pr P k u j * sm (n + 1) (fun s => Of P k n f u s * tbl P k (j + 1) s)))
theorem Of_next : ∀ (f t j : Nat), t < f → Of P k n f t j = Of P k n (f + 1) t j
  | 0, t, j, h => absurd h (Nat.not_lt_zero _)
  | f + 1, t, j, h => by
    rw [Of, Of.eq_def (n := n) (P := P) (k := k) (f + 1 + 1)]
    simp only
    congr 1
    refine sm_congr n fun u hu => ?_
    by_cases e : u < t
    · congr 2
      exact sm_congr (n + 1) fun s _ => by rw [Of_next f u s (by omega)]
    · rw [tb_gt (i := u + 1) (j := t) (by omega)]; simp
def Oo (P : Nat → Nat → Int) (k n t j : Nat) : Int := Of P k n (n + 1) t j

def out (P : Nat → Nat → Int) (k n u j : Nat) : Int := sm (n + 1) (fun s => Oo P k n u s * tbl P k (j + 1) s)
theorem Oo_eq {t j : Nat} (h : t ≤ n) : Oo P k n t j = (if j = n then tbl P k 0 t else 0) + sm n (fun u => tbl P k (u + 1) t * (pr P k u j * out P k n u j)) := by
  unfold Oo out
  rw [Of]
  congr 1
  refine sm_congr n fun u hu => ?_
  by_cases e : u < t
  · congr 2
    refine sm_congr (n + 1) fun s _ => ?_
    unfold Oo
    rw [Of_next n u s (by omega)]
  · rw [tb_gt (i := u + 1) (j := t) (by omega)]; simp
theorem Oo_zero (j : Nat) : Oo P k n 0 j = if j = n then 1 else 0 := by
  rw [Oo_eq (Nat.zero_le _), tb_self, sm_zero n fun u _ => by rw [tb_gt (i := u + 1) (j := 0) (by omega)]; simp]
  omega

end

section
variable {P P' : Nat → Nat → Int} {k n i : Nat}
end
end BrI
namespace BrI
open BrM BrC BrS
section
variable {P : Nat → Nat → Int} {k n : Nat} {c : Int}
end
end BrI

namespace BrS
open L2 PySem BrM BrC BrB BrI BrR

def prs (n : Nat) : List (Nat × Nat) := (List.range n).flatMap fun s => (List.range ((n - s) / 2)).map fun q => (s, s + 1 + 2 * q)
def rst (P : Nat → Nat → Int) (k n s e : Nat) : Int := tbl P k (s + 1) e * out P k n s e

def Fp (P : Nat → Nat → Int) (k n : Nat) (H : Hp) (vs : List V) (L : List (Nat × Nat)) : Prop := vs.length = L.length ∧ ∀ (m : Nat) (x : Nat × Nat), L[m]? = some x → ∃ T : Addr, vs[m]? = some (V.ref T) ∧ H T = some (.tup [.int x.1, .int x.2, .int (rst P k n x.1 x.2)])
theorem Fp.lst {P : Nat → Nat → Int} {k n : Nat} {H : Hp} {vs : List V} {L : List (Nat × Nat)} {a : Addr} {xs : List V} {o : HO} (h : Fp P k n H vs L) (ha : H a = some (.lst xs)) : Fp P k n (upd H a o) vs L := ⟨h.1, fun m x hx => by
  obtain ⟨T, e, b⟩ := h.2 m x hx
  exact ⟨T, e, by rw [upd_ne (ne_of b ha (fun z => by cases z))]; exact b⟩⟩
def ot (P : Nat → Nat → Int) (k n s q r i j : Nat) : Int :=
  if i ≤ s then Oo P k n i j else
    sm s (fun u => Oo P k n u j * (pr P k u (i - 1) * tbl P k (u + 1) (i - 1))) +
    (if s < i - 1 ∧ (i - 1 < s + 1 + 2 * q ∨ (i - 1 = s + 1 + 2 * q ∧ j < r)) then Oo P k n s j * (pr P k s (i - 1) * tbl P k (s + 1) (i - 1)) else 0) +
    (if i = s + 1 ∧ j < s + 1 + 2 * q then pr P k s j * out P k n s j else 0)
def OkT (P : Nat → Nat → Int) (k n s q r : Nat) (T : Nat → Nat → Int) : Prop := ∀ i j, i ≤ j → j ≤ n → (j - i) % 2 = 0 → T i j = ot P k n s q r i j
theorem OkT.zero {P : Nat → Nat → Int} {k n : Nat} {T : Nat → Nat → Int} (h : ∀ i j, T i j = if i = 0 ∧ j = n then 1 else 0) : OkT P k n 0 0 0 T := by
  intro i j h1 h2 h3
  rw [h]
  unfold ot
  by_cases e : i = 0
  · subst e
    rw [if_pos (Nat.le_refl _), Oo_zero]
    by_cases z : j = n
    · rw [if_pos ⟨rfl, z⟩, if_pos z]
    · rw [if_neg (fun w => z w.2), if_neg z]
  · rw [if_neg (fun w => e w.1), if_neg (by omega), if_neg (by omega), if_neg (by omega)]; rfl
theorem OkT.row {P : Nat → Nat → Int} {k n s q r j : Nat} {T : Nat → Nat → Int} (h : OkT P k n s q r T) (h1 : s ≤ j) (h2 : j ≤ n) (h3 : (j - s) % 2 = 0) : T s j = Oo P k n s j := by
  rw [h s j h1 h2 h3]; unfold ot; rw [if_pos (Nat.le_refl _)]
section
variable {ps : List (List Int)} {k n : Nat}
end
def rw2 (m : Nat) (f : Nat → Int) : List V := (List.range m).map fun j => V.int (f j)
theorem rw2_set {m j : Nat} {f : Nat → Int} {v : Int} : (rw2 m f).set j (.int v) = rw2 m (fun x => if x = j then v else f x) := by
  apply List.ext_getElem?
  intro i
  unfold rw2
  rw [List.getElem?_set, List.getElem?_map, List.getElem?_map]
  by_cases e : j = i
  · subst e
    by_cases hj : j < m
    · rw [List.getElem?_range hj]; simp [hj]
    · rw [if_pos rfl, if_neg (by simpa using hj)]
      rw [List.getElem?_eq_none (by simpa using hj)]; rfl
  · rw [if_neg e]
    by_cases hi : i < m
    · rw [List.getElem?_range hi]; simp [Ne.symm e]
    · rw [List.getElem?_eq_none (by simpa using hi)]; rfl
theorem rw2_congr {m : Nat} {f g : Nat → Int} (h : ∀ j, j < m → f j = g j) : rw2 m f = rw2 m g := by
  unfold rw2
  refine List.map_congr_left fun j hj => ?_
  rw [h j (List.mem_range.mp hj)]
structure Tw (H0 H : Hp) (s : Addr) (ad : Nat → Addr) (n m : Nat) (T : Nat → Nat → Int) : Prop where
  fs : H0 s = none
  fa : ∀ i, i < n → H0 (ad i) = none
  ns : ∀ i, i < n → ad i ≠ s
  inj : ∀ i j, i < n → j < n → ad i = ad j → i = j
  top : H s = some (.lst ((List.range n).map fun i => V.ref (ad i)))
  row : ∀ i, i < n → H (ad i) = some (.lst (rw2 m (T i)))
  sm : Same H0 H
section
variable {H0 H H' : Hp} {s : Addr} {ad : Nat → Addr} {n m : Nat} {T T' : Nat → Nat → Int}
theorem Tw.congr (t : Tw H0 H s ad n m T) (h : ∀ i j, i < n → j < m → T i j = T' i j) : Tw H0 H s ad n m T' := ⟨t.fs, t.fa, t.ns, t.inj, t.top, fun i hi => by rw [t.row i hi, rw2_congr fun j hj => h i j hi hj], t.sm⟩
theorem Tw.at (t : Tw H0 H s ad n m T) {i : Nat} (hi : i < n) : ((List.range n).map fun i => V.ref (ad i))[i]? = some (.ref (ad i)) := by
  rw [List.getElem?_map, List.getElem?_range hi]; rfl
theorem Tw.set (t : Tw H0 H s ad n m T) {i j : Nat} {v : Int} (hi : i < n) : Tw H0 (upd H (ad i) (.lst ((rw2 m (T i)).set j (.int v)))) s ad n m (fun a b => if a = i ∧ b = j then v else T a b) := by
  refine ⟨t.fs, t.fa, t.ns, t.inj, by rw [upd_ne (Ne.symm (t.ns i hi))]; exact t.top, fun a ha => ?_, fun b o z => ?_⟩
  · by_cases e : a = i
    · subst e
      rw [upd_same, rw2_set]
      congr 2
      refine rw2_congr fun x _ => ?_
      by_cases q : x = j <;> simp [q]
    · rw [upd_ne (fun z => e (t.inj a i ha hi z)), t.row a ha]
      congr 2
      refine rw2_congr fun x _ => ?_
      simp [e]
  · rw [upd_ne (ne_of_none z (t.fa i hi))]; exact t.sm b o z
end

def ga (P : Nat → Nat → Int) (k n i b : Nat) (x : Nat × Nat) : Int :=
  if b % 2 = 0 then (if x.1 = i then P x.1 b * P x.2 (b + 1) * rst P k n x.1 x.2 else 0) else (if x.2 = i then P x.1 (b - 1) * P x.2 b * rst P k n x.1 x.2 else 0)
section
variable {K : PySem.W.Frag} {σ : St} {H : Hp} {Q : VK}
end
def gp (P : Nat → Nat → Int) (k n m o i b : Nat) (x : Nat × Nat) : Int := sms (((prs n).take m).map (ga P k n i b)) + (if b / 2 < o then ga P k n i b x else 0)
end BrS

namespace PySem
open Sem (wp)
end PySem

namespace L2
open PySem PySem.Spec PyProof.Rows

section
variable {P : Program} {w : World} {K : PySem.W.Frag} {elts : List Expr} {k : Nat} {tpos : Pos}
end
section
variable {X : Cx} {a b : Expr} {ta : TA} {p pos : Pos} {elts : List Expr} {k : Nat} {tpos : Pos}
end
end L2

namespace L2
open PySem PySem.Spec PyProof.Rows

end L2
namespace BrS
open L2 PySem PySem.Spec PyProof.Rows BrM BrC BrB BrI BrR
section
variable {σ : L2.St} {H : Hp} {Q : VK}

end
end BrS

namespace L2
open PySem PySem.Spec PyProof.Rows

section
variable {X : Cx} {pins : List (Addr × Obj)} {σ : St} {H : Hp} {s : Shared} {a : Addr} {kvs : List (Key × V)} {k : Key} {v : V} {u r : Value} {A : Around} {E : Value → Shared → Prop}
end
section
variable {prog : Program} {w : World} {A : Around} {R : Result → Shared → Prop} {s : Shared}
end
section
variable {X : Cx}
end

end L2

namespace L2
open PySem PySem.Spec PyProof.Rows PySem.SeqAt

end L2

namespace BrS
open L2 PySem PySem.Spec PyProof.Rows BrM BrC BrB BrI BrR

def Prl (H : Hp) (vs : List V) (L : List (Nat × Nat)) : Prop := vs.length = L.length ∧ ∀ (m : Nat) (x : Nat × Nat), L[m]? = some x → ∃ T : Addr, vs[m]? = some (V.ref T) ∧ H T = some (.tup [.int x.1, .int x.2])
theorem Prl.lst {H : Hp} {vs : List V} {L : List (Nat × Nat)} {a : Addr} {xs : List V} {o : HO} (h : Prl H vs L) (ha : H a = some (.lst xs)) : Prl (upd H a o) vs L := ⟨h.1, fun m x hx => by
  obtain ⟨T, e, b⟩ := h.2 m x hx
  exact ⟨T, e, by rw [upd_ne (ne_of b ha (fun z => by cases z))]; exact b⟩⟩
def Sll (H : Hp) (vs : List V) (L : List (Nat × Nat)) : Prop := vs.length = L.length ∧ ∀ (m : Nat) (x : Nat × Nat), L[m]? = some x → ∃ T : Addr, vs[m]? = some (V.ref T) ∧ H T = some (.tup [.int x.1, tx [brs.getD x.2 0]])
theorem Sll.lst {H : Hp} {vs : List V} {L : List (Nat × Nat)} {a : Addr} {xs : List V} {o : HO} (h : Sll H vs L) (ha : H a = some (.lst xs)) : Sll (upd H a o) vs L := ⟨h.1, fun m x hx => by
  obtain ⟨T, e, b⟩ := h.2 m x hx
  exact ⟨T, e, by rw [upd_ne (ne_of b ha (fun z => by cases z))]; exact b⟩⟩
end BrS

namespace BrI
open BrM BrC BrS BrB

section
variable {P : Nat → Nat → Int} {k : Nat}
end
section
variable {P : Nat → Nat → Int} {k n : Nat}
end
section
variable {P : Nat → Nat → Int} {k n : Nat}
end
end BrI

namespace BrI
open BrM BrC BrS BrB

def PairAt (k : Nat) (l : List Nat) (s e : Nat) : Prop := ∃ p u v w, p < k ∧ l = u ++ 2 * p :: (v ++ (2 * p + 1) :: w) ∧ u.length = s ∧ s + 1 + v.length = e ∧ Rg k v
theorem PairAt.lt {k : Nat} {l : List Nat} {s e : Nat} (h : PairAt k l s e) : s < e ∧ e < l.length ∧ (e - s) % 2 = 1 := by
  obtain ⟨p, u, v, w, _, rfl, hu, he, hv⟩ := h
  have := (go_len v [] [] hv).2
  simp at this ⊢
  omega
theorem sg_brs : ∀ b, b < 8 → sg (brs.getD b 0) = if b % 2 = 0 then 1 else -1 := by decide
theorem hg_go {k : Nat} (hk : k ≤ 4) : ∀ {l st s : List Nat}, go k st l = some s → hg (brt l) = (s.length : Int) - st.length
  | [], st, s, h => by rw [go_nil] at h; cases h; show (0 : Int) = _; omega
  | b :: l, st, s, h => by
    rw [go_cons] at h
    obtain ⟨s1, h1, h2⟩ := Option.bind_eq_some_iff.mp h
    have ih := hg_go hk h2
    show sg (brs.getD b 0) + hg (brt l) = _
    obtain ⟨hb, ⟨e1, rfl⟩ | ⟨e1, rfl⟩⟩ := nx_some h1
    · rw [sg_brs b (by omega), if_pos e1, ih, List.length_cons]; omega
    · rw [sg_brs b (by omega), if_neg (by omega), ih, List.length_cons]; omega
theorem brt_len (l : List Nat) : (brt l).length = l.length := by unfold brt; rw [List.length_map]
theorem brt_app (a b : List Nat) : brt (a ++ b) = brt a ++ brt b := by unfold brt; rw [List.map_append]
theorem ht_brt (a b : List Nat) : ht (brt (a ++ b)) a.length = hg (brt a) := by
  unfold ht
  rw [brt_app, List.take_left' (brt_len a)]
theorem PairAt.pr {k : Nat} (hk : k ≤ 4) {l : List Nat} {s e : Nat} (h : PairAt k l s e) : Pr (brt l) s e := by
  have hlt := h.lt
  obtain ⟨p, u, v, w, hp, rfl, hu, he, hv⟩ := h
  have h0 : ht (brt (u ++ 2 * p :: (v ++ (2 * p + 1) :: w))) s = hg (brt u) := by rw [← hu]; exact ht_brt _ _
  have key : ∀ j, j ≤ v.length → ht (brt (u ++ 2 * p :: (v ++ (2 * p + 1) :: w))) (s + 1 + j) = hg (brt u) + 1 + hg (brt (v.take j)) := fun j hj => by
    have e1 : u ++ 2 * p :: (v ++ (2 * p + 1) :: w) = (u ++ 2 * p :: v.take j) ++ (v.drop j ++ (2 * p + 1) :: w) := by
      have e0 : v.take j ++ (v.drop j ++ (2 * p + 1) :: w) = v ++ (2 * p + 1) :: w := by rw [← List.append_assoc, List.take_append_drop]
      rw [List.append_assoc, List.cons_append, e0]
    have e2 : (u ++ 2 * p :: v.take j).length = s + 1 + j := by rw [List.length_append, List.length_cons, List.length_take]; omega
    rw [e1, ← e2, ht_brt, brt_app, hg_append]
    show _ + (sg (brs.getD (2 * p) 0) + hg (brt (v.take j))) = _
    rw [sg_brs (2 * p) (by omega), if_pos (by omega)]; omega
  refine ⟨hlt.1, by rw [brt_len]; exact hlt.2.1, ?_, fun m h1 h2 => ?_⟩
  · have e1 : u ++ 2 * p :: (v ++ (2 * p + 1) :: w) = (u ++ 2 * p :: (v ++ [2 * p + 1])) ++ w := by simp
    have e2 : (u ++ 2 * p :: (v ++ [2 * p + 1])).length = e + 1 := by simp; omega
    rw [h0, e1, ← e2, ht_brt, brt_app, hg_append]
    show _ + (sg (brs.getD (2 * p) 0) + hg (brt (v ++ [2 * p + 1]))) = _
    rw [brt_app, hg_append]
    have e3 : hg (brt v) = 0 := by have := hg_go hk hv; simpa using this
    have e4 : hg (brt [2 * p + 1]) = -1 := by
      show sg (brs.getD (2 * p + 1) 0) + 0 = -1
      rw [sg_brs (2 * p + 1) (by omega), if_neg (by omega)]; rfl
    rw [e3, e4, sg_brs (2 * p) (by omega), if_pos (by omega)]; omega
  · have := key (m - (s + 1)) (by omega)
    rw [show s + 1 + (m - (s + 1)) = m by omega] at this
    rw [h0, this]
    obtain ⟨st, g1, _⟩ := go_take hv (m - (s + 1))
    have := hg_go hk g1
    simp at this
    omega

section
variable {P P' : Nat → Nat → Int} {k n n' i d : Nat}
end
end BrI

namespace L2
open PySem PySem.Spec PyProof.Rows

section
variable {X : Cx}
theorem Room.deep {k : Nat} {A : Around} (hr : Room k A) {d e : PyData} (h : d.depth ≤ 150) : A.units + min d.depth e.depth < cLine := by
  have h1 := hr.un
  have h2 : min d.depth e.depth ≤ d.depth := Nat.min_le_left _ _
  omega
end

end L2

namespace BrTr
open L2 PySem PySem.Spec PyProof.Rows BrM BrC BrB BrI BrS

inductive Tr where
  | nil : Tr
  | cons (k : Nat) (s r : Tr) : Tr
deriving DecidableEq
namespace Tr
def sz : Tr → Nat
  | nil => 0
  | cons _ s r => 1 + s.sz + r.sz
def ht : Tr → Nat
  | nil => 0
  | cons _ s r => max (1 + s.ht) r.ht
def gr : Tr → Nat
  | nil => 0
  | cons k s r => max (max k s.gr) r.gr
def app : Tr → Tr → Tr
  | nil, u => u
  | cons k s r, u => cons k s (r.app u)
def kids : Tr → List (Nat × Tr)
  | nil => []
  | cons k s r => (k, s) :: r.kids
def bs : Tr → List Nat
  | nil => []
  | cons k s r => 2 * k :: (s.bs ++ (2 * k + 1) :: r.bs)
end Tr
open Tr
def trD : Tr → List PyData
  | .nil => []
  | .cons k s r => .tuple [.int k, .list (trD s)] :: trD r
theorem trD_kids : ∀ t : Tr, trD t = t.kids.map fun x => .tuple [.int x.1, .list (trD x.2)]
  | .nil => rfl
  | .cons k s r => by rw [trD, kids, List.map_cons, trD_kids r]
theorem kid_ht {t : Tr} : ∀ {x : Nat × Tr}, x ∈ t.kids → x.2.ht < t.ht ∧ x.2.sz < t.sz ∧ x.1 ≤ t.gr ∧ x.2.gr ≤ t.gr := by
  induction t with
  | nil => intro x h; cases h
  | cons k s r _ ih =>
    intro x h
    rcases List.mem_cons.mp h with z | z
    · subst z
      simp only [Tr.ht, Tr.sz, Tr.gr]
      omega
    · have := ih z
      simp only [Tr.ht, Tr.sz, Tr.gr]
      omega
theorem ht_sz : ∀ t : Tr, t.ht ≤ t.sz
  | .nil => Nat.le_refl _
  | .cons k s r => by
    have := ht_sz s
    have := ht_sz r
    simp only [Tr.ht, Tr.sz]; omega
theorem kids_len : ∀ t : Tr, t.kids.length ≤ t.sz
  | .nil => Nat.le_refl _
  | .cons k s r => by
    have := kids_len r
    simp only [kids, sz, List.length_cons]; omega
theorem trD_inj : ∀ {t u : Tr}, trD t = trD u → t = u
  | .nil, .nil, _ => rfl
  | .nil, .cons _ _ _, h => by simp [trD] at h
  | .cons _ _ _, .nil, h => by simp [trD] at h
  | .cons k s r, .cons k' s' r', h => by
    rw [trD, trD] at h
    injection h with h1 h2
    injection h1 with h1
    injection h1 with h3 h4
    injection h3 with h3
    injection h4 with h4
    injection h4 with h4
    have e1 : k = k' := by omega
    rw [e1, trD_inj h4, trD_inj h2]
def TrH (p : Addr) (H : Hp) (v : V) (t : Tr) : Prop := Sd p H v (.list (trD t))
theorem TrH.same {p : Addr} {H H' : Hp} {v : V} {t : Tr} (h : TrH p H v t) (s : Same H H') : TrH p H' v t := Sd.same h s
theorem TrH.keep {p : Addr} {H H' : Hp} {v : V} {t : Tr} (h : TrH p H v t) (s : SameBut1 p H H') : TrH p H' v t := Sd.keep s h
theorem sds_get {p : Addr} {H : Hp} : ∀ {vs : List V} {ds : List PyData}, Sds p H vs ds → vs.length = ds.length ∧ ∀ (i : Nat) (d : PyData), ds[i]? = some d → ∃ v, vs[i]? = some v ∧ Sd p H v d
  | _, _, .nil => ⟨rfl, fun i d h => by simp at h⟩
  | _, _, .cons h t => by
    obtain ⟨a, b⟩ := sds_get t
    refine ⟨by simp [a], fun i d hd => ?_⟩
    cases i with
    | zero => cases hd; exact ⟨_, rfl, h⟩
    | succ i => exact b i d hd

def Kd (p : Addr) (H : Hp) (vs : List V) (L : List (Nat × Tr)) : Prop := vs.length = L.length ∧ ∀ (i : Nat) (x : Nat × Tr), L[i]? = some x → ∃ T b : Addr, vs[i]? = some (.ref T) ∧ T ≠ p ∧ H T = some (.tup [.int x.1, .ref b]) ∧ TrH p H (.ref b) x.2
theorem Kd.same {p : Addr} {H H' : Hp} {vs : List V} {L : List (Nat × Tr)} (h : Kd p H vs L) (s : Same H H') : Kd p H' vs L := ⟨h.1, fun i x hx => let ⟨T, b, e, n, g, t⟩ := h.2 i x hx; ⟨T, b, e, n, s _ _ g, t.same s⟩⟩
theorem Kd.more {p : Addr} {H : Hp} {vs : List V} {L : List (Nat × Tr)} {k : Nat} {t : Tr} {T b : Addr} (h : Kd p H vs L) (n : T ≠ p) (g : H T = some (.tup [.int (k : Int), .ref b])) (ht : TrH p H (.ref b) t) : Kd p H (vs ++ [.ref T]) (L ++ [(k, t)]) := by
  refine ⟨by rw [List.length_append, List.length_append, h.1]; rfl, fun i x hx => ?_⟩
  by_cases c : i < L.length
  · rw [List.getElem?_append_left c] at hx
    obtain ⟨T', b', e, r⟩ := h.2 i x hx
    exact ⟨T', b', by rw [List.getElem?_append_left (by rw [h.1]; exact c)]; exact e, r⟩
  · rw [List.getElem?_append_right (by omega)] at hx
    have hi : i = L.length := by
      have := (List.getElem?_eq_some_iff.mp hx).1
      simp at this; omega
    subst hi
    rw [Nat.sub_self] at hx
    cases hx
    exact ⟨T, b, by rw [List.getElem?_append_right (by rw [h.1]; exact Nat.le_refl _), h.1, Nat.sub_self]; rfl, n, g, ht⟩
theorem TrH.open {p : Addr} {H : Hp} {v : V} {t : Tr} (h : TrH p H v t) : ∃ (a : Addr) (vs : List V), v = .ref a ∧ a ≠ p ∧ H a = some (.lst vs) ∧ Kd p H vs t.kids := by
  unfold TrH at h
  cases h with
  | sc c => cases c
  | lst g n r =>
    refine ⟨_, _, rfl, n, g, ?_⟩
    obtain ⟨a1, a2⟩ := sds_get r
    rw [trD_kids] at a1 a2
    refine ⟨by rw [a1, List.length_map], fun i x hx => ?_⟩
    obtain ⟨w, e, sd⟩ := a2 i _ (by rw [List.getElem?_map, hx]; rfl)
    cases sd with
    | sc c => cases c
    | tup g2 n2 r2 =>
      cases r2 with
      | cons h1 t1 =>
        cases t1 with
        | cons h2 t2 =>
          cases t2
          cases h1 with
          | sc c =>
            cases c
            cases h2 with
            | sc c => cases c
            | lst g3 n3 r3 => exact ⟨_, _, e, n2, g2, .lst g3 n3 r3⟩
theorem Kd.close {p a : Addr} {H : Hp} {vs : List V} {t : Tr} (g : H a = some (.lst vs)) (n : a ≠ p) (h : Kd p H vs t.kids) : TrH p H (.ref a) t := by
  refine .lst g n (sds_of (by rw [trD_kids, List.length_map]; exact h.1) fun m v d h1 h2 => ?_)
  rw [trD_kids, List.getElem?_map] at h2
  obtain ⟨x, hx, rfl⟩ := Option.map_eq_some_iff.mp h2
  obtain ⟨T, b, e, nT, gT, ht⟩ := h.2 m x hx
  rw [h1] at e
  cases e
  exact .tup gT nT (.cons (.sc (.int _)) (.cons ht .nil))
where
  sds_of {p : Addr} {H : Hp} : ∀ {vs : List V} {ds : List PyData}, vs.length = ds.length → (∀ (m : Nat) (v : V) (d : PyData), vs[m]? = some v → ds[m]? = some d → Sd p H v d) → Sds p H vs ds
    | [], [], _, _ => .nil
    | [], _ :: _, h, _ => by cases h
    | _ :: _, [], h, _ => by cases h
    | v :: vs, d :: ds, h, f => .cons (f 0 v d rfl rfl) (sds_of (by simpa using h) fun m v d h1 h2 => f (m + 1) v d h1 h2)
mutual
theorem sd_free {p D : Addr} {H : Hp} (hD : H D = none) : ∀ {x : V} {d : PyData}, Sd p H x d → Sd D H x d
  | _, _, .sc h => .sc h
  | _, _, .lst h n r => .lst h (ne_of_none h hD) (sds_free hD r)
  | _, _, .tup h n r => .tup h (ne_of_none h hD) (sds_free hD r)
  | _, _, .dct h n r => .dct h (ne_of_none h hD) r
theorem sds_free {p D : Addr} {H : Hp} (hD : H D = none) : ∀ {xs : List V} {ds : List PyData}, Sds p H xs ds → Sds D H xs ds
  | _, _, .nil => .nil
  | _, _, .cons h t => .cons (sd_free hD h) (sds_free hD t)
end
mutual
theorem sd_both {p D : Addr} {H H' : Hp} (s : SameBut1 D H H') : ∀ {x : V} {d : PyData}, Sd p H x d → Sd D H x d → Sd p H' x d
  | _, _, .sc h, _ => .sc h
  | _, _, .lst h n r, .sc c => nomatch c
  | _, _, .lst h n r, .lst h2 n2 r2 => by
    have e := h.symm.trans h2
    cases e
    exact .lst (s _ _ h n2) n (sds_both s r r2)
  | _, _, .tup h n r, .sc c => nomatch c
  | _, _, .tup h n r, .tup h2 n2 r2 => by
    have e := h.symm.trans h2
    cases e
    exact .tup (s _ _ h n2) n (sds_both s r r2)
  | _, _, .dct h n r, .sc c => nomatch c
  | _, _, .dct h n r, .dct h2 n2 r2 => .dct (s _ _ h n2) n r
theorem sds_both {p D : Addr} {H H' : Hp} (s : SameBut1 D H H') : ∀ {xs : List V} {ds : List PyData}, Sds p H xs ds → Sds D H xs ds → Sds p H' xs ds
  | _, _, .nil, _ => .nil
  | _, _, .cons h t, .cons h2 t2 => .cons (sd_both s h h2) (sds_both s t t2)
end
theorem TrH.free {p D : Addr} {H : Hp} {v : V} {t : Tr} (h : TrH p H v t) (hD : H D = none) : TrH D H v t := sd_free hD h
theorem TrH.both {p D : Addr} {H H' : Hp} {v : V} {t : Tr} (h : TrH p H v t) (h2 : TrH D H v t) (s : SameBut1 D H H') : TrH p H' v t := sd_both s h h2
theorem Kd.both {p D : Addr} {H H' : Hp} {vs : List V} {L : List (Nat × Tr)} (h : Kd p H vs L) (h2 : Kd D H vs L) (s : SameBut1 D H H') : Kd p H' vs L := by
  refine ⟨h.1, fun i x hx => ?_⟩
  obtain ⟨T, b, e, n, g, t⟩ := h.2 i x hx
  obtain ⟨T2, b2, e2, n2, g2, t2⟩ := h2.2 i x hx
  have q := e.symm.trans e2
  cases q
  have q := g.symm.trans g2
  cases q
  exact ⟨T, b, e, n, s _ _ g n2, t.both t2 s⟩
theorem free_of {H H' : Hp} {a : Addr} (s : Same H H') (h : H' a = none) : H a = none := by
  cases e : H a with
  | none => rfl
  | some o => rw [s _ _ e] at h; cases h

def Kn (H0 : Hp) (D : Addr) (H : Hp) (vs : List V) (L : List (Nat × Tr)) : Prop := Kd D H vs L ∧ ∀ p, (∃ o, H0 p = some o) → Kd p H vs L
theorem kn_nil (H0 : Hp) (D : Addr) (H : Hp) : Kn H0 D H [] [] := ⟨⟨rfl, fun i x h => by simp at h⟩, fun _ _ => ⟨rfl, fun i x h => by simp at h⟩⟩
theorem Kn.more {H0 H4 H6 H7 : Hp} {D T b : Addr} {vs : List V} {L : List (Nat × Tr)} {k : Nat} {t : Tr} (h : Kn H0 D H4 vs L) (s0 : Same H0 H4) (s : Same H4 H6) (s7 : SameBut1 D H6 H7) (hT : H4 T = none) (hDo : ∃ o, H4 D = some o) (g : H6 T = some (.tup [.int (k : Int), .ref b])) (ht : ∀ p, (∃ o, H4 p = some o) → TrH p H6 (.ref b) t) : Kn H0 D H7 (vs ++ [.ref T]) (L ++ [(k, t)]) := by
  have nT : ∀ {p}, (∃ o, H4 p = some o) → T ≠ p := fun ⟨o, ho⟩ z => by rw [z, ho] at hT; cases hT
  have hD := Kd.more (h.1.same s) (nT hDo) g (ht D hDo)
  refine ⟨hD.both hD s7, fun p ⟨o, hp⟩ => ?_⟩
  have hp4 : ∃ o, H4 p = some o := ⟨o, s0 _ _ hp⟩
  exact (Kd.more ((h.2 p ⟨o, hp⟩).same s) (nT hp4) g (ht p hp4)).both hD s7

def recSp (g : Nat → Sp) : Nat → Sp
  | 0 => fun _ _ _ _ => False
  | n + 1 => g n
end BrTr

namespace BrTr
open L2 PySem PySem.Spec PyProof.Rows BrM BrC BrB BrI BrS BrR
open Tr

def TIn (H : Hp) (v : V) (p : Addr) (t : Tr) (n : Nat) : Prop := (∃ o, H p = some o) ∧ TrH p H v t ∧ t.sz ≤ 20 ∧ t.ht ≤ n
def gCopy (n : Nat) : Sp := fun vs H Q _ => ∃ v p t, vs = [v] ∧ TIn H v p t n ∧ ∀ D H', H D = none → Same H H' → (∀ p, (∃ o, H p = some o) → TrH p H' (.ref D) t) → Q (.ref D) H'
def szs (l : List Tr) : Nat := (l.map fun u => u.sz).sum
theorem szs_app (a b : List Tr) : szs (a ++ b) = szs a + szs b := by unfold szs; rw [List.map_append, List.sum_append]
theorem szs_one (u : Tr) : szs [u] = u.sz := by simp [szs]
theorem kids_szs : ∀ t : Tr, t.kids.length + szs (t.kids.map fun x => x.2) = t.sz
  | .nil => rfl
  | .cons k s r => by
    have ih := kids_szs r
    unfold szs at ih ⊢
    simp only [kids, sz, List.map_cons, List.sum_cons, List.length_cons]
    omega
theorem gr_lt_iff : ∀ {t : Tr} {k : Nat}, 1 ≤ k → (t.gr < k ↔ ∀ x ∈ t.kids, x.1 < k ∧ x.2.gr < k)
  | .nil, k, h => ⟨fun _ x hx => (nomatch hx), fun _ => h⟩
  | .cons c s r, k, h => by
    have ih := gr_lt_iff (t := r) h
    simp only [gr, kids, List.forall_mem_cons]
    rw [← ih]
    omega

def Wt (W : Addr) (H : Hp) (vs : List V) (L : List Tr) : Prop := vs.length = L.length ∧ ∀ (i : Nat) (u : Tr), L[i]? = some u → ∃ v, vs[i]? = some v ∧ TrH W H v u
theorem Wt.keep {W : Addr} {H H' : Hp} {vs : List V} {L : List Tr} (h : Wt W H vs L) (s : SameBut1 W H H') : Wt W H' vs L := ⟨h.1, fun i u hu => let ⟨v, e, t⟩ := h.2 i u hu; ⟨v, e, t.keep s⟩⟩
theorem TIn.kid {H H' : Hp} {v w : V} {p : Addr} {t : Tr} {n : Nat} {x : Nat × Tr} (h : TIn H v p t (n + 1)) (hx : x ∈ t.kids) (s : Same H H') (hw : TrH p H' w x.2) : TIn H' w p x.2 n := by
  obtain ⟨⟨o, ho⟩, h2, h3, h4⟩ := h
  obtain ⟨a1, a2, _⟩ := kid_ht hx
  exact ⟨⟨o, s _ _ ho⟩, hw, by omega, by omega⟩
theorem TIn.pos {H : Hp} {v : V} {p : Addr} {t : Tr} {n : Nat} {x : Nat × Tr} (h : TIn H v p t n) (hx : x ∈ t.kids) : ∃ m, n = m + 1 := by
  obtain ⟨a1, _⟩ := kid_ht hx
  have := h.2.2.2
  exact ⟨n - 1, by omega⟩
theorem sz_app : ∀ t u : Tr, (t.app u).sz = t.sz + u.sz
  | .nil, u => by simp [app, sz]
  | .cons k s r, u => by rw [app, sz, sz_app r u, sz]; omega
theorem gr_app : ∀ t u : Tr, (t.app u).gr = max t.gr u.gr
  | .nil, u => by simp [app, gr]
  | .cons k s r, u => by rw [app, gr, gr_app r u, gr]; omega
theorem app_nil (t : Tr) : t.app .nil = t := by
  induction t with
  | nil => rfl
  | cons k' s' r' _ ih => rw [app, ih]
end BrTr

namespace BrTr
open L2 PySem PySem.Spec PyProof.Rows BrM BrC BrB BrI BrS BrR
open Tr

end BrTr

namespace BrTr
open L2 PySem PySem.Spec PyProof.Rows BrM BrC BrB BrI BrS BrR
open Tr

def LayK (H0 H : Hp) : List Addr → List V → Tr → Prop
  | A, vs, .nil => vs = [] ∧ A = []
  | A, vs, .cons k s r => ∃ (T b : Addr) (As Ar : List Addr) (vs' ws : List V), vs = .ref T :: vs' ∧ H0 T = none ∧ H0 b = none ∧ H T = some (.tup [.int (k : Int), .ref b]) ∧ H b = some (.lst ws) ∧ LayK H0 H As ws s ∧ LayK H0 H Ar vs' r ∧ A = b :: (As ++ Ar)
theorem LayK.frame {H0 H H' : Hp} : ∀ {t : Tr} {A : List Addr} {vs : List V}, LayK H0 H A vs t → (∀ x ∈ A, H' x = H x) → (∀ x ws, H x = some (.tup ws) → H' x = some (.tup ws)) → LayK H0 H' A vs t
  | .nil, A, vs, h, _, _ => h
  | .cons k s r, A, vs, h, hA, hT => by
    obtain ⟨T, b, As, Ar, vs', ws, e1, n1, n2, g1, g2, l1, l2, e2⟩ := h
    subst e2
    exact ⟨T, b, As, Ar, vs', ws, e1, n1, n2, hT _ _ g1, by rw [hA b (by simp)]; exact g2, l1.frame (fun x hx => hA x (by simp [hx])) hT, l2.frame (fun x hx => hA x (by simp [hx])) hT, rfl⟩
theorem LayK.len {H0 H : Hp} : ∀ {t : Tr} {A : List Addr} {vs : List V}, LayK H0 H A vs t → A.length = t.sz ∧ vs.length = t.kids.length
  | .nil, A, vs, h => by obtain ⟨rfl, rfl⟩ := h; exact ⟨rfl, rfl⟩
  | .cons k s r, A, vs, h => by
    obtain ⟨T, b, As, Ar, vs', ws, e1, n1, n2, g1, g2, l1, l2, e2⟩ := h
    subst e2 e1
    have a1 := l1.len
    have a2 := l2.len
    simp only [List.length_cons, List.length_append, sz, kids, a1.1, a2.1, a2.2]
    exact ⟨by omega, trivial⟩
theorem LayK.lst {H0 H : Hp} : ∀ {t : Tr} {A : List Addr} {vs : List V}, LayK H0 H A vs t → ∀ x ∈ A, H0 x = none ∧ ∃ ws, H x = some (.lst ws) ∧ ws.length ≤ t.sz
  | .nil, A, vs, h, x, hx => by obtain ⟨_, rfl⟩ := h; cases hx
  | .cons k s r, A, vs, h, x, hx => by
    obtain ⟨T, b, As, Ar, vs', ws, e1, n1, n2, g1, g2, l1, l2, e2⟩ := h
    subst e2
    simp only [sz]
    rcases List.mem_cons.mp hx with rfl | hx
    · have := l1.len.2
      have := kids_len s
      exact ⟨n2, ws, g2, by omega⟩
    · rcases List.mem_append.mp hx with hx | hx
      · obtain ⟨a, w, g, l⟩ := l1.lst x hx
        exact ⟨a, w, g, by omega⟩
      · obtain ⟨a, w, g, l⟩ := l2.lst x hx
        exact ⟨a, w, g, by omega⟩

theorem LayK.end {H0 H' : Hp} {T w : Addr} {k : Nat} (n1 : H0 T = none) (n2 : H0 w = none) (g1 : H' T = some (.tup [.int (k : Int), .ref w])) (g2 : H' w = some (.lst [])) : ∀ {t : Tr} {A : List Addr} {vs : List V}, LayK H0 H' A vs t → LayK H0 H' (A ++ [w]) (vs ++ [.ref T]) (t.app (.cons k .nil .nil))
  | .nil, A, vs, h => by
    obtain ⟨rfl, rfl⟩ := h
    exact ⟨T, w, [], [], [], [], rfl, n1, n2, g1, g2, ⟨rfl, rfl⟩, ⟨rfl, rfl⟩, rfl⟩
  | .cons c s r, A, vs, h => by
    obtain ⟨T', b, As, Ar, vs', ws, e1, m1, m2, h1, h2, l1, l2, e2⟩ := h
    subst e2 e1
    exact ⟨T', b, As, Ar ++ [w], vs' ++ [.ref T], ws, rfl, m1, m2, h1, h2, l1, l2.end n1 n2 g1 g2, by simp⟩

theorem LayK.put {H0 H H' : Hp} {T w b : Addr} {k : Nat} {us : List V} (n1 : H0 T = none) (n2 : H0 w = none) (g1 : H' T = some (.tup [.int (k : Int), .ref w])) (g2 : H' w = some (.lst [])) (gb : H b = some (.lst us)) (gb' : H' b = some (.lst (us ++ [.ref T]))) (hs : ∀ x o, x ≠ b → H x = some o → H' x = some o) : ∀ {t : Tr} {A : List Addr} {vs : List V}, LayK H0 H A vs t → b ∈ A → A.Nodup → ∃ t' A', LayK H0 H' A' vs t' ∧ t'.sz = t.sz + 1 ∧ t'.gr ≤ max t.gr k ∧ A'.Perm (w :: A)
  | .nil, A, vs, h, hb, _ => by obtain ⟨_, rfl⟩ := h; cases hb
  | .cons c s r, A, vs, h, hb, hn => by
    have hT : ∀ x ws, H x = some (.tup ws) → H' x = some (.tup ws) := fun x ws hx => hs x _ (fun z => by rw [z, gb] at hx; cases hx) hx
    obtain ⟨T', b', As, Ar, vs', ws, e1, m1, m2, h1, h2, l1, l2, e2⟩ := h
    subst e2 e1
    obtain ⟨nb, nA⟩ := List.nodup_cons.mp hn
    obtain ⟨nS, nR, nSR⟩ := List.nodup_append.mp nA
    have fr : ∀ {t : Tr} {A : List Addr} {vs : List V}, LayK H0 H A vs t → b ∉ A → LayK H0 H' A vs t := fun l hnb => l.frame (fun x hx => by
      obtain ⟨_, ws, g, _⟩ := l.lst x hx
      rw [g]
      exact hs x _ (fun z => hnb (z ▸ hx)) g) hT
    rcases List.mem_cons.mp hb with e | hb
    · subst e
      rw [gb] at h2
      cases h2
      have q1 := fr l1 (fun z => nb (List.mem_append_left _ z))
      have q2 := fr l2 (fun z => nb (List.mem_append_right _ z))
      refine ⟨.cons c (s.app (.cons k .nil .nil)) r, _, ⟨T', b, _, _, _, _, rfl, m1, m2, hT _ _ h1, gb', q1.end n1 n2 g1 g2, q2, rfl⟩, ?_, ?_, ?_⟩
      · simp only [sz, sz_app]; omega
      · simp only [gr, gr_app]; omega
      · rw [List.append_assoc]
        exact List.perm_middle (l₁ := b :: As)
    · have hbb : b' ≠ b := fun z => nb (z ▸ hb)
      have h2' := hs b' _ hbb h2
      rcases List.mem_append.mp hb with hb1 | hb1
      · obtain ⟨s', A', q1, z1, z2, z3⟩ := LayK.put n1 n2 g1 g2 gb gb' hs l1 hb1 nS
        have q2 := fr l2 (fun z => nSR b hb1 b z rfl)
        refine ⟨.cons c s' r, _, ⟨T', b', _, _, _, _, rfl, m1, m2, hT _ _ h1, h2', q1, q2, rfl⟩, ?_, ?_, ?_⟩
        · simp only [sz]; omega
        · simp only [gr]; omega
        · exact ((z3.append_right Ar).cons b').trans (List.Perm.swap w b' (As ++ Ar))
      · obtain ⟨r', A', q2, z1, z2, z3⟩ := LayK.put n1 n2 g1 g2 gb gb' hs l2 hb1 nR
        have q1 := fr l1 (fun z => nSR b z b hb1 rfl)
        refine ⟨.cons c s r', _, ⟨T', b', _, _, _, _, rfl, m1, m2, hT _ _ h1, h2', q1, q2, rfl⟩, ?_, ?_, ?_⟩
        · simp only [sz]; omega
        · simp only [gr]; omega
        · exact ((z3.append_left As).cons b').trans (List.perm_middle (l₁ := b' :: As))
theorem LayK.kd {H0 H : Hp} {p : Addr} (hp : H0 p ≠ none) : ∀ {t : Tr} {A : List Addr} {vs : List V}, LayK H0 H A vs t → Kd p H vs t.kids
  | .nil, A, vs, h => by obtain ⟨rfl, _⟩ := h; exact ⟨rfl, fun i x h => by simp [kids] at h⟩
  | .cons k s r, A, vs, h => by
    obtain ⟨T, b, As, Ar, vs', ws, e1, n1, n2, g1, g2, l1, l2, e2⟩ := h
    subst e1
    have nT : T ≠ p := fun z => hp (z ▸ n1)
    have nb : b ≠ p := fun z => hp (z ▸ n2)
    have q1 := Kd.close g2 nb (l1.kd hp)
    have q2 := l2.kd hp
    refine ⟨by rw [List.length_cons, kids, List.length_cons, q2.1], fun i x hx => ?_⟩
    cases i with
    | zero => cases hx; exact ⟨T, b, rfl, nT, g1, q1⟩
    | succ i => exact q2.2 i x hx
theorem LayK.keep {H0 H H' : Hp} {p : Addr} {l : List V} (hp : H0 p ≠ none) (gp : H p = some (.lst l)) (s : SameBut1 p H H') {t : Tr} {A : List Addr} {vs : List V} (h : LayK H0 H A vs t) : LayK H0 H' A vs t :=
  h.frame (fun x hx => by
    obtain ⟨n, ws, g, _⟩ := h.lst x hx
    rw [g]
    exact s x _ g (fun z => hp (z ▸ n))) fun x ws g => s x _ g (fun z => by rw [z, gp] at g; cases g)
theorem LayK.upd {H0 H : Hp} {b : Addr} {us l : List V} (gb : H b = some (.lst l)) {t : Tr} {A : List Addr} {vs : List V} (h : LayK H0 H A vs t) (hb : b ∉ A) : LayK H0 (upd H b (.lst us)) A vs t :=
  h.frame (fun x hx => upd_ne (fun z => hb (z ▸ hx))) fun x ws g => by rw [upd_ne (fun z => by rw [z, gb] at g; cases g)]; exact g
theorem grow {H0 H4 H7 : Hp} {p a E w T x : Addr} {A L : List Addr} {vs us l : List V} {t : Tr} {k c : Nat} (hp : H0 p ≠ none) (gp : H4 p = some (.lst l)) (gE : H4 E = some (.lst (L.map V.ref))) (hL : ∀ y ∈ L, y ∈ a :: A) (ga : H4 a = some (.lst vs)) (lay : LayK H0 H4 A vs t) (nd : (a :: A).Nodup) (nE : E ∉ a :: A) (ha0 : H0 a = none) (hE0 : H0 E = none)
    (hw : H4 w = none) (hw0 : H0 w = none) (hT0 : H0 T = none) (s : SameBut1 p H4 H7) (gT : H7 T = some (.tup [.int (c : Int), .ref w])) (gw : H7 w = some (.lst [])) (hx : x ∈ L) (gx : H7 x = some (.lst us)) (hc : c < k) (hg : t.gr < k) :
    ∃ A' vs' t', (upd (upd H7 x (.lst (us ++ [.ref T]))) E (.lst (L.map V.ref ++ [.ref w]))) a = some (.lst vs') ∧ LayK H0 (upd (upd H7 x (.lst (us ++ [.ref T]))) E (.lst (L.map V.ref ++ [.ref w]))) A' vs' t' ∧ (a :: A').Nodup ∧ E ∉ a :: A' ∧ t'.sz = t.sz + 1 ∧ t'.gr < k ∧ ∀ y ∈ L ++ [w], y ∈ a :: A' := by
  have lay7 := lay.keep hp gp s
  have ga7 := s _ _ ga (fun z => hp (z ▸ ha0))
  have gE7 := s _ _ gE (fun z => hp (z ▸ hE0))
  obtain ⟨naA, ndA⟩ := List.nodup_cons.mp nd
  have hEa : a ≠ E := fun z => nE (by rw [z]; exact List.mem_cons_self)
  have hwa : w ≠ a := fun z => by rw [z, ga] at hw; cases hw
  have hwE : w ≠ E := fun z => by rw [z, gE] at hw; cases hw
  have hwA : w ∉ A := fun z => by
    obtain ⟨_, ws, g, _⟩ := lay.lst w z
    rw [g] at hw; cases hw
  have hxA := hL x hx
  have hxE : x ≠ E := fun z => nE (z ▸ hxA)
  have gE8 : (upd H7 x (.lst (us ++ [.ref T]))) E = some (.lst (L.map V.ref)) := by rw [upd_ne hxE.symm]; exact gE7
  have hTx : T ≠ x := fun z => by rw [z, gx] at gT; cases gT
  have hwx : w ≠ x := fun z => by
    rcases List.mem_cons.mp hxA with e | e
    · exact hwa (z.trans e)
    · exact hwA (z ▸ e)
  have gT8 : (upd H7 x (.lst (us ++ [.ref T]))) T = some (.tup [.int (c : Int), .ref w]) := by rw [upd_ne hTx]; exact gT
  have gw8 : (upd H7 x (.lst (us ++ [.ref T]))) w = some (.lst []) := by rw [upd_ne hwx]; exact gw
  rcases List.mem_cons.mp hxA with e | e
  · subst e
    rw [gx] at ga7
    injection ga7 with ga7
    injection ga7 with ga7
    subst ga7
    have q := (lay7.upd (us := us ++ [.ref T]) gx naA).end hT0 hw0 gT8 gw8
    refine ⟨A ++ [w], us ++ [.ref T], _, by rw [upd_ne hEa, upd_same], q.upd gE8 ?_, ?_, ?_, by rw [sz_app]; simp [sz], by rw [gr_app]; simp only [gr]; omega, fun y hy => ?_⟩
    · simp only [List.mem_append, List.mem_singleton]
      rintro (z | z)
      · exact nE (List.mem_cons_of_mem _ z)
      · exact hwE z.symm
    · rw [List.nodup_cons, List.nodup_append]
      refine ⟨by simp only [List.mem_append, List.mem_singleton]; rintro (z | z); exact naA z; exact hwa z.symm, ndA, by simp, fun y hy z hz => ?_⟩
      rw [List.mem_singleton] at hz
      subst hz
      exact fun e => hwA (e ▸ hy)
    · simp only [List.mem_cons, List.mem_append, List.not_mem_nil, or_false]
      rintro (z | z | z)
      · exact hEa z.symm
      · exact nE (List.mem_cons_of_mem _ z)
      · exact hwE z.symm
    · rcases List.mem_append.mp hy with z | z
      · rcases List.mem_cons.mp (hL y z) with e | e
        · exact e ▸ List.mem_cons_self
        · exact List.mem_cons_of_mem _ (List.mem_append_left _ e)
      · exact List.mem_cons_of_mem _ (List.mem_append_right _ z)
  · obtain ⟨t', A', q, z1, z2, z3⟩ := LayK.put hT0 hw0 gT8 gw8 gx upd_same (fun y o ny g => by rw [upd_ne ny]; exact g) lay7 e ndA
    have hax : a ≠ x := fun z => naA (z ▸ e)
    have hmem : ∀ y, y ∈ A' ↔ y = w ∨ y ∈ A := fun y => by rw [z3.mem_iff, List.mem_cons]
    refine ⟨A', vs, t', by rw [upd_ne hEa, upd_ne hax]; exact ga7, q.upd gE8 ?_, ?_, ?_, z1, by omega, fun y hy => ?_⟩
    · rw [hmem]
      rintro (z | z)
      · exact hwE z.symm
      · exact nE (List.mem_cons_of_mem _ z)
    · rw [List.nodup_cons, hmem]
      refine ⟨?_, z3.nodup_iff.mpr (List.nodup_cons.mpr ⟨hwA, ndA⟩)⟩
      rintro (z | z)
      · exact hwa z.symm
      · exact naA z
    · rw [List.mem_cons, hmem]
      rintro (z | z | z)
      · exact hEa z.symm
      · exact hwE z.symm
      · exact nE (List.mem_cons_of_mem _ z)
    · rw [List.mem_cons, hmem]
      rcases List.mem_append.mp hy with z | z
      · rcases List.mem_cons.mp (hL y z) with e | e
        · exact .inl e
        · exact .inr (.inr e)
      · exact .inr (.inl (List.mem_singleton.mp z))
theorem pick4 {a b c d m way : Int} (h0 : 0 ≤ way) (h4 : way < 4) (ha : 0 ≤ a ∧ a ≤ m) (hb : 0 ≤ b ∧ b ≤ m) (hc : 0 ≤ c ∧ c ≤ m) (hd : 0 ≤ d ∧ d ≤ m) : ∃ e : Nat, atI [V.int a, V.int b, V.int c, V.int d] way = some (.int (e : Int)) ∧ (e : Int) ≤ m := by
  obtain ⟨n, rfl⟩ : ∃ n : Nat, way = (n : Int) := ⟨way.toNat, by omega⟩
  match n, h4 with
  | 0, _ => exact ⟨a.toNat, by rw [atI_nat rfl, Int.toNat_of_nonneg ha.1], by omega⟩
  | 1, _ => exact ⟨b.toNat, by rw [atI_nat rfl, Int.toNat_of_nonneg hb.1], by omega⟩
  | 2, _ => exact ⟨c.toNat, by rw [atI_nat rfl, Int.toNat_of_nonneg hc.1], by omega⟩
  | 3, _ => exact ⟨d.toNat, by rw [atI_nat rfl, Int.toNat_of_nonneg hd.1], by omega⟩
  | n + 4, h => omega
theorem pick3 {a b c m way : Int} (h0 : 0 ≤ way) (h4 : way < 3) (ha : 0 ≤ a ∧ a ≤ m) (hb : 0 ≤ b ∧ b ≤ m) (hc : 0 ≤ c ∧ c ≤ m) : ∃ e : Nat, atI [V.int a, V.int b, V.int c] way = some (.int (e : Int)) ∧ (e : Int) ≤ m := by
  obtain ⟨n, rfl⟩ : ∃ n : Nat, way = (n : Int) := ⟨way.toNat, by omega⟩
  match n, h4 with
  | 0, _ => exact ⟨a.toNat, by rw [atI_nat rfl, Int.toNat_of_nonneg ha.1], by omega⟩
  | 1, _ => exact ⟨b.toNat, by rw [atI_nat rfl, Int.toNat_of_nonneg hb.1], by omega⟩
  | 2, _ => exact ⟨c.toNat, by rw [atI_nat rfl, Int.toNat_of_nonneg hc.1], by omega⟩
  | n + 3, h => omega
end BrTr

namespace BrTr
open L2 PySem PySem.Spec PyProof.Rows BrM BrC BrB BrI BrS BrR
open Tr

def But (A : List Addr) (H H' : Hp) : Prop := ∀ x o, x ∉ A → H x = some o → H' x = some o
theorem LayK.old {H0 H H' : Hp} {D : Addr} {t : Tr} {A : List Addr} {us : List V} (l : LayK H0 H A us t) (hD : H0 D = none) (s : Same H0 H) (bt : But (D :: A) H H') : Same H0 H' := fun x o hx => bt x o (fun z => by
  rcases List.mem_cons.mp z with e | e
  · rw [e, hD] at hx; cases hx
  · rw [(l.lst x e).1] at hx; cases hx) (s _ _ hx)

def SpK (H : Hp) : Nat → List Addr → List V → Tr → Prop
  | _, A, vs, .nil => vs = [] ∧ A = []
  | m, A, vs, .cons k s r => ∃ (T b : Addr) (As Ar : List Addr) (vs' ws : List V), vs = .ref T :: vs' ∧ H T = some (.tup [.int (k : Int), .ref b]) ∧ H b = some (.lst (ws ++ [.int ((m + s.sz : Nat) : Int)])) ∧ SpK H m As ws s ∧ SpK H (m + s.sz + 1) Ar vs' r ∧ A = b :: (As ++ Ar)
theorem SpK.len {H : Hp} : ∀ {t : Tr} {m : Nat} {A : List Addr} {vs : List V}, SpK H m A vs t → vs.length = t.kids.length
  | .nil, m, A, vs, h => by obtain ⟨rfl, _⟩ := h; rfl
  | .cons k s r, m, A, vs, h => by
    obtain ⟨T, b, As, Ar, vs', ws, e1, g1, g2, l1, l2, e2⟩ := h
    subst e1
    rw [List.length_cons, l2.len]; rfl
theorem SpK.at {H : Hp} : ∀ {t : Tr} {m : Nat} {A : List Addr} {us : List V} {i : Nat} {x : V}, SpK H m A us t → us[i]? = some x → ∃ (T b : Addr) (k : Nat) (As : List Addr) (ws : List V) (s ta tb : Tr), x = .ref T ∧ t = ta.app (.cons k s tb) ∧ ta.kids.length = i ∧ H T = some (.tup [.int (k : Int), .ref b]) ∧ H b = some (.lst (ws ++ [.int ((m + ta.sz + s.sz : Nat) : Int)])) ∧ SpK H (m + ta.sz) As ws s
  | .nil, m, A, us, i, x, h, hx => by obtain ⟨rfl, _⟩ := h; simp at hx
  | .cons k s r, m, A, us, i, x, h, hx => by
    obtain ⟨T, b, As, Ar, vs', ws, e1, g1, g2, l1, l2, e2⟩ := h
    subst e1
    cases i with
    | zero => cases hx; exact ⟨T, b, k, As, ws, s, .nil, r, rfl, rfl, rfl, g1, g2, l1⟩
    | succ i =>
      obtain ⟨T', b', k', As', ws', s', ta, tb, e1, e2, e3, h1, h2, h3⟩ := l2.at hx
      have e : m + s.sz + 1 + ta.sz = m + (Tr.cons k s ta).sz := by simp only [sz]; omega
      rw [e] at h2 h3
      exact ⟨T', b', k', As', ws', s', .cons k s ta, tb, e1, by rw [e2]; rfl, by rw [kids, List.length_cons, e3], h1, h2, h3⟩
def szt (t : Tr) (i : Nat) : Nat := ((t.kids.take i).map fun x => 1 + x.2.sz).sum
theorem szt_app : ∀ (ta u : Tr), szt (ta.app u) ta.kids.length = ta.sz
  | .nil, u => by simp [szt, kids, sz]
  | .cons k s r, u => by
    have ih := szt_app r u
    unfold szt at ih ⊢
    rw [app, kids, kids, List.length_cons, List.take_succ_cons, List.map_cons, List.sum_cons, ih, sz]
theorem szt_all (t : Tr) : szt t t.kids.length = t.sz := by
  have := szt_app t .nil
  rwa [app_nil] at this
def spMkB : Sp := fun vs H Q _ => ∃ (p : Addr) (n : Nat) (k : Int), vs = [.ref p, .int k, .int 20] ∧ PoolAt H p n ∧ n ≤ 100000 ∧ 1 ≤ k ∧ k ≤ 4 ∧ ∀ D t H', t.sz ≤ 20 → t.gr < k.toNat → H D = none → PoolAt H' p (n + 70) → SameBut1 p H H' → (∀ q, (∃ o, H q = some o) → TrH q H' (.ref D) t) → Q (.ref D) H'

end BrTr

namespace L2
open PySem PySem.Spec PyProof.Rows

def rReprX : List V → Hp → VK → Prop := fun xs H Q => ∃ x d p, xs = [x] ∧ Sd p H x d ∧ d.showable = true ∧ d.shown.length ≤ sizeLine ∧ d.depth ≤ 150 ∧ Q (.str d.shown) H
theorem call_reprX {X : Cx} {k : Nat} (hr : Room k X.A) : CallR X (.builtin "repr") rReprX := by
  intro pins s σ H xs us Q I r h
  obtain ⟨x, d, p, rfl, h, h1, h2, h3, q⟩ := h
  obtain ⟨u, rfl, ru⟩ := vals1 r
  obtain ⟨as, rd, hs⟩ := h.reads I ru
  have hu := hr.un
  have big : ∀ {a : Addr}, u = .ref a → wpAny (model X.prog X.w) X.A (call (.builtin "repr") [u]) (EP X pins σ Q) X.xe s := fun {a} e => by
    subst e
    exact PySem.repr_of_reads' rd h1 (fun _ => hs) hr.gd (by omega) (fun b o e => e) (fun h' u tk hk => ⟨.str d.shown, H, I.kept hk, ⟨u, rfl⟩, q⟩) h2
  cases h with
  | sc c =>
    cases c with
    | non => obtain rfl : u = Value.none := ru; exact PySem.P.repr_of_none ⟨.str _, H, I.tok _, ⟨_, rfl⟩, q⟩
    | bl b => obtain rfl : u = Value.bool b := ru; exact PySem.P.repr_of_bool ⟨.str _, H, I.tok _, ⟨_, rfl⟩, q⟩
    | int i =>
      obtain ⟨t, rfl⟩ := ru
      exact PySem.P.repr_of_int (by simpa [PyData.showable] using h1) ⟨.str _, H, I.tok _, ⟨_, rfl⟩, q⟩
    | str x =>
      obtain ⟨t, rfl⟩ := ru
      exact PySem.P.repr_of_str ⟨.str _, H, I.tok _, ⟨_, rfl⟩, q⟩ h2
  | lst h n r => exact big ru
  | tup h n r => exact big ru
  | dct h n r => exact big ru
theorem s_reprX {H : Hp} {Q : VK} {x : V} {d : PyData} {p : Addr} {n m : Nat} (h : Sd p H x d) (f : Fit n m d) (hn : n ≤ 16777216) (hm : m ≤ 150) (q : Q (.str d.shown) H) : rReprX [x] H Q := ⟨x, d, p, rfl, h, f.1, Nat.le_trans f.2.1 (by rw [sizeLine_eq]; omega), Nat.le_trans f.2.2 hm, q⟩

structure Fl (n m : Nat) (ds : List PyData) : Prop where
  sh : PyData.showableAll ds = true
  ln : piled (PyData.shownAll ds) ≤ n
  dp : PyData.depthAll ds ≤ m
theorem fl_nil {n m : Nat} : Fl n m [] := ⟨rfl, by rw [PyData.shownAll, piled_nil]; omega, by simp [PyData.depthAll]⟩
theorem Fl.mono {n m n' m' : Nat} {ds : List PyData} (h : Fl n m ds) (hn : n ≤ n') (hm : m ≤ m') : Fl n' m' ds := ⟨h.sh, Nat.le_trans h.ln hn, Nat.le_trans h.dp hm⟩
theorem fl_cons {a n m : Nat} {d : PyData} {ds : List PyData} (h : Fit a m d) (t : Fl n m ds) : Fl (a + 2 + n) m (d :: ds) := by
  obtain ⟨h1, h2, h3⟩ := h
  refine ⟨by rw [PyData.showableAll, h1, t.sh]; rfl, ?_, by rw [PyData.depthAll]; exact Nat.max_le.mpr ⟨h3, t.dp⟩⟩
  have := t.ln
  rw [PyData.shownAll, piled_cons]
  omega
theorem fl_app {n n' m : Nat} {b : List PyData} (hb : Fl n' m b) : ∀ {a : List PyData}, Fl n m a → Fl (n + n') m (a ++ b)
  | a, ha => by
    have key : ∀ a : List PyData, PyData.showableAll a = true → PyData.depthAll a ≤ m → PyData.showableAll (a ++ b) = true ∧ piled (PyData.shownAll (a ++ b)) = piled (PyData.shownAll a) + piled (PyData.shownAll b) ∧ PyData.depthAll (a ++ b) ≤ m := fun a => by
      induction a with
      | nil => exact fun _ _ => ⟨hb.sh, by rw [List.nil_append, PyData.shownAll, piled_nil]; omega, hb.dp⟩
      | cons d ds ih =>
        intro h1 h2
        rw [PyData.showableAll, Bool.and_eq_true] at h1
        rw [PyData.depthAll] at h2
        obtain ⟨i1, i2, i3⟩ := ih h1.2 (Nat.le_trans (Nat.le_max_right _ _) h2)
        rw [List.cons_append, PyData.showableAll, PyData.shownAll, PyData.depthAll, piled_cons, i2, PyData.shownAll, piled_cons]
        exact ⟨by rw [h1.1, i1]; rfl, by omega, Nat.max_le.mpr ⟨Nat.le_trans (Nat.le_max_left _ _) h2, i3⟩⟩
    obtain ⟨k1, k2, k3⟩ := key a ha.sh ha.dp
    have := ha.ln
    have := hb.ln
    exact ⟨k1, by omega, k3⟩
theorem fl_lst {n m : Nat} {ds : List PyData} (h : Fl n m ds) : Fit (n + 2) (m + 1) (.list ds) := by
  obtain ⟨i1, i2, i3⟩ := h
  refine ⟨by rw [PyData.showable]; exact i1, ?_, by rw [PyData.depth]; omega⟩
  rw [PyData.shown]
  unfold listText
  rw [strLen_append]
  have h1 := text_le (PyData.shownAll ds) 0 "["
  have e1 : (Str.ofString "[").length = 1 := by decide
  have e2 : (Str.ofString "]").length = 1 := by decide
  omega
theorem fl_tup {n m : Nat} {ds : List PyData} (h : Fl n m ds) : Fit (n + 3) (m + 1) (.tuple ds) := by
  obtain ⟨i1, i2, i3⟩ := h
  refine ⟨by rw [PyData.showable]; exact i1, ?_, by rw [PyData.depth]; omega⟩
  rw [PyData.shown]
  unfold tupleText
  rw [strLen_append, strLen_append]
  have e1 : (Str.ofString "(").length = 1 := by decide
  have e2 : (Str.ofString (if (PyData.shownAll ds).length == 1 then ",)" else ")")).length ≤ 2 := by split <;> decide
  by_cases hz : PyData.shownAll ds = []
  · rw [hz] at e2 ⊢
    have : (Str.join ", " []).length = 0 := by decide
    omega
  · have := join_length_add _ hz
    omega

mutual
inductive Sv (S : Addr → Prop) (H : Hp) : V → PyData → Prop
  | sc {x : V} {d : PyData} (h : Sc x d) : Sv S H x d
  | lst {a : Addr} {xs : List V} {ds : List PyData} (h : H a = some (.lst xs)) (n : ¬S a) (r : Svs S H xs ds) : Sv S H (.ref a) (.list ds)
  | tup {a : Addr} {xs : List V} {ds : List PyData} (h : H a = some (.tup xs)) (n : ¬S a) (r : Svs S H xs ds) : Sv S H (.ref a) (.tuple ds)
  | dct {a : Addr} {kvs : List (Key × V)} {ds : List (PyData × PyData)} (h : H a = some (.dK kvs)) (n : ¬S a) (r : Paired Sck kvs ds) : Sv S H (.ref a) (.dict ds)
inductive Svs (S : Addr → Prop) (H : Hp) : List V → List PyData → Prop
  | nil : Svs S H [] []
  | cons {x : V} {d : PyData} {xs : List V} {ds : List PyData} (h : Sv S H x d) (t : Svs S H xs ds) : Svs S H (x :: xs) (d :: ds)
end
mutual
theorem Sv.keep {S S' : Addr → Prop} {H H' : Hp} (s : ∀ x o, ¬S x → H x = some o → H' x = some o ∧ ¬S' x) : ∀ {x : V} {d : PyData}, Sv S H x d → Sv S' H' x d
  | _, _, .sc h => .sc h
  | _, _, .lst h n r => .lst (s _ _ n h).1 (s _ _ n h).2 (Svs.keep s r)
  | _, _, .tup h n r => .tup (s _ _ n h).1 (s _ _ n h).2 (Svs.keep s r)
  | _, _, .dct h n r => .dct (s _ _ n h).1 (s _ _ n h).2 r
theorem Svs.keep {S S' : Addr → Prop} {H H' : Hp} (s : ∀ x o, ¬S x → H x = some o → H' x = some o ∧ ¬S' x) : ∀ {xs : List V} {ds : List PyData}, Svs S H xs ds → Svs S' H' xs ds
  | _, _, .nil => .nil
  | _, _, .cons h t => .cons (Sv.keep s h) (Svs.keep s t)
end
theorem sv_ne {S : Addr → Prop} {H : Hp} {p a : Addr} {o : HO} (hp : S p ∨ H p = none) (h : H a = some o) (n : ¬S a) : a ≠ p := fun z => by
  subst z
  rcases hp with e | e
  · exact n e
  · rw [h] at e; cases e
mutual
theorem Sv.sd {S : Addr → Prop} {H : Hp} {p : Addr} (hp : S p ∨ H p = none) : ∀ {x : V} {d : PyData}, Sv S H x d → Sd p H x d
  | _, _, .sc h => .sc h
  | _, _, .lst h n r => .lst h (sv_ne hp h n) (Svs.sd hp r)
  | _, _, .tup h n r => .tup h (sv_ne hp h n) (Svs.sd hp r)
  | _, _, .dct h n r => .dct h (sv_ne hp h n) r
theorem Svs.sd {S : Addr → Prop} {H : Hp} {p : Addr} (hp : S p ∨ H p = none) : ∀ {xs : List V} {ds : List PyData}, Svs S H xs ds → Sds p H xs ds
  | _, _, .nil => .nil
  | _, _, .cons h t => .cons (Sv.sd hp h) (Svs.sd hp t)
end
mutual
theorem sv_of {p : Addr} {H : Hp} : ∀ {x : V} {d : PyData}, Sd p H x d → Sv (fun y => y = p) H x d
  | _, _, .sc h => .sc h
  | _, _, .lst h n r => .lst h n (svs_of r)
  | _, _, .tup h n r => .tup h n (svs_of r)
  | _, _, .dct h n r => .dct h n r
theorem svs_of {p : Addr} {H : Hp} : ∀ {xs : List V} {ds : List PyData}, Sds p H xs ds → Svs (fun y => y = p) H xs ds
  | _, _, .nil => .nil
  | _, _, .cons h t => .cons (sv_of h) (svs_of t)
end
end L2
namespace BrTr
open L2 PySem PySem.Spec PyProof.Rows BrM BrC BrB BrI BrS BrR
open Tr
def isL : PyData → Bool | .list _ => true | _ => false
def isU : PyData → Bool | .tuple _ => true | _ => false
def isI : PyData → Bool | .int _ => true | .bool _ => true | _ => false
def isB : PyData → Bool | .bool _ => true | _ => false
def isN : PyData → Bool | .int _ => true | _ => false
section
variable {K : PySem.W.Frag} {p : Addr} {H : Hp} {v : V} {d : PyData} {Q : VK}
theorem s_isL (h : Sd p H v d) (q : Q (.bl (isL d)) H) : rIsi K [v, .ty "list"] H Q := by
  cases h with
  | sc c =>
    cases c with
    | non => exact s_isi .non (by with_unfolding_all rfl) q
    | bl b => exact s_isi (.bl b) (by with_unfolding_all rfl) q
    | int i => exact s_isi (.int i) (by with_unfolding_all rfl) q
    | str x => exact s_isi (.str x) (by with_unfolding_all rfl) q
  | lst g n r => exact s_isi (.lst g) (by with_unfolding_all rfl) q
  | tup g n r => exact s_isi (.tup g) (by with_unfolding_all rfl) q
  | dct g n r => exact s_isi (.dK g) (by with_unfolding_all rfl) q
theorem s_isU (h : Sd p H v d) (q : Q (.bl (isU d)) H) : rIsi K [v, .ty "tuple"] H Q := by
  cases h with
  | sc c =>
    cases c with
    | non => exact s_isi .non (by with_unfolding_all rfl) q
    | bl b => exact s_isi (.bl b) (by with_unfolding_all rfl) q
    | int i => exact s_isi (.int i) (by with_unfolding_all rfl) q
    | str x => exact s_isi (.str x) (by with_unfolding_all rfl) q
  | lst g n r => exact s_isi (.lst g) (by with_unfolding_all rfl) q
  | tup g n r => exact s_isi (.tup g) (by with_unfolding_all rfl) q
  | dct g n r => exact s_isi (.dK g) (by with_unfolding_all rfl) q
theorem s_isI (h : Sd p H v d) (q : Q (.bl (isI d)) H) : rIsi K [v, .ty "int"] H Q := by
  cases h with
  | sc c =>
    cases c with
    | non => exact s_isi .non (by with_unfolding_all rfl) q
    | bl b => exact s_isi (.bl b) (by with_unfolding_all rfl) q
    | int i => exact s_isi (.int i) (by with_unfolding_all rfl) q
    | str x => exact s_isi (.str x) (by with_unfolding_all rfl) q
  | lst g n r => exact s_isi (.lst g) (by with_unfolding_all rfl) q
  | tup g n r => exact s_isi (.tup g) (by with_unfolding_all rfl) q
  | dct g n r => exact s_isi (.dK g) (by with_unfolding_all rfl) q
theorem s_isB (h : Sd p H v d) (q : Q (.bl (isB d)) H) : rIsi K [v, .ty "bool"] H Q := by
  cases h with
  | sc c =>
    cases c with
    | non => exact s_isi .non (by with_unfolding_all rfl) q
    | bl b => exact s_isi (.bl b) (by with_unfolding_all rfl) q
    | int i => exact s_isi (.int i) (by with_unfolding_all rfl) q
    | str x => exact s_isi (.str x) (by with_unfolding_all rfl) q
  | lst g n r => exact s_isi (.lst g) (by with_unfolding_all rfl) q
  | tup g n r => exact s_isi (.tup g) (by with_unfolding_all rfl) q
  | dct g n r => exact s_isi (.dK g) (by with_unfolding_all rfl) q
theorem wholeD {E : XK} (h : Sd p H v d) (q : Q (.bl (isN d)) H) : spWhole K ([v] ++ []) H Q E := by
  cases h with
  | sc c =>
    cases c with
    | non => exact ⟨_, _, rfl, .non, by decide, q⟩
    | bl b => exact ⟨_, _, rfl, .bl b, by decide, q⟩
    | int i => exact ⟨_, _, rfl, .int i, by decide, q⟩
    | str x => exact ⟨_, _, rfl, .str x, by decide, q⟩
  | lst g n r => exact ⟨_, _, rfl, .lst g, by decide, q⟩
  | tup g n r => exact ⟨_, _, rfl, .tup g, by decide, q⟩
  | dct g n r => exact ⟨_, _, rfl, .dK g, by decide, q⟩
end
theorem lstI {p : Addr} {H : Hp} {v : V} {ds : List PyData} (h : Sd p H v (.list ds)) : ∃ a xs, v = .ref a ∧ a ≠ p ∧ H a = some (.lst xs) ∧ Sds p H xs ds := by
  cases h with
  | sc c => cases c
  | lst g n r => exact ⟨_, _, rfl, n, g, r⟩
theorem tupI {p : Addr} {H : Hp} {v : V} {ds : List PyData} (h : Sd p H v (.tuple ds)) : ∃ a xs, v = .ref a ∧ a ≠ p ∧ H a = some (.tup xs) ∧ Sds p H xs ds := by
  cases h with
  | sc c => cases c
  | tup g n r => exact ⟨_, _, rfl, n, g, r⟩
theorem sds2 {p : Addr} {H : Hp} {xs : List V} {a b : PyData} (h : Sds p H xs [a, b]) : ∃ u w, xs = [u, w] ∧ Sd p H u a ∧ Sd p H w b := by
  cases h with
  | cons h1 t => cases t with | cons h2 t2 => cases t2; exact ⟨_, _, rfl, h1, h2⟩
theorem intI {p : Addr} {H : Hp} {v : V} {i : Int} (h : Sd p H v (.int i)) : v = .int i := by
  cases h with
  | sc c => cases c; rfl
theorem sds_snoc {p : Addr} {H : Hp} {v : V} {d : PyData} (h : Sd p H v d) : ∀ {xs : List V} {ds : List PyData}, Sds p H xs ds → Sds p H (xs ++ [v]) (ds ++ [d])
  | _, _, .nil => .cons h .nil
  | _, _, .cons a t => .cons a (sds_snoc h t)
theorem sds_last {p : Addr} {H : Hp} : ∀ {xs : List V} {ds : List PyData}, Sds p H xs ds → xs ≠ [] → ∃ xs' v ds' u, xs = xs' ++ [v] ∧ ds = ds' ++ [u] ∧ Sds p H xs' ds' ∧ Sd p H v u
  | _, _, .nil, h => (h rfl).elim
  | _, _, .cons (xs := xs) a t, _ => by
    by_cases hx : xs = []
    · subst hx
      cases t
      exact ⟨[], _, [], _, rfl, rfl, .nil, a⟩
    · obtain ⟨xs', v, ds', u, e1, e2, r1, r2⟩ := sds_last t hx
      exact ⟨_ :: xs', v, _ :: ds', u, by rw [e1]; rfl, by rw [e2]; rfl, .cons a r1, r2⟩

def TreeD (k : Int) (d : PyData) : Prop := ∃ t : Tr, d = .list (trD t) ∧ (t.gr : Int) < k ∧ t.sz ≤ 20
def isBr (k : Int) : PyData → Bool
  | .tuple [.int i, _] => decide (0 ≤ i) && decide (i < k)
  | _ => false
def sec : PyData → PyData
  | .tuple [_, x] => x
  | d => d
theorem br_inv {k : Int} {d : PyData} (h : isBr k d = true) : ∃ (c : Nat) (x : PyData), d = .tuple [.int (c : Int), x] ∧ (c : Int) < k := by
  unfold isBr at h
  split at h
  · rename_i i x
    rw [Bool.and_eq_true, decide_eq_true_eq, decide_eq_true_eq] at h
    exact ⟨i.toNat, x, by rw [Int.toNat_of_nonneg h.1], by omega⟩
  · cases h
theorem isBr_U {k : Int} {d : PyData} (h : isU d = false) : isBr k d = false := by
  unfold isBr
  split
  · cases h
  · rfl
theorem isBr_len {k : Int} {ds : List PyData} (h : ds.length ≠ 2) : isBr k (.tuple ds) = false := by
  unfold isBr
  split
  · rename_i e
    injection e with e
    subst e
    exact (h rfl).elim
  · rfl
theorem isBr_N {k : Int} {a x : PyData} (h : isN a = false) : isBr k (.tuple [a, x]) = false := by
  cases a <;> first | rfl | cases h
theorem isBr_I {k i : Int} {x : PyData} : isBr k (.tuple [.int i, x]) = (decide (0 ≤ i) && decide (i < k)) := rfl
theorem trD_br {k : Int} : ∀ {t : Tr}, (t.gr : Int) < k → ∀ e ∈ trD t, isBr k e = true
  | .nil, _, e, h => nomatch h
  | .cons c s r, hg, e, h => by
    simp only [gr] at hg
    rcases List.mem_cons.mp h with z | z
    · subst z
      rw [isBr_I, Bool.and_eq_true, decide_eq_true_eq, decide_eq_true_eq]
      exact ⟨Int.natCast_nonneg _, by omega⟩
    · exact trD_br (t := r) (by omega) e z
def fT (t : Tr) : PyData := .list (trD t)
theorem trD_sec : ∀ t : Tr, (trD t).map sec = (t.kids.map fun x => x.2).map fT
  | .nil => rfl
  | .cons c s r => by rw [trD, kids, List.map_cons, List.map_cons, List.map_cons, trD_sec r]; rfl
theorem trD_len : ∀ t : Tr, (trD t).length = t.kids.length
  | .nil => rfl
  | .cons c s r => by rw [trD, kids, List.length_cons, List.length_cons, trD_len r]
theorem mk_tr {k : Int} : ∀ {us : List PyData} {ts : List Tr}, (∀ e ∈ us, isBr k e = true) → us.map sec = ts.map fT → ∃ t : Tr, trD t = us ∧ (t.kids.map fun x => x.2) = ts ∧ ∀ x ∈ t.kids, (x.1 : Int) < k
  | [], [], _, _ => ⟨.nil, rfl, rfl, fun x h => nomatch h⟩
  | [], _ :: _, _, h => by simp at h
  | _ :: _, [], _, h => by simp at h
  | e :: us, s :: ts, hb, h => by
    rw [List.map_cons, List.map_cons] at h
    injection h with h1 h2
    obtain ⟨t, e1, e2, e3⟩ := mk_tr (fun x hx => hb x (List.mem_cons_of_mem _ hx)) h2
    obtain ⟨c, x, ec, hc⟩ := br_inv (hb e List.mem_cons_self)
    subst ec
    have hx : x = fT s := h1
    subst hx
    refine ⟨.cons c s t, by rw [trD, e1]; rfl, by rw [kids, List.map_cons, e2], fun y hy => ?_⟩
    rcases List.mem_cons.mp hy with z | z
    · subst z; exact hc
    · exact e3 y z

def TsD (k : Int) (n : Nat) (L : List PyData) : Prop := ∃ ts : List Tr, L = ts.map fT ∧ (∀ t ∈ ts, (t.gr : Int) < k) ∧ n + szs ts ≤ 20
theorem ts_one {k : Int} {d : PyData} : TsD k 0 [d] ↔ TreeD k d := by
  constructor
  · rintro ⟨ts, e, hg, hs⟩
    match ts, e with
    | [t], e =>
      injection e with e
      exact ⟨t, e, hg t List.mem_cons_self, by rw [szs_one] at hs; omega⟩
  · rintro ⟨t, e, hg, hs⟩
    exact ⟨[t], by rw [e]; rfl, fun u hu => by rw [List.mem_singleton.mp hu]; exact hg, by rw [szs_one]; omega⟩
theorem ts_last {k : Int} {n : Nat} {L : List PyData} {u : PyData} (h : TsD k n (L ++ [u])) : ∃ t : Tr, u = fT t ∧ (t.gr : Int) < k ∧ n + t.sz ≤ 20 := by
  obtain ⟨ts, e, hg, hs⟩ := h
  obtain ⟨ts1, ts2, rfl, e1, e2⟩ := List.append_eq_map_iff.mp e
  match ts2, e2 with
  | [t], e2 =>
    injection e2 with e2
    rw [szs_app, szs_one] at hs
    exact ⟨t, e2.symm, hg t (by simp), by omega⟩
theorem ts_step {k : Int} (hk : 1 ≤ k) {n : Nat} {L us : List PyData} (hb : ∀ e ∈ us, isBr k e = true) : TsD k n (L ++ [.list us]) ↔ TsD k (n + us.length) (L ++ us.map sec) := by
  have hk1 : 1 ≤ k.toNat := by omega
  constructor
  · rintro ⟨ts, e, hg, hs⟩
    obtain ⟨ts1, ts2, rfl, e1, e2⟩ := List.append_eq_map_iff.mp e
    match ts2, e2 with
    | [t], e2 =>
      injection e2 with e2
      have e3 : trD t = us := by injection e2
      have hgt := hg t (by simp)
      rw [szs_app, szs_one] at hs
      have hz := kids_szs t
      refine ⟨ts1 ++ t.kids.map fun x => x.2, by rw [List.map_append, e1, ← trD_sec, e3], fun u hu => ?_, ?_⟩
      · rcases List.mem_append.mp hu with z | z
        · exact hg u (by simp [z])
        · obtain ⟨x, hx, rfl⟩ := List.mem_map.mp z
          have := (kid_ht hx).2.2.2
          omega
      · rw [szs_app, ← e3, trD_len]; omega
  · rintro ⟨ts, e, hg, hs⟩
    obtain ⟨ts1, ts2, rfl, e1, e2⟩ := List.append_eq_map_iff.mp e
    obtain ⟨t, e3, e4, e5⟩ := mk_tr hb e2.symm
    have hz := kids_szs t
    rw [szs_app] at hs
    rw [e4] at hz
    rw [← e3, trD_len] at hs
    refine ⟨ts1 ++ [t], by rw [List.map_append, e1, ← e3]; rfl, fun u hu => ?_, by rw [szs_app, szs_one]; omega⟩
    rcases List.mem_append.mp hu with z | z
    · exact hg u (by simp [z])
    · rw [List.mem_singleton.mp z]
      have : t.gr < k.toNat := (gr_lt_iff hk1).mpr fun x hx => ⟨by have := e5 x hx; omega, by
        have := hg x.2 (List.mem_append_right _ (by rw [← e4]; exact List.mem_map.mpr ⟨x, hx, rfl⟩))
        omega⟩
      omega
theorem ts_noL {k : Int} {n : Nat} {L : List PyData} {u : PyData} (h : isL u = false) : ¬TsD k n (L ++ [u]) := fun z => by
  obtain ⟨t, e, _⟩ := ts_last z
  subst e
  cases h
theorem ts_over {k : Int} {n : Nat} {L us : List PyData} (h : 20 < n + us.length) : ¬TsD k n (L ++ [.list us]) := fun z => by
  obtain ⟨t, e, _, hs⟩ := ts_last z
  have e3 : us = trD t := by injection e
  have := kids_len t
  rw [e3, trD_len] at h
  omega
theorem ts_noB {k : Int} {n : Nat} {L us : List PyData} {e : PyData} (he : e ∈ us) (h : isBr k e = false) : ¬TsD k n (L ++ [.list us]) := fun z => by
  obtain ⟨t, e1, hg, hs⟩ := ts_last z
  have e3 : us = trD t := by injection e1
  subst e3
  rw [trD_br hg e he] at h
  cases h
def spBranchD : Sp := fun vs H Q _ => ∃ (k : Int) (v : V) (p : Addr) (d : PyData), vs = [.int k, v] ∧ Sd p H v d ∧ ∀ H', Same H H' → Q (.bl (isBr k d)) H'
def spTreeD : Sp := fun vs H Q _ => ∃ (k : Int) (v : V) (p : Addr) (d : PyData), vs = [.int k, v] ∧ 1 ≤ k ∧ k ≤ 4 ∧ Sd p H v d ∧ ∀ b H', Same H H' → (b = true ↔ TreeD k d) → Q (.bl b) H'

def CntD (k : Int) (d : PyData) (c : Int) : Prop := (∃ t : Tr, d = fT t ∧ (t.gr : Int) < k ∧ t.sz ≤ 20 ∧ c = t.sz) ∨ (21 ≤ c ∧ ¬TreeD k d)
theorem CntD.lt {k c : Int} {d : PyData} (h : CntD k d c) : c < 21 ↔ TreeD k d := by
  rcases h with ⟨t, e, hg, hs, rfl⟩ | ⟨h, n⟩
  · exact ⟨fun _ => ⟨t, e, hg, hs⟩, fun _ => by omega⟩
  · exact ⟨fun z => by omega, fun z => (n z).elim⟩
theorem CntD.of {k c : Int} {t : Tr} (h : CntD k (fT t) c) (hg : (t.gr : Int) < k) (hs : t.sz ≤ 20) : c = t.sz := by
  rcases h with ⟨u, e, _, _, rfl⟩ | ⟨_, n⟩
  · have : trD t = trD u := by injection e
    rw [trD_inj this]
  · exact (n ⟨t, rfl, hg, hs⟩).elim
theorem CntD.pos {k c : Int} {d : PyData} (h : CntD k d c) : 0 ≤ c := by
  rcases h with ⟨t, e, hg, hs, rfl⟩ | ⟨h, n⟩ <;> omega
def gCountD (n : Nat) : Sp := fun vs H Q _ => ∃ (k : Int) (v : V) (p : Addr) (d : PyData), vs = [.int k, v] ∧ 1 ≤ k ∧ k ≤ 4 ∧ Sd p H v d ∧ d.depth ≤ 2 * n + 1 ∧ ∀ c H', Same H H' → CntD k d c → Q (.int c) H'
def PreD (k : Int) (ds : List PyData) (i : Nat) (m : Int) : Prop := (∃ ta : Tr, ds.take i = trD ta ∧ (ta.gr : Int) < k ∧ m = ta.sz) ∨ (21 ≤ m ∧ ¬TreeD k (.list ds))
theorem pre0 {k : Int} (hk : 1 ≤ k) (ds : List PyData) : PreD k ds 0 0 := .inl ⟨.nil, rfl, by simp only [gr]; omega, rfl⟩
theorem pre_end {k m : Int} {ds : List PyData} (h : PreD k ds ds.length m) : CntD k (.list ds) m := by
  rcases h with ⟨ta, e, hg, rfl⟩ | h
  · rw [List.take_length] at e
    subst e
    by_cases c : ta.sz ≤ 20
    · exact .inl ⟨ta, rfl, hg, c, rfl⟩
    · refine .inr ⟨by omega, fun ⟨t, e, _, hs⟩ => ?_⟩
      have : trD ta = trD t := by injection e
      rw [trD_inj this] at c
      omega
  · exact .inr h
theorem pre_bad {k : Int} {ds : List PyData} {e : PyData} (he : e ∈ ds) (h : isBr k e = false) : ¬TreeD k (.list ds) := fun ⟨t, e1, hg, hs⟩ => by
  have : ds = trD t := by injection e1
  subst this
  rw [trD_br hg e he] at h
  cases h
theorem trD_app : ∀ t u : Tr, trD (t.app u) = trD t ++ trD u
  | .nil, u => rfl
  | .cons c s r, u => by rw [app, trD, trD, trD_app r u]; rfl
theorem trD_split : ∀ {t : Tr} {a b : List PyData}, trD t = a ++ b → ∃ u w : Tr, t = u.app w ∧ trD u = a ∧ trD w = b
  | t, [], b, h => ⟨.nil, t, rfl, rfl, h⟩
  | .nil, x :: a, b, h => by cases h
  | .cons c s r, x :: a, b, h => by
    rw [trD, List.cons_append] at h
    injection h with h1 h2
    obtain ⟨u, w, e1, e2, e3⟩ := trD_split h2
    exact ⟨.cons c s u, w, by rw [e1]; rfl, by rw [trD, h1, e2], e3⟩
theorem pre_over {k m : Int} {ds : List PyData} {i : Nat} (h : PreD k ds i m) (hm : 20 < m) : ¬TreeD k (.list ds) := by
  rcases h with ⟨ta, e, hg, rfl⟩ | h
  · rintro ⟨t, e1, hg, hs⟩
    have e2 : ds = trD t := by injection e1
    have e3 : trD t = ds.take i ++ ds.drop i := by rw [List.take_append_drop, e2]
    obtain ⟨u, w, rfl, e4, e5⟩ := trD_split e3
    rw [e] at e4
    rw [trD_inj e4, sz_app] at hs
    omega
  · exact h.2
theorem sec_tree {k : Int} {ds : List PyData} {e : PyData} (he : e ∈ ds) : TreeD k (.list ds) → TreeD k (sec e) := fun ⟨t, e1, hg, hs⟩ => by
  have : ds = trD t := by injection e1
  subst this
  have hm : sec e ∈ (trD t).map sec := List.mem_map.mpr ⟨e, he, rfl⟩
  rw [trD_sec] at hm
  obtain ⟨s, h1, h2⟩ := List.mem_map.mp hm
  obtain ⟨x, hx, rfl⟩ := List.mem_map.mp h1
  have := kid_ht hx
  exact ⟨x.2, h2.symm, by omega, by omega⟩
theorem pre_step {k m c : Int} {ds : List PyData} {i : Nat} {e : PyData} (h : PreD k ds i m) (he : ds[i]? = some e) (hb : isBr k e = true) (hm : m ≤ 20) (hc : CntD k (sec e) c) : PreD k ds (i + 1) (m + 1 + c) := by
  have hmem := List.mem_of_getElem? he
  rcases h with ⟨ta, e1, hg, rfl⟩ | h
  · rcases hc with ⟨s, es, hgs, hss, rfl⟩ | ⟨h1, n⟩
    · obtain ⟨j, x, rfl, hj⟩ := br_inv hb
      have hx : x = fT s := es
      subst hx
      refine .inl ⟨ta.app (.cons j s .nil), ?_, by rw [gr_app]; simp only [gr]; omega, by rw [sz_app]; simp only [sz]; omega⟩
      rw [List.take_add_one, he, e1, trD_app]
      rfl
    · exact .inr ⟨by omega, fun z => n (sec_tree hmem z)⟩
  · exact .inr ⟨by have := hc.pos; omega, h.2⟩
theorem depth_sec {ds : List PyData} {e a x : PyData} {n : Nat} (he : e ∈ ds) (ee : e = .tuple [a, x]) (h : (PyData.list ds).depth ≤ n) : x.depth + 2 ≤ n := by
  have h1 : e.depth ≤ PyData.depthAll ds := by
    clear h ee
    induction ds with
    | nil => cases he
    | cons y ys ih =>
      rw [PyData.depthAll]
      rcases List.mem_cons.mp he with z | z
      · rw [← z]; exact Nat.le_max_left _ _
      · exact Nat.le_trans (ih z) (Nat.le_max_right _ _)
  rw [PyData.depth] at h
  rw [ee, PyData.depth] at h1
  simp only [PyData.depthAll] at h1
  omega
def spRightD (N : Nat) : Sp := fun vs H Q _ => ∃ (k : Int) (v : V) (p : Addr) (d : PyData), vs = [.int k, v] ∧ 1 ≤ k ∧ k ≤ 4 ∧ Sd p H v d ∧ Fit N 50 d ∧ ∀ H', Same H H' → Q (.bl true) H'


def Dv (S : Addr → Prop) (n m : Nat) (H : Hp) (v : V) : Prop := ∃ d, Sv S H v d ∧ Fit n m d
def Dl (S : Addr → Prop) (n m : Nat) (H : Hp) (v : V) : Prop := ∃ a xs ds, v = .ref a ∧ ¬S a ∧ H a = some (.lst xs) ∧ Svs S H xs ds ∧ Fl n m ds
def Kp (S : Addr → Prop) (H H' : Hp) : Prop := ∀ x o, ¬S x → H x = some o → H' x = some o
theorem kp_same {S : Addr → Prop} {H H' : Hp} (s : Same H H') : Kp S H H' := fun x o _ h => s x o h
theorem kp_but {S : Addr → Prop} {p : Addr} {H H' : Hp} (s : SameBut1 p H H') (h : S p) : Kp S H H' := fun x o n e => s x o e (fun z => n (z ▸ h))
theorem Dv.keep {S : Addr → Prop} {n m : Nat} {H H' : Hp} {v : V} (h : Dv S n m H v) (s : Kp S H H') : Dv S n m H' v := let ⟨d, a, b⟩ := h; ⟨d, a.keep fun x o n e => ⟨s x o n e, n⟩, b⟩
theorem Dv.same {S : Addr → Prop} {n m : Nat} {H H' : Hp} {v : V} (h : Dv S n m H v) (s : Same H H') : Dv S n m H' v := h.keep (kp_same s)
theorem Dl.keep {S : Addr → Prop} {n m : Nat} {H H' : Hp} {v : V} (h : Dl S n m H v) (s : Kp S H H') : Dl S n m H' v := let ⟨a, xs, ds, e, na, g, r, f⟩ := h; ⟨a, xs, ds, e, na, s _ _ na g, r.keep fun x o n e => ⟨s x o n e, n⟩, f⟩
theorem Dl.same {S : Addr → Prop} {n m : Nat} {H H' : Hp} {v : V} (h : Dl S n m H v) (s : Same H H') : Dl S n m H' v := h.keep (kp_same s)
theorem Dv.mono {S : Addr → Prop} {n m n' m' : Nat} {H : Hp} {v : V} (h : Dv S n m H v) (hn : n ≤ n') (hm : m ≤ m') : Dv S n' m' H v := let ⟨d, a, b⟩ := h; ⟨d, a, b.mono hn hm⟩
theorem Dl.mono {S : Addr → Prop} {n m n' m' : Nat} {H : Hp} {v : V} (h : Dl S n m H v) (hn : n ≤ n') (hm : m ≤ m') : Dl S n' m' H v := let ⟨a, xs, ds, e, na, g, r, f⟩ := h; ⟨a, xs, ds, e, na, g, r, f.mono hn hm⟩
theorem Dl.dv {S : Addr → Prop} {n m : Nat} {H : Hp} {v : V} (h : Dl S n m H v) : Dv S (n + 2) (m + 1) H v := by
  obtain ⟨a, xs, ds, rfl, na, g, r, f⟩ := h
  exact ⟨_, .lst g na r, fl_lst f⟩
theorem dv_non {S : Addr → Prop} {n m : Nat} {H : Hp} (hn : 2000 ≤ n) (hm : 1 ≤ m) : Dv S n m H .non := ⟨_, .sc .non, fit_non.mono (by omega) hm⟩
theorem dv_bl {S : Addr → Prop} {n m : Nat} {H : Hp} (b : Bool) (hn : 2000 ≤ n) (hm : 1 ≤ m) : Dv S n m H (.bl b) := ⟨_, .sc (.bl b), (fit_bl b).mono (by omega) hm⟩
theorem dv_int {S : Addr → Prop} {n m : Nat} {H : Hp} {i : Int} (h : i.natAbs < 10 ^ 60) (hn : 2000 ≤ n) (hm : 1 ≤ m) : Dv S n m H (.int i) := ⟨_, .sc (.int i), (fit_int h).mono (by omega) hm⟩
theorem dv_tx {S : Addr → Prop} {n m : Nat} {H : Hp} {a : List Nat} (h : Low a) (hl : a.length ≤ 10) (hn : 2000 ≤ n) (hm : 1 ≤ m) : Dv S n m H (tx a) := ⟨_, .sc (.str _), (fit_str h).mono (by omega) hm⟩
theorem dvs {S : Addr → Prop} {n m : Nat} {H : Hp} : ∀ {xs : List V}, (∀ x ∈ xs, Dv S n m H x) → ∃ ds, Svs S H xs ds ∧ Fl (xs.length * (n + 2)) m ds
  | [], _ => ⟨[], .nil, fl_nil⟩
  | x :: xs, h => by
    obtain ⟨d, a, b⟩ := h x List.mem_cons_self
    obtain ⟨ds, i1, i2⟩ := dvs (xs := xs) fun y hy => h y (List.mem_cons_of_mem _ hy)
    exact ⟨d :: ds, .cons a i1, (fl_cons b i2).mono (by rw [List.length_cons, Nat.add_mul]; omega) (Nat.le_refl _)⟩
def nb (n0 : Nat) : Nat → Nat
  | 0 => n0
  | l + 1 => 3 * nb n0 l + 12
theorem nb_up (n0 : Nat) : ∀ {l l' : Nat}, l ≤ l' → nb n0 l ≤ nb n0 l'
  | l, 0, h => by rw [Nat.le_zero.mp h]; exact Nat.le_refl _
  | l, l' + 1, h => by
    by_cases e : l = l' + 1
    · rw [e]; exact Nat.le_refl _
    · have := nb_up n0 (l := l) (l' := l') (by omega)
      rw [nb]; omega

def Lv (S : Addr → Prop) (n0 m0 l : Nat) (H : Hp) (v : V) : Prop := Dv S (nb n0 l) (m0 + l) H v
theorem Lv.same {S : Addr → Prop} {n0 m0 l : Nat} {H H' : Hp} {v : V} (h : Lv S n0 m0 l H v) (s : Same H H') : Lv S n0 m0 l H' v := Dv.same h s
theorem Lv.up {S : Addr → Prop} {n0 m0 l l' : Nat} {H : Hp} {v : V} (h : Lv S n0 m0 l H v) (hl : l ≤ l') : Lv S n0 m0 l' H v := Dv.mono h (nb_up n0 hl) (by omega)
def Ex (S : Addr → Prop) (H : Hp) : Prop := ∀ x, S x → ∃ o, H x = some o
theorem Ex.same {S : Addr → Prop} {H H' : Hp} (h : Ex S H) (s : Same H H') : Ex S H' := fun x hx => let ⟨o, e⟩ := h x hx; ⟨o, s _ _ e⟩
theorem Ex.new {S : Addr → Prop} {H : Hp} {D : Addr} (h : Ex S H) (hD : H D = none) : ¬S D := fun z => by obtain ⟨o, e⟩ := h D z; rw [hD] at e; cases e
theorem newT {S : Addr → Prop} {n m n' m' : Nat} {H : Hp} {D : Addr} {xs : List V} (hD : H D = none) (ex : Ex S H) (hx : ∀ x ∈ xs, Dv S n m H x) (hn : xs.length * (n + 2) + 3 ≤ n') (hm : m + 1 ≤ m') : Dv S n' m' (upd H D (.tup xs)) (.ref D) := by
  obtain ⟨ds, r, f⟩ := dvs hx
  have s := same_new hD (.tup xs)
  exact ⟨_, .tup upd_same (ex.new hD) (r.keep fun x o n e => ⟨s x o e, n⟩), (fl_tup f).mono hn hm⟩
theorem newL {S : Addr → Prop} {n m n' m' : Nat} {H : Hp} {D : Addr} {xs : List V} (hD : H D = none) (ex : Ex S H) (hx : ∀ x ∈ xs, Dv S n m H x) (hn : xs.length * (n + 2) ≤ n') (hm : m ≤ m') : Dl S n' m' (upd H D (.lst xs)) (.ref D) := by
  obtain ⟨ds, r, f⟩ := dvs hx
  have s := same_new hD (.lst xs)
  exact ⟨D, xs, ds, rfl, ex.new hD, upd_same, r.keep fun x o n e => ⟨s x o e, n⟩, f.mono hn hm⟩
theorem lvT {S : Addr → Prop} {n0 m0 l : Nat} {H : Hp} {D : Addr} {xs : List V} (hD : H D = none) (ex : Ex S H) (hx : ∀ x ∈ xs, Lv S n0 m0 l H x) (hl : xs.length ≤ 3) : Lv S n0 m0 (l + 1) (upd H D (.tup xs)) (.ref D) :=
  newT hD ex hx (by
    have := Nat.mul_le_mul_right (nb n0 l + 2) hl
    rw [nb]; omega) (by omega)
theorem lvL {S : Addr → Prop} {n0 m0 l : Nat} {H : Hp} {D : Addr} {xs : List V} (hD : H D = none) (ex : Ex S H) (hx : ∀ x ∈ xs, Lv S n0 m0 l H x) (hl : xs.length ≤ 3) : Dl S (3 * nb n0 l + 6) (m0 + l) (upd H D (.lst xs)) (.ref D) :=
  newL hD ex hx (by
    have := Nat.mul_le_mul_right (nb n0 l + 2) hl
    omega) (Nat.le_refl _)
theorem dl_lv {S : Addr → Prop} {n0 m0 l : Nat} {H : Hp} {v : V} (h : Dl S (3 * nb n0 l + 6) (m0 + l) H v) : Lv S n0 m0 (l + 1) H v := Dv.mono h.dv (by rw [nb]; omega) (by omega)
theorem dl_4 {S : Addr → Prop} {n0 m0 l : Nat} {H : Hp} {v : V} (h : Dl S (3 * nb n0 l + 6) (m0 + l) H v) (hl : l ≤ 3) : Dl S (nb n0 4) (m0 + 3) H v := Dl.mono h (by have := nb_up n0 hl; rw [nb]; omega) (by omega)
theorem lv_dict {S : Addr → Prop} {n0 m0 : Nat} {H : Hp} {D : Addr} (hn : 2000 ≤ n0) (hm : 2 ≤ m0) (ex : Ex S H) (hD : H D = none) : Lv S n0 m0 0 (upd H D (.dK [])) (.ref D) := ⟨_, .dct upd_same (ex.new hD) .nil, fit_dc0.mono (by rw [nb]; omega) (by omega)⟩
theorem fl_tr : ∀ {t : Tr}, t.gr < 4 → Fl (2000 * t.sz) (2 * t.ht) (trD t)
  | .nil, _ => fl_nil
  | .cons c s r, h => by
    simp only [gr] at h
    have i1 := fl_tr (t := s) (by omega)
    have i2 := fl_tr (t := r) (by omega)
    have hi : ((c : Int)).natAbs < 10 ^ 60 := Nat.lt_of_le_of_lt (show _ ≤ 4 by omega) (by decide)
    have f1 := fl_tup (fl_cons ((fit_int hi).mono (Nat.le_refl _) (show 1 ≤ 2 * s.ht + 1 by omega)) (fl_cons (fl_lst i1) (fl_nil (n := 0))))
    have f2 := fl_cons (f1.mono (Nat.le_refl _) (show 2 * s.ht + 1 + 1 ≤ 2 * (Tr.cons c s r).ht by simp only [Tr.ht]; omega)) (i2.mono (Nat.le_refl _) (show 2 * r.ht ≤ 2 * (Tr.cons c s r).ht by simp only [Tr.ht]; omega))
    rw [trD]
    exact f2.mono (by simp only [sz]; omega) (Nat.le_refl _)

def TrS (S : Addr → Prop) (H : Hp) (v : V) (t : Tr) : Prop := Sv S H v (.list (trD t))
theorem TrS.keep {S : Addr → Prop} {H H' : Hp} {v : V} {t : Tr} (h : TrS S H v t) (s : Kp S H H') : TrS S H' v t := Sv.keep (fun x o n e => ⟨s x o n e, n⟩) h
theorem TrS.dl {S : Addr → Prop} {H : Hp} {v : V} {t : Tr} (h : TrS S H v t) (hg : t.gr < 4) : Dl S (2000 * t.sz) (2 * t.ht) H v := by
  unfold TrS at h
  cases h with
  | sc c => cases c
  | lst g n r => exact ⟨_, _, _, rfl, n, g, r, fl_tr hg⟩
theorem svs_get {S : Addr → Prop} {H : Hp} : ∀ {vs : List V} {ds : List PyData}, Svs S H vs ds → vs.length = ds.length ∧ ∀ (i : Nat) (d : PyData), ds[i]? = some d → ∃ v, vs[i]? = some v ∧ Sv S H v d
  | _, _, .nil => ⟨rfl, fun i d h => by simp at h⟩
  | _, _, .cons h t => by
    obtain ⟨a, b⟩ := svs_get t
    refine ⟨by simp [a], fun i d hd => ?_⟩
    cases i with
    | zero => cases hd; exact ⟨_, rfl, h⟩
    | succ i => exact b i d hd
theorem svs_app {S : Addr → Prop} {H : Hp} {ys : List V} {es : List PyData} (h : Svs S H ys es) : ∀ {xs : List V} {ds : List PyData}, Svs S H xs ds → Svs S H (xs ++ ys) (ds ++ es)
  | _, _, .nil => h
  | _, _, .cons a t => .cons a (svs_app h t)
theorem TrS.open {S : Addr → Prop} {H : Hp} {v : V} {t : Tr} (h : TrS S H v t) : ∃ (a : Addr) (vs : List V), v = .ref a ∧ ¬S a ∧ H a = some (.lst vs) ∧ vs.length = t.kids.length ∧ ∀ (i : Nat) (x : Nat × Tr), t.kids[i]? = some x → ∃ T b : Addr, vs[i]? = some (.ref T) ∧ ¬S T ∧ H T = some (.tup [.int x.1, .ref b]) ∧ TrS S H (.ref b) x.2 := by
  unfold TrS at h
  cases h with
  | sc c => cases c
  | lst g n r =>
    refine ⟨_, _, rfl, n, g, ?_⟩
    obtain ⟨a1, a2⟩ := svs_get r
    rw [trD_kids] at a1 a2
    refine ⟨by rw [a1, List.length_map], fun i x hx => ?_⟩
    obtain ⟨w, e, sd⟩ := a2 i _ (by rw [List.getElem?_map, hx]; rfl)
    cases sd with
    | sc c => cases c
    | tup g2 n2 r2 =>
      cases r2 with
      | cons h1 t1 =>
        cases t1 with
        | cons h2 t2 =>
          cases t2
          cases h1 with
          | sc c =>
            cases c
            cases h2 with
            | sc c => cases c
            | lst g3 n3 r3 => exact ⟨_, _, e, n2, g2, .lst g3 n3 r3⟩

theorem TrS.more {S S' : Addr → Prop} {H : Hp} {v : V} {t : Tr} (h : TrS S H v t) (hs : ∀ x o, ¬S x → H x = some o → ¬S' x) : TrS S' H v t := Sv.keep (fun x o n e => ⟨e, hs x o n e⟩) h
theorem TrS.same {S : Addr → Prop} {H H' : Hp} {v : V} {t : Tr} (h : TrS S H v t) (s : Same H H') : TrS S H' v t := h.keep (kp_same s)
theorem TrS.lv {S : Addr → Prop} {n0 m0 : Nat} {H : Hp} {v : V} {t : Tr} (h : TrS S H v t) (hg : t.gr < 4) (hn : n0 = 2000 * t.sz + 2000) (hm : m0 = 2 * t.ht + 2) : Lv S n0 m0 0 H v := (h.dl hg).dv.mono (by rw [nb]; omega) (by omega)
theorem tupW {S : Addr → Prop} {n0 m0 : Nat} {H : Hp} {a y : Addr} {t : Tr} {xs : List V} (h : TrS S H (.ref a) t) (hg : t.gr < 4) (g : H a = some (.lst xs)) (hy : H y = none) (ex : Ex S H) (hn : n0 = 2000 * t.sz + 2000) (hm : m0 = 2 * t.ht + 2) : Lv S n0 m0 0 (upd H y (.tup xs)) (.ref y) := by
  unfold TrS at h
  cases h with
  | sc c => cases c
  | lst g' n r =>
    rw [g] at g'
    cases g'
    have s := same_new hy (.tup xs)
    exact ⟨_, .tup upd_same (ex.new hy) (r.keep fun x o n e => ⟨s x o e, n⟩), (fl_tup (fl_tr hg)).mono (by rw [nb]; omega) (by omega)⟩
theorem Dl.grow {S S' : Addr → Prop} {n m : Nat} {H : Hp} {v : V} {y : Addr} (h : Dl S n m H v) (hS : S' = fun x => S x ∨ x = y) (hy : H y = none) : Dl S' n m H v := by
  obtain ⟨a, xs, ds, e, na, g, r, f⟩ := h
  subst hS
  have ne : ∀ x o, ¬S x → H x = some o → ¬(S x ∨ x = y) := fun x o n e z => z.elim n fun z => by rw [z, hy] at e; cases e
  exact ⟨a, xs, ds, e, ne _ _ na g, g, r.keep fun x o n e => ⟨e, ne x o n e⟩, f⟩
theorem TrS.grow {S S' : Addr → Prop} {H : Hp} {v : V} {t : Tr} {y : Addr} (h : TrS S H v t) (hS : S' = fun x => S x ∨ x = y) (hy : H y = none) : TrS S' H v t := by
  subst hS
  exact h.more fun x o n e z => z.elim n fun z => by rw [z, hy] at e; cases e
theorem Ex.grow {S S' : Addr → Prop} {H : Hp} {y : Addr} {o : HO} (h : Ex S H) (hS : S' = fun x => S x ∨ x = y) (hy : H y = none) : Ex S' (upd H y o) := by
  subst hS
  rintro x (z | z)
  · exact (h.same (same_new hy o)) x z
  · subst z; exact ⟨o, upd_same⟩
theorem Dl.less {S S' : Addr → Prop} {n m : Nat} {H : Hp} {v : V} {y : Addr} (h : Dl S' n m H v) (hS : S' = fun x => S x ∨ x = y) : Dl S n m H v := by
  subst hS
  obtain ⟨a, xs, ds, e, na, g, r, f⟩ := h
  exact ⟨a, xs, ds, e, fun z => na (.inl z), g, r.keep fun x o n e => ⟨e, fun z => n (.inl z)⟩, f⟩
def spOdd : Sp := fun vs H Q _ => ∃ (S : Addr → Prop) (p : Addr) (n c : Nat) (v : V) (t : Tr), vs = [.ref p, .int (c : Int), v] ∧ S p ∧ Ex S H ∧ PoolAt H p n ∧ n ≤ 100000 ∧ c < 4 ∧ TrS S H v t ∧ t.gr < 4 ∧ t.sz ≤ 20 ∧
  ∀ w H', PoolAt H' p (n + 2) → SameBut1 p H H' → Dl S (200000 * (t.sz + 1)) (2 * t.ht + 5) H' w → Q w H'
theorem szt_next {t : Tr} {i : Nat} {y : Nat × Tr} (h : t.kids[i]? = some y) : szt t (i + 1) = szt t i + (1 + y.2.sz) := by
  unfold szt
  rw [List.take_add_one, h, List.map_append, List.sum_append]
  simp
theorem szt_le (t : Tr) (i : Nat) : szt t i ≤ t.sz := by
  rw [← szt_all t]
  unfold szt
  rw [List.take_length]
  have e : (t.kids.map fun x => 1 + x.2.sz).sum = ((t.kids.take i).map fun x => 1 + x.2.sz).sum + ((t.kids.drop i).map fun x => 1 + x.2.sz).sum := by
    rw [← List.sum_append, ← List.map_append, List.take_append_drop]
  omega
def But2 (p q : Addr) (H H' : Hp) : Prop := ∀ x o, x ≠ p → x ≠ q → H x = some o → H' x = some o
theorem kp_two {S : Addr → Prop} {p q : Addr} {H H' : Hp} (h : But2 p q H H') (hp : S p) (hq : S q) : Kp S H H' := fun x o n e => h x o (fun z => n (z ▸ hp)) (fun z => n (z ▸ hq)) e
theorem svs_less {S : Addr → Prop} {H : Hp} {D : Addr} {xs : List V} {ds : List PyData} (h : Svs (fun x => S x ∨ x = D) H xs ds) : Svs S H xs ds := h.keep fun x o n e => ⟨e, fun z => n (.inl z)⟩
theorem svs_grow {S : Addr → Prop} {H : Hp} {D : Addr} {xs : List V} {ds : List PyData} (h : Svs S H xs ds) (hD : H D = none) : Svs (fun x => S x ∨ x = D) H xs ds := h.keep fun x o n e => ⟨e, fun z => z.elim n fun z => by rw [z, hD] at e; cases e⟩
theorem svs_kp {S : Addr → Prop} {H H' : Hp} {xs : List V} {ds : List PyData} (h : Svs S H xs ds) (s : Kp S H H') : Svs S H' xs ds := h.keep fun x o n e => ⟨s x o n e, n⟩
def gChg (n : Nat) : Sp := fun vs H Q _ => ∃ (S : Addr → Prop) (p L : Addr) (m : Nat) (c a : Int) (v : V) (t : Tr), vs = [.ref p, v, .int a, .ref L] ∧ S p ∧ S L ∧ p ≠ L ∧ Ex S H ∧ PoolAt H p m ∧ m + 2 * t.sz ≤ 100000 ∧ H L = some (.lst [.int c]) ∧ TrS S H v t ∧ t.gr < 4 ∧ t.sz ≤ 20 ∧ t.ht ≤ n ∧
  ∀ w c' H', PoolAt H' p (m + 2 * t.sz) → H' L = some (.lst [.int c']) → But2 p L H H' → Dl S (200000 * t.sz) (2 * t.ht + 3) H' w → Q w H'
theorem fl_len {n m : Nat} : ∀ {ds : List PyData}, Fl n m ds → 2 * ds.length ≤ n := fun {ds} h => by
  have key : ∀ ds : List PyData, 2 * ds.length ≤ piled (PyData.shownAll ds) := fun ds => by
    induction ds with
    | nil => simp
    | cons d ds ih => rw [PyData.shownAll, piled_cons, List.length_cons]; omega
  exact Nat.le_trans (key ds) h.ln
theorem svs_one {S : Addr → Prop} {H : Hp} {v : V} {d : PyData} (h : Sv S H v d) : Svs S H [v] [d] := .cons h .nil
theorem dl_same_at {S : Addr → Prop} {n m : Nat} {H : Hp} {a : Addr} {ys : List V} (h : Dl S n m H (.ref a)) (g : H a = some (.lst ys)) : ∃ ds, Svs S H ys ds ∧ Fl n m ds := by
  obtain ⟨a', xs, ds, e, na, g', r, f⟩ := h
  cases e
  rw [g] at g'
  cases g'
  exact ⟨ds, r, f⟩
theorem cat2 {S : Addr → Prop} {n m n' m' N M : Nat} {H : Hp} {a b D : Addr} {xs ys : List V} (h : Dl S n m H (.ref a)) (h' : Dl S n' m' H (.ref b)) (g : H a = some (.lst xs)) (g' : H b = some (.lst ys)) (hD : H D = none) (ex : Ex S H) (hn : n + n' + 2 ≤ N) (hm : m + 1 ≤ M) (hm' : m' + 1 ≤ M) : Dv S N M (upd H D (.lst (xs ++ ys))) (.ref D) := by
  obtain ⟨ds, r, f⟩ := dl_same_at h g
  obtain ⟨ds', r', f'⟩ := dl_same_at h' g'
  have s := same_new hD (.lst (xs ++ ys))
  obtain ⟨M', rfl⟩ : ∃ M', M = M' + 1 := ⟨M - 1, by omega⟩
  exact ⟨_, .lst upd_same (ex.new hD) ((svs_app r' r).keep fun x o n e => ⟨s x o e, n⟩), (fl_lst (fl_app (f'.mono (Nat.le_refl _) (show m' ≤ M' by omega)) (f.mono (Nat.le_refl _) (show m ≤ M' by omega)))).mono (by omega) (Nat.le_refl _)⟩
def spNoTr : Sp := fun vs H Q _ => ∃ (S : Addr → Prop) (p : Addr) (n : Nat) (v : V) (t : Tr) (m : Int), vs = [.ref p, v, .int m] ∧ S p ∧ Ex S H ∧ PoolAt H p n ∧ n ≤ 90000 ∧ TrS S H v t ∧ t.gr < 4 ∧ t.sz ≤ 20 ∧ 0 ≤ m ∧ m ≤ 100 ∧ ∀ w H', PoolAt H' p (n + 50) → SameBut1 p H H' → Dv S 5000000 50 H' w → Q w H'
theorem mem_rep {x y : V} {n : Nat} (h : x ∈ (List.replicate n [y]).flatten) : x = y := by
  obtain ⟨l, hl, hx⟩ := List.mem_flatten.mp h
  rw [List.eq_of_mem_replicate hl] at hx
  exact List.mem_singleton.mp hx
theorem rep_len1 {y : V} {n : Nat} : (List.replicate n [y]).flatten.length = n := by simp

def dt : Nat → Tr
  | 0 => .nil
  | i + 1 => .cons (i % 4) (dt i) .nil
theorem dt_sz : ∀ i, (dt i).sz = i
  | 0 => rfl
  | i + 1 => by simp only [dt, sz, dt_sz i]; omega
theorem dt_ht : ∀ i, (dt i).ht = i
  | 0 => rfl
  | i + 1 => by simp only [dt, Tr.ht, dt_ht i]; omega
theorem dt_gr : ∀ i, (dt i).gr < 4
  | 0 => by decide
  | i + 1 => by have := dt_gr i; simp only [dt, gr]; omega
theorem tr_wrap {S : Addr → Prop} {H : Hp} {D T L : Addr} {t : Tr} {c : Nat} (h : TrS S H (.ref D) t) (ex : Ex S H) (hT : H T = none) (hL : (upd H T (.tup [.int (c : Int), .ref D])) L = none) : TrS S (upd (upd H T (.tup [.int (c : Int), .ref D])) L (.lst [.ref T])) (.ref L) (.cons c t .nil) := by
  have s1 := same_new hT (.tup [.int (c : Int), .ref D])
  have s2 := same_new hL (.lst [.ref T])
  exact .lst upd_same ((ex.same s1).new hL) (.cons (.tup (s2 _ _ upd_same) (ex.new hT) (.cons (.sc (.int _)) (.cons (h.same (s1.trans s2)) .nil))) .nil)
theorem Dv.grow {S S' : Addr → Prop} {n m : Nat} {H : Hp} {v : V} {y : Addr} (h : Dv S n m H v) (hS : S' = fun x => S x ∨ x = y) (hy : H y = none) : Dv S' n m H v := by
  obtain ⟨d, r, f⟩ := h
  subst hS
  exact ⟨d, r.keep fun x o n e => ⟨e, fun z => z.elim n fun z => by rw [z, hy] at e; cases e⟩, f⟩
theorem Dv.less {S S' : Addr → Prop} {n m : Nat} {H : Hp} {v : V} {y : Addr} (h : Dv S' n m H v) (hS : S' = fun x => S x ∨ x = y) : Dv S n m H v := by
  obtain ⟨d, r, f⟩ := h
  subst hS
  exact ⟨d, r.keep fun x o n e => ⟨e, fun z => n (.inl z)⟩, f⟩
end BrTr


namespace Bk
open PySem L2 BrM BrR BrTr BrB BrC BrS BrI
def top (i : Nat) : Stmt := PySem.Challenge.pw_bracketrows_k08_what_is_a_tree.main.body.getD i (.Pass ⟨0, 0, 0, 0⟩)
abbrev d_is_whole : Stmt := top 5
abbrev d_check_kinds : Stmt := top 6
abbrev d_is_branch : Stmt := top 9
abbrev d_is_tree : Stmt := top 10
abbrev d_law_pool : Stmt := top 12
abbrev d_law_take : Stmt := top 13
abbrev d_law_tree : Stmt := top 14
abbrev d_law_copy : Stmt := top 15
abbrev d_law_count : Stmt := top 16
abbrev d_law_odd : Stmt := top 18
abbrev d_law_changed : Stmt := top 17
abbrev d_law_no_tree : Stmt := top 19
abbrev d_law_right : Stmt := top 20
abbrev d_law : Stmt := top 21
structure Txt (K : PySem.W.Frag) (mg : Str → Option Value) (aK : Addr) : Prop where
  n_bool : mg "bool" = none
  n_int : mg "int" = none
  n_isinstance : mg "isinstance" = none
  n_len : mg "len" = none
  n_list : mg "list" = none
  n_max : mg "max" = none
  n_min : mg "min" = none
  n_range : mg "range" = none
  n_repr : mg "repr" = none
  n_tuple : mg "tuple" = none
  g_KINDS : ∃ u, mg "KINDS" = some u ∧ RelV (.ref aK) u
  t_KINDS : ∀ H, SqT K H aK [tx [40, 41], tx [91, 93], tx [123, 125], tx [60, 62]]
  g_MOST_TUPLES : ∃ u, mg "MOST_TUPLES" = some u ∧ RelV (.int 20) u
section
variable {P : Program} {w : World} {K : PySem.W.Frag} {mg : Str → Option Value} {base : Heap} {f aK aC : Addr} {fd : FuncData} {k : Nat}
local macro_rules | `(tactic| walk_at "st") => `(tactic| first
  | with_reducible refine s_seq ?_
  | with_reducible refine s_asg ?_
  | with_reducible refine s_name ?_
  | ((with_reducible refine s_var (v := ?v) ?e ?_); (case e => exact rfl))
  | with_reducible refine s_c ?_
  | with_reducible refine s_op ?_
  | with_reducible refine s_if ?_
  | with_reducible refine s_test ?_
  | with_reducible refine s_bl ?_
  | with_reducible refine s_call ?_
  | with_reducible refine s_cons ?_
  | with_reducible refine s_nil ?_
  | with_reducible refine s_cb ?_
  | with_reducible refine s_ret ?_
  | with_reducible refine s_lst ?_
  | with_reducible refine s_tup ?_
  | with_reducible refine s_drop ?_
  | with_reducible refine s_next ?_
  | with_reducible refine s_cont ?_
  | with_reducible refine s_break ?_
  | with_reducible refine s_gnil ?_
  | with_reducible refine s_gcons ?_
  | with_reducible refine s_gsub ?_
  | with_reducible refine s_un ?_
  | with_reducible refine s_neg ?_
  | with_reducible refine s_ifE ?_
  | with_reducible refine s_and ?_
  | with_reducible refine s_or ?_
  | with_reducible refine s_not ?_
  | with_reducible refine s_andV ?_
  | with_reducible refine s_orV ?_
  | with_reducible refine s_notV ?_
  | with_reducible refine s_tru ?_
  | with_reducible refine s_chain ?_
  | with_reducible refine s_truB ?_
  | with_reducible refine s_truN ?_
  | with_reducible refine s_addI ?_
  | with_reducible refine s_subI ?_
  | with_reducible refine s_eqI ?_
  | with_reducible refine s_eqT ?_
  | with_reducible refine s_eqB ?_
  | with_reducible refine s_neI ?_
  | with_reducible refine s_neT ?_
  | with_reducible refine s_neB ?_
  | with_reducible refine s_inT ?_
  | with_reducible refine s_notinT ?_
  | with_reducible refine s_sl ?_
  | with_reducible refine s_nopart ?_
  | with_reducible refine s_part ?_
  | with_reducible refine s_partI ?_
  | with_reducible refine s_max ?_
  | with_reducible refine s_min ?_
  | with_reducible refine s_intB ?_
  | with_reducible refine s_intI ?_
  | with_reducible refine s_bm ?_
  | with_reducible refine s_bm0 ?_
  | with_reducible refine s_for ?_
  | with_reducible refine s_irng1 ?_
  | with_reducible refine s_irng2 ?_
  | with_reducible refine s_irng3 ?_
  | with_reducible refine s_augS ?_
  | with_reducible refine s_ilist ?_
  | with_reducible refine s_istr ?_
  | with_reducible refine s_istrT ?_
  | with_reducible refine s_ienS ?_
  | with_reducible refine s_ienST ?_
  | with_reducible refine s_ienL ?_
  | with_reducible refine s_comp ?_
  | with_reducible refine s_rev ?_
  | with_reducible refine s_revI ?_
  | with_reducible refine s_irev ?_
  | with_reducible refine s_tyT ?_
  | ((with_reducible refine s_irevT ?e ?_); (case e => first | assumption | exact small (by omega)))
  | ((with_reducible refine s_revT ?e ?_); (case e => first | assumption | exact small (by omega)))
  | with_reducible refine s_yes ?_
  | ((with_reducible refine s_aug (x := ?x) ?e ?_); (case e => exact rfl))
  | with_reducible refine s_ipI ?_
  | ((with_reducible refine s_is ?e ?_); (case e => exact rfl))
  | ((with_reducible refine s_isnot ?e ?_); (case e => exact rfl))
  | ((with_reducible refine s_ixL (xs := ?xs) (v := ?v) ?h ?e ?_); (case h => assumption); (case e => exact rfl))
  | ((with_reducible refine s_rI ?e ?_); (case e => first | (exact (show (0 : Int) < _ by omega)) | (exact ⟨by omega, by omega⟩) | (exact ⟨by decide, by decide, by decide⟩)))
  | ((with_reducible refine s_mulI ?e ?_); (case e => first | exact .inl ⟨by omega, by omega⟩ | exact .inr ⟨by omega, by omega⟩))
  | ((with_reducible refine s_lenT ?e ?_); (case e => first | assumption | exact small (by omega)))
  | ((with_reducible refine s_addT ?e ?_); (case e => first | exact small (by omega) | exact small (by simp only [List.length_append, List.length_cons, List.length_nil]; omega)))
  | ((with_reducible refine s_slT ?e ?_); (case e => first | assumption | exact small (by omega) | exact small (by simp only [List.length_append, List.length_cons, List.length_nil]; omega)))
  )
local macro_rules | `(tactic| walk_at "go") => `(tactic| repeat (walk_at "st"))

theorem sc_is_whole : FnScope ["thing"] ["thing"] (defScope d_is_whole) := ⟨rfl, rfl, rfl, by decide +kernel, rfl, by decide +kernel, by decide +kernel⟩
theorem ok_is_whole (F : Fun K "is_whole" "is_whole" d_is_whole f fd) (T : Txt K mg aK)  : FnOk P w K mg base CX0 (k + 1) f fd ["thing"] (spWhole K) := by
  refine F.ok sc_is_whole (fun vs H Q E h => ?_) (fun cdv A outer s H vs Q E hr h => ?_)
  · obtain ⟨x, T', rfl, _⟩ := h; rfl
  obtain ⟨x, ty, rfl, hT, hp, q⟩ := h
  refine ⟨_, (pss_one (ps_ret (pe_and (pe_callB (call_isiA K) rfl T.n_isinstance PyProof.Rows.boot_isinstance (pa_cons (pv 0) (pa_cons (pe_ty T.n_int PyProof.Rows.boot_int) pa_nil))) (pe_one (pe_not (pe_callB (call_isiA K) rfl T.n_isinstance PyProof.Rows.boot_isinstance (pa_cons (pv 0) (pa_cons (pe_ty T.n_bool PyProof.Rows.boot_bool) pa_nil)))))))), ?_⟩
  walk_at "go"
  have hp' : ty = "NoneType" ∨ ty = "bool" ∨ ty = "int" ∨ ty = "str" ∨ ty = "list" ∨ ty = "tuple" ∨ ty = "dict" := by simpa [plainTy] using hp
  rcases hp' with rfl | rfl | rfl | rfl | rfl | rfl | rfl
  · refine s_isi (b := false) hT (by with_unfolding_all rfl) (s_bl (iteF ?_)); exact q
  · refine s_isi (b := true) hT (by with_unfolding_all rfl) (s_bl (iteT ?_))
    walk_at "go"
    refine s_isi (b := true) hT (by with_unfolding_all rfl) (s_bl ?_); exact q
  · refine s_isi (b := true) hT (by with_unfolding_all rfl) (s_bl (iteT ?_))
    walk_at "go"
    refine s_isi (b := false) hT (by with_unfolding_all rfl) (s_bl ?_); exact q
  · refine s_isi (b := false) hT (by with_unfolding_all rfl) (s_bl (iteF ?_)); exact q
  · refine s_isi (b := false) hT (by with_unfolding_all rfl) (s_bl (iteF ?_)); exact q
  · refine s_isi (b := false) hT (by with_unfolding_all rfl) (s_bl (iteF ?_)); exact q
  · refine s_isi (b := false) hT (by with_unfolding_all rfl) (s_bl (iteF ?_)); exact q

theorem sc_check_kinds : FnScope ["k"] ["k"] (defScope d_check_kinds) := ⟨rfl, rfl, rfl, by decide +kernel, rfl, by decide +kernel, by decide +kernel⟩
theorem ok_check_kinds (F : Fun K "check_kinds" "check_kinds" d_check_kinds f fd) (T : Txt K mg aK) (U_is_whole : FnU P w K mg base k "is_whole" ["thing"] (spWhole K)) : FnOk P w K mg base CX0 (k + 1) f fd ["k"] (spKinds) := by
  refine F.ok sc_check_kinds (fun vs H Q E h => ?_) (fun cdv A outer s H vs Q E hr h => ?_)
  · obtain ⟨x, rfl, _⟩ := h; rfl
  obtain ⟨x, rfl, h1, h2, q⟩ := h
  refine ⟨_, (pss_one (ps_if (PW.pt (pw_or (pt_not (pt_tru K (pe_fn U_is_whole hr (pa_cons (pv 0) pa_nil)))) (pw_or1 (pt_not (pt_chain op_le op_le pe_int (pv 0) (pe_callB (call_lenA K) rfl T.n_len PySem.boot_len (pa_cons (pe_gl T.g_KINDS) pa_nil)))))))   (pss_one ps_never)   pss_nil)), ?_⟩
  walk_at "go"
  refine whole_int ?_
  walk_at "go"
  refine ifq rfl ?_
  walk_at "go"
  refine ifp (decide_eq_true h1) ?_
  walk_at "go"
  refine s_lenL (.inr (T.t_KINDS H)) ?_
  walk_at "go"
  refine ifq (by simp; omega) ?_
  walk_at "go"
  exact q

theorem sc_is_branch : FnScope ["k", "thing"] ["k", "thing"] (defScope d_is_branch) := ⟨rfl, rfl, rfl, by decide +kernel, rfl, by decide +kernel, by decide +kernel⟩
theorem ok_is_branch (F : Fun K "is_branch" "is_branch" d_is_branch f fd) (T : Txt K mg aK) (U_is_whole : FnU P w K mg base k "is_whole" ["thing"] (spWhole K)) : FnOk P w K mg base CX0 (k + 1) f fd ["k", "thing"] (spBranchD) := by
  refine F.ok sc_is_branch (fun vs H Q E h => ?_) (fun cdv A outer s H vs Q E hr h => ?_)
  · obtain ⟨kk, v, p, d, rfl, _⟩ := h; rfl
  obtain ⟨kk, v, p, d, rfl, hd, q⟩ := h
  have hu := hr.units0
  have q0 := q H (Same.refl _)
  refine ⟨_, (pss_cons (ps_if (PW.pt (pw_or (pt_not (pt_tru K (pe_callB (call_isiA K) rfl T.n_isinstance PyProof.Rows.boot_isinstance (pa_cons (pv 1) (pa_cons (pe_ty T.n_tuple PyProof.Rows.boot_tuple) pa_nil))))) (pw_or1 (pt_cmpR (op_neA K hu) (pe_callB (call_lenA K) rfl T.n_len PySem.boot_len (pa_cons (pv 1) pa_nil)) pe_int (nomark _)))))   (pss_one (ps_ret pe_bl))   pss_nil)  (pss_one (ps_ret (pe_and (pe_fn U_is_whole hr (pa_cons (pe_ix (ix_A K) (pv 1) pe_int (fun _ _ => rfl)) pa_nil)) (pe_one (pe_chain op_le op_lt pe_int (pe_ix (ix_A K) (pv 1) pe_int (fun _ _ => rfl)) (pv 0))))))), ?_⟩
  walk_at "go"
  refine s_isU hd ?_
  walk_at "go"
  cases hU : isU d with
  | false =>
    rw [isBr_U hU] at q0
    refine ifp rfl ?_
    walk_at "go"
    exact q0
  | true =>
    obtain ⟨ds, rfl⟩ : ∃ ds, d = .tuple ds := by cases d <;> first | exact ⟨_, rfl⟩ | cases hU
    obtain ⟨T1, xs, rfl, n1, g1, r1⟩ := tupI hd
    have hl := (sds_get r1).1
    refine ifq rfl ?_
    walk_at "go"
    refine s_lenL (.inr (SqT.of g1)) ?_
    walk_at "go"
    by_cases h2 : ds.length = 2
    · match ds, h2, r1 with
      | [a, x], _, r1 =>
        obtain ⟨u, w, rfl, da, dx⟩ := sds2 r1
        refine ifq rfl ?_
        walk_at "go"
        refine s_ixU (SqT.of g1) (show atI _ (0 : Int) = some u from rfl) ?_
        walk_at "go"
        refine wholeD da ?_
        walk_at "go"
        cases hN : isN a with
        | false =>
          rw [isBr_N hN] at q0
          refine ifq rfl ?_
          walk_at "go"
          exact q0
        | true =>
          obtain ⟨i, rfl⟩ : ∃ i, a = .int i := by cases a <;> first | exact ⟨_, rfl⟩ | cases hN
          have := intI da
          subst this
          rw [isBr_I] at q0
          refine ifp rfl ?_
          walk_at "go"
          refine s_ixU (SqT.of g1) (show atI _ (0 : Int) = some (.int i) from rfl) ?_
          walk_at "go"
          refine ifd (fun hc => ?_) (fun hc => ?_)
          · walk_at "go"
            rw [decide_eq_true (show 0 ≤ i by omega), Bool.true_and] at q0
            exact q0
          · rw [decide_eq_false (show ¬0 ≤ i by omega), Bool.false_and] at q0
            walk_at "go"
            exact q0
    · rw [isBr_len h2] at q0
      refine ifp (by rw [Bool.not_eq_true', decide_eq_false]; omega) ?_
      walk_at "go"
      exact q0

theorem sc_is_tree : FnScope ["k", "thing", "waiting", "many", "tree", "branch"] ["k", "thing"] (defScope d_is_tree) := ⟨rfl, rfl, rfl, by decide +kernel, rfl, by decide +kernel, by decide +kernel⟩
theorem ok_is_tree (F : Fun K "is_tree" "is_tree" d_is_tree f fd) (T : Txt K mg aK) (U_check_kinds : FnU P w K mg base k "check_kinds" ["k"] (spKinds)) (U_is_branch : FnU P w K mg base k "is_branch" ["k", "thing"] (spBranchD)) : FnOk P w K mg base CX0 (k + 1) f fd ["k", "thing"] (spTreeD) := by
  refine F.ok sc_is_tree (fun vs H Q E h => ?_) (fun cdv A outer s H vs Q E hr h => ?_)
  · obtain ⟨kk, v, p, d, rfl, _⟩ := h; rfl
  obtain ⟨kk, v, p, d, rfl, k1, k4, hd, q⟩ := h
  have hu := hr.units0
  refine ⟨_, (pss_cons (ps_expr (pe_fn U_check_kinds hr (pa_cons (pv 0) pa_nil)))  (pss_cons (ps_set (i := 2) sc_is_tree.nd rfl (Or.inl rfl) (pe_lst (pa_cons (pv 1) pa_nil)))  (pss_cons (ps_set (i := 3) sc_is_tree.nd rfl (Or.inl rfl) pe_int)  (pss_cons (ps_while PassesOwn.never (pt_tru K (pv 2))   (pss_cons (ps_set (i := 4) sc_is_tree.nd rfl (Or.inl rfl) (pe_bm0K K PySem.F.plainAttrs_list PySem.F.slot_list_pop PySem.F.type_list_pop mt_pop (pv 2)))  (pss_cons (ps_if (pt_not (pt_tru K (pe_callB (call_isiA K) rfl T.n_isinstance PyProof.Rows.boot_isinstance (pa_cons (pv 4) (pa_cons (pe_ty T.n_list PyProof.Rows.boot_list) pa_nil)))))   (pss_one (ps_ret pe_bl))   pss_nil)  (pss_cons (ps_aug (i := 3) sc_is_tree.nd rfl (Or.inl rfl) (pe_callB (call_lenA K) rfl T.n_len PySem.boot_len (pa_cons (pv 4) pa_nil)) ip_add)  (pss_cons (ps_if (pt_cmpR op_gt (pv 3) (pe_gl T.g_MOST_TUPLES) (nomark _))   (pss_one (ps_ret pe_bl))   pss_nil)  (pss_one (ps_for PassesOwn.never rfl (pi_listK K (pv 4)) (pg_name (i := 5) sc_is_tree.nd rfl (Or.inl rfl))   (pss_cons (ps_if (pt_not (pt_tru K (pe_fn U_is_branch hr (pa_cons (pv 0) (pa_cons (pv 5) pa_nil)))))   (pss_one (ps_ret pe_bl))   pss_nil)  (pss_one (ps_expr (pe_bmK K PySem.F.plainAttrs_list PySem.F.slot_list_append PySem.F.type_list_append mt_append (pv 2) (pa_cons (pe_ix (ix_A K) (pv 5) pe_int (fun _ _ => rfl)) pa_nil))))))))))))  (pss_one (ps_ret pe_bl)))))), ?_⟩
  walk_at "go"
  refine kinds_use k1 k4 ?_
  walk_at "go"
  refine ⟨small (show 1 ≤ 1000 by decide), fun W hW => ?_⟩
  have t1 := same_new hW (.lst [v])
  have g1 : (upd H W (.lst [v])) W = some (.lst [v]) := upd_same
  have tW := (sd_free hW hd).same t1
  generalize upd H W _ = H1 at *
  have no : ∀ {n : Nat} {L : List PyData} {G : Hp}, (TreeD kk d ↔ TsD kk n L) → ¬TsD kk n L → Same H G → Q (.bl false) G := fun hi hn sG => q false _ sG ⟨fun z => (nomatch z), fun z => (hn (hi.mp z)).elim⟩
  walk_at "go"
  refine while_of (fun σ H' => ∃ (vs : List V) (L : List PyData) (n : Nat) (o4 o5 : Option V), σ = [some (.int kk), some v, some (.ref W), some (.int (n : Int)), o4, o5] ∧ H' W = some (.lst vs) ∧ Sds W H' vs L ∧ n ≤ 20 ∧ vs.length ≤ n + 1 ∧ (TreeD kk d ↔ TsD kk n L) ∧ Same H H')
    (fun σ H' => match σ, H' W with | [_, _, _, some (.int n), _, _], some (.lst vs) => 2 * (20 - n.toNat) + vs.length | _, _ => 0)
    ⟨[v], [d], 0, _, _, rfl, g1, .cons tW .nil, by omega, by simp, ts_one.symm, t1⟩ ?_
  rintro σ H2 ⟨vs, L, n, o4, o5, rfl, g2, wt, hn, hvl, hiff, s2⟩
  walk_at "go"
  refine s_truL (SqL.of g2) ?_
  by_cases hv : vs = []
  · subst hv
    cases wt
    refine ifq rfl ?_
    walk_at "go"
    exact q true H2 s2 ⟨fun _ => hiff.mpr ⟨[], rfl, fun t h => (nomatch h), by simp [szs]; omega⟩, fun _ => rfl⟩
  obtain ⟨vs', v1, L', u, rfl, rfl, wt', tu⟩ := sds_last wt hv
  refine ifp (by simp) (wh_body ?_)
  have hvl' : vs'.length ≤ n := by simp at hvl; omega
  walk_at "go"
  refine ⟨.inl ⟨rfl, _, SqL.of g2⟩, ?_⟩
  walk_at "go"
  refine ⟨W, _, v1, rfl, rfl, g2, by simp, ?_⟩
  rw [List.dropLast_concat]
  have t3 : SameBut1 W H2 (upd H2 W (.lst vs')) := fun b o hb nb => by rw [upd_ne nb]; exact hb
  have g3 : (upd H2 W (.lst vs')) W = some (.lst vs') := upd_same
  have wt3 := wt'.keep t3
  have tu3 := tu.keep t3
  have s3 : Same H (upd H2 W (.lst vs')) := fun b o hb => t3 _ _ (s2 _ _ hb) (ne_of_none hb hW)
  generalize upd H2 W _ = H3 at *
  walk_at "go"
  refine s_isL tu3 ?_
  walk_at "go"
  cases hL : isL u with
  | false =>
    refine ifp rfl ?_
    walk_at "go"
    exact no hiff (ts_noL hL) s3
  | true =>
    obtain ⟨us, rfl⟩ : ∃ us, u = .list us := by cases u <;> first | exact ⟨_, rfl⟩ | cases hL
    obtain ⟨ta, tv, rfl, na, ga, kd⟩ := lstI tu3
    have hkl := (sds_get kd).1
    refine ifq rfl ?_
    walk_at "go"
    refine s_lenL (.inl (SqL.of ga)) ?_
    walk_at "go"
    refine ifd (fun hc => ?_) (fun hc => ?_)
    · walk_at "go"
      exact no hiff (ts_over (by rw [← hkl]; omega)) s3
    walk_at "go"
    refine ⟨ta, rfl, ⟨_, SqL.of ga⟩, ?_⟩
    refine for_lst (xs := tv) (fun i σ H' => ∃ (ws : List V) (o5 : Option V), σ = [some (.int kk), some v, some (.ref W), some (.int ((n : Int) + (tv.length : Int))), some (.ref ta), o5] ∧ H' W = some (.lst ws) ∧ Sds W H' ws (L' ++ (us.take i).map sec) ∧ SameBut1 W H3 H' ∧ ∀ x ∈ us.take i, isBr kk x = true) ⟨vs', _, rfl, g3, by simpa using wt3, SameBut1.refl _ _, fun x hx => by simp at hx⟩ (fun i σ H' _ ⟨ws, o5, _, _, _, sb, _⟩ => SqL.of (sb _ _ ga na)) ?_ ?_
    rotate_left
    · rintro σ H4 ⟨ws, o5', rfl, g4, wt4, s4, h4⟩
      rw [hkl, List.take_length] at wt4 h4
      have hwl := (sds_get wt4).1
      have hwl' := (sds_get wt').1
      rw [List.length_append, List.length_map, ← hwl', ← hkl] at hwl
      refine ⟨⟨ws, _, n + tv.length, _, _, by rw [Int.natCast_add], g4, wt4, by omega, by omega, by rw [hkl, ← ts_step k1 h4]; exact hiff, fun b o hb => s4 _ _ (s3 _ _ hb) (ne_of_none hb hW)⟩, ?_⟩
      simp only [g4, g2, List.length_append, List.length_singleton]
      omega
    rintro i x σ H4 hx ⟨ws, o5', rfl, g4, wt4, s4, h4⟩
    have hm : i < us.length := by rw [← hkl]; exact (List.getElem?_eq_some_iff.mp hx).1
    obtain ⟨y, hy⟩ : ∃ y, us[i]? = some y := ⟨_, List.getElem?_eq_getElem hm⟩
    obtain ⟨x', e1, dy⟩ := (sds_get kd).2 i y hy
    rw [hx] at e1
    cases e1
    have hmem := List.mem_of_getElem? hy
    have dy4 := dy.keep s4
    walk_at "go"
    refine ⟨kk, x, W, y, rfl, dy4, fun H5 s5 => ?_⟩
    walk_at "go"
    have s05 : Same H H5 := fun b o hb => s5 _ _ (s4 _ _ (s3 _ _ hb) (ne_of_none hb hW))
    have hwl := (sds_get wt4).1
    have hwl' := (sds_get wt').1
    rw [List.length_append, List.length_map, List.length_take, ← hwl'] at hwl
    cases hB : isBr kk y with
    | false =>
      refine ifp rfl ?_
      walk_at "go"
      exact no hiff (ts_noB hmem hB) s05
    | true =>
      obtain ⟨c, z, rfl, hc2⟩ := br_inv hB
      obtain ⟨T6, xs6, rfl, n6, g6, r6⟩ := tupI (dy4.same s5)
      obtain ⟨u6, w6, rfl, d6, e6⟩ := sds2 r6
      refine ifq rfl ?_
      walk_at "go"
      have g5 := s5 _ _ g4
      refine ⟨.inl ⟨rfl, _, SqL.of g5⟩, ?_⟩
      walk_at "go"
      refine s_ixU (SqT.of g6) (show atI _ (1 : Int) = some w6 from rfl) ?_
      walk_at "go"
      refine ⟨W, _, _, rfl, rfl, g5, small1000 (by omega), ?_⟩
      have t6 : SameBut1 W H5 (upd H5 W (.lst (ws ++ [w6]))) := fun b o hb nb => by rw [upd_ne nb]; exact hb
      have s46 : SameBut1 W H4 (upd H5 W (.lst (ws ++ [w6]))) := fun b o hb nb => t6 _ _ (s5 _ _ hb) nb
      refine ⟨_, _, rfl, upd_same, ?_, s4.trans s46, fun x hx => ?_⟩
      · rw [List.take_add_one, hy, List.map_append, ← List.append_assoc]
        exact sds_snoc (e6.keep t6) (wt4.keep s46)
      · rw [List.take_add_one, hy, List.mem_append] at hx
        rcases hx with z | z
        · exact h4 x z
        · simp at z
          subst z
          exact hB

theorem sc_law_pool : FnScope ["script", "k", "cell"] ["script", "k"] (defScope d_law_pool) := ⟨rfl, rfl, rfl, by decide +kernel, rfl, by decide +kernel, by decide +kernel⟩
theorem ok_law_pool (F : Fun K "_law_pool" "_law_pool" d_law_pool f fd) (T : Txt K mg aK)  : FnOk P w K mg base CX0 (k + 1) f fd ["script", "k"] (spPool K) := by
  refine F.ok sc_law_pool (fun vs H Q E h => ?_) (fun cdv A outer s H vs Q E hr h => ?_)
  · obtain ⟨a, ns, k, rfl, _⟩ := h; rfl
  obtain ⟨a, ns, k, rfl, hS, h63, h0, hk, q⟩ := h
  have hu := hr.units0
  have fin : ∀ cell : Int, (tSeq (tIfS (tTest (tOp (rI0 fun i j => V.bl (decide (j ≤ i))) (tVar 2) (tOp (rI CPow fun i j => V.int (i ^ j.toNat)) (tC (V.int 10)) (tC (V.int 18)))))
      (tRet (tLst (tCons (tOp (rI0 fun i j => V.int (i - j)) (tVar 2) (tOp (rI CPow fun i j => V.int (i ^ j.toNat)) (tC (V.int 10)) (tC (V.int 18)))) (tCons (tC (V.int 1)) (tCons (tC (V.int 0)) tNil))))) tNext)
      (tRet (tLst (tCons (tVar 2) (tCons (tC (V.int 0)) (tCons (tOp rTimes (tC (V.int 73)) (tVar 1)) tNil)))))) { nx := fun _ H' => Q .non H', rt := Q } [some (.ref a), some (.int k), some (.int cell)] H := by
    intro cell
    walk_at "go"
    refine ifd (fun c => ?_) (fun c => ?_)
    · walk_at "go"
      refine ⟨small (show 3 ≤ 1000 by decide), fun p hp => ?_⟩
      exact q p _ hp (same_new hp _) (pool_new (by decide) (by decide))
    · walk_at "go"
      refine ⟨small (show 3 ≤ 1000 by decide), fun p hp => ?_⟩
      exact q p _ hp (same_new hp _) (pool_new (by omega) (by omega))
  refine ⟨_, (pss_cons (ps_set (i := 2) sc_law_pool.nd rfl (Or.inl rfl) pe_int)  (pss_cons (ps_if (pt_cmpR op_lt (pv 1) (pe_callB (call_lenA K) rfl T.n_len PySem.boot_len (pa_cons (pv 0) pa_nil)) (nomark _))   (pss_one (ps_set (i := 2) sc_law_pool.nd rfl (Or.inl rfl) (pe_ix (ix_A K) (pv 0) (pv 1) (fun _ _ => rfl))))   pss_nil)  (pss_cons (ps_if (pt_cmpR op_ge (pv 2) (pe_op op_pow pe_int pe_int) (nomark _))   (pss_one (ps_ret (pe_lst (pa_cons (pe_op op_sub (pv 2) (pe_op op_pow pe_int pe_int)) (pa_cons pe_int (pa_cons pe_int pa_nil))))))   pss_nil)  (pss_one (ps_ret (pe_lst (pa_cons (pv 2) (pa_cons pe_int (pa_cons (pe_op op_times pe_int (pv 1)) pa_nil))))))))), ?_⟩
  walk_at "go"
  refine s_lenL (.inl hS) ?_
  walk_at "go"
  refine ifd (fun c => ?_) (fun c => ?_)
  · rw [List.length_map] at c
    obtain ⟨v, hv⟩ := atI_ints (ns := ns) h0 c
    walk_at "go"
    refine s_ixL hS hv ?_
    walk_at "st"
    exact fin v
  · walk_at "st"
    exact fin 0

theorem sc_law_take : FnScope ["pool", "many", "found", "step", "mark"] ["pool", "many"] (defScope d_law_take) := ⟨rfl, rfl, rfl, by decide +kernel, rfl, by decide +kernel, by decide +kernel⟩
theorem ok_law_take (F : Fun K "_law_take" "_law_take" d_law_take f fd) (T : Txt K mg aK)  : FnOk P w K mg base CX0 (k + 1) f fd ["pool", "many"] (spTake) := by
  refine F.ok sc_law_take (fun vs H Q E h => ?_) (fun cdv A outer s H vs Q E hr h => ?_)
  · obtain ⟨p, n, m, rfl, _⟩ := h; rfl
  obtain ⟨p, n, m, rfl, ⟨a, b, c, hp, h0, hc⟩, hn, hm0, hm1, q⟩ := h
  have hu := hr.units0
  have hS : SqL K H p [.int a, .int b, .int c] := SqL.of hp
  refine ⟨_, (pss_cons (ps_if (pt_cmpR (op_eqA K hu) (pe_ix (ix_A K) (pv 0) pe_int (fun _ _ => rfl)) pe_int (nomark _))   (pss_cons (ps_set (i := 2) sc_law_take.nd rfl (Or.inl rfl) (pe_op op_mod (pe_ix (ix_A K) (pv 0) pe_int (fun _ _ => rfl)) (pv 1)))  (pss_cons (ps_asg (pe_op op_fdiv (pe_ix (ix_A K) (pv 0) pe_int (fun _ _ => rfl)) (pv 1)) (pg_sub (pv 0) pe_int set_list))  (pss_one (ps_ret (pv 2)))))   pss_nil)  (pss_cons (ps_asg (pe_op op_plus (pe_ix (ix_A K) (pv 0) pe_int (fun _ _ => rfl)) pe_int) (pg_sub (pv 0) pe_int set_list))  (pss_cons (ps_set (i := 3) sc_law_take.nd rfl (Or.inl rfl) (pe_ix (ix_A K) (pv 0) pe_int (fun _ _ => rfl)))  (pss_cons (ps_set (i := 4) sc_law_take.nd rfl (Or.inl rfl) (pe_op op_times (pe_op op_plus (pe_op op_mod (pe_ix (ix_A K) (pv 0) pe_int (fun _ _ => rfl)) pe_int) pe_int) (pe_op op_plus (pe_op op_times pe_int (pv 3)) pe_int)))  (pss_cons (ps_set (i := 4) sc_law_take.nd rfl (Or.inl rfl) (pe_op op_plus (pv 4) (pe_op op_times (pe_op op_times pe_int (pv 3)) (pv 3))))  (pss_cons (ps_set (i := 4) sc_law_take.nd rfl (Or.inl rfl) (pe_op op_mod (pe_op op_times (pv 4) (pv 4)) pe_int))  (pss_one (ps_ret (pe_op op_mod (pe_op op_fdiv (pe_op op_mod (pe_op op_times (pv 4) (pe_op op_plus (pv 4) pe_int)) pe_int) pe_int) (pv 1)))))))))), ?_⟩
  walk_at "go"
  refine ifd (fun hb => ?_) (fun hb => ?_)
  · walk_at "go"
    refine s_setL hp (j := 0) rfl ?_
    walk_at "go"
    exact q _ _ (Int.emod_nonneg _ (by omega)) (Int.emod_lt_of_pos _ hm0) ⟨_, _, c, upd_same, h0, by omega⟩ SameBut1.upd
  · walk_at "go"
    refine s_setL hp (j := 2) rfl ?_
    have hS2 : SqL K (upd H p (.lst [.int a, .int b, .int (c + 1)])) p [.int a, .int b, .int (c + 1)] := SqL.of upd_same
    have hx := Int.emod_nonneg a (show (9999999379 : Int) ≠ 0 by decide)
    have hx' := Int.emod_lt_of_pos a (show (0 : Int) < 9999999379 by decide)
    walk_at "go"
    have hxy : 0 ≤ (a % 9999999379 + 1049) * (67 * (c + 1) + 101) := Int.mul_nonneg (by omega) (by omega)
    have hxy' : (a % 9999999379 + 1049) * (67 * (c + 1) + 101) ≤ 10000000428 * 67000168 := Int.mul_le_mul (by omega) (by omega) (by omega) (by omega)
    have hss : 0 ≤ 3623 * (c + 1) * (c + 1) := Int.mul_nonneg (by omega) (by omega)
    have hss' : 3623 * (c + 1) * (c + 1) ≤ 3623003623 * 1000001 := Int.mul_le_mul (by omega) (by omega) (by omega) (by omega)
    generalize (a % 9999999379 + 1049) * (67 * (c + 1) + 101) = x1 at *
    generalize 3623 * (c + 1) * (c + 1) = x2 at *
    refine s_mulI (.inl ⟨by omega, by omega⟩) ?_
    have hy := Int.emod_nonneg ((x1 + x2) * (x1 + x2)) (show (99999999529 : Int) ≠ 0 by decide)
    have hy' := Int.emod_lt_of_pos ((x1 + x2) * (x1 + x2)) (show (0 : Int) < 99999999529 by decide)
    walk_at "go"
    refine q _ _ (Int.emod_nonneg _ (by omega)) (Int.emod_lt_of_pos _ hm0) ⟨_, _, c + 1, upd_same, by omega, by omega⟩ SameBut1.upd

theorem sc_law_tree : FnScope ["pool", "k", "most", "left", "way", "found", "every", "turn", "at", "within"] ["pool", "k", "most"] (defScope d_law_tree) := ⟨rfl, rfl, rfl, by decide +kernel, rfl, by decide +kernel, by decide +kernel⟩
theorem ok_law_tree (F : Fun K "_law_tree" "_law_tree" d_law_tree f fd) (T : Txt K mg aK) (U_law_take : FnU P w K mg base k "_law_take" ["pool", "many"] (spTake)) : FnOk P w K mg base CX0 (k + 1) f fd ["pool", "k", "most"] (spMkB) := by
  refine F.ok sc_law_tree (fun vs H Q E h => ?_) (fun cdv A outer s H vs Q E hr h => ?_)
  · obtain ⟨p, n, k, rfl, _⟩ := h; rfl
  obtain ⟨p, n, kk, rfl, hp, hn, k1, k4, q⟩ := h
  have hu := hr.units0
  have hp0 : H p ≠ none := by obtain ⟨a, b, c, e, _⟩ := hp; rw [e]; simp
  refine ⟨_, (pss_cons (ps_set (i := 3) sc_law_tree.nd rfl (Or.inl rfl) (pe_ix (ix_A K) (pe_lst (pa_cons (pe_fn U_law_take hr (pa_cons (pv 0) (pa_cons (pe_op op_plus (pv 2) pe_int) pa_nil))) (pa_cons (pe_fn U_law_take hr (pa_cons (pv 0) (pa_cons (pe_op op_plus (pe_callB (call_minA rfl) rfl T.n_min PyProof.Rows.boot_min (pa_cons (pv 2) (pa_cons pe_int pa_nil))) pe_int) pa_nil))) (pa_cons (pv 2) pa_nil)))) (pe_fn U_law_take hr (pa_cons (pv 0) (pa_cons pe_int pa_nil))) (fun _ _ => rfl)))  (pss_cons (ps_set (i := 4) sc_law_tree.nd rfl (Or.inl rfl) (pe_fn U_law_take hr (pa_cons (pv 0) (pa_cons pe_int pa_nil))))  (pss_cons (ps_set (i := 5) sc_law_tree.nd rfl (Or.inl rfl) (pe_lst pa_nil))  (pss_cons (ps_set (i := 6) sc_law_tree.nd rfl (Or.inl rfl) (pe_lst (pa_cons (pv 5) pa_nil)))  (pss_cons (ps_for PassesOwn.never rfl (pi_range1 rfl T.n_range (pa_cons (pv 3) pa_nil)) (pg_name (i := 7) sc_law_tree.nd rfl (Or.inl rfl))   (pss_cons (ps_set (i := 8) sc_law_tree.nd rfl (Or.inl rfl) (pe_ix (ix_A K) (pe_lst (pa_cons pe_int (pa_cons (pe_op op_sub (pe_callB (call_lenA K) rfl T.n_len PySem.boot_len (pa_cons (pv 6) pa_nil)) pe_int) (pa_cons (pe_fn U_law_take hr (pa_cons (pv 0) (pa_cons (pe_callB (call_lenA K) rfl T.n_len PySem.boot_len (pa_cons (pv 6) pa_nil)) pa_nil))) (pa_cons (pe_fn U_law_take hr (pa_cons (pv 0) (pa_cons (pe_callB (call_minA rfl) rfl T.n_min PyProof.Rows.boot_min (pa_cons pe_int (pa_cons (pe_callB (call_lenA K) rfl T.n_len PySem.boot_len (pa_cons (pv 6) pa_nil)) pa_nil))) pa_nil))) pa_nil))))) (pv 4) (fun _ _ => rfl)))  (pss_cons (ps_set (i := 9) sc_law_tree.nd rfl (Or.inl rfl) (pe_lst pa_nil))  (pss_cons (ps_expr (pe_bmK K PySem.F.plainAttrs_list PySem.F.slot_list_append PySem.F.type_list_append mt_append (pe_ix (ix_A K) (pv 6) (pv 8) (fun _ _ => rfl)) (pa_cons (pe_tup (pa_cons (pe_fn U_law_take hr (pa_cons (pv 0) (pa_cons (pv 1) pa_nil))) (pa_cons (pv 9) pa_nil))) pa_nil)))  (pss_one (ps_expr (pe_bmK K PySem.F.plainAttrs_list PySem.F.slot_list_append PySem.F.type_list_append mt_append (pv 6) (pa_cons (pv 9) pa_nil))))))))  (pss_one (ps_ret (pv 5)))))))), ?_⟩
  walk_at "go"
  refine take_use hp (by omega) (by omega) (by omega) (fun r1 H1 a1 b1 p1 s1 => ?_)
  walk_at "go"
  rw [show (if (4 : Int) < 20 then (4 : Int) else 20) = 4 from rfl]
  refine take_use p1 (by omega) (by omega) (by omega) (fun r2 H2 a2 b2 p2 s2 => ?_)
  walk_at "go"
  refine ⟨small (show 3 ≤ 1000 by decide), fun z1 hz1 => ?_⟩
  have t3 := same_new hz1 (.lst [.int r1, .int r2, .int 20])
  have g3 : (upd H2 z1 (.lst [.int r1, .int r2, .int 20])) z1 = _ := upd_same
  have nz1 : z1 ≠ p := fun z => by obtain ⟨a, b, c, e, _⟩ := p2; rw [z, e] at hz1; cases hz1
  have p3 := p2.same t3
  have s03 := (s1.trans s2).trans (SameBut1.of t3)
  generalize upd H2 z1 _ = H3 at *
  walk_at "go"
  refine take_use p3 (by omega) (by omega) (by omega) (fun r4 H4 a4 b4 p4 s4 => ?_)
  have s04 := s03.trans s4
  walk_at "go"
  obtain ⟨lf, elf, hlf⟩ := pick3 (a := r1) (b := r2) (c := 20) (m := 20) a4 b4 ⟨a1, by omega⟩ ⟨a2, by omega⟩ ⟨by omega, by omega⟩
  refine s_ixL (SqL.of (s4 _ _ g3 nz1)) elf ?_
  walk_at "go"
  refine take_use p4 (by omega) (by omega) (by omega) (fun way H5 a5 b5 p5 s5 => ?_)
  have s05 := s04.trans s5
  walk_at "go"
  refine ⟨small (show 0 ≤ 1000 by decide), fun a ha => ?_⟩
  have t6 := same_new ha (.lst [])
  have g6 : (upd H5 a (.lst [])) a = some (.lst []) := upd_same
  have na : a ≠ p := fun z => by obtain ⟨a, b, c, e, _⟩ := p5; rw [z, e] at ha; cases ha
  have fr : ∀ {G : Hp} {x : Addr}, SameBut1 p H G → x ≠ p → G x = none → H x = none := fun {G x} s nx hx => by
    cases e : H x with
    | none => rfl
    | some o => rw [s _ _ e nx] at hx; cases hx
  have ha0 := fr s05 na ha
  have p6 := p5.same t6
  have s06 := s05.trans (SameBut1.of t6)
  generalize upd H5 a _ = H6 at *
  walk_at "go"
  refine ⟨small (show 1 ≤ 1000 by decide), fun Ev hEv => ?_⟩
  have t7 := same_new hEv (.lst [.ref a])
  have g7 : (upd H6 Ev (.lst [.ref a])) Ev = some (.lst [.ref a]) := upd_same
  have nE : Ev ≠ p := fun z => by obtain ⟨a, b, c, e, _⟩ := p6; rw [z, e] at hEv; cases hEv
  have nEa : Ev ≠ a := fun z => by rw [z, g6] at hEv; cases hEv
  have hE0 := fr s06 nE hEv
  have p7 := p6.same t7
  have s07 := s06.trans (SameBut1.of t7)
  have g67 := t7 _ _ g6
  generalize upd H6 Ev _ = H7 at *
  clear t3 g3 t6 g6 t7 p3 p4 p5 p6 p1 p2 s1 s2 s4 s5 s03 s04 s05 s06 elf
  walk_at "go"
  refine ⟨_, rfl, by omega, by omega, ?_⟩
  rw [Int.toNat_natCast]
  refine for_rng (fun i σ H' => ∃ (A' L : List Addr) (vs : List V) (t : Tr) (o7 o8 o9 : Option V), σ = [some (.ref p), some (.int kk), some (.int 20), some (.int (lf : Int)), some (.int way), some (.ref a), some (.ref Ev), o7, o8, o9] ∧ PoolAt H' p (n + 4 + 3 * i) ∧ SameBut1 p H H' ∧ H' Ev = some (.lst (L.map V.ref)) ∧ L.length = i + 1 ∧ (∀ y ∈ L, y ∈ a :: A') ∧ H' a = some (.lst vs) ∧ LayK H H' A' vs t ∧ (a :: A').Nodup ∧ Ev ∉ a :: A' ∧ t.sz = i ∧ t.gr < kk.toNat)
    ⟨[], [a], [], .nil, _, _, _, rfl, p7, s07, g7, rfl, fun y hy => hy, g67, ⟨rfl, rfl⟩, by simp, by simpa using nEa, rfl, by simp only [Tr.gr]; omega⟩ ?_ ?_
  rotate_left
  · rintro σ H8 ⟨A', L, vs, t, o7, o8, o9, rfl, p8, s8, gE, hL, hm, gA, lay, nd, nEv, hsz, hgr⟩
    walk_at "go"
    exact q a t H8 (by omega) hgr ha0 (p8.mono (by omega)) s8 fun x ⟨o, hx⟩ => Kd.close gA (fun z => by rw [z, hx] at ha0; cases ha0) (lay.kd (by rw [hx]; simp))
  rintro i σ H8 hi ⟨A', L, vs, t, o7, o8, o9, rfl, p8, s8, gE, hL, hm, gA, lay, nd, nEv, hsz, hgr⟩
  have hLm : (L.map V.ref).length = i + 1 := by rw [List.length_map, hL]
  walk_at "go"
  refine s_lenL (.inl (SqL.of gE)) ?_
  rw [hLm]
  walk_at "go"
  refine s_lenL (.inl (SqL.of gE)) ?_
  rw [hLm]
  walk_at "go"
  refine take_use p8 (by omega) (by omega) (by omega) (fun r9 H9 a9 b9 p9 s9 => ?_)
  have gE9 := s9 _ _ gE nE
  walk_at "go"
  refine s_lenL (.inl (SqL.of gE9)) ?_
  rw [hLm]
  walk_at "go"
  refine take_use p9 (by omega) (by split <;> omega) (by split <;> omega) (fun r10 H10 a10 b10 p10 s10 => ?_)
  have b10' : r10 ≤ (i : Int) := by split at b10 <;> omega
  walk_at "go"
  refine ⟨small (show 4 ≤ 1000 by decide), fun z2 hz2 => ?_⟩
  have t11 := same_new hz2 (.lst [.int 0, .int (((i + 1 : Nat) : Int) - 1), .int r9, .int r10])
  have g11 : (upd H10 z2 (.lst [.int 0, .int (((i + 1 : Nat) : Int) - 1), .int r9, .int r10])) z2 = _ := upd_same
  have s11 : SameBut1 p H8 (upd H10 z2 (.lst [.int 0, .int (((i + 1 : Nat) : Int) - 1), .int r9, .int r10])) := (s9.trans s10).trans (SameBut1.of t11)
  have p11 := p10.same t11
  generalize upd H10 z2 _ = H11 at *
  obtain ⟨at', eat, hat⟩ := pick4 (a := 0) (b := ((i + 1 : Nat) : Int) - 1) (c := r9) (d := r10) (m := (i : Int)) a5 b5 ⟨by omega, by omega⟩ ⟨by omega, by omega⟩ ⟨a9, by omega⟩ ⟨a10, b10'⟩
  have s011 := s8.trans s11
  have gE11 := s11 _ _ gE nE
  have gA11 := s11 _ _ gA na
  obtain ⟨q1, q2, q3, gp8, _⟩ := p8
  have lay11 := lay.keep hp0 gp8 s11
  obtain ⟨x, hxL⟩ : ∃ x, L[at']? = some x := ⟨_, List.getElem?_eq_getElem (by omega)⟩
  have hx := List.mem_of_getElem? hxL
  obtain ⟨us, gx11, husl, nx⟩ : ∃ us, H11 x = some (.lst us) ∧ us.length ≤ 20 ∧ x ≠ p := by
    rcases List.mem_cons.mp (hm x hx) with e | e
    · have := lay.len.2
      have := kids_len t
      exact ⟨vs, e ▸ gA11, by omega, e ▸ na⟩
    · obtain ⟨n0, ws, g, l⟩ := lay11.lst x e
      exact ⟨ws, g, by omega, fun z => hp0 (z ▸ n0)⟩
  walk_at "go"
  refine s_ixL (SqL.of g11) eat ?_
  walk_at "go"
  refine ⟨small (show 0 ≤ 1000 by decide), fun w hw => ?_⟩
  have t12 := same_new hw (.lst [])
  have g12 : (upd H11 w (.lst [])) w = some (.lst []) := upd_same
  have nw : w ≠ p := fun z => by obtain ⟨a, b, c, e, _⟩ := p11; rw [z, e] at hw; cases hw
  have hw0 := fr s011 nw hw
  have p12 := p11.same t12
  generalize upd H11 w _ = H12 at *
  walk_at "go"
  refine s_ixL (SqL.of (t12 _ _ gE11)) (atI_nat (show (L.map V.ref)[at']? = some (.ref x) by rw [List.getElem?_map, hxL]; rfl)) ?_
  walk_at "go"
  refine ⟨.inl ⟨rfl, _, SqL.of (t12 _ _ gx11)⟩, ?_⟩
  walk_at "go"
  refine take_use p12 (by omega) (by omega) (by omega) (fun r13 H13 a13 b13 p13 s13 => ?_)
  obtain ⟨c, rfl⟩ : ∃ c : Nat, r13 = (c : Int) := ⟨r13.toNat, by omega⟩
  walk_at "go"
  refine ⟨small (show 2 ≤ 1000 by decide), fun Tq hTq => ?_⟩
  have t14 := same_new hTq (.tup [.int (c : Int), .ref w])
  have g14 : (upd H13 Tq (.tup [.int (c : Int), .ref w])) Tq = _ := upd_same
  have nTq : Tq ≠ p := fun z => by obtain ⟨a, b, c, e, _⟩ := p13; rw [z, e] at hTq; cases hTq
  have hT0 := fr (s011.trans ((SameBut1.of t12).trans s13)) nTq hTq
  have s14 : SameBut1 p H11 (upd H13 Tq (.tup [.int (c : Int), .ref w])) := ((SameBut1.of t12).trans s13).trans (SameBut1.of t14)
  have gw14 := t14 _ _ (s13 _ _ g12 nw)
  have p14 := p13.same t14
  generalize upd H13 Tq _ = H14 at *
  have gx14 := s14 _ _ gx11 nx
  have gE14 := s14 _ _ gE11 nE
  have hxE : Ev ≠ x := fun z => nEv (z ▸ hm x hx)
  obtain ⟨l1, l2, l3, gp11, hp11⟩ := p11
  obtain ⟨A2, vs2, t2, y1, y2, y3, y4, y5, y6, y7⟩ := grow hp0 gp11 gE11 hm gA11 lay11 nd nEv ha0 hE0 hw hw0 hT0 s14 g14 gw14 hx gx14 (show c < kk.toNat by omega) hgr
  walk_at "go"
  refine ⟨x, us, _, rfl, rfl, gx14, small1000 (by omega), ?_⟩
  have gE15 : (upd H14 x (.lst (us ++ [.ref Tq]))) Ev = some (.lst (L.map V.ref)) := by rw [upd_ne hxE]; exact gE14
  walk_at "go"
  refine ⟨.inl ⟨rfl, _, SqL.of gE15⟩, ?_⟩
  walk_at "go"
  refine ⟨Ev, _, _, rfl, rfl, gE15, small1000 (by omega), ?_⟩
  have sb : ∀ {G : Hp} {b : Addr} {o : HO}, b ≠ p → H b = none → SameBut1 p H G → SameBut1 p H (upd G b o) := fun {G b o} nb hb s y oy hy ny => by rw [upd_ne (ne_of_none hy hb)]; exact s _ _ hy ny
  have pk : ∀ {G : Hp} {b : Addr} {o : HO} {m : Nat}, b ≠ p → PoolAt G p m → PoolAt (upd G b o) p m := fun {G b o m} nb ⟨x1, x2, x3, e, h⟩ => ⟨x1, x2, x3, by rw [upd_ne nb.symm]; exact e, h⟩
  have hx0 : H x = none := by
    rcases List.mem_cons.mp (hm x hx) with e | e
    · rw [e]; exact ha0
    · exact (lay11.lst x e).1
  refine ⟨A2, L ++ [w], vs2, t2, _, _, _, rfl, (pk nE (pk nx p14)).mono (by omega), sb nE hE0 (sb nx hx0 (s011.trans s14)), by rw [upd_same, List.map_append]; rfl, by rw [List.length_append, hL]; rfl, y7, y1, y2, y3, y4, by omega, y6⟩

theorem sc_law_copy : FnScope ["tree"] ["tree"] (defScope d_law_copy) := ⟨rfl, rfl, rfl, by decide +kernel, rfl, by decide +kernel, by decide +kernel⟩
theorem ok_law_copy (n : Nat) (F : Fun K "_law_copy" "_law_copy" d_law_copy f fd) (T : Txt K mg aK)  (U_law_copy : FnU P w K mg base k "_law_copy" ["tree"] (recSp gCopy n)) : FnOk P w K mg base CX0 (k + 1) f fd ["tree"] (gCopy n) := by
  refine F.ok sc_law_copy (fun vs H Q E h => ?_) (fun cdv A outer s H vs Q E hr h => ?_)
  · obtain ⟨v, p, t, rfl, _⟩ := h; rfl
  obtain ⟨v, p, t, rfl, ti, q⟩ := h
  obtain ⟨ta, tv, rfl, na, ga, kd⟩ := ti.2.1.open
  have hkl : t.kids.length ≤ 20 := Nat.le_trans (kids_len t) ti.2.2.1
  refine ⟨_, (pss_one (ps_ret (pe_comp (own := ["kind", "within"]) (sel := []) (compOk_of (osc := (defScope d_law_copy)) (N := ["tree"]) (by decide +kernel)) rfl (pi_listK K (pv 0)) (fun _ _ _ _ _ => (pg_tupK (n := 2) K rfl (pgs_cons (pg_name (i := 0) (show (["kind", "within"] : List Str).Nodup from by decide +kernel) rfl (Or.inl rfl)) (pgs_cons (pg_name (i := 1) (show (["kind", "within"] : List Str).Nodup from by decide +kernel) rfl (Or.inl rfl)) pgs_nil)))) (gk_tup (gk_cons gm_name (gm_cons gm_name gm_nil) (gk_name (by decide)) (gk_cons gm_name gm_nil (gk_name (by decide)) gk_nil))) (fun _ _ _ _ _ => pif_nil) (fun _ _ _ _ _ => (pe_tup (pa_cons (pv 0) (pa_cons (pe_fn U_law_copy hr (pa_cons (pv 1) pa_nil)) pa_nil))))))), ?_⟩
  walk_at "go"
  refine ⟨ta, rfl, ⟨_, SqL.of ga⟩, ?_⟩
  refine compL (xs := tv) (fun D i ys H' => Same H H' ∧ Kn H D H' ys (t.kids.take i)) (fun D i ys H' h => h.1 _ _ ga) (fun D hD => ⟨same_new hD _, kn_nil _ _ _⟩) (fun D ys H6 hD hy ⟨s6, h1⟩ => ?_) ?_
  · rw [kd.1, List.take_length] at h1
    exact q D H6 hD s6 fun p ⟨o, hp⟩ => Kd.close hy (fun z => by rw [z, hp] at hD; cases hD) (h1.2 p ⟨o, hp⟩)
  rintro D i x ys H4 hD hx hi hy hyl ⟨s4, hkd⟩
  have hm : i < t.kids.length := by rw [← kd.1]; exact hi
  obtain ⟨y, hyk⟩ : ∃ y, t.kids[i]? = some y := ⟨_, List.getElem?_eq_getElem hm⟩
  obtain ⟨T, b, e1, nT, gT, tb⟩ := kd.2 i y hyk
  rw [hx] at e1
  cases e1
  have hmem := List.mem_of_getElem? hyk
  obtain ⟨n', rfl⟩ := ti.pos hmem
  walk_at "go"
  refine ⟨T, _, rfl, SqT.of (s4 _ _ gT), rfl, ?_⟩
  walk_at "go"
  refine ifp rfl ?_
  walk_at "go"
  refine ⟨.ref b, p, y.2, rfl, ti.kid hmem s4 (tb.same s4), fun D2 H5 hD2 s5 tD2 => ?_⟩
  walk_at "go"
  refine ⟨small (show 2 ≤ 1000 by decide), fun T2 hT2 => ?_⟩
  have t6 := same_new hT2 (.tup [.int (y.1 : Int), .ref D2])
  have g6 : (upd H5 T2 (.tup [.int (y.1 : Int), .ref D2])) T2 = _ := upd_same
  have s46 := s5.trans t6
  have hy6 := s46 _ _ hy
  have tD6 : ∀ p, (∃ o, H4 p = some o) → TrH p _ (.ref D2) y.2 := fun p hp => (tD2 p hp).same t6
  have hT4 : H4 T2 = none := free_of s5 hT2
  generalize upd H5 T2 _ = H6 at *
  refine ⟨ys, hy6, by rw [sizeLine_eq]; omega, tv.length - (i + 1), by omega, rfl, by omega, _, upd_same, by rw [List.length_append, List.length_singleton]; omega, fun z o hz => by rw [upd_ne (ne_of_none hz hD)]; exact s46 _ _ (s4 _ _ hz), ?_⟩
  rw [List.take_add_one, hyk]
  exact hkd.more s4 s46 (fun b o hb nb => by rw [upd_ne nb]; exact hb) hT4 ⟨_, hy⟩ g6 tD6

theorem sc_law_count : FnScope ["k", "thing", "many", "one"] ["k", "thing"] (defScope d_law_count) := ⟨rfl, rfl, rfl, by decide +kernel, rfl, by decide +kernel, by decide +kernel⟩
theorem ok_law_count (n : Nat) (F : Fun K "_law_count" "_law_count" d_law_count f fd) (T : Txt K mg aK)  (U_law_count : FnU P w K mg base k "_law_count" ["k", "thing"] (recSp gCountD n)) : FnOk P w K mg base CX0 (k + 1) f fd ["k", "thing"] (gCountD n) := by
  refine F.ok sc_law_count (fun vs H Q E h => ?_) (fun cdv A outer s H vs Q E hr h => ?_)
  · obtain ⟨kk, v, p, d, rfl, _⟩ := h; rfl
  obtain ⟨kk, v, p, d, rfl, k1, k4, hd, hdp, q⟩ := h
  have hu := hr.units0
  have no : ∀ {G : Hp}, ¬TreeD kk d → Same H G → Q (.int 99) G := fun hn sG => q 99 _ sG (.inr ⟨by omega, hn⟩)
  refine ⟨_, (pss_cons (ps_if (pt_not (pt_tru K (pe_callB (call_isiA K) rfl T.n_isinstance PyProof.Rows.boot_isinstance (pa_cons (pv 1) (pa_cons (pe_ty T.n_list PyProof.Rows.boot_list) pa_nil)))))   (pss_one (ps_ret pe_int))   pss_nil)  (pss_cons (ps_set (i := 2) sc_law_count.nd rfl (Or.inl rfl) pe_int)  (pss_cons (ps_for PassesOwn.never rfl (pi_listK K (pv 1)) (pg_name (i := 3) sc_law_count.nd rfl (Or.inl rfl))   (pss_cons (ps_if (PW.pt (pw_or (pt_not (pt_tru K (pe_callB (call_isiA K) rfl T.n_isinstance PyProof.Rows.boot_isinstance (pa_cons (pv 3) (pa_cons (pe_ty T.n_tuple PyProof.Rows.boot_tuple) pa_nil))))) (pw_or (pt_cmpR (op_neA K hu) (pe_callB (call_lenA K) rfl T.n_len PySem.boot_len (pa_cons (pv 3) pa_nil)) pe_int (nomark _)) (pw_or (pt_not (pt_tru K (pe_callB (call_isiA K) rfl T.n_isinstance PyProof.Rows.boot_isinstance (pa_cons (pe_ix (ix_A K) (pv 3) pe_int (fun _ _ => rfl)) (pa_cons (pe_ty T.n_int PyProof.Rows.boot_int) pa_nil))))) (pw_or1 (pt_tru K (pe_callB (call_isiA K) rfl T.n_isinstance PyProof.Rows.boot_isinstance (pa_cons (pe_ix (ix_A K) (pv 3) pe_int (fun _ _ => rfl)) (pa_cons (pe_ty T.n_bool PyProof.Rows.boot_bool) pa_nil)))))))))   (pss_one (ps_ret pe_int))   pss_nil)  (pss_cons (ps_if (PW.pt (pw_or (pt_not (pt_chain op_le op_lt pe_int (pe_ix (ix_A K) (pv 3) pe_int (fun _ _ => rfl)) (pv 0))) (pw_or1 (pt_cmpR op_gt (pv 2) pe_int (nomark _)))))   (pss_one (ps_ret pe_int))   pss_nil)  (pss_one (ps_set (i := 2) sc_law_count.nd rfl (Or.inl rfl) (pe_op op_plus (pe_op op_plus (pv 2) pe_int) (pe_fn U_law_count hr (pa_cons (pv 0) (pa_cons (pe_ix (ix_A K) (pv 3) pe_int (fun _ _ => rfl)) pa_nil)))))))))  (pss_one (ps_ret (pv 2)))))), ?_⟩
  walk_at "go"
  refine s_isL hd ?_
  walk_at "go"
  cases hL : isL d with
  | false =>
    refine ifp rfl ?_
    walk_at "go"
    exact no (fun ⟨t, e, _⟩ => by subst e; cases hL) (Same.refl _)
  | true =>
    obtain ⟨us, rfl⟩ : ∃ us, d = .list us := by cases d <;> first | exact ⟨_, rfl⟩ | cases hL
    obtain ⟨ta, tv, rfl, na, ga, kd⟩ := lstI hd
    have hkl := (sds_get kd).1
    refine ifq rfl ?_
    walk_at "go"
    refine ⟨ta, rfl, ⟨_, SqL.of ga⟩, ?_⟩
    refine for_lst (xs := tv) (fun i σ H' => ∃ (m : Int) (o3 : Option V), σ = [some (.int kk), some (.ref ta), some (.int m), o3] ∧ PreD kk us i m ∧ Same H H') ⟨0, _, rfl, pre0 k1 us, Same.refl _⟩ (fun i σ H' _ ⟨_, _, _, _, sH⟩ => SqL.of (sH _ _ ga)) ?_ ?_
    rotate_left
    · rintro σ H2 ⟨m, o3, rfl, pr, s2⟩
      rw [hkl] at pr
      walk_at "go"
      exact q m H2 s2 (pre_end pr)
    rintro i x σ H2 hx ⟨m, o3, rfl, pr, s2⟩
    have hm : i < us.length := by rw [← hkl]; exact (List.getElem?_eq_some_iff.mp hx).1
    obtain ⟨y, hy⟩ : ∃ y, us[i]? = some y := ⟨_, List.getElem?_eq_getElem hm⟩
    obtain ⟨x', e1, dy⟩ := (sds_get kd).2 i y hy
    rw [hx] at e1
    cases e1
    have hmem := List.mem_of_getElem? hy
    have dy2 := dy.same s2
    have bad : isBr kk y = false → Q (.int 99) H2 := fun hb => no (pre_bad hmem hb) s2
    walk_at "go"
    refine s_isU dy2 ?_
    walk_at "go"
    cases hU : isU y with
    | false =>
      refine ifp rfl ?_
      walk_at "go"
      exact bad (isBr_U hU)
    | true =>
      obtain ⟨ds, rfl⟩ : ∃ ds, y = .tuple ds := by cases y <;> first | exact ⟨_, rfl⟩ | cases hU
      obtain ⟨T1, xs, rfl, n1, g1, r1⟩ := tupI dy2
      have hl := (sds_get r1).1
      refine ifq rfl ?_
      walk_at "go"
      refine s_lenL (.inr (SqT.of g1)) ?_
      walk_at "go"
      by_cases h2 : ds.length = 2
      · match ds, h2, r1, hmem, hy, bad with
        | [a, z], _, r1, hmem, hy, bad =>
          obtain ⟨u, w', rfl, da, dz⟩ := sds2 r1
          refine ifq rfl ?_
          walk_at "go"
          refine s_ixU (SqT.of g1) (show atI _ (0 : Int) = some u from rfl) ?_
          walk_at "go"
          refine s_isI da ?_
          walk_at "go"
          cases hI : isI a with
          | false =>
            refine ifp rfl ?_
            walk_at "go"
            exact bad (isBr_N (by cases a <;> first | rfl | cases hI))
          | true =>
            refine ifq rfl ?_
            walk_at "go"
            refine s_ixU (SqT.of g1) (show atI _ (0 : Int) = some u from rfl) ?_
            walk_at "go"
            refine s_isB da ?_
            walk_at "go"
            cases hB : isB a with
            | true =>
              refine ifp rfl ?_
              walk_at "go"
              exact bad (isBr_N (by cases a <;> first | rfl | cases hB))
            | false =>
              obtain ⟨j, rfl⟩ : ∃ j, a = .int j := by cases a <;> first | exact ⟨_, rfl⟩ | (cases hI; done) | (cases hB; done)
              have := intI da
              subst this
              refine ifq rfl ?_
              walk_at "go"
              refine s_ixU (SqT.of g1) (show atI _ (0 : Int) = some (.int j) from rfl) ?_
              walk_at "go"
              refine ifd (fun h0 => ?_) (fun h0 => ?_)
              · walk_at "go"
                by_cases hj : j < kk
                · have hB2 : isBr kk (.tuple [.int j, z]) = true := by rw [isBr_I, decide_eq_true h0, decide_eq_true hj]; rfl
                  refine ifq (by rw [decide_eq_true hj]; rfl) ?_
                  walk_at "go"
                  refine ifd (fun hm2 => ?_) (fun hm2 => ?_)
                  · walk_at "go"
                    exact no (pre_over pr (by omega)) s2
                  · walk_at "go"
                    refine s_ixU (SqT.of g1) (show atI _ (1 : Int) = some w' from rfl) ?_
                    walk_at "go"
                    have hdz := depth_sec hmem rfl hdp
                    obtain ⟨n', rfl⟩ : ∃ n', n = n' + 1 := ⟨n - 1, by omega⟩
                    refine ⟨kk, w', p, z, rfl, k1, k4, dz, by omega, fun c H3 s3 hc => ?_⟩
                    walk_at "go"
                    exact ⟨_, _, rfl, pre_step pr hy hB2 (by omega) hc, s2.trans s3⟩
                · refine ifp (by rw [decide_eq_false hj]; rfl) ?_
                  walk_at "go"
                  exact bad (by rw [isBr_I, decide_eq_false hj, Bool.and_false])
              · walk_at "go"
                exact bad (by rw [isBr_I, decide_eq_false h0, Bool.false_and])
      · refine ifp (by rw [Bool.not_eq_true', decide_eq_false]; omega) ?_
        walk_at "go"
        exact bad (isBr_len h2)

theorem sc_law_odd : FnScope ["pool", "kind", "within", "other", "some"] ["pool", "kind", "within"] (defScope d_law_odd) := ⟨rfl, rfl, rfl, by decide +kernel, rfl, by decide +kernel, by decide +kernel⟩
theorem ok_law_odd (F : Fun K "_law_odd" "_law_odd" d_law_odd f fd) (T : Txt K mg aK) (U_law_take : FnU P w K mg base k "_law_take" ["pool", "many"] (spTake)) : FnOk P w K mg base CX0 (k + 1) f fd ["pool", "kind", "within"] (spOdd) := by
  refine F.ok sc_law_odd (fun vs H Q E h => ?_) (fun cdv A outer s H vs Q E hr h => ?_)
  · obtain ⟨S, p, n, c, v, t, rfl, _⟩ := h; rfl
  obtain ⟨S, p, n, c, v, t, rfl, hSp, ex, hp, hn, hc, ht, hg, hsz, q⟩ := h
  have hu := hr.units0
  have hW := (ht.dl hg)
  obtain ⟨va, vxs, vds, rfl, nvS, gva, rva, fva⟩ := id hW
  obtain ⟨n0, hn0⟩ : ∃ n0, n0 = 2000 * t.sz + 2000 := ⟨_, rfl⟩
  obtain ⟨m0, hm0⟩ : ∃ m0, m0 = 2 * Tr.ht t + 2 := ⟨_, rfl⟩
  have h2000 : 2000 ≤ n0 := by omega
  have hm2 : 2 ≤ m0 := by omega
  have ki : ∀ {S : Addr → Prop} {i : Int} {G : Hp}, i.natAbs < 10 ^ 60 → Dv S n0 m0 G (.int i) := fun h => dv_int h h2000 (by omega)
  have hck : (c : Int).natAbs < 10 ^ 60 := Nat.lt_of_le_of_lt (show _ ≤ 10 by omega) (by decide)
  have hck1 : ((c : Int) + 1).natAbs < 10 ^ 60 := Nat.lt_of_le_of_lt (show _ ≤ 10 by omega) (by decide)
  have kN : ∀ {S : Addr → Prop} {G : Hp}, Dv S n0 m0 G .non := dv_non h2000 (by omega)
  have kT : ∀ {S : Addr → Prop} {a : List Nat} {G : Hp}, Low a → a.length ≤ 10 → Dv S n0 m0 G (tx a) := fun h h' => dv_tx h h' h2000 (by omega)
  have kB : ∀ {S : Addr → Prop} {b : Bool} {G : Hp}, Dv S n0 m0 G (.bl b) := fun {_ b G} => dv_bl b h2000 (by omega)
  refine ⟨_, (pss_cons (ps_set (i := 3) sc_law_odd.nd rfl (Or.inl rfl) (pe_ix (ix_A K) (PEb.pe (pe_lstB (Pl.con pe_int (Pl.una (pe_un un_neg pe_int) (Pl.con pe_bl (Pl.con pe_bl (Pl.con pe_non (Pl.con (pe_tx (l := [48]) (by decide +kernel)) (Pl.con (pe_tx (l := [40]) (by decide +kernel)) (Pl.lst (pe_lst (pa_cons pe_int pa_nil)) (Pl.bin (pe_op op_pow pe_int pe_int) (Pl.bin (pe_op op_plus (pv 1) pe_int) (Pl.con pe_int (Pl.nam (pv 1) Pl.nil)))))))))))))) (pe_fn U_law_take hr (pa_cons (pv 0) (pa_cons pe_int pa_nil))) (fun _ _ => rfl)))  (pss_cons (ps_set (i := 4) sc_law_odd.nd rfl (Or.inl rfl) (pe_op op_plus (pe_op op_times (pe_lst (pa_cons (pe_lst (pa_cons (pe_tup (pa_cons (pv 3) (pa_cons (pv 2) pa_nil))) pa_nil)) pa_nil)) pe_int) (pe_lst (pa_cons (pe_lst (pa_cons (pe_tup (pa_cons (pv 1) (pa_cons (pv 3) pa_nil))) pa_nil)) (pa_cons (pe_lst (pa_cons (pe_tup (pa_cons (pv 1) (pa_cons (pe_callTy (call_tupleA K) rfl T.n_tuple PyProof.Rows.boot_tuple (pa_cons (pv 2) pa_nil)) pa_nil))) pa_nil)) (pa_cons (pe_lst (pa_cons (pe_tup (pa_cons (pv 1) (pa_cons (pv 2) (pa_cons (pv 2) pa_nil)))) pa_nil)) (pa_cons (pe_lst (pa_cons (pe_tup (pa_cons (pv 1) pa_nil)) pa_nil)) pa_nil)))))))  (pss_cons (ps_set (i := 4) sc_law_odd.nd rfl (Or.inl rfl) (pe_op op_plus (pv 4) (pe_lst (pa_cons (pe_lst (pa_cons (pe_lst (pa_cons (pv 1) (pa_cons (pv 2) pa_nil))) pa_nil)) (pa_cons (pe_lst (pa_cons (pv 2) pa_nil)) (pa_cons (pe_lst (pa_cons (pv 1) pa_nil)) (pa_cons (pe_lst (pa_cons pe_non pa_nil)) (pa_cons (pe_lst (pa_cons (pe_tup (pa_cons (pv 1) (pa_cons (pv 2) pa_nil))) (pa_cons pe_non pa_nil))) (pa_cons (pe_lst (pa_cons (pe_tup (pa_cons (pv 1) (pa_cons (pe_lst (pa_cons pe_non pa_nil)) pa_nil))) pa_nil)) pa_nil)))))))))  (pss_cons (ps_expr (pe_bmK K PySem.F.plainAttrs_list PySem.F.slot_list_append PySem.F.type_list_append mt_append (pv 4) (pa_cons (pe_lst (pa_cons (pe_tup (pa_cons (pv 2) (pa_cons (pv 1) pa_nil))) pa_nil)) pa_nil)))  (pss_cons (ps_set (i := 4) sc_law_odd.nd rfl (Or.inl rfl) (pe_op op_plus (pv 4) (pe_lst (pa_cons (pe_lst (pa_cons (pe_tup (pa_cons (pv 1) (pa_cons (pv 2) pa_nil))) (pa_cons (pe_tup (pa_cons (pv 1) (pa_cons (pe_lst pa_nil) pa_nil))) pa_nil))) (pa_cons (pe_lst pa_nil) (pa_cons (pe_lst (pa_cons (pe_tup (pa_cons (pv 1) (pa_cons (pe_lst (pa_cons (pe_tup (pa_cons (pv 1) (pa_cons (pv 2) pa_nil))) pa_nil)) pa_nil))) pa_nil)) (pa_cons (pe_lst (pa_cons (pe_tup (pa_cons (pv 1) (pa_cons pe_dnewK pa_nil))) pa_nil)) (pa_cons (pe_lst (pa_cons (pe_tup (pa_cons (pv 1) (pa_cons (pe_tx (l := []) (by decide +kernel)) pa_nil))) pa_nil)) pa_nil))))))))  (pss_one (ps_ret (pe_ix (ix_A K) (pv 4) (pe_fn U_law_take hr (pa_cons (pv 0) (pa_cons pe_int pa_nil))) (fun _ _ => rfl))))))))), ?_⟩
  walk_at "go"
  simp only [tAll]
  walk_at "go"
  refine ⟨small (show 1 ≤ 1000 by decide), fun z0 hz0 => ?_⟩
  have d0 : Dv S n0 m0 (upd H z0 (.lst [.int 0])) (.ref z0) := (newL (n := 1921) (m := 1) hz0 ex (allD_cons ⟨_, .sc (.int 0), fit_int (by decide)⟩ allD_nil) (Nat.le_refl _) (Nat.le_refl _)).dv.mono (by simp; omega) (by omega)
  have s0 := same_new hz0 (.lst [.int 0])
  generalize upd H z0 _ = G0 at *
  walk_at "go"
  refine ⟨small (show 12 ≤ 1000 by decide), fun z1 hz1 => ?_⟩
  obtain ⟨L0, hL0⟩ : ∃ L0, L0 = [V.int 4, .int (-1), .bl true, .bl false, .non, tx [48], tx [40], .ref z0, .int (10 ^ (29 : Int).toNat), .int ((c : Int) + 1), .int 3, .int (c : Int)] := ⟨_, rfl⟩
  have A0 : ∀ x ∈ L0, Dv S n0 m0 G0 x := by
    rw [hL0]
    exact allD_cons (ki (by decide)) (allD_cons (ki (by decide)) (allD_cons kB (allD_cons kB (allD_cons kN (allD_cons (kT (by unfold Low; decide) (by decide)) (allD_cons (kT (by unfold Low; decide) (by decide)) (allD_cons d0 (allD_cons (ki (by decide)) (allD_cons (ki hck1) (allD_cons (ki (by decide)) (allD_cons (ki hck) allD_nil)))))))))))
  rw [← hL0]
  have l0 : L0.length = 12 := by rw [hL0]; rfl
  clear hL0
  have s1 := same_new hz1 (.lst L0)
  have g1 : (upd G0 z1 (.lst L0)) z1 = some (.lst L0) := upd_same
  have s01 := s0.trans s1
  generalize upd G0 z1 _ = G1 at *
  have nz1 : z1 ≠ p := fun z => by obtain ⟨o, e⟩ := ex p hSp; rw [z, s0 _ _ e] at hz1; cases hz1
  walk_at "go"
  refine take_use (hp.same s01) (by omega) (by omega) (by omega) (fun r1 J0 r10 r11 hp1 b1 => ?_)
  have kp1 : Kp S H J0 := fun x o nx e => kp_but b1 hSp x o nx (s01 _ _ e)
  obtain ⟨ot, eot, mot⟩ := at_memV (l := L0) r10 (by rw [l0]; exact r11)
  have O : Lv S n0 m0 0 J0 ot := ((A0 _ mot).same s1).keep (kp_but b1 hSp)
  have Tw := ht.keep kp1
  have u0 : SameBut1 p H J0 := (SameBut1.of s01).trans b1
  have gva0 := kp1 _ _ nvS gva
  have ex0 : Ex S J0 := fun x hx => by
    obtain ⟨o, e⟩ := ex x hx
    by_cases z : x = p
    · subst z; obtain ⟨_, _, _, e', _⟩ := hp1; exact ⟨_, e'⟩
    · exact ⟨o, u0 _ _ e z⟩
  walk_at "go"
  refine s_ixL (SqL.of (b1 _ _ g1 nz1)) eot ?_
  clear d0 s0 hz0 A0 s1 g1 s01 hz1 l0 eot kp1 hW b1 rva fva ht


  walk_at "go"
  refine ⟨small (show 2 ≤ 1000 by decide), fun y1 hy1 => ?_⟩
  have f1 := lvT (xs := [ot, (V.ref va)]) (n0 := n0) (m0 := m0) (l := 0) hy1 ex0 (allD_cons O (allD_cons (Tw.lv hg hn0 hm0) allD_nil)) (by simp)
  have s1 := same_new hy1 (.tup [ot, (V.ref va)])
  replace O := O.same s1
  replace Tw := Tw.same s1
  replace ex0 := ex0.same s1
  replace hp1 := hp1.same s1
  replace gva0 := s1 _ _ gva0
  replace u0 := u0.trans (SameBut1.of s1)
  generalize upd J0 y1 _ = J1 at *
  clear s1 hy1
  walk_at "go"
  refine ⟨small (show 1 ≤ 1000 by decide), fun y2 hy2 => ?_⟩
  have f2 := lvL (xs := [(V.ref y1)]) (n0 := n0) (m0 := m0) (l := 1) hy2 ex0 (allD_cons f1 allD_nil) (by simp)
  have s2 := same_new hy2 (.lst [(V.ref y1)])
  replace O := O.same s2
  replace Tw := Tw.same s2
  replace ex0 := ex0.same s2
  replace hp1 := hp1.same s2
  replace gva0 := s2 _ _ gva0
  replace u0 := u0.trans (SameBut1.of s2)
  generalize upd J1 y2 _ = J2 at *
  clear s2 hy2
  have e2 := dl_lv f2
  walk_at "go"
  refine ⟨small (show 1 ≤ 1000 by decide), fun y3 hy3 => ?_⟩
  have A : ∀ x ∈ [(V.ref y2)], Dl S (nb n0 4) (m0 + 3) J2 x := (allD_cons (dl_4 (l := 1) f2 (by decide)) allD_nil)
  have s3 := same_new hy3 (.lst [(V.ref y2)])
  have gA : (upd J2 y3 (.lst [(V.ref y2)])) y3 = some (.lst [(V.ref y2)]) := upd_same
  replace O := O.same s3
  replace Tw := Tw.same s3
  replace ex0 := ex0.same s3
  replace hp1 := hp1.same s3
  replace gva0 := s3 _ _ gva0
  replace A := fun x hx => (A x hx).same s3
  replace u0 := u0.trans (SameBut1.of s3)
  generalize upd J2 y3 _ = J3 at *
  clear s3 hy3
  walk_at "go"
  refine s_rep (xs := [(V.ref y2)]) gA (by decide) (by decide) (small (by simp)) (fun y4 hy4 => ?_)
  have B : ∀ x ∈ [(V.ref y2), (V.ref y2), (V.ref y2), (V.ref y2), (V.ref y2)], Dl S (nb n0 4) (m0 + 3) J3 x := by
    have e := A _ List.mem_cons_self
    exact allD_cons e (allD_cons e (allD_cons e (allD_cons e (allD_cons e allD_nil))))
  have s4 := same_new hy4 (.lst (List.replicate (5 : Int).toNat [(V.ref y2)]).flatten)
  have gB : (upd J3 y4 (.lst (List.replicate (5 : Int).toNat [(V.ref y2)]).flatten)) y4 = some (.lst [(V.ref y2), (V.ref y2), (V.ref y2), (V.ref y2), (V.ref y2)]) := upd_same
  clear A gA
  replace O := O.same s4
  replace Tw := Tw.same s4
  replace ex0 := ex0.same s4
  replace hp1 := hp1.same s4
  replace gva0 := s4 _ _ gva0
  replace B := fun x hx => (B x hx).same s4
  replace u0 := u0.trans (SameBut1.of s4)
  generalize upd J3 y4 _ = J4 at *
  clear s4 hy4
  have l5 : ([(V.ref y2), (V.ref y2), (V.ref y2), (V.ref y2), (V.ref y2)] : List V).length = 5 := rfl
  generalize ([(V.ref y2), (V.ref y2), (V.ref y2), (V.ref y2), (V.ref y2)] : List V) = L5 at *
  walk_at "go"
  refine ⟨small (show 2 ≤ 1000 by decide), fun y5 hy5 => ?_⟩
  have f5 := lvT (xs := [(V.int (c : Int)), ot]) (n0 := n0) (m0 := m0) (l := 0) hy5 ex0 (allD_cons (ki hck) (allD_cons O allD_nil)) (by simp)
  have s5 := same_new hy5 (.tup [(V.int (c : Int)), ot])
  replace O := O.same s5
  replace Tw := Tw.same s5
  replace ex0 := ex0.same s5
  replace hp1 := hp1.same s5
  replace gva0 := s5 _ _ gva0
  replace B := fun x hx => (B x hx).same s5
  replace gB := s5 _ _ gB
  replace u0 := u0.trans (SameBut1.of s5)
  generalize upd J4 y5 _ = J5 at *
  clear s5 hy5
  walk_at "go"
  refine ⟨small (show 1 ≤ 1000 by decide), fun y6 hy6 => ?_⟩
  have f6 := lvL (xs := [(V.ref y5)]) (n0 := n0) (m0 := m0) (l := 1) hy6 ex0 (allD_cons f5 allD_nil) (by simp)
  have s6 := same_new hy6 (.lst [(V.ref y5)])
  replace O := O.same s6
  replace Tw := Tw.same s6
  replace ex0 := ex0.same s6
  replace hp1 := hp1.same s6
  replace gva0 := s6 _ _ gva0
  replace B := fun x hx => (B x hx).same s6
  replace gB := s6 _ _ gB
  replace u0 := u0.trans (SameBut1.of s6)
  generalize upd J5 y6 _ = J6 at *
  clear s6 hy6
  have e6 := dl_lv f6
  walk_at "go"
  refine s_tupL (SqL.of gva0) (fun y7 hy7 => ?_)
  have f7 := tupW Tw hg gva0 hy7 ex0 hn0 hm0
  have s7 := same_new hy7 (.tup vxs)
  replace O := O.same s7
  replace Tw := Tw.same s7
  replace ex0 := ex0.same s7
  replace hp1 := hp1.same s7
  replace gva0 := s7 _ _ gva0
  replace B := fun x hx => (B x hx).same s7
  replace gB := s7 _ _ gB
  replace f6 := f6.same s7
  replace e6 := e6.same s7
  replace u0 := u0.trans (SameBut1.of s7)
  generalize upd J6 y7 _ = J7 at *
  clear s7 hy7
  walk_at "go"
  refine ⟨small (show 2 ≤ 1000 by decide), fun y8 hy8 => ?_⟩
  have f8 := lvT (xs := [(V.int (c : Int)), (V.ref y7)]) (n0 := n0) (m0 := m0) (l := 0) hy8 ex0 (allD_cons (ki hck) (allD_cons f7 allD_nil)) (by simp)
  have s8 := same_new hy8 (.tup [(V.int (c : Int)), (V.ref y7)])
  replace O := O.same s8
  replace Tw := Tw.same s8
  replace ex0 := ex0.same s8
  replace hp1 := hp1.same s8
  replace gva0 := s8 _ _ gva0
  replace B := fun x hx => (B x hx).same s8
  replace gB := s8 _ _ gB
  replace f6 := f6.same s8
  replace e6 := e6.same s8
  replace u0 := u0.trans (SameBut1.of s8)
  generalize upd J7 y8 _ = J8 at *
  clear s8 hy8
  walk_at "go"
  refine ⟨small (show 1 ≤ 1000 by decide), fun y9 hy9 => ?_⟩
  have f9 := lvL (xs := [(V.ref y8)]) (n0 := n0) (m0 := m0) (l := 1) hy9 ex0 (allD_cons f8 allD_nil) (by simp)
  have s9 := same_new hy9 (.lst [(V.ref y8)])
  replace O := O.same s9
  replace Tw := Tw.same s9
  replace ex0 := ex0.same s9
  replace hp1 := hp1.same s9
  replace gva0 := s9 _ _ gva0
  replace B := fun x hx => (B x hx).same s9
  replace gB := s9 _ _ gB
  replace f6 := f6.same s9
  replace e6 := e6.same s9
  replace u0 := u0.trans (SameBut1.of s9)
  generalize upd J8 y9 _ = J9 at *
  clear s9 hy9
  have e9 := dl_lv f9
  walk_at "go"
  refine ⟨small (show 3 ≤ 1000 by decide), fun y10 hy10 => ?_⟩
  have f10 := lvT (xs := [(V.int (c : Int)), (V.ref va), (V.ref va)]) (n0 := n0) (m0 := m0) (l := 0) hy10 ex0 (allD_cons (ki hck) (allD_cons (Tw.lv hg hn0 hm0) (allD_cons (Tw.lv hg hn0 hm0) allD_nil))) (by simp)
  have s10 := same_new hy10 (.tup [(V.int (c : Int)), (V.ref va), (V.ref va)])
  replace O := O.same s10
  replace Tw := Tw.same s10
  replace ex0 := ex0.same s10
  replace hp1 := hp1.same s10
  replace gva0 := s10 _ _ gva0
  replace B := fun x hx => (B x hx).same s10
  replace gB := s10 _ _ gB
  replace f6 := f6.same s10
  replace e6 := e6.same s10
  replace f9 := f9.same s10
  replace e9 := e9.same s10
  replace u0 := u0.trans (SameBut1.of s10)
  generalize upd J9 y10 _ = J10 at *
  clear s10 hy10
  walk_at "go"
  refine ⟨small (show 1 ≤ 1000 by decide), fun y11 hy11 => ?_⟩
  have f11 := lvL (xs := [(V.ref y10)]) (n0 := n0) (m0 := m0) (l := 1) hy11 ex0 (allD_cons f10 allD_nil) (by simp)
  have s11 := same_new hy11 (.lst [(V.ref y10)])
  replace O := O.same s11
  replace Tw := Tw.same s11
  replace ex0 := ex0.same s11
  replace hp1 := hp1.same s11
  replace gva0 := s11 _ _ gva0
  replace B := fun x hx => (B x hx).same s11
  replace gB := s11 _ _ gB
  replace f6 := f6.same s11
  replace e6 := e6.same s11
  replace f9 := f9.same s11
  replace e9 := e9.same s11
  replace u0 := u0.trans (SameBut1.of s11)
  generalize upd J10 y11 _ = J11 at *
  clear s11 hy11
  have e11 := dl_lv f11
  walk_at "go"
  refine ⟨small (show 1 ≤ 1000 by decide), fun y12 hy12 => ?_⟩
  have f12 := lvT (xs := [(V.int (c : Int))]) (n0 := n0) (m0 := m0) (l := 0) hy12 ex0 (allD_cons (ki hck) allD_nil) (by simp)
  have s12 := same_new hy12 (.tup [(V.int (c : Int))])
  replace O := O.same s12
  replace Tw := Tw.same s12
  replace ex0 := ex0.same s12
  replace hp1 := hp1.same s12
  replace gva0 := s12 _ _ gva0
  replace B := fun x hx => (B x hx).same s12
  replace gB := s12 _ _ gB
  replace f6 := f6.same s12
  replace e6 := e6.same s12
  replace f9 := f9.same s12
  replace e9 := e9.same s12
  replace f11 := f11.same s12
  replace e11 := e11.same s12
  replace u0 := u0.trans (SameBut1.of s12)
  generalize upd J11 y12 _ = J12 at *
  clear s12 hy12
  walk_at "go"
  refine ⟨small (show 1 ≤ 1000 by decide), fun y13 hy13 => ?_⟩
  have f13 := lvL (xs := [(V.ref y12)]) (n0 := n0) (m0 := m0) (l := 1) hy13 ex0 (allD_cons f12 allD_nil) (by simp)
  have s13 := same_new hy13 (.lst [(V.ref y12)])
  replace O := O.same s13
  replace Tw := Tw.same s13
  replace ex0 := ex0.same s13
  replace hp1 := hp1.same s13
  replace gva0 := s13 _ _ gva0
  replace B := fun x hx => (B x hx).same s13
  replace gB := s13 _ _ gB
  replace f6 := f6.same s13
  replace e6 := e6.same s13
  replace f9 := f9.same s13
  replace e9 := e9.same s13
  replace f11 := f11.same s13
  replace e11 := e11.same s13
  replace u0 := u0.trans (SameBut1.of s13)
  generalize upd J12 y13 _ = J13 at *
  clear s13 hy13
  have e13 := dl_lv f13
  walk_at "go"
  refine ⟨small (show 4 ≤ 1000 by decide), fun y14 hy14 => ?_⟩
  have C : ∀ x ∈ [(V.ref y6), (V.ref y9), (V.ref y11), (V.ref y13)], Dl S (nb n0 4) (m0 + 3) J13 x := (allD_cons (dl_4 (l := 1) f6 (by decide)) (allD_cons (dl_4 (l := 1) f9 (by decide)) (allD_cons (dl_4 (l := 1) f11 (by decide)) (allD_cons (dl_4 (l := 1) f13 (by decide)) allD_nil))))
  have s14 := same_new hy14 (.lst [(V.ref y6), (V.ref y9), (V.ref y11), (V.ref y13)])
  have gC : (upd J13 y14 (.lst [(V.ref y6), (V.ref y9), (V.ref y11), (V.ref y13)])) y14 = some (.lst [(V.ref y6), (V.ref y9), (V.ref y11), (V.ref y13)]) := upd_same
  replace O := O.same s14
  replace Tw := Tw.same s14
  replace ex0 := ex0.same s14
  replace hp1 := hp1.same s14
  replace gva0 := s14 _ _ gva0
  replace B := fun x hx => (B x hx).same s14
  replace gB := s14 _ _ gB
  replace C := fun x hx => (C x hx).same s14
  replace u0 := u0.trans (SameBut1.of s14)
  generalize upd J13 y14 _ = J14 at *
  clear s14 hy14
  walk_at "go"
  refine s_addL gB gC (by rw [l5, sizeLine_eq]; simp) (fun y15 hy15 => ?_)
  have D : ∀ x ∈ L5 ++ [(V.ref y6), (V.ref y9), (V.ref y11), (V.ref y13)], Dl S (nb n0 4) (m0 + 3) J14 x := allD_app B C
  have s15 := same_new hy15 (.lst (L5 ++ [(V.ref y6), (V.ref y9), (V.ref y11), (V.ref y13)]))
  have gD : (upd J14 y15 (.lst (L5 ++ [(V.ref y6), (V.ref y9), (V.ref y11), (V.ref y13)]))) y15 = some (.lst (L5 ++ [(V.ref y6), (V.ref y9), (V.ref y11), (V.ref y13)])) := upd_same
  clear B gB C gC
  replace O := O.same s15
  replace Tw := Tw.same s15
  replace ex0 := ex0.same s15
  replace hp1 := hp1.same s15
  replace gva0 := s15 _ _ gva0
  replace D := fun x hx => (D x hx).same s15
  replace u0 := u0.trans (SameBut1.of s15)
  generalize upd J14 y15 _ = J15 at *
  clear s15 hy15
  have l9 : (L5 ++ [(V.ref y6), (V.ref y9), (V.ref y11), (V.ref y13)]).length = 9 := by rw [List.length_append, l5]; rfl
  generalize (L5 ++ [(V.ref y6), (V.ref y9), (V.ref y11), (V.ref y13)] : List V) = L9 at *
  walk_at "go"
  refine ⟨small (show 2 ≤ 1000 by decide), fun y16 hy16 => ?_⟩
  have f16 := lvL (xs := [(V.int (c : Int)), (V.ref va)]) (n0 := n0) (m0 := m0) (l := 0) hy16 ex0 (allD_cons (ki hck) (allD_cons (Tw.lv hg hn0 hm0) allD_nil)) (by simp)
  have s16 := same_new hy16 (.lst [(V.int (c : Int)), (V.ref va)])
  replace O := O.same s16
  replace Tw := Tw.same s16
  replace ex0 := ex0.same s16
  replace hp1 := hp1.same s16
  replace gva0 := s16 _ _ gva0
  replace D := fun x hx => (D x hx).same s16
  replace gD := s16 _ _ gD
  replace u0 := u0.trans (SameBut1.of s16)
  generalize upd J15 y16 _ = J16 at *
  clear s16 hy16
  have e16 := dl_lv f16
  walk_at "go"
  refine ⟨small (show 1 ≤ 1000 by decide), fun y17 hy17 => ?_⟩
  have f17 := lvL (xs := [(V.ref y16)]) (n0 := n0) (m0 := m0) (l := 1) hy17 ex0 (allD_cons e16 allD_nil) (by simp)
  have s17 := same_new hy17 (.lst [(V.ref y16)])
  replace O := O.same s17
  replace Tw := Tw.same s17
  replace ex0 := ex0.same s17
  replace hp1 := hp1.same s17
  replace gva0 := s17 _ _ gva0
  replace D := fun x hx => (D x hx).same s17
  replace gD := s17 _ _ gD
  replace u0 := u0.trans (SameBut1.of s17)
  generalize upd J16 y17 _ = J17 at *
  clear s17 hy17
  have e17 := dl_lv f17
  walk_at "go"
  refine ⟨small (show 1 ≤ 1000 by decide), fun y18 hy18 => ?_⟩
  have f18 := lvL (xs := [(V.ref va)]) (n0 := n0) (m0 := m0) (l := 0) hy18 ex0 (allD_cons (Tw.lv hg hn0 hm0) allD_nil) (by simp)
  have s18 := same_new hy18 (.lst [(V.ref va)])
  replace O := O.same s18
  replace Tw := Tw.same s18
  replace ex0 := ex0.same s18
  replace hp1 := hp1.same s18
  replace gva0 := s18 _ _ gva0
  replace D := fun x hx => (D x hx).same s18
  replace gD := s18 _ _ gD
  replace f17 := f17.same s18
  replace e17 := e17.same s18
  replace u0 := u0.trans (SameBut1.of s18)
  generalize upd J17 y18 _ = J18 at *
  clear s18 hy18
  have e18 := dl_lv f18
  walk_at "go"
  refine ⟨small (show 1 ≤ 1000 by decide), fun y19 hy19 => ?_⟩
  have f19 := lvL (xs := [(V.int (c : Int))]) (n0 := n0) (m0 := m0) (l := 0) hy19 ex0 (allD_cons (ki hck) allD_nil) (by simp)
  have s19 := same_new hy19 (.lst [(V.int (c : Int))])
  replace O := O.same s19
  replace Tw := Tw.same s19
  replace ex0 := ex0.same s19
  replace hp1 := hp1.same s19
  replace gva0 := s19 _ _ gva0
  replace D := fun x hx => (D x hx).same s19
  replace gD := s19 _ _ gD
  replace f17 := f17.same s19
  replace e17 := e17.same s19
  replace f18 := f18.same s19
  replace e18 := e18.same s19
  replace u0 := u0.trans (SameBut1.of s19)
  generalize upd J18 y19 _ = J19 at *
  clear s19 hy19
  have e19 := dl_lv f19
  walk_at "go"
  refine ⟨small (show 1 ≤ 1000 by decide), fun y20 hy20 => ?_⟩
  have f20 := lvL (xs := [V.non]) (n0 := n0) (m0 := m0) (l := 0) hy20 ex0 (allD_cons kN allD_nil) (by simp)
  have s20 := same_new hy20 (.lst [V.non])
  replace O := O.same s20
  replace Tw := Tw.same s20
  replace ex0 := ex0.same s20
  replace hp1 := hp1.same s20
  replace gva0 := s20 _ _ gva0
  replace D := fun x hx => (D x hx).same s20
  replace gD := s20 _ _ gD
  replace f17 := f17.same s20
  replace e17 := e17.same s20
  replace f18 := f18.same s20
  replace e18 := e18.same s20
  replace f19 := f19.same s20
  replace e19 := e19.same s20
  replace u0 := u0.trans (SameBut1.of s20)
  generalize upd J19 y20 _ = J20 at *
  clear s20 hy20
  have e20 := dl_lv f20
  walk_at "go"
  refine ⟨small (show 2 ≤ 1000 by decide), fun y21 hy21 => ?_⟩
  have f21 := lvT (xs := [(V.int (c : Int)), (V.ref va)]) (n0 := n0) (m0 := m0) (l := 0) hy21 ex0 (allD_cons (ki hck) (allD_cons (Tw.lv hg hn0 hm0) allD_nil)) (by simp)
  have s21 := same_new hy21 (.tup [(V.int (c : Int)), (V.ref va)])
  replace O := O.same s21
  replace Tw := Tw.same s21
  replace ex0 := ex0.same s21
  replace hp1 := hp1.same s21
  replace gva0 := s21 _ _ gva0
  replace D := fun x hx => (D x hx).same s21
  replace gD := s21 _ _ gD
  replace f17 := f17.same s21
  replace e17 := e17.same s21
  replace f18 := f18.same s21
  replace e18 := e18.same s21
  replace f19 := f19.same s21
  replace e19 := e19.same s21
  replace f20 := f20.same s21
  replace e20 := e20.same s21
  replace u0 := u0.trans (SameBut1.of s21)
  generalize upd J20 y21 _ = J21 at *
  clear s21 hy21
  walk_at "go"
  refine ⟨small (show 2 ≤ 1000 by decide), fun y22 hy22 => ?_⟩
  have f22 := lvL (xs := [(V.ref y21), V.non]) (n0 := n0) (m0 := m0) (l := 1) hy22 ex0 (allD_cons f21 (allD_cons (Lv.up (l := 0) kN (by decide)) allD_nil)) (by simp)
  have s22 := same_new hy22 (.lst [(V.ref y21), V.non])
  replace O := O.same s22
  replace Tw := Tw.same s22
  replace ex0 := ex0.same s22
  replace hp1 := hp1.same s22
  replace gva0 := s22 _ _ gva0
  replace D := fun x hx => (D x hx).same s22
  replace gD := s22 _ _ gD
  replace f17 := f17.same s22
  replace e17 := e17.same s22
  replace f18 := f18.same s22
  replace e18 := e18.same s22
  replace f19 := f19.same s22
  replace e19 := e19.same s22
  replace f20 := f20.same s22
  replace e20 := e20.same s22
  replace u0 := u0.trans (SameBut1.of s22)
  generalize upd J21 y22 _ = J22 at *
  clear s22 hy22
  have e22 := dl_lv f22
  walk_at "go"
  refine ⟨small (show 1 ≤ 1000 by decide), fun y23 hy23 => ?_⟩
  have f23 := lvL (xs := [V.non]) (n0 := n0) (m0 := m0) (l := 0) hy23 ex0 (allD_cons kN allD_nil) (by simp)
  have s23 := same_new hy23 (.lst [V.non])
  replace O := O.same s23
  replace Tw := Tw.same s23
  replace ex0 := ex0.same s23
  replace hp1 := hp1.same s23
  replace gva0 := s23 _ _ gva0
  replace D := fun x hx => (D x hx).same s23
  replace gD := s23 _ _ gD
  replace f17 := f17.same s23
  replace e17 := e17.same s23
  replace f18 := f18.same s23
  replace e18 := e18.same s23
  replace f19 := f19.same s23
  replace e19 := e19.same s23
  replace f20 := f20.same s23
  replace e20 := e20.same s23
  replace f22 := f22.same s23
  replace e22 := e22.same s23
  replace u0 := u0.trans (SameBut1.of s23)
  generalize upd J22 y23 _ = J23 at *
  clear s23 hy23
  have e23 := dl_lv f23
  walk_at "go"
  refine ⟨small (show 2 ≤ 1000 by decide), fun y24 hy24 => ?_⟩
  have f24 := lvT (xs := [(V.int (c : Int)), (V.ref y23)]) (n0 := n0) (m0 := m0) (l := 1) hy24 ex0 (allD_cons (Lv.up (l := 0) (ki hck) (by decide)) (allD_cons e23 allD_nil)) (by simp)
  have s24 := same_new hy24 (.tup [(V.int (c : Int)), (V.ref y23)])
  replace O := O.same s24
  replace Tw := Tw.same s24
  replace ex0 := ex0.same s24
  replace hp1 := hp1.same s24
  replace gva0 := s24 _ _ gva0
  replace D := fun x hx => (D x hx).same s24
  replace gD := s24 _ _ gD
  replace f17 := f17.same s24
  replace e17 := e17.same s24
  replace f18 := f18.same s24
  replace e18 := e18.same s24
  replace f19 := f19.same s24
  replace e19 := e19.same s24
  replace f20 := f20.same s24
  replace e20 := e20.same s24
  replace f22 := f22.same s24
  replace e22 := e22.same s24
  replace u0 := u0.trans (SameBut1.of s24)
  generalize upd J23 y24 _ = J24 at *
  clear s24 hy24
  walk_at "go"
  refine ⟨small (show 1 ≤ 1000 by decide), fun y25 hy25 => ?_⟩
  have f25 := lvL (xs := [(V.ref y24)]) (n0 := n0) (m0 := m0) (l := 2) hy25 ex0 (allD_cons f24 allD_nil) (by simp)
  have s25 := same_new hy25 (.lst [(V.ref y24)])
  replace O := O.same s25
  replace Tw := Tw.same s25
  replace ex0 := ex0.same s25
  replace hp1 := hp1.same s25
  replace gva0 := s25 _ _ gva0
  replace D := fun x hx => (D x hx).same s25
  replace gD := s25 _ _ gD
  replace f17 := f17.same s25
  replace e17 := e17.same s25
  replace f18 := f18.same s25
  replace e18 := e18.same s25
  replace f19 := f19.same s25
  replace e19 := e19.same s25
  replace f20 := f20.same s25
  replace e20 := e20.same s25
  replace f22 := f22.same s25
  replace e22 := e22.same s25
  replace u0 := u0.trans (SameBut1.of s25)
  generalize upd J24 y25 _ = J25 at *
  clear s25 hy25
  have e25 := dl_lv f25
  walk_at "go"
  refine ⟨small (show 6 ≤ 1000 by decide), fun y26 hy26 => ?_⟩
  have E2 : ∀ x ∈ [(V.ref y17), (V.ref y18), (V.ref y19), (V.ref y20), (V.ref y22), (V.ref y25)], Dl S (nb n0 4) (m0 + 3) J25 x := (allD_cons (dl_4 (l := 1) f17 (by decide)) (allD_cons (dl_4 (l := 0) f18 (by decide)) (allD_cons (dl_4 (l := 0) f19 (by decide)) (allD_cons (dl_4 (l := 0) f20 (by decide)) (allD_cons (dl_4 (l := 1) f22 (by decide)) (allD_cons (dl_4 (l := 2) f25 (by decide)) allD_nil))))))
  have s26 := same_new hy26 (.lst [(V.ref y17), (V.ref y18), (V.ref y19), (V.ref y20), (V.ref y22), (V.ref y25)])
  have gE2 : (upd J25 y26 (.lst [(V.ref y17), (V.ref y18), (V.ref y19), (V.ref y20), (V.ref y22), (V.ref y25)])) y26 = some (.lst [(V.ref y17), (V.ref y18), (V.ref y19), (V.ref y20), (V.ref y22), (V.ref y25)]) := upd_same
  replace O := O.same s26
  replace Tw := Tw.same s26
  replace ex0 := ex0.same s26
  replace hp1 := hp1.same s26
  replace gva0 := s26 _ _ gva0
  replace D := fun x hx => (D x hx).same s26
  replace gD := s26 _ _ gD
  replace E2 := fun x hx => (E2 x hx).same s26
  replace u0 := u0.trans (SameBut1.of s26)
  generalize upd J25 y26 _ = J26 at *
  clear s26 hy26
  walk_at "go"
  refine s_addL gD gE2 (by rw [l9, sizeLine_eq]; simp) (fun y27 hy27 => ?_)
  have F2 : ∀ x ∈ L9 ++ [(V.ref y17), (V.ref y18), (V.ref y19), (V.ref y20), (V.ref y22), (V.ref y25)], Dl S (nb n0 4) (m0 + 3) J26 x := allD_app D E2
  obtain ⟨S', hS'⟩ : ∃ S' : Addr → Prop, S' = fun x => S x ∨ x = y27 := ⟨_, rfl⟩
  have hSp' : S' p := by rw [hS']; exact .inl hSp
  have hSy : S' y27 := by rw [hS']; exact .inr rfl
  have nyp : y27 ≠ p := fun z => by obtain ⟨_, _, _, e, _⟩ := hp1; rw [z, e] at hy27; cases hy27
  have hyH : H y27 = none := by
    cases e : H y27 with
    | none => rfl
    | some o => rw [u0 _ _ e nyp] at hy27; cases hy27
  have nva : va ≠ y27 := fun z => by rw [← z, gva0] at hy27; cases hy27
  have s27 := same_new hy27 (.lst (L9 ++ [(V.ref y17), (V.ref y18), (V.ref y19), (V.ref y20), (V.ref y22), (V.ref y25)]))
  have gF2 : (upd J26 y27 (.lst (L9 ++ [(V.ref y17), (V.ref y18), (V.ref y19), (V.ref y20), (V.ref y22), (V.ref y25)]))) y27 = some (.lst (L9 ++ [(V.ref y17), (V.ref y18), (V.ref y19), (V.ref y20), (V.ref y22), (V.ref y25)])) := upd_same
  replace F2 := fun x hx => ((F2 x hx).grow hS' hy27).same s27
  replace Tw := (Tw.grow hS' hy27).same s27
  have ex1 := ex0.grow (o := .lst (L9 ++ [(V.ref y17), (V.ref y18), (V.ref y19), (V.ref y20), (V.ref y22), (V.ref y25)])) hS' hy27
  replace hp1 := hp1.same s27
  replace gva0 := s27 _ _ gva0
  replace u0 := u0.trans (SameBut1.of s27)
  generalize upd J26 y27 _ = J27 at *
  clear s27 hy27 D gD E2 gE2 ex0 O
  have ex0 := ex1
  clear ex1
  have l15 : (L9 ++ [(V.ref y17), (V.ref y18), (V.ref y19), (V.ref y20), (V.ref y22), (V.ref y25)]).length = 15 := by rw [List.length_append, l9]; rfl
  generalize (L9 ++ [(V.ref y17), (V.ref y18), (V.ref y19), (V.ref y20), (V.ref y22), (V.ref y25)] : List V) = L15 at *
  walk_at "go"
  refine ⟨.inl ⟨rfl, _, SqL.of gF2⟩, ?_⟩
  walk_at "go"
  refine ⟨small (show 2 ≤ 1000 by decide), fun y28 hy28 => ?_⟩
  have f28 := lvT (xs := [(V.ref va), (V.int (c : Int))]) (n0 := n0) (m0 := m0) (l := 0) hy28 ex0 (allD_cons (Tw.lv hg hn0 hm0) (allD_cons (ki hck) allD_nil)) (by simp)
  have s28 := same_new hy28 (.tup [(V.ref va), (V.int (c : Int))])
  replace Tw := Tw.same s28
  replace ex0 := ex0.same s28
  replace hp1 := hp1.same s28
  replace gva0 := s28 _ _ gva0
  replace F2 := fun x hx => (F2 x hx).same s28
  replace gF2 := s28 _ _ gF2
  replace u0 := u0.trans (SameBut1.of s28)
  generalize upd J27 y28 _ = J28 at *
  clear s28 hy28
  walk_at "go"
  refine ⟨small (show 1 ≤ 1000 by decide), fun y29 hy29 => ?_⟩
  have f29 := lvL (xs := [(V.ref y28)]) (n0 := n0) (m0 := m0) (l := 1) hy29 ex0 (allD_cons f28 allD_nil) (by simp)
  have s29 := same_new hy29 (.lst [(V.ref y28)])
  replace Tw := Tw.same s29
  replace ex0 := ex0.same s29
  replace hp1 := hp1.same s29
  replace gva0 := s29 _ _ gva0
  replace F2 := fun x hx => (F2 x hx).same s29
  replace gF2 := s29 _ _ gF2
  replace u0 := u0.trans (SameBut1.of s29)
  generalize upd J28 y29 _ = J29 at *
  clear s29 hy29
  have e29 := dl_lv f29
  walk_at "go"
  refine ⟨y27, _, _, rfl, rfl, gF2, small1000 (by omega), ?_⟩
  have G2 : ∀ x ∈ L15 ++ [(V.ref y29)], Dl S' (nb n0 4) (m0 + 3) J29 x := allD_app F2 (allD_cons (dl_4 (l := 1) f29 (by decide)) allD_nil)
  have su : SameBut1 y27 J29 (upd J29 y27 (.lst (L15 ++ [(V.ref y29)]))) := fun b o hb nb => by rw [upd_ne nb]; exact hb
  have gG2 : (upd J29 y27 (.lst (L15 ++ [(V.ref y29)]))) y27 = some (.lst (L15 ++ [(V.ref y29)])) := upd_same
  replace G2 := fun x hx => (G2 x hx).keep (kp_but su hSy)
  replace Tw := Tw.keep (kp_but su hSy)
  have ex1 : Ex S' (upd J29 y27 (.lst (L15 ++ [(V.ref y29)]))) := fun x hx => by
    obtain ⟨o, e⟩ := ex0 x hx
    by_cases z : x = y27
    · subst z; exact ⟨_, upd_same⟩
    · exact ⟨o, su _ _ e z⟩
  replace hp1 : PoolAt (upd J29 y27 (.lst (L15 ++ [(V.ref y29)]))) p (n + 1) := let ⟨a, b, c, e, h⟩ := hp1; ⟨a, b, c, su _ _ e nyp.symm, h⟩
  replace gva0 := su _ _ gva0 nva
  replace u0 : SameBut1 p H (upd J29 y27 (.lst (L15 ++ [(V.ref y29)]))) := fun b o hb nb => su _ _ (u0 _ _ hb nb) (fun z => by rw [z, hyH] at hb; cases hb)
  generalize upd J29 y27 _ = JX at *
  clear F2 gF2 su ex0
  have ex0 := ex1
  clear ex1
  have l16 : (L15 ++ [(V.ref y29)]).length = 16 := by rw [List.length_append, l15]; rfl
  generalize (L15 ++ [(V.ref y29)] : List V) = L16 at *
  walk_at "go"
  refine ⟨small (show 2 ≤ 1000 by decide), fun y30 hy30 => ?_⟩
  have f30 := lvT (xs := [(V.int (c : Int)), (V.ref va)]) (n0 := n0) (m0 := m0) (l := 0) hy30 ex0 (allD_cons (ki hck) (allD_cons (Tw.lv hg hn0 hm0) allD_nil)) (by simp)
  have s30 := same_new hy30 (.tup [(V.int (c : Int)), (V.ref va)])
  replace Tw := Tw.same s30
  replace ex0 := ex0.same s30
  replace hp1 := hp1.same s30
  replace gva0 := s30 _ _ gva0
  replace G2 := fun x hx => (G2 x hx).same s30
  replace gG2 := s30 _ _ gG2
  replace u0 := u0.trans (SameBut1.of s30)
  generalize upd JX y30 _ = J30 at *
  clear s30 hy30
  walk_at "go"
  refine ⟨small (show 0 ≤ 1000 by decide), fun y31 hy31 => ?_⟩
  have f31 := lvL (xs := []) (n0 := n0) (m0 := m0) (l := 0) hy31 ex0 allD_nil (by simp)
  have s31 := same_new hy31 (.lst [])
  replace Tw := Tw.same s31
  replace ex0 := ex0.same s31
  replace hp1 := hp1.same s31
  replace gva0 := s31 _ _ gva0
  replace G2 := fun x hx => (G2 x hx).same s31
  replace gG2 := s31 _ _ gG2
  replace f30 := f30.same s31
  replace u0 := u0.trans (SameBut1.of s31)
  generalize upd J30 y31 _ = J31 at *
  clear s31 hy31
  have e31 := dl_lv f31
  walk_at "go"
  refine ⟨small (show 2 ≤ 1000 by decide), fun y32 hy32 => ?_⟩
  have f32 := lvT (xs := [(V.int (c : Int)), (V.ref y31)]) (n0 := n0) (m0 := m0) (l := 1) hy32 ex0 (allD_cons (Lv.up (l := 0) (ki hck) (by decide)) (allD_cons e31 allD_nil)) (by simp)
  have s32 := same_new hy32 (.tup [(V.int (c : Int)), (V.ref y31)])
  replace Tw := Tw.same s32
  replace ex0 := ex0.same s32
  replace hp1 := hp1.same s32
  replace gva0 := s32 _ _ gva0
  replace G2 := fun x hx => (G2 x hx).same s32
  replace gG2 := s32 _ _ gG2
  replace f30 := f30.same s32
  replace u0 := u0.trans (SameBut1.of s32)
  generalize upd J31 y32 _ = J32 at *
  clear s32 hy32
  walk_at "go"
  refine ⟨small (show 2 ≤ 1000 by decide), fun y33 hy33 => ?_⟩
  have f33 := lvL (xs := [(V.ref y30), (V.ref y32)]) (n0 := n0) (m0 := m0) (l := 2) hy33 ex0 (allD_cons (Lv.up (l := 1) f30 (by decide)) (allD_cons f32 allD_nil)) (by simp)
  have s33 := same_new hy33 (.lst [(V.ref y30), (V.ref y32)])
  replace Tw := Tw.same s33
  replace ex0 := ex0.same s33
  replace hp1 := hp1.same s33
  replace gva0 := s33 _ _ gva0
  replace G2 := fun x hx => (G2 x hx).same s33
  replace gG2 := s33 _ _ gG2
  replace u0 := u0.trans (SameBut1.of s33)
  generalize upd J32 y33 _ = J33 at *
  clear s33 hy33
  have e33 := dl_lv f33
  walk_at "go"
  refine ⟨small (show 0 ≤ 1000 by decide), fun y34 hy34 => ?_⟩
  have f34 := lvL (xs := []) (n0 := n0) (m0 := m0) (l := 0) hy34 ex0 allD_nil (by simp)
  have s34 := same_new hy34 (.lst [])
  replace Tw := Tw.same s34
  replace ex0 := ex0.same s34
  replace hp1 := hp1.same s34
  replace gva0 := s34 _ _ gva0
  replace G2 := fun x hx => (G2 x hx).same s34
  replace gG2 := s34 _ _ gG2
  replace f33 := f33.same s34
  replace e33 := e33.same s34
  replace u0 := u0.trans (SameBut1.of s34)
  generalize upd J33 y34 _ = J34 at *
  clear s34 hy34
  have e34 := dl_lv f34
  walk_at "go"
  refine ⟨small (show 2 ≤ 1000 by decide), fun y35 hy35 => ?_⟩
  have f35 := lvT (xs := [(V.int (c : Int)), (V.ref va)]) (n0 := n0) (m0 := m0) (l := 0) hy35 ex0 (allD_cons (ki hck) (allD_cons (Tw.lv hg hn0 hm0) allD_nil)) (by simp)
  have s35 := same_new hy35 (.tup [(V.int (c : Int)), (V.ref va)])
  replace Tw := Tw.same s35
  replace ex0 := ex0.same s35
  replace hp1 := hp1.same s35
  replace gva0 := s35 _ _ gva0
  replace G2 := fun x hx => (G2 x hx).same s35
  replace gG2 := s35 _ _ gG2
  replace f33 := f33.same s35
  replace e33 := e33.same s35
  replace f34 := f34.same s35
  replace e34 := e34.same s35
  replace u0 := u0.trans (SameBut1.of s35)
  generalize upd J34 y35 _ = J35 at *
  clear s35 hy35
  walk_at "go"
  refine ⟨small (show 1 ≤ 1000 by decide), fun y36 hy36 => ?_⟩
  have f36 := lvL (xs := [(V.ref y35)]) (n0 := n0) (m0 := m0) (l := 1) hy36 ex0 (allD_cons f35 allD_nil) (by simp)
  have s36 := same_new hy36 (.lst [(V.ref y35)])
  replace Tw := Tw.same s36
  replace ex0 := ex0.same s36
  replace hp1 := hp1.same s36
  replace gva0 := s36 _ _ gva0
  replace G2 := fun x hx => (G2 x hx).same s36
  replace gG2 := s36 _ _ gG2
  replace f33 := f33.same s36
  replace e33 := e33.same s36
  replace f34 := f34.same s36
  replace e34 := e34.same s36
  replace u0 := u0.trans (SameBut1.of s36)
  generalize upd J35 y36 _ = J36 at *
  clear s36 hy36
  have e36 := dl_lv f36
  walk_at "go"
  refine ⟨small (show 2 ≤ 1000 by decide), fun y37 hy37 => ?_⟩
  have f37 := lvT (xs := [(V.int (c : Int)), (V.ref y36)]) (n0 := n0) (m0 := m0) (l := 2) hy37 ex0 (allD_cons (Lv.up (l := 0) (ki hck) (by decide)) (allD_cons e36 allD_nil)) (by simp)
  have s37 := same_new hy37 (.tup [(V.int (c : Int)), (V.ref y36)])
  replace Tw := Tw.same s37
  replace ex0 := ex0.same s37
  replace hp1 := hp1.same s37
  replace gva0 := s37 _ _ gva0
  replace G2 := fun x hx => (G2 x hx).same s37
  replace gG2 := s37 _ _ gG2
  replace f33 := f33.same s37
  replace e33 := e33.same s37
  replace f34 := f34.same s37
  replace e34 := e34.same s37
  replace u0 := u0.trans (SameBut1.of s37)
  generalize upd J36 y37 _ = J37 at *
  clear s37 hy37
  walk_at "go"
  refine ⟨small (show 1 ≤ 1000 by decide), fun y38 hy38 => ?_⟩
  have f38 := lvL (xs := [(V.ref y37)]) (n0 := n0) (m0 := m0) (l := 3) hy38 ex0 (allD_cons f37 allD_nil) (by simp)
  have s38 := same_new hy38 (.lst [(V.ref y37)])
  replace Tw := Tw.same s38
  replace ex0 := ex0.same s38
  replace hp1 := hp1.same s38
  replace gva0 := s38 _ _ gva0
  replace G2 := fun x hx => (G2 x hx).same s38
  replace gG2 := s38 _ _ gG2
  replace f33 := f33.same s38
  replace e33 := e33.same s38
  replace f34 := f34.same s38
  replace e34 := e34.same s38
  replace u0 := u0.trans (SameBut1.of s38)
  generalize upd J37 y38 _ = J38 at *
  clear s38 hy38
  have e38 := dl_lv f38
  walk_at "go"
  intro y39 hy39
  have f39 := lv_dict h2000 hm2 ex0 hy39
  have s39 := same_new hy39 (.dK [])
  replace Tw := Tw.same s39
  replace ex0 := ex0.same s39
  replace hp1 := hp1.same s39
  replace gva0 := s39 _ _ gva0
  replace G2 := fun x hx => (G2 x hx).same s39
  replace gG2 := s39 _ _ gG2
  replace f33 := f33.same s39
  replace e33 := e33.same s39
  replace f34 := f34.same s39
  replace e34 := e34.same s39
  replace f38 := f38.same s39
  replace e38 := e38.same s39
  replace u0 := u0.trans (SameBut1.of s39)
  generalize upd J38 y39 _ = J39 at *
  clear s39 hy39
  walk_at "go"
  refine ⟨small (show 2 ≤ 1000 by decide), fun y40 hy40 => ?_⟩
  have f40 := lvT (xs := [(V.int (c : Int)), (V.ref y39)]) (n0 := n0) (m0 := m0) (l := 0) hy40 ex0 (allD_cons (ki hck) (allD_cons f39 allD_nil)) (by simp)
  have s40 := same_new hy40 (.tup [(V.int (c : Int)), (V.ref y39)])
  replace Tw := Tw.same s40
  replace ex0 := ex0.same s40
  replace hp1 := hp1.same s40
  replace gva0 := s40 _ _ gva0
  replace G2 := fun x hx => (G2 x hx).same s40
  replace gG2 := s40 _ _ gG2
  replace f33 := f33.same s40
  replace e33 := e33.same s40
  replace f34 := f34.same s40
  replace e34 := e34.same s40
  replace f38 := f38.same s40
  replace e38 := e38.same s40
  replace u0 := u0.trans (SameBut1.of s40)
  generalize upd J39 y40 _ = J40 at *
  clear s40 hy40
  walk_at "go"
  refine ⟨small (show 1 ≤ 1000 by decide), fun y41 hy41 => ?_⟩
  have f41 := lvL (xs := [(V.ref y40)]) (n0 := n0) (m0 := m0) (l := 1) hy41 ex0 (allD_cons f40 allD_nil) (by simp)
  have s41 := same_new hy41 (.lst [(V.ref y40)])
  replace Tw := Tw.same s41
  replace ex0 := ex0.same s41
  replace hp1 := hp1.same s41
  replace gva0 := s41 _ _ gva0
  replace G2 := fun x hx => (G2 x hx).same s41
  replace gG2 := s41 _ _ gG2
  replace f33 := f33.same s41
  replace e33 := e33.same s41
  replace f34 := f34.same s41
  replace e34 := e34.same s41
  replace f38 := f38.same s41
  replace e38 := e38.same s41
  replace u0 := u0.trans (SameBut1.of s41)
  generalize upd J40 y41 _ = J41 at *
  clear s41 hy41
  have e41 := dl_lv f41
  walk_at "go"
  refine ⟨small (show 2 ≤ 1000 by decide), fun y42 hy42 => ?_⟩
  have f42 := lvT (xs := [(V.int (c : Int)), (tx [])]) (n0 := n0) (m0 := m0) (l := 0) hy42 ex0 (allD_cons (ki hck) (allD_cons (kT (by unfold Low; decide) (by decide)) allD_nil)) (by simp)
  have s42 := same_new hy42 (.tup [(V.int (c : Int)), (tx [])])
  replace Tw := Tw.same s42
  replace ex0 := ex0.same s42
  replace hp1 := hp1.same s42
  replace gva0 := s42 _ _ gva0
  replace G2 := fun x hx => (G2 x hx).same s42
  replace gG2 := s42 _ _ gG2
  replace f33 := f33.same s42
  replace e33 := e33.same s42
  replace f34 := f34.same s42
  replace e34 := e34.same s42
  replace f38 := f38.same s42
  replace e38 := e38.same s42
  replace f41 := f41.same s42
  replace e41 := e41.same s42
  replace u0 := u0.trans (SameBut1.of s42)
  generalize upd J41 y42 _ = J42 at *
  clear s42 hy42
  walk_at "go"
  refine ⟨small (show 1 ≤ 1000 by decide), fun y43 hy43 => ?_⟩
  have f43 := lvL (xs := [(V.ref y42)]) (n0 := n0) (m0 := m0) (l := 1) hy43 ex0 (allD_cons f42 allD_nil) (by simp)
  have s43 := same_new hy43 (.lst [(V.ref y42)])
  replace Tw := Tw.same s43
  replace ex0 := ex0.same s43
  replace hp1 := hp1.same s43
  replace gva0 := s43 _ _ gva0
  replace G2 := fun x hx => (G2 x hx).same s43
  replace gG2 := s43 _ _ gG2
  replace f33 := f33.same s43
  replace e33 := e33.same s43
  replace f34 := f34.same s43
  replace e34 := e34.same s43
  replace f38 := f38.same s43
  replace e38 := e38.same s43
  replace f41 := f41.same s43
  replace e41 := e41.same s43
  replace u0 := u0.trans (SameBut1.of s43)
  generalize upd J42 y43 _ = J43 at *
  clear s43 hy43
  have e43 := dl_lv f43
  walk_at "go"
  refine ⟨small (show 5 ≤ 1000 by decide), fun y44 hy44 => ?_⟩
  have M2 : ∀ x ∈ [(V.ref y33), (V.ref y34), (V.ref y38), (V.ref y41), (V.ref y43)], Dl S' (nb n0 4) (m0 + 3) J43 x := (allD_cons (dl_4 (l := 2) f33 (by decide)) (allD_cons (dl_4 (l := 0) f34 (by decide)) (allD_cons (dl_4 (l := 3) f38 (by decide)) (allD_cons (dl_4 (l := 1) f41 (by decide)) (allD_cons (dl_4 (l := 1) f43 (by decide)) allD_nil)))))
  have s44 := same_new hy44 (.lst [(V.ref y33), (V.ref y34), (V.ref y38), (V.ref y41), (V.ref y43)])
  have gM2 : (upd J43 y44 (.lst [(V.ref y33), (V.ref y34), (V.ref y38), (V.ref y41), (V.ref y43)])) y44 = some (.lst [(V.ref y33), (V.ref y34), (V.ref y38), (V.ref y41), (V.ref y43)]) := upd_same
  replace Tw := Tw.same s44
  replace ex0 := ex0.same s44
  replace hp1 := hp1.same s44
  replace gva0 := s44 _ _ gva0
  replace G2 := fun x hx => (G2 x hx).same s44
  replace gG2 := s44 _ _ gG2
  replace M2 := fun x hx => (M2 x hx).same s44
  replace u0 := u0.trans (SameBut1.of s44)
  generalize upd J43 y44 _ = J44 at *
  clear s44 hy44
  walk_at "go"
  refine s_addL gG2 gM2 (by rw [l16, sizeLine_eq]; simp) (fun y45 hy45 => ?_)
  have P2 : ∀ x ∈ L16 ++ [(V.ref y33), (V.ref y34), (V.ref y38), (V.ref y41), (V.ref y43)], Dl S' (nb n0 4) (m0 + 3) J44 x := allD_app G2 M2
  have s45 := same_new hy45 (.lst (L16 ++ [(V.ref y33), (V.ref y34), (V.ref y38), (V.ref y41), (V.ref y43)]))
  have gP2 : (upd J44 y45 (.lst (L16 ++ [(V.ref y33), (V.ref y34), (V.ref y38), (V.ref y41), (V.ref y43)]))) y45 = some (.lst (L16 ++ [(V.ref y33), (V.ref y34), (V.ref y38), (V.ref y41), (V.ref y43)])) := upd_same
  clear G2 gG2 M2 gM2
  replace Tw := Tw.same s45
  replace ex0 := ex0.same s45
  replace hp1 := hp1.same s45
  replace gva0 := s45 _ _ gva0
  replace P2 := fun x hx => (P2 x hx).same s45
  replace u0 := u0.trans (SameBut1.of s45)
  generalize upd J44 y45 _ = J45 at *
  clear s45 hy45
  have l21 : (L16 ++ [(V.ref y33), (V.ref y34), (V.ref y38), (V.ref y41), (V.ref y43)]).length = 21 := by rw [List.length_append, l16]; rfl
  generalize (L16 ++ [(V.ref y33), (V.ref y34), (V.ref y38), (V.ref y41), (V.ref y43)] : List V) = L21 at *
  walk_at "go"
  refine take_use hp1 (by omega) (by omega) (by omega) (fun r9 J9 r90 r91 hp9 b9 => ?_)
  obtain ⟨fo, efo, mfo⟩ := at_memV (l := L21) r90 (by rw [l21]; exact r91)
  walk_at "go"
  have nyq : y45 ≠ p := fun z => by obtain ⟨_, _, _, e, _⟩ := hp1; rw [z, e] at gP2; cases gP2; simp at l21
  refine s_ixL (SqL.of (b9 _ _ gP2 nyq)) efo ?_
  refine q fo J9 hp9 (u0.trans b9) ((((P2 _ mfo).keep (kp_but b9 hSp')).less hS').mono ?_ ?_)
  · simp only [nb]; omega
  · omega

theorem sc_law_changed : FnScope ["pool", "tree", "at", "left", "found", "kind", "within"] ["pool", "tree", "at", "left"] (defScope d_law_changed) := ⟨rfl, rfl, rfl, by decide +kernel, rfl, by decide +kernel, by decide +kernel⟩
theorem ok_law_changed (n : Nat) (F : Fun K "_law_changed" "_law_changed" d_law_changed f fd) (T : Txt K mg aK) (U_law_odd : FnU P w K mg base k "_law_odd" ["pool", "kind", "within"] (spOdd)) (U_law_changed : FnU P w K mg base k "_law_changed" ["pool", "tree", "at", "left"] (recSp gChg n)) : FnOk P w K mg base CX0 (k + 1) f fd ["pool", "tree", "at", "left"] (gChg n) := by
  refine F.ok sc_law_changed (fun vs H Q E h => ?_) (fun cdv A outer s H vs Q E hr h => ?_)
  · obtain ⟨S, p, L, m, c, a, v, t, rfl, _⟩ := h; rfl
  obtain ⟨S, p, L, m, c, a, v, t, rfl, hSp, hSL, npL, ex, hp, hm, gL, ht, hg, hsz, hht, q⟩ := h
  have hu := hr.units0
  obtain ⟨ta, tv, rfl, nta, ga, hvl, hk⟩ := ht.open
  refine ⟨_, (pss_cons (ps_set (i := 4) sc_law_changed.nd rfl (Or.inl rfl) (pe_lst pa_nil))  (pss_cons (ps_for PassesOwn.never rfl (pi_listK K (pv 1)) (pg_tupK (n := 2) K rfl (pgs_cons (pg_name (i := 5) sc_law_changed.nd rfl (Or.inl rfl)) (pgs_cons (pg_name (i := 6) sc_law_changed.nd rfl (Or.inl rfl)) pgs_nil)))   (pss_cons (ps_asg (pe_op op_plus (pe_ix (ix_A K) (pv 3) pe_int (fun _ _ => rfl)) pe_int) (pg_sub (pv 3) pe_int set_list))  (pss_one (ps_if (pt_cmpR (op_eqA K hu) (pe_op op_sub (pe_ix (ix_A K) (pv 3) pe_int (fun _ _ => rfl)) pe_int) (pv 2) (nomark _))   (pss_one (ps_set (i := 4) sc_law_changed.nd rfl (Or.inl rfl) (pe_op op_plus (pv 4) (pe_fn U_law_odd hr (pa_cons (pv 0) (pa_cons (pv 5) (pa_cons (pv 6) pa_nil)))))))   (pss_one (ps_expr (pe_bmK K PySem.F.plainAttrs_list PySem.F.slot_list_append PySem.F.type_list_append mt_append (pv 4) (pa_cons (pe_tup (pa_cons (pv 5) (pa_cons (pe_fn U_law_changed hr (pa_cons (pv 0) (pa_cons (pv 6) (pa_cons (pv 2) (pa_cons (pv 3) pa_nil))))) pa_nil))) pa_nil))))))))  (pss_one (ps_ret (pv 4))))), ?_⟩
  walk_at "go"
  refine ⟨small (show 0 ≤ 1000 by decide), fun D0 hD0 => ?_⟩
  have t1 := same_new hD0 (.lst [])
  have g1 : (upd H D0 (.lst [])) D0 = some (.lst []) := upd_same
  generalize upd H D0 _ = H1 at *
  walk_at "go"
  refine ⟨ta, rfl, ⟨_, SqL.of (t1 _ _ ga)⟩, ?_⟩
  refine for_lst (xs := tv) (fun i σ H' => ∃ (D : Addr) (xs : List V) (ds : List PyData) (c' : Int) (o5 o6 : Option V), σ = [some (.ref p), some (.ref ta), some (.int a), some (.ref L), some (.ref D), o5, o6] ∧ H' D = some (.lst xs) ∧ H D = none ∧ ¬S D ∧ Svs (fun x => S x ∨ x = D) H' xs ds ∧ Fl (200000 * szt t i) (2 * Tr.ht t + 3) ds ∧ PoolAt H' p (m + 2 * szt t i) ∧ H' L = some (.lst [.int c']) ∧ But2 p L H H' ∧ Ex S H')
    ⟨D0, [], [], c, _, _, rfl, g1, hD0, ex.new hD0, .nil, fl_nil, hp.same t1, t1 _ _ gL, fun x o _ _ e => t1 _ _ e, ex.same t1⟩ (fun i σ H' _ ⟨_, _, _, _, _, _, _, _, _, _, _, _, _, _, b2, _⟩ => SqL.of (kp_two b2 hSp hSL _ _ nta ga)) ?_ ?_
  rotate_left
  · rintro σ H2 ⟨D, xs, ds, c', o5, o6, rfl, g2, hD, nD, sv, fl, hp2, gL2, b2, ex2⟩
    rw [hvl, szt_all] at hp2 fl
    walk_at "go"
    exact q (.ref D) c' H2 hp2 gL2 b2 ⟨D, xs, ds, rfl, nD, g2, svs_less sv, fl⟩
  rintro i x σ H2 hx ⟨D, xs, ds, c', o5, o6, rfl, g2, hD, nD, sv, fl, hp2, gL2, b2, ex2⟩
  have hi : i < t.kids.length := by rw [← hvl]; exact (List.getElem?_eq_some_iff.mp hx).1
  obtain ⟨y, hy⟩ : ∃ y, t.kids[i]? = some y := ⟨_, List.getElem?_eq_getElem hi⟩
  obtain ⟨T1, b, e1, nT1, gT1, tb⟩ := hk i y hy
  rw [hx] at e1
  cases e1
  have hmem := List.mem_of_getElem? hy
  have hkh := kid_ht hmem
  have hsn := szt_next hy
  have hsl := szt_le t (i + 1)
  have hil := kids_len t
  have kp2 := kp_two b2 hSp hSL
  have nDL : D ≠ L := fun z => nD (z ▸ hSL)
  have nDp : D ≠ p := fun z => nD (z ▸ hSp)
  have tb' : TrS (fun x => S x ∨ x = D) H2 (.ref b) y.2 := (tb.more (S' := fun x => S x ∨ x = D) fun x o n e z => z.elim n fun z => by rw [z, hD] at e; cases e).keep fun x o n e => kp2 x o (fun z => n (.inl z)) e
  refine s_gtup (SqT.of (kp2 _ _ nT1 gT1)) rfl ?_
  walk_at "go"
  refine s_ixL (SqL.of gL2) (show atI _ (0 : Int) = some (.int c') from rfl) ?_
  walk_at "go"
  refine s_setL gL2 (j := 0) rfl ?_
  have gL3 : (upd H2 L (.lst ([V.int c'].set 0 (.int (c' + 1))))) L = some (.lst [.int (c' + 1)]) := upd_same
  have bL : SameBut1 L H2 (upd H2 L (.lst ([V.int c'].set 0 (.int (c' + 1))))) := fun b o hb nb => by rw [upd_ne nb]; exact hb
  generalize upd H2 L _ = H3 at *
  have kL : Kp (fun x => S x ∨ x = D) H2 H3 := kp_but bL (.inl hSL)
  have g3 := bL _ _ g2 nDL
  have sv3 := svs_kp sv kL
  have tb3 := tb'.keep kL
  have hp3 : PoolAt H3 p (m + 2 * szt t i) := let ⟨a, b, c, e, h⟩ := hp2; ⟨a, b, c, bL _ _ e npL, h⟩
  have b3 : But2 p L H H3 := fun x o n1 n2 e => bL _ _ (b2 x o n1 n2 e) n2
  have ex3 : Ex (fun x => S x ∨ x = D) H3 := fun x hx => by
    rcases hx with hx | hx
    · obtain ⟨o, e⟩ := ex2 x hx
      by_cases z : x = L
      · rw [z]; exact ⟨_, gL3⟩
      · exact ⟨o, bL _ _ e z⟩
    · rw [hx]; exact ⟨_, g3⟩
  have hlen := fl_len fl
  have hxs := (svs_get sv3).1
  have hd5 : 2 * Tr.ht y.2 + 5 ≤ 2 * Tr.ht t + 3 := by omega
  clear sv kL g2 hp2 b2 tb' ex2 bL gL2
  walk_at "go"
  refine s_ixL (SqL.of gL3) (show atI _ (0 : Int) = some (.int (c' + 1)) from rfl) ?_
  walk_at "go"
  refine ifd (fun he => ?_) (fun he => ?_)
  · walk_at "go"
    refine ⟨fun x => S x ∨ x = D, p, _, y.1, .ref b, y.2, rfl, .inl hSp, ex3, hp3, by omega, by omega, tb3, by omega, by omega, fun w H4 hp4 b4 dl => ?_⟩
    have kp4 : Kp (fun x => S x ∨ x = D) H3 H4 := kp_but b4 (.inl hSp)
    obtain ⟨wa, ws, wds, rfl, nwa, gw, svw, flw⟩ := dl
    have hwl := fl_len flw
    have hws := (svs_get svw).1
    walk_at "go"
    refine s_addL (b4 _ _ g3 nDp) gw (by rw [sizeLine_eq]; omega) (fun D5 hD5 => ?_)
    have t5 := same_new hD5 (.lst (xs ++ ws))
    have sv5 := svs_kp (svs_grow (svs_less (svs_app svw (svs_kp sv3 kp4))) hD5) (kp_same t5)
    walk_at "go"
    refine ⟨D5, xs ++ ws, ds ++ wds, c' + 1, _, _, rfl, upd_same, ?_, ?_, sv5, ?_, ?_, t5 _ _ (b4 _ _ gL3 (fun z => npL z.symm)), ?_, ?_⟩
    · cases e : H D5 with
      | none => rfl
      | some o =>
        by_cases z : D5 = p
        · obtain ⟨_, _, _, e', _⟩ := hp4
          rw [z, e'] at hD5; cases hD5
        · by_cases z2 : D5 = L
          · rw [z2, b4 _ _ gL3 (fun z => npL z.symm)] at hD5; cases hD5
          · rw [b4 _ _ (b3 _ _ z z2 e) z] at hD5; cases hD5
    · intro z
      obtain ⟨o, e⟩ := ex3 D5 (.inl z)
      by_cases z2 : D5 = p
      · obtain ⟨_, _, _, e', _⟩ := hp4
        rw [z2, e'] at hD5; cases hD5
      · rw [b4 _ _ e z2] at hD5; cases hD5
    · exact (fl_app (flw.mono (Nat.le_refl _) hd5) fl).mono (by rw [hsn]; omega) (Nat.le_refl _)
    · exact (hp4.same t5).mono (by rw [hsn]; omega)
    · exact fun x o n1 n2 e => t5 _ _ (b4 _ _ (b3 x o n1 n2 e) n1)
    · intro x hx
      obtain ⟨o, e⟩ := ex3 x (.inl hx)
      by_cases z2 : x = p
      · obtain ⟨_, _, _, e', _⟩ := hp4
        rw [z2]; exact ⟨_, t5 _ _ e'⟩
      · exact ⟨o, t5 _ _ (b4 _ _ e z2)⟩
  · obtain ⟨n', rfl⟩ : ∃ n', n = n' + 1 := ⟨n - 1, by omega⟩
    walk_at "go"
    refine ⟨.inl ⟨rfl, _, SqL.of g3⟩, ?_⟩
    walk_at "go"
    refine ⟨fun x => S x ∨ x = D, p, L, _, c' + 1, a, .ref b, y.2, rfl, .inl hSp, .inl hSL, npL, ex3, hp3, by omega, gL3, tb3, by omega, by omega, by omega, fun w c4 H4 hp4 gL4 b4 dl => ?_⟩
    have kp4 : Kp (fun x => S x ∨ x = D) H3 H4 := kp_two b4 (.inl hSp) (.inl hSL)
    have g4 := b4 _ _ nDp nDL g3
    have ex4 : Ex (fun x => S x ∨ x = D) H4 := fun x hx => by
      obtain ⟨o, e⟩ := ex3 x hx
      by_cases z : x = p
      · obtain ⟨_, _, _, e', _⟩ := hp4
        rw [z]; exact ⟨_, e'⟩
      · by_cases z2 : x = L
        · rw [z2]; exact ⟨_, gL4⟩
        · exact ⟨o, b4 _ _ z z2 e⟩
    walk_at "go"
    refine ⟨small (show 2 ≤ 1000 by decide), fun T5 hT5 => ?_⟩
    have t5 := same_new hT5 (.tup [.int (y.1 : Int), w])
    obtain ⟨wa, ws, wds, rfl, nwa, gw, svw, flw⟩ := dl
    have hci : ((y.1 : Int)).natAbs < 10 ^ 60 := Nat.lt_of_le_of_lt (show _ ≤ 4 by omega) (by decide)
    have svT : Sv (fun x => S x ∨ x = D) (upd H4 T5 (.tup [.int (y.1 : Int), .ref wa])) (.ref T5) (.tuple [.int (y.1 : Int), .list wds]) := .tup upd_same (ex4.new hT5) (.cons (.sc (.int _)) (.cons (.lst (t5 _ _ gw) nwa (svs_kp svw (kp_same t5))) .nil))
    have fT5 := fl_cons ((fl_tup (fl_cons ((fit_int hci).mono (Nat.le_refl _) (show 1 ≤ 2 * Tr.ht y.2 + 4 by omega)) (fl_cons (fl_lst flw) (fl_nil (n := 0))))).mono (Nat.le_refl _) (show _ ≤ 2 * Tr.ht t + 3 by omega)) (fl_nil (n := 0))
    have sv5 := svs_kp (svs_kp sv3 kp4) (kp_same t5)
    have g5 := t5 _ _ g4
    have hp5 := hp4.same t5
    have gL5 := t5 _ _ gL4
    have b5 : But2 p L H (upd H4 T5 (.tup [.int (y.1 : Int), .ref wa])) := fun x o n1 n2 e => t5 _ _ (b4 _ _ n1 n2 (b3 x o n1 n2 e))
    have ex5 := ex4.same t5
    generalize upd H4 T5 _ = H5 at *
    walk_at "go"
    refine ⟨D, _, _, rfl, rfl, g5, by rw [sizeLine_eq]; omega, ?_⟩
    have bD : SameBut1 D H5 (upd H5 D (.lst (xs ++ [.ref T5]))) := fun b o hb nb => by rw [upd_ne nb]; exact hb
    walk_at "go"
    refine ⟨D, xs ++ [.ref T5], ds ++ [.tuple [.int (y.1 : Int), .list wds]], c4, _, _, rfl, upd_same, hD, nD, svs_kp (svs_app (svs_one svT) sv5) (kp_but bD (.inr rfl)), (fl_app fT5 fl).mono (by rw [hsn]; omega) (Nat.le_refl _), ?_, bD _ _ gL5 nDL.symm, fun x o n1 n2 e => bD _ _ (b5 x o n1 n2 e) (fun z => by rw [z, hD] at e; cases e), fun x hx => ?_⟩
    · obtain ⟨q1, q2, q3, e, h1, h2⟩ := hp5
      exact ⟨q1, q2, q3, bD _ _ e nDp.symm, h1, by omega⟩
    · obtain ⟨o, e⟩ := ex5 x (.inl hx)
      exact ⟨o, bD _ _ e (fun z => nD (z ▸ hx))⟩

theorem sc_law_no_tree : FnScope ["pool", "tree", "many", "some"] ["pool", "tree", "many"] (defScope d_law_no_tree) := ⟨rfl, rfl, rfl, by decide +kernel, rfl, by decide +kernel, by decide +kernel⟩
theorem ok_law_no_tree (F : Fun K "_law_no_tree" "_law_no_tree" d_law_no_tree f fd) (T : Txt K mg aK) (U_law_take : FnU P w K mg base k "_law_take" ["pool", "many"] (spTake)) (U_law_changed : FnU P w K mg base k "_law_changed" ["pool", "tree", "at", "left"] (recSp gChg 22)) : FnOk P w K mg base CX0 (k + 1) f fd ["pool", "tree", "many"] (spNoTr) := by
  refine F.ok sc_law_no_tree (fun vs H Q E h => ?_) (fun cdv A outer s H vs Q E hr h => ?_)
  · obtain ⟨S, p, n, v, t, m, rfl, _⟩ := h; rfl
  obtain ⟨S, p, n, v, t, m, rfl, sp, ex, hp, hn, ht, hg, hsz, hm0, hm1, q⟩ := h
  have hu := hr.units0
  have hh := ht_sz t
  have pa : ∀ {G : Hp} {k : Nat}, PoolAt G p k → SameBut1 p H G → Ex S G := fun ⟨a, b, c, e, _⟩ u x hx => by
    obtain ⟨o, eo⟩ := ex x hx
    by_cases z : x = p
    · rw [z]; exact ⟨_, e⟩
    · exact ⟨o, u _ _ eo z⟩
  refine ⟨_, (pss_cons (ps_set (i := 3) sc_law_no_tree.nd rfl (Or.inl rfl) (pe_op op_times (pe_lst (pa_cons (pe_fn U_law_changed hr (pa_cons (pv 0) (pa_cons (pv 1) (pa_cons (pe_fn U_law_take hr (pa_cons (pv 0) (pa_cons (pe_callB (call_maxA rfl) rfl T.n_max PyProof.Rows.boot_max (pa_cons pe_int (pa_cons (pv 2) pa_nil))) pa_nil))) (pa_cons (pe_lst (pa_cons pe_int pa_nil)) pa_nil))))) pa_nil)) pe_int))  (pss_cons (ps_set (i := 3) sc_law_no_tree.nd rfl (Or.inl rfl) (pe_op op_plus (pv 3) (PEb.pe (pe_lstB (Pl.cal (pe_callTy (call_tupleA K) rfl T.n_tuple PyProof.Rows.boot_tuple (pa_cons (pv 1) pa_nil)) (Pl.con pe_non (Pl.con pe_int (Pl.con (pe_tx (l := []) (by decide +kernel)) (Pl.con (pe_tx (l := [40, 41]) (by decide +kernel)) (Pl.dct pe_dnewK (Pl.tup (pe_tup pa_nil) (Pl.con pe_bl (Pl.bin (pe_op op_plus (pv 1) (pe_lst (pa_cons pe_non pa_nil))) (Pl.lst (pe_lst (pa_cons (pv 1) pa_nil)) (Pl.bin (pe_op op_plus (pv 1) (pe_op op_times (pe_lst (pa_cons (pe_tup (pa_cons pe_int (pa_cons (pe_lst pa_nil) pa_nil))) pa_nil)) pe_int)) Pl.nil)))))))))))))))  (pss_one (ps_ret (pe_ix (ix_A K) (pv 3) (pe_fn U_law_take hr (pa_cons (pv 0) (pa_cons pe_int pa_nil))) (fun _ _ => rfl)))))), ?_⟩
  walk_at "go"
  refine take_use hp (by omega) (by split <;> omega) (by split <;> omega) (fun r1 H1 r10 r11 hp1 b1 => ?_)
  have t1 := ht.keep (kp_but b1 sp)
  walk_at "go"
  refine ⟨small (show 1 ≤ 1000 by decide), fun L hL => ?_⟩
  have s2 := same_new hL (.lst [.int 0])
  have gL : (upd H1 L (.lst [.int 0])) L = some (.lst [.int 0]) := upd_same
  have nLp : L ≠ p := fun z => by obtain ⟨_, _, _, e, _⟩ := hp1; rw [z, e] at hL; cases hL
  have t2 := (t1.grow (S' := fun x => S x ∨ x = L) rfl hL).same s2
  have hp2 := hp1.same s2
  have ex2 := (pa hp1 b1).grow (S' := fun x => S x ∨ x = L) (o := .lst [.int 0]) rfl hL
  generalize upd H1 L _ = H2 at *
  walk_at "go"
  refine ⟨fun x => S x ∨ x = L, p, L, _, 0, r1, v, t, rfl, .inl sp, .inr rfl, nLp.symm, ex2, hp2, by omega, gL, t2, hg, hsz, Nat.le_trans hh (Nat.le_trans hsz (by decide)), fun w c3 H3 hp3 gL3 b3 dl => ?_⟩
  have hHL : H L = none := by
    cases e : H L with
    | none => rfl
    | some o => rw [b1 _ _ e nLp] at hL; cases hL
  have u3 : SameBut1 p H H3 := fun x o e n => b3 _ _ n (fun z => by rw [z, hHL] at e; cases e) (s2 _ _ (b1 _ _ e n))
  have d3 := (dl.less rfl).dv.mono (show _ ≤ 5000000 by omega) (show _ ≤ 50 by omega)
  have t3 := ht.keep (kp_but u3 sp)
  clear t1 s2 gL t2 hp2 ex2 b3 gL3 dl hp1 b1
  walk_at "go"
  refine ⟨small (show 1 ≤ 1000 by decide), fun y4 hy4 => ?_⟩
  have s4 := same_new hy4 (.lst [w])
  have g4 : (upd H3 y4 (.lst [w])) y4 = some (.lst [w]) := upd_same
  have d4 := d3.same s4
  have t4 := t3.same s4
  have hp4 := hp3.same s4
  have u4 := u3.trans (SameBut1.of s4)
  generalize upd H3 y4 _ = H4 at *
  clear d3 t3 hp3 u3 s4 hy4
  walk_at "go"
  refine s_rep (xs := [w]) g4 (by decide) (by decide) (small (by simp)) (fun y5 hy5 => ?_)
  have s5 := same_new hy5 (.lst (List.replicate (9 : Int).toNat [w]).flatten)
  have g5 : (upd H4 y5 (.lst (List.replicate (9 : Int).toNat [w]).flatten)) y5 = _ := upd_same
  have A5 : ∀ x ∈ (List.replicate (9 : Int).toNat [w]).flatten, Dv (S) 5000000 50 (upd H4 y5 (.lst (List.replicate (9 : Int).toNat [w]).flatten)) x := fun x hx => by rw [mem_rep hx]; exact d4.same s5
  have l5 : (List.replicate (9 : Int).toNat [w]).flatten.length = 9 := rep_len1
  have t5 := t4.same s5
  have hp5 := hp4.same s5
  have u5 := u4.trans (SameBut1.of s5)
  generalize upd H4 y5 _ = H5 at *
  generalize (List.replicate (9 : Int).toNat [w]).flatten = L9 at *
  clear d4 t4 hp4 u4 s5 hy5 g4
  obtain ⟨va, vxs, rfl, nva, gva, _⟩ := t5.open
  walk_at "go"
  simp only [tAll]
  walk_at "go"
  refine s_tupL (SqL.of gva) (fun y6 hy6 => ?_)
  have d6 : Dv (S) 5000000 50 _ (.ref y6) := Dv.mono (tupW t5 hg gva hy6 (pa hp5 u5) rfl rfl) (by rw [nb]; omega) (by omega)
  have s6 := same_new hy6 (.tup vxs)
  replace A5 := fun x hx => (A5 x hx).same s6
  replace g5 := s6 _ _ g5
  replace t5 := t5.same s6
  replace gva := s6 _ _ gva
  replace hp5 := hp5.same s6
  replace u5 := u5.trans (SameBut1.of s6)
  generalize upd H5 y6 _ = H6 at *
  clear s6 hy6
  walk_at "go"
  intro y7 hy7
  have d7 : Dv (S) 5000000 50 _ (.ref y7) := Dv.mono (lv_dict (n0 := 2000) (m0 := 2) (by decide) (by decide) (pa hp5 u5) hy7) (by rw [nb]; omega) (by omega)
  have s7 := same_new hy7 (.dK [])
  replace A5 := fun x hx => (A5 x hx).same s7
  replace g5 := s7 _ _ g5
  replace t5 := t5.same s7
  replace gva := s7 _ _ gva
  replace hp5 := hp5.same s7
  replace u5 := u5.trans (SameBut1.of s7)
  replace d6 := d6.same s7
  generalize upd H6 y7 _ = H7 at *
  clear s7 hy7
  walk_at "go"
  refine ⟨small (show 0 ≤ 1000 by decide), fun y8 hy8 => ?_⟩
  have d8 : Dv (S) 5000000 50 _ (.ref y8) := newT (xs := []) (n := 0) (m := 0) hy8 (pa hp5 u5) allD_nil (by simp) (by simp)
  have s8 := same_new hy8 (.tup [])
  replace A5 := fun x hx => (A5 x hx).same s8
  replace g5 := s8 _ _ g5
  replace t5 := t5.same s8
  replace gva := s8 _ _ gva
  replace hp5 := hp5.same s8
  replace u5 := u5.trans (SameBut1.of s8)
  replace d6 := d6.same s8
  replace d7 := d7.same s8
  generalize upd H7 y8 _ = H8 at *
  clear s8 hy8
  walk_at "go"
  refine ⟨small (show 1 ≤ 1000 by decide), fun y9 hy9 => ?_⟩
  have d9 := newL (S := S) (n' := 2002) (m' := 1) (xs := [V.non]) hy9 (pa hp5 u5) (allD_cons (dv_non (n := 2000) (m := 1) (by decide) (by decide)) allD_nil) (by simp) (by decide)
  have s9 := same_new hy9 (.lst [.non])
  have g9 : (upd H8 y9 (.lst [.non])) y9 = some (.lst [.non]) := upd_same
  replace A5 := fun x hx => (A5 x hx).same s9
  replace g5 := s9 _ _ g5
  replace t5 := t5.same s9
  replace gva := s9 _ _ gva
  replace hp5 := hp5.same s9
  replace u5 := u5.trans (SameBut1.of s9)
  replace d6 := d6.same s9
  replace d7 := d7.same s9
  replace d8 := d8.same s9
  generalize upd H8 y9 _ = H9 at *
  clear s9 hy9
  have hvl := fl_len (dl_same_at (t5.dl hg) gva).choose_spec.2
  have hvl2 := (svs_get (dl_same_at (t5.dl hg) gva).choose_spec.1).1
  generalize (dl_same_at (t5.dl hg) gva).choose = vds at hvl hvl2
  walk_at "go"
  refine s_addL gva g9 (by rw [sizeLine_eq]; simp; omega) (fun y10 hy10 => ?_)
  have d10 : Dv (S) 5000000 50 _ (.ref y10) := cat2 (t5.dl hg) d9 gva g9 hy10 (pa hp5 u5) (by omega) (by omega) (by omega)
  have s10 := same_new hy10 (.lst (vxs ++ [.non]))
  replace A5 := fun x hx => (A5 x hx).same s10
  replace g5 := s10 _ _ g5
  replace t5 := t5.same s10
  replace gva := s10 _ _ gva
  replace hp5 := hp5.same s10
  replace u5 := u5.trans (SameBut1.of s10)
  replace d6 := d6.same s10
  replace d7 := d7.same s10
  replace d8 := d8.same s10
  generalize upd H9 y10 _ = H10 at *
  clear s10 hy10 d9 g9
  walk_at "go"
  refine ⟨small (show 1 ≤ 1000 by decide), fun y11 hy11 => ?_⟩
  have d11 : Dv (S) 5000000 50 _ (.ref y11) := (newL (S := S) (n' := 100000) (m' := 49) (xs := [V.ref va]) hy11 (pa hp5 u5) (allD_cons ((t5.dl hg).dv.mono (show _ ≤ 50000 by omega) (show _ ≤ 49 by omega)) allD_nil) (by simp) (Nat.le_refl _)).dv.mono (by decide) (by decide)
  have s11 := same_new hy11 (.lst [.ref va])
  replace A5 := fun x hx => (A5 x hx).same s11
  replace g5 := s11 _ _ g5
  replace t5 := t5.same s11
  replace gva := s11 _ _ gva
  replace hp5 := hp5.same s11
  replace u5 := u5.trans (SameBut1.of s11)
  replace d6 := d6.same s11
  replace d7 := d7.same s11
  replace d8 := d8.same s11
  replace d10 := d10.same s11
  generalize upd H10 y11 _ = H11 at *
  clear s11 hy11
  walk_at "go"
  refine ⟨small (show 0 ≤ 1000 by decide), fun y12 hy12 => ?_⟩
  have d12 := (newL (S := S) (n := 0) (m := 0) (n' := 0) (m' := 0) (xs := []) hy12 (pa hp5 u5) allD_nil (by simp) (by simp)).dv
  have s12 := same_new hy12 (.lst [])
  replace A5 := fun x hx => (A5 x hx).same s12
  replace g5 := s12 _ _ g5
  replace t5 := t5.same s12
  replace gva := s12 _ _ gva
  replace hp5 := hp5.same s12
  replace u5 := u5.trans (SameBut1.of s12)
  replace d6 := d6.same s12
  replace d7 := d7.same s12
  replace d8 := d8.same s12
  replace d10 := d10.same s12
  replace d11 := d11.same s12
  generalize upd H11 y12 _ = H12 at *
  clear s12 hy12
  walk_at "go"
  refine ⟨small (show 2 ≤ 1000 by decide), fun y13 hy13 => ?_⟩
  have d13 := newT (S := S) (n := 2000) (m := 1) (n' := 5000) (m' := 2) (xs := [V.int 0, .ref y12]) hy13 (pa hp5 u5) (allD_cons (dv_int (by decide) (by decide) (by decide)) (allD_cons (d12.mono (by decide) (by decide)) allD_nil)) (by simp) (by decide)
  have s13 := same_new hy13 (.tup [.int 0, .ref y12])
  replace A5 := fun x hx => (A5 x hx).same s13
  replace g5 := s13 _ _ g5
  replace t5 := t5.same s13
  replace gva := s13 _ _ gva
  replace hp5 := hp5.same s13
  replace u5 := u5.trans (SameBut1.of s13)
  replace d6 := d6.same s13
  replace d7 := d7.same s13
  replace d8 := d8.same s13
  replace d10 := d10.same s13
  replace d11 := d11.same s13
  generalize upd H12 y13 _ = H13 at *
  clear s13 hy13 d12
  walk_at "go"
  refine ⟨small (show 1 ≤ 1000 by decide), fun y14 hy14 => ?_⟩
  have s14 := same_new hy14 (.lst [.ref y13])
  have g14 : (upd H13 y14 (.lst [.ref y13])) y14 = some (.lst [.ref y13]) := upd_same
  replace A5 := fun x hx => (A5 x hx).same s14
  replace g5 := s14 _ _ g5
  replace t5 := t5.same s14
  replace gva := s14 _ _ gva
  replace hp5 := hp5.same s14
  replace u5 := u5.trans (SameBut1.of s14)
  replace d6 := d6.same s14
  replace d7 := d7.same s14
  replace d8 := d8.same s14
  replace d10 := d10.same s14
  replace d11 := d11.same s14
  replace d13 := d13.same s14
  generalize upd H13 y14 _ = H14 at *
  clear s14 hy14
  walk_at "go"
  refine s_rep (xs := [.ref y13]) g14 (by decide) (by decide) (small (by simp)) (fun y15 hy15 => ?_)
  have l20 : (List.replicate (20 : Int).toNat [V.ref y13]).flatten.length = 20 := rep_len1
  have d15 := newL (S := S) (n := 5000) (m := 2) (n' := 200000) (m' := 2) (xs := (List.replicate (20 : Int).toNat [V.ref y13]).flatten) hy15 (pa hp5 u5) (fun x hx => by rw [mem_rep hx]; exact d13) (by rw [l20]; decide) (by decide)
  have s15 := same_new hy15 (.lst (List.replicate (20 : Int).toNat [V.ref y13]).flatten)
  have g15 : (upd H14 y15 (.lst (List.replicate (20 : Int).toNat [V.ref y13]).flatten)) y15 = some (.lst (List.replicate (20 : Int).toNat [V.ref y13]).flatten) := upd_same
  replace A5 := fun x hx => (A5 x hx).same s15
  replace g5 := s15 _ _ g5
  replace t5 := t5.same s15
  replace gva := s15 _ _ gva
  replace hp5 := hp5.same s15
  replace u5 := u5.trans (SameBut1.of s15)
  replace d6 := d6.same s15
  replace d7 := d7.same s15
  replace d8 := d8.same s15
  replace d10 := d10.same s15
  replace d11 := d11.same s15
  generalize upd H14 y15 _ = H15 at *
  generalize (List.replicate (20 : Int).toNat [V.ref y13]).flatten = L20 at *
  clear s15 hy15 d13 g14
  walk_at "go"
  refine s_addL gva g15 (by rw [sizeLine_eq, l20]; omega) (fun y16 hy16 => ?_)
  have d16 : Dv (S) 5000000 50 _ (.ref y16) := cat2 (t5.dl hg) d15 gva g15 hy16 (pa hp5 u5) (by omega) (by omega) (by omega)
  have s16 := same_new hy16 (.lst (vxs ++ L20))
  replace A5 := fun x hx => (A5 x hx).same s16
  replace g5 := s16 _ _ g5
  replace hp5 := hp5.same s16
  replace u5 := u5.trans (SameBut1.of s16)
  replace d6 := d6.same s16
  replace d7 := d7.same s16
  replace d8 := d8.same s16
  replace d10 := d10.same s16
  replace d11 := d11.same s16
  generalize upd H15 y16 _ = H16 at *
  clear s16 hy16 d15 g15 t5 gva
  walk_at "go"
  refine ⟨small (show 11 ≤ 1000 by decide), fun y17 hy17 => ?_⟩
  obtain ⟨M11, hM11⟩ : ∃ M, M = [V.ref y6, .non, .int 0, tx [], tx [40, 41], .ref y7, .ref y8, .bl true, .ref y10, .ref y11, .ref y16] := ⟨_, rfl⟩
  have B : ∀ x ∈ M11, Dv (S) 5000000 50 H16 x := by
    rw [hM11]
    exact allD_cons d6 (allD_cons (dv_non (by decide) (by decide)) (allD_cons (dv_int (by decide) (by decide) (by decide)) (allD_cons (dv_tx (by unfold Low; decide) (by decide) (by decide) (by decide)) (allD_cons (dv_tx (by unfold Low; decide) (by decide) (by decide) (by decide)) (allD_cons d7 (allD_cons d8 (allD_cons (dv_bl true (by decide) (by decide)) (allD_cons d10 (allD_cons d11 (allD_cons d16 allD_nil))))))))))
  have lM : M11.length = 11 := by rw [hM11]; rfl
  rw [← hM11]
  have s17 := same_new hy17 (.lst M11)
  have g17 : (upd H16 y17 (.lst M11)) y17 = some (.lst M11) := upd_same
  replace A5 := fun x hx => (A5 x hx).same s17
  replace B := fun x hx => (B x hx).same s17
  replace g5 := s17 _ _ g5
  replace hp5 := hp5.same s17
  replace u5 := u5.trans (SameBut1.of s17)
  generalize upd H16 y17 _ = H17 at *
  clear s17 hy17 hM11 d6 d7 d8 d10 d11 d16
  walk_at "go"
  refine s_addL g5 g17 (by rw [l5, lM, sizeLine_eq]; omega) (fun y18 hy18 => ?_)
  have n18 : y18 ≠ p := fun z => by obtain ⟨_, _, _, e, _⟩ := hp5; rw [z, e] at hy18; cases hy18
  have s18 := same_new hy18 (.lst (L9 ++ M11))
  have g18 : (upd H17 y18 (.lst (L9 ++ M11))) y18 = some (.lst (L9 ++ M11)) := upd_same
  have C : ∀ x ∈ L9 ++ M11, Dv (S) 5000000 50 (upd H17 y18 (.lst (L9 ++ M11))) x := fun x hx => (allD_app A5 B x hx).same s18
  have l18 : (L9 ++ M11).length = 20 := by rw [List.length_append, l5, lM]
  replace hp5 := hp5.same s18
  replace u5 := u5.trans (SameBut1.of s18)
  generalize upd H17 y18 _ = H18 at *
  generalize L9 ++ M11 = LL at *
  walk_at "go"
  refine take_use hp5 (by omega) (by omega) (by omega) (fun r9 J9 r90 r91 hp9 b9 => ?_)
  obtain ⟨fo, efo, mfo⟩ := at_memV (l := LL) r90 (by rw [l18]; exact r91)
  walk_at "go"
  refine s_ixL (SqL.of (b9 _ _ g18 n18)) efo ?_
  exact q fo J9 (hp9.mono (by omega)) (u5.trans b9) ((C _ mfo).keep (kp_but b9 sp))

theorem sc_law_right : FnScope ["k", "thing", "kept", "found"] ["k", "thing"] (defScope d_law_right) := ⟨rfl, rfl, rfl, by decide +kernel, rfl, by decide +kernel, by decide +kernel⟩
theorem ok_law_right (F : Fun K "_law_right" "_law_right" d_law_right f fd) (T : Txt K mg aK) (U_is_tree : FnU P w K mg base k "is_tree" ["k", "thing"] (spTreeD)) (U_law_count : FnU P w K mg base k "_law_count" ["k", "thing"] (recSp gCountD 26)) : FnOk P w K mg base CX0 (k + 1) f fd ["k", "thing"] (spRightD 16000000) := by
  refine F.ok sc_law_right (fun vs H Q E h => ?_) (fun cdv A outer s H vs Q E hr h => ?_)
  · obtain ⟨kk, v, p, d, rfl, _⟩ := h; rfl
  obtain ⟨kk, v, p, d, rfl, k1, k4, hd, hf, q⟩ := h
  have hu := hr.units0
  refine ⟨_, (pss_cons (ps_set (i := 2) sc_law_right.nd rfl (Or.inl rfl) (pe_callB (call_reprX hr) rfl T.n_repr PyProof.Rows.boot_repr (pa_cons (pv 1) pa_nil)))  (pss_cons (ps_set (i := 3) sc_law_right.nd rfl (Or.inl rfl) (pe_fn U_is_tree hr (pa_cons (pv 0) (pa_cons (pv 1) pa_nil))))  (pss_one (ps_ret (pe_and (pe_callB (call_isiA K) rfl T.n_isinstance PyProof.Rows.boot_isinstance (pa_cons (pv 3) (pa_cons (pe_ty T.n_bool PyProof.Rows.boot_bool) pa_nil))) (pe_and (pe_cmpR (op_eqA K hu) (pv 3) (pe_cmpR op_lt (pe_fn U_law_count hr (pa_cons (pv 0) (pa_cons (pv 1) pa_nil))) pe_int (nomark _)) (nomark _)) (pe_one (pe_cmpR (op_eqA K hu) (pe_callB (call_reprX hr) rfl T.n_repr PyProof.Rows.boot_repr (pa_cons (pv 1) pa_nil)) (pv 2) (nomark _))))))))), ?_⟩
  walk_at "go"
  refine s_reprX hd hf (by decide) (by decide) ?_
  walk_at "go"
  refine ⟨kk, v, p, d, rfl, k1, k4, hd, fun b H1 s1 hb => ?_⟩
  walk_at "go"
  refine s_isi (b := true) (.bl b) (by with_unfolding_all rfl) ?_
  walk_at "go"
  refine ifp rfl ?_
  walk_at "go"
  refine ⟨kk, v, p, d, rfl, k1, k4, hd.same s1, Nat.le_trans hf.2.2 (by decide), fun c H2 s2 hc => ?_⟩
  walk_at "go"
  have eb : b = decide (c < 21) := by rw [Bool.eq_iff_iff, hb, decide_eq_true_eq, hc.lt]
  refine ifp (by rw [decide_eq_true eb]) ?_
  walk_at "go"
  refine s_reprX (hd.same (s1.trans s2)) hf (by decide) (by decide) ?_
  walk_at "go"
  refine s_eqS rfl ?_
  rw [decide_eq_true rfl]
  exact q H2 (s1.trans s2)

theorem sc_law : FnScope ["script", "turn", "pool", "k", "tree", "many", "some", "thing", "kinds", "flat", "deep"] ["script"] (defScope d_law) := ⟨rfl, rfl, rfl, by decide +kernel, rfl, by decide +kernel, by decide +kernel⟩
theorem ok_law (F : Fun K "law" "law" d_law f fd) (T : Txt K mg aK) (U_law_pool : FnU P w K mg base k "_law_pool" ["script", "k"] (spPool K)) (U_law_tree : FnU P w K mg base k "_law_tree" ["pool", "k", "most"] (spMkB)) (U_law_count : FnU P w K mg base k "_law_count" ["k", "thing"] (recSp gCountD 26)) (U_law_take : FnU P w K mg base k "_law_take" ["pool", "many"] (spTake)) (U_is_tree : FnU P w K mg base k "is_tree" ["k", "thing"] (spTreeD)) (U_law_no_tree : FnU P w K mg base k "_law_no_tree" ["pool", "tree", "many"] (spNoTr)) (U_law_right : FnU P w K mg base k "_law_right" ["k", "thing"] (spRightD 16000000)) (U_law_copy : FnU P w K mg base k "_law_copy" ["tree"] (recSp gCopy 22)) : FnOk P w K mg base CX0 (k + 1) f fd ["script"] (spLaw K) := by
  refine F.ok sc_law (fun vs H Q E h => ?_) (fun cdv A outer s H vs Q E hr h => ?_)
  · obtain ⟨a, ns, rfl, _⟩ := h; rfl
  obtain ⟨sa, ns, rfl, hS, h63, q⟩ := h
  have hu := hr.units0
  refine ⟨_, (pss_cons (ps_for PassesOwn.never rfl (pi_range1 rfl T.n_range (pa_cons (pe_callB (call_maxA rfl) rfl T.n_max PyProof.Rows.boot_max (pa_cons pe_int (pa_cons (pe_callB (call_minA rfl) rfl T.n_min PyProof.Rows.boot_min (pa_cons pe_int (pa_cons (pe_callB (call_lenA K) rfl T.n_len PySem.boot_len (pa_cons (pv 0) pa_nil)) pa_nil))) pa_nil))) pa_nil)) (pg_name (i := 1) sc_law.nd rfl (Or.inl rfl))   (pss_cons (ps_set (i := 2) sc_law.nd rfl (Or.inr rfl) (pe_fn U_law_pool hr (pa_cons (pv 0) (pa_cons (pv 1) pa_nil))))  (pss_cons (ps_set (i := 3) sc_law.nd rfl (Or.inl rfl) (pe_op op_plus pe_int (pe_fn U_law_take hr (pa_cons (pv 2) (pa_cons pe_int pa_nil)))))  (pss_cons (ps_set (i := 4) sc_law.nd rfl (Or.inr rfl) (pe_fn U_law_tree hr (pa_cons (pv 2) (pa_cons (pv 3) (pa_cons pe_int pa_nil)))))  (pss_cons (ps_set (i := 5) sc_law.nd rfl (Or.inr rfl) (pe_fn U_law_count hr (pa_cons (pv 3) (pa_cons (pv 4) pa_nil))))  (pss_cons (ps_set (i := 6) sc_law.nd rfl (Or.inl rfl) (pe_lst (pa_cons (pv 4) (pa_cons (pe_op op_plus (pv 4) (pe_lst (pa_cons (pe_tup (pa_cons pe_int (pa_cons (pe_lst pa_nil) pa_nil))) pa_nil))) (pa_cons (pe_lst (pa_cons (pe_tup (pa_cons (pe_op op_sub (pv 3) pe_int) (pa_cons (pv 4) pa_nil))) pa_nil)) (pa_cons (pe_lst (pa_cons (pe_tup (pa_cons pe_int (pa_cons (pv 4) pa_nil))) (pa_cons (pe_tup (pa_cons pe_int (pa_cons (pe_fn U_law_copy hr (pa_cons (pv 4) pa_nil)) pa_nil))) pa_nil))) (pa_cons (pe_lst (pa_cons (pe_tup (pa_cons pe_int (pa_cons (pv 4) pa_nil))) (pa_cons (pe_tup (pa_cons pe_int (pa_cons (pv 4) pa_nil))) pa_nil))) pa_nil)))))))  (pss_cons (ps_set (i := 6) sc_law.nd rfl (Or.inl rfl) (pe_op op_plus (pv 6) (pe_comp (own := ["at"]) (sel := [2, 4, 5]) (compOk_of (osc := (defScope d_law)) (N := ["script", "turn", "pool", "k", "tree", "many", "some", "thing", "kinds", "flat", "deep"]) (by decide +kernel)) rfl (pi_range1 rfl T.n_range (pa_cons pe_int pa_nil)) (fun _ _ _ _ _ => (pg_name (i := 0) (show (["at", "pool", "tree", "many"] : List Str).Nodup from by decide +kernel) rfl (Or.inl rfl))) (gk_name (by decide)) (fun _ _ _ _ _ => pif_nil) (fun _ _ _ _ _ => (pe_fn U_law_no_tree hr (pa_cons (pv 1) (pa_cons (pv 2) (pa_cons (pv 3) pa_nil))))))))  (pss_one (ps_for PassesOwn.never rfl (pi_listK K (pv 6)) (pg_name (i := 7) sc_law.nd rfl (Or.inl rfl))   (pss_one (ps_for PassesOwn.never rfl (pi_listK K (pe_lst (pa_cons (pv 3) (pa_cons (pv 3) (pa_cons pe_int (pa_cons pe_int pa_nil)))))) (pg_name (i := 8) sc_law.nd rfl (Or.inl rfl))   (pss_one (ps_if (pt_not (pt_tru K (pe_fn U_law_right hr (pa_cons (pv 8) (pa_cons (pv 7) pa_nil)))))   (pss_one (ps_ret pe_bl))   pss_nil)))))))))))))  (pss_cons (ps_set (i := 9) sc_law.nd rfl (Or.inl rfl) (pe_op op_times (pe_lst (pa_cons (pe_tup (pa_cons pe_int (pa_cons (pe_lst pa_nil) pa_nil))) pa_nil)) pe_int))  (pss_cons (ps_set (i := 10) sc_law.nd rfl (Or.inl rfl) (pe_lst pa_nil))  (pss_cons (ps_for PassesOwn.never rfl (pi_range1 rfl T.n_range (pa_cons pe_int pa_nil)) (pg_name (i := 1) sc_law.nd rfl (Or.inl rfl))   (pss_one (ps_set (i := 10) sc_law.nd rfl (Or.inl rfl) (pe_lst (pa_cons (pe_tup (pa_cons (pe_op op_mod (pv 1) pe_int) (pa_cons (pv 10) pa_nil))) pa_nil)))))  (pss_cons (PSb.ps (ps_setB (i := 6) rfl sc_law.nd rfl (Or.inl rfl) (Or.inl rfl) (Pl.nam (pv 9) (Pl.nam (pv 10) (Pl.bin (pe_op op_plus (pv 9) (pe_lst (pa_cons (pe_tup (pa_cons pe_int (pa_cons (pe_lst pa_nil) pa_nil))) pa_nil))) (Pl.lst (pe_lst (pa_cons (pe_tup (pa_cons pe_int (pa_cons (pv 10) pa_nil))) pa_nil)) (Pl.lst (pe_lst pa_nil) (Pl.lst (pe_lst (pa_cons (pe_tup (pa_cons pe_int (pa_cons (pe_lst pa_nil) pa_nil))) pa_nil)) (Pl.lst (pe_lst (pa_cons (pe_tup (pa_cons pe_int (pa_cons (pe_tup pa_nil) pa_nil))) pa_nil)) (Pl.tup (pe_tup pa_nil) (Pl.lst (pe_lst (pa_cons (pe_tup pa_nil) pa_nil)) (Pl.lst (pe_lst (pa_cons (pe_lst pa_nil) pa_nil)) (Pl.lst (pe_lst (pa_cons (pe_tup (pa_cons pe_int (pa_cons (pe_lst pa_nil) pa_nil))) pa_nil)) (Pl.con pe_non (Pl.con (pe_tx (l := []) (by decide +kernel)) Pl.nil)))))))))))))))  (pss_cons (ps_for PassesOwn.never rfl (pi_listK K (pv 6)) (pg_name (i := 7) sc_law.nd rfl (Or.inl rfl))   (pss_one (ps_if (PW.pt (pw_or (pt_not (pt_tru K (pe_fn U_law_right hr (pa_cons pe_int (pa_cons (pv 7) pa_nil))))) (pw_or1 (pt_not (pt_tru K (pe_fn U_law_right hr (pa_cons pe_int (pa_cons (pv 7) pa_nil))))))))   (pss_one (ps_ret pe_bl))   pss_nil)))  (pss_one (ps_ret (pe_and (pe_cmpR op_isA (pe_fn U_is_tree hr (pa_cons pe_int (pa_cons (pv 10) pa_nil))) pe_bl (nomark _)) (pe_one (pe_cmpR op_isA (pe_fn U_is_tree hr (pa_cons pe_int (pa_cons (pe_lst (pa_cons (pe_tup (pa_cons pe_int (pa_cons (pv 10) pa_nil))) pa_nil)) pa_nil))) pe_bl (nomark _)))))))))))), ?_⟩
  walk_at "go"
  refine s_lenL (.inl hS) ?_
  walk_at "go"
  refine ⟨_, rfl, by split <;> omega, by rw [List.length_map]; split <;> (try split) <;> omega, ?_⟩
  refine for_rng (fun i σ H' => ∃ (o1 o2 o3 o4 o5 o6 o7 o8 o9 o10 : Option V), σ = [some (.ref sa), o1, o2, o3, o4, o5, o6, o7, o8, o9, o10] ∧ Same H H') ⟨_, _, _, _, _, _, _, _, _, _, rfl, Same.refl H⟩ ?_ ?_
  rotate_left
  · rintro σ H1 ⟨o1, o2, o3, o4, o5, o6, o7, o8, o9, o10, rfl, s1⟩
    clear s1
    obtain ⟨n0, hn0⟩ : ∃ n0 : Nat, n0 = 42000 := ⟨_, rfl⟩
    obtain ⟨m0, hm0⟩ : ∃ m0 : Nat, m0 = 42 := ⟨_, rfl⟩
    obtain ⟨S, hS0⟩ : ∃ S : Addr → Prop, S = fun _ => False := ⟨_, rfl⟩
    have ex0 : Ex S H1 := fun x hx => by rw [hS0] at hx; exact hx.elim
    have ki : ∀ {S : Addr → Prop} {i : Int} {G : Hp}, i.natAbs < 10 ^ 60 → Dv S n0 m0 G (.int i) := fun h => dv_int h (by omega) (by omega)
    walk_at "go"
    refine ⟨small (show 0 ≤ 1000 by decide), fun y1 hy1 => ?_⟩
    have fy1 := lvL (xs := []) (n0 := n0) (m0 := m0) (l := 0) hy1 ex0 allD_nil (by simp)
    have sy1 := same_new hy1 (.lst [])
    have gy1 : (upd H1 y1 (.lst [])) y1 = some (.lst []) := upd_same
    replace ex0 := ex0.same sy1
    generalize upd H1 y1 _ = Jy1 at *
    clear sy1 hy1
    have ey1 := dl_lv fy1
    walk_at "go"
    refine ⟨small (show 2 ≤ 1000 by decide), fun y2 hy2 => ?_⟩
    have fy2 := lvT (xs := [(V.int 0), (V.ref y1)]) (n0 := n0) (m0 := m0) (l := 1) hy2 ex0 (allD_cons (Lv.up (l := 0) (ki (by decide)) (by decide)) (allD_cons ey1 allD_nil)) (by simp)
    have sy2 := same_new hy2 (.tup [(V.int 0), (V.ref y1)])
    replace ex0 := ex0.same sy2
    generalize upd Jy1 y2 _ = Jy2 at *
    clear sy2 hy2
    walk_at "go"
    refine ⟨small (show 1 ≤ 1000 by decide), fun y3 hy3 => ?_⟩
    have fy3 := lvL (xs := [(V.ref y2)]) (n0 := n0) (m0 := m0) (l := 2) hy3 ex0 (allD_cons fy2 allD_nil) (by simp)
    have sy3 := same_new hy3 (.lst [(V.ref y2)])
    have gy3 : (upd Jy2 y3 (.lst [(V.ref y2)])) y3 = some (.lst [(V.ref y2)]) := upd_same
    replace ex0 := ex0.same sy3
    replace fy2 := fy2.same sy3
    generalize upd Jy2 y3 _ = Jy3 at *
    clear sy3 hy3
    have ey3 := dl_lv fy3
    walk_at "go"
    refine s_rep (xs := [(V.ref y2)]) gy3 (by decide) (by decide) (small (by simp)) (fun y4 hy4 => ?_)
    have l20 : (List.replicate (20 : Int).toNat [(V.ref y2)]).flatten.length = 20 := rep_len1
    have sy4 := same_new hy4 (.lst (List.replicate (20 : Int).toNat [(V.ref y2)]).flatten)
    have gF : (upd Jy3 y4 (.lst (List.replicate (20 : Int).toNat [(V.ref y2)]).flatten)) y4 = some (.lst (List.replicate (20 : Int).toNat [(V.ref y2)]).flatten) := upd_same
    have F0 : Dl S 8000000 48 (upd Jy3 y4 (.lst (List.replicate (20 : Int).toNat [(V.ref y2)]).flatten)) (.ref y4) := newL (n := 380000) (m := 45) (n' := 8000000) (m' := 48) hy4 ex0 (fun x hx => by rw [mem_rep hx]; exact Dv.mono fy2 (by simp only [nb]; omega) (by omega)) (by rw [l20]; decide) (by decide)
    replace ex0 := ex0.same sy4
    generalize upd Jy3 y4 _ = Jy4 at *
    clear sy4 hy4
    generalize (List.replicate (20 : Int).toNat [(V.ref y2)]).flatten = L20 at *
    walk_at "go"
    refine ⟨small (show 0 ≤ 1000 by decide), fun y5 hy5 => ?_⟩
    have sy5 := same_new hy5 (.lst [])
    have T0 : TrS S (upd Jy4 y5 (.lst [])) (.ref y5) (dt 0) := .lst upd_same (ex0.new hy5) .nil
    replace ex0 := ex0.same sy5
    replace gF := sy5 _ _ gF
    replace F0 := F0.same sy5
    generalize upd Jy4 y5 _ = Jy5 at *
    clear sy5 hy5
    walk_at "go"
    refine ⟨_, rfl, by omega, by omega, ?_⟩
    refine for_rng (n := 20) (fun i σ H' => ∃ (o1 : Option V) (D : Addr), σ = [some (.ref sa), o1, o2, o3, o4, o5, o6, o7, o8, some (.ref y4), some (.ref D)] ∧ Same Jy5 H' ∧ TrS S H' (.ref D) (dt i)) ⟨_, _, rfl, Same.refl _, T0⟩ ?_ ?_
    · rintro i σ H2 hi ⟨o1', D, rfl, s2, tD⟩
      have ei : (0 : Int) + (i : Int) = (i : Int) := by omega
      rw [ei]
      walk_at "go"
      rw [show (i : Int) % 4 = ((i % 4 : Nat) : Int) by omega]
      refine ⟨small (show 2 ≤ 1000 by decide), fun T3 hT3 => ?_⟩
      walk_at "go"
      refine ⟨small (show 1 ≤ 1000 by decide), fun D3 hD3 => ?_⟩
      walk_at "go"
      exact ⟨_, D3, rfl, (s2.trans (same_new hT3 _)).trans (same_new hD3 _), tr_wrap tD (ex0.same s2) hT3 hD3⟩
    rintro σ H2 ⟨o1', dA, rfl, s2, tD⟩
    clear T0
    replace gF := s2 _ _ gF
    replace F0 := F0.same s2
    replace ex0 := ex0.same s2
    clear s2
    have hz20 := dt_sz 20
    have hh20 := dt_ht 20
    have hg20 := dt_gr 20
    generalize hT : dt 20 = t at *
    walk_at "go"
    simp only [tAll]
    walk_at "go"
    refine ⟨small (show 0 ≤ 1000 by decide), fun y6 hy6 => ?_⟩
    have fy6 := lvL (xs := []) (n0 := n0) (m0 := m0) (l := 0) hy6 ex0 allD_nil (by simp)
    have sy6 := same_new hy6 (.lst [])
    have gy6 : (upd H2 y6 (.lst [])) y6 = some (.lst []) := upd_same
    replace ex0 := ex0.same sy6
    replace gF := sy6 _ _ gF
    replace F0 := F0.same sy6
    replace tD := tD.same sy6
    generalize upd H2 y6 _ = Jy6 at *
    clear sy6 hy6
    have ey6 := dl_lv fy6
    walk_at "go"
    refine ⟨small (show 2 ≤ 1000 by decide), fun y7 hy7 => ?_⟩
    have fy7 := lvT (xs := [(V.int 0), (V.ref y6)]) (n0 := n0) (m0 := m0) (l := 1) hy7 ex0 (allD_cons (Lv.up (l := 0) (ki (by decide)) (by decide)) (allD_cons ey6 allD_nil)) (by simp)
    have sy7 := same_new hy7 (.tup [(V.int 0), (V.ref y6)])
    replace ex0 := ex0.same sy7
    replace gF := sy7 _ _ gF
    replace F0 := F0.same sy7
    replace tD := tD.same sy7
    generalize upd Jy6 y7 _ = Jy7 at *
    clear sy7 hy7
    walk_at "go"
    refine ⟨small (show 1 ≤ 1000 by decide), fun y8 hy8 => ?_⟩
    have fy8 := lvL (xs := [(V.ref y7)]) (n0 := n0) (m0 := m0) (l := 2) hy8 ex0 (allD_cons fy7 allD_nil) (by simp)
    have sy8 := same_new hy8 (.lst [(V.ref y7)])
    have gy8 : (upd Jy7 y8 (.lst [(V.ref y7)])) y8 = some (.lst [(V.ref y7)]) := upd_same
    replace ex0 := ex0.same sy8
    replace gF := sy8 _ _ gF
    replace F0 := F0.same sy8
    replace tD := tD.same sy8
    generalize upd Jy7 y8 _ = Jy8 at *
    clear sy8 hy8
    have ey8 := dl_lv fy8
    walk_at "go"
    refine s_addL gF gy8 (by rw [l20, sizeLine_eq]; simp) (fun y9 hy9 => ?_)
    have cy9 : Dv S 15000000 50 _ (.ref y9) := cat2 F0 fy8 gF gy8 hy9 ex0 (by simp only [nb]; omega) (by omega) (by omega)
    have sy9 := same_new hy9 (.lst (L20 ++ [(V.ref y7)]))
    replace ex0 := ex0.same sy9
    replace gF := sy9 _ _ gF
    replace F0 := F0.same sy9
    replace tD := tD.same sy9
    generalize upd Jy8 y9 _ = Jy9 at *
    clear sy9 hy9
    walk_at "go"
    refine ⟨small (show 2 ≤ 1000 by decide), fun y10 hy10 => ?_⟩
    have fy10 := lvT (xs := [(V.int 0), (V.ref dA)]) (n0 := n0) (m0 := m0) (l := 0) hy10 ex0 (allD_cons (ki (by decide)) (allD_cons (tD.lv hg20 (by omega) (by omega)) allD_nil)) (by simp)
    have sy10 := same_new hy10 (.tup [(V.int 0), (V.ref dA)])
    replace ex0 := ex0.same sy10
    replace gF := sy10 _ _ gF
    replace F0 := F0.same sy10
    replace tD := tD.same sy10
    replace cy9 := cy9.same sy10
    generalize upd Jy9 y10 _ = Jy10 at *
    clear sy10 hy10
    walk_at "go"
    refine ⟨small (show 1 ≤ 1000 by decide), fun y11 hy11 => ?_⟩
    have fy11 := lvL (xs := [(V.ref y10)]) (n0 := n0) (m0 := m0) (l := 1) hy11 ex0 (allD_cons fy10 allD_nil) (by simp)
    have sy11 := same_new hy11 (.lst [(V.ref y10)])
    have gy11 : (upd Jy10 y11 (.lst [(V.ref y10)])) y11 = some (.lst [(V.ref y10)]) := upd_same
    replace ex0 := ex0.same sy11
    replace gF := sy11 _ _ gF
    replace F0 := F0.same sy11
    replace tD := tD.same sy11
    replace cy9 := cy9.same sy11
    generalize upd Jy10 y11 _ = Jy11 at *
    clear sy11 hy11
    have ey11 := dl_lv fy11
    walk_at "go"
    refine ⟨small (show 0 ≤ 1000 by decide), fun y12 hy12 => ?_⟩
    have fy12 := lvL (xs := []) (n0 := n0) (m0 := m0) (l := 0) hy12 ex0 allD_nil (by simp)
    have sy12 := same_new hy12 (.lst [])
    have gy12 : (upd Jy11 y12 (.lst [])) y12 = some (.lst []) := upd_same
    replace ex0 := ex0.same sy12
    replace gF := sy12 _ _ gF
    replace F0 := F0.same sy12
    replace tD := tD.same sy12
    replace cy9 := cy9.same sy12
    replace ey11 := ey11.same sy12
    generalize upd Jy11 y12 _ = Jy12 at *
    clear sy12 hy12
    have ey12 := dl_lv fy12
    walk_at "go"
    refine ⟨small (show 0 ≤ 1000 by decide), fun y13 hy13 => ?_⟩
    have fy13 := lvL (xs := []) (n0 := n0) (m0 := m0) (l := 0) hy13 ex0 allD_nil (by simp)
    have sy13 := same_new hy13 (.lst [])
    have gy13 : (upd Jy12 y13 (.lst [])) y13 = some (.lst []) := upd_same
    replace ex0 := ex0.same sy13
    replace gF := sy13 _ _ gF
    replace F0 := F0.same sy13
    replace tD := tD.same sy13
    replace cy9 := cy9.same sy13
    replace ey11 := ey11.same sy13
    replace ey12 := ey12.same sy13
    generalize upd Jy12 y13 _ = Jy13 at *
    clear sy13 hy13
    have ey13 := dl_lv fy13
    walk_at "go"
    refine ⟨small (show 2 ≤ 1000 by decide), fun y14 hy14 => ?_⟩
    have fy14 := lvT (xs := [(V.int 0), (V.ref y13)]) (n0 := n0) (m0 := m0) (l := 1) hy14 ex0 (allD_cons (Lv.up (l := 0) (ki (by decide)) (by decide)) (allD_cons ey13 allD_nil)) (by simp)
    have sy14 := same_new hy14 (.tup [(V.int 0), (V.ref y13)])
    replace ex0 := ex0.same sy14
    replace gF := sy14 _ _ gF
    replace F0 := F0.same sy14
    replace tD := tD.same sy14
    replace cy9 := cy9.same sy14
    replace ey11 := ey11.same sy14
    replace ey12 := ey12.same sy14
    generalize upd Jy13 y14 _ = Jy14 at *
    clear sy14 hy14
    walk_at "go"
    refine ⟨small (show 1 ≤ 1000 by decide), fun y15 hy15 => ?_⟩
    have fy15 := lvL (xs := [(V.ref y14)]) (n0 := n0) (m0 := m0) (l := 2) hy15 ex0 (allD_cons fy14 allD_nil) (by simp)
    have sy15 := same_new hy15 (.lst [(V.ref y14)])
    have gy15 : (upd Jy14 y15 (.lst [(V.ref y14)])) y15 = some (.lst [(V.ref y14)]) := upd_same
    replace ex0 := ex0.same sy15
    replace gF := sy15 _ _ gF
    replace F0 := F0.same sy15
    replace tD := tD.same sy15
    replace cy9 := cy9.same sy15
    replace ey11 := ey11.same sy15
    replace ey12 := ey12.same sy15
    generalize upd Jy14 y15 _ = Jy15 at *
    clear sy15 hy15
    have ey15 := dl_lv fy15
    walk_at "go"
    refine ⟨small (show 0 ≤ 1000 by decide), fun y16 hy16 => ?_⟩
    have fy16 := lvT (xs := []) (n0 := n0) (m0 := m0) (l := 0) hy16 ex0 allD_nil (by simp)
    have sy16 := same_new hy16 (.tup [])
    replace ex0 := ex0.same sy16
    replace gF := sy16 _ _ gF
    replace F0 := F0.same sy16
    replace tD := tD.same sy16
    replace cy9 := cy9.same sy16
    replace ey11 := ey11.same sy16
    replace ey12 := ey12.same sy16
    replace ey15 := ey15.same sy16
    generalize upd Jy15 y16 _ = Jy16 at *
    clear sy16 hy16
    walk_at "go"
    refine ⟨small (show 2 ≤ 1000 by decide), fun y17 hy17 => ?_⟩
    have fy17 := lvT (xs := [(V.int 0), (V.ref y16)]) (n0 := n0) (m0 := m0) (l := 1) hy17 ex0 (allD_cons (Lv.up (l := 0) (ki (by decide)) (by decide)) (allD_cons fy16 allD_nil)) (by simp)
    have sy17 := same_new hy17 (.tup [(V.int 0), (V.ref y16)])
    replace ex0 := ex0.same sy17
    replace gF := sy17 _ _ gF
    replace F0 := F0.same sy17
    replace tD := tD.same sy17
    replace cy9 := cy9.same sy17
    replace ey11 := ey11.same sy17
    replace ey12 := ey12.same sy17
    replace ey15 := ey15.same sy17
    generalize upd Jy16 y17 _ = Jy17 at *
    clear sy17 hy17
    walk_at "go"
    refine ⟨small (show 1 ≤ 1000 by decide), fun y18 hy18 => ?_⟩
    have fy18 := lvL (xs := [(V.ref y17)]) (n0 := n0) (m0 := m0) (l := 2) hy18 ex0 (allD_cons fy17 allD_nil) (by simp)
    have sy18 := same_new hy18 (.lst [(V.ref y17)])
    have gy18 : (upd Jy17 y18 (.lst [(V.ref y17)])) y18 = some (.lst [(V.ref y17)]) := upd_same
    replace ex0 := ex0.same sy18
    replace gF := sy18 _ _ gF
    replace F0 := F0.same sy18
    replace tD := tD.same sy18
    replace cy9 := cy9.same sy18
    replace ey11 := ey11.same sy18
    replace ey12 := ey12.same sy18
    replace ey15 := ey15.same sy18
    generalize upd Jy17 y18 _ = Jy18 at *
    clear sy18 hy18
    have ey18 := dl_lv fy18
    walk_at "go"
    refine ⟨small (show 0 ≤ 1000 by decide), fun y19 hy19 => ?_⟩
    have fy19 := lvT (xs := []) (n0 := n0) (m0 := m0) (l := 0) hy19 ex0 allD_nil (by simp)
    have sy19 := same_new hy19 (.tup [])
    replace ex0 := ex0.same sy19
    replace gF := sy19 _ _ gF
    replace F0 := F0.same sy19
    replace tD := tD.same sy19
    replace cy9 := cy9.same sy19
    replace ey11 := ey11.same sy19
    replace ey12 := ey12.same sy19
    replace ey15 := ey15.same sy19
    replace ey18 := ey18.same sy19
    generalize upd Jy18 y19 _ = Jy19 at *
    clear sy19 hy19
    walk_at "go"
    refine ⟨small (show 0 ≤ 1000 by decide), fun y20 hy20 => ?_⟩
    have fy20 := lvT (xs := []) (n0 := n0) (m0 := m0) (l := 0) hy20 ex0 allD_nil (by simp)
    have sy20 := same_new hy20 (.tup [])
    replace ex0 := ex0.same sy20
    replace gF := sy20 _ _ gF
    replace F0 := F0.same sy20
    replace tD := tD.same sy20
    replace cy9 := cy9.same sy20
    replace ey11 := ey11.same sy20
    replace ey12 := ey12.same sy20
    replace ey15 := ey15.same sy20
    replace ey18 := ey18.same sy20
    replace fy19 := fy19.same sy20
    generalize upd Jy19 y20 _ = Jy20 at *
    clear sy20 hy20
    walk_at "go"
    refine ⟨small (show 1 ≤ 1000 by decide), fun y21 hy21 => ?_⟩
    have fy21 := lvL (xs := [(V.ref y20)]) (n0 := n0) (m0 := m0) (l := 1) hy21 ex0 (allD_cons fy20 allD_nil) (by simp)
    have sy21 := same_new hy21 (.lst [(V.ref y20)])
    have gy21 : (upd Jy20 y21 (.lst [(V.ref y20)])) y21 = some (.lst [(V.ref y20)]) := upd_same
    replace ex0 := ex0.same sy21
    replace gF := sy21 _ _ gF
    replace F0 := F0.same sy21
    replace tD := tD.same sy21
    replace cy9 := cy9.same sy21
    replace ey11 := ey11.same sy21
    replace ey12 := ey12.same sy21
    replace ey15 := ey15.same sy21
    replace ey18 := ey18.same sy21
    replace fy19 := fy19.same sy21
    generalize upd Jy20 y21 _ = Jy21 at *
    clear sy21 hy21
    have ey21 := dl_lv fy21
    walk_at "go"
    refine ⟨small (show 0 ≤ 1000 by decide), fun y22 hy22 => ?_⟩
    have fy22 := lvL (xs := []) (n0 := n0) (m0 := m0) (l := 0) hy22 ex0 allD_nil (by simp)
    have sy22 := same_new hy22 (.lst [])
    have gy22 : (upd Jy21 y22 (.lst [])) y22 = some (.lst []) := upd_same
    replace ex0 := ex0.same sy22
    replace gF := sy22 _ _ gF
    replace F0 := F0.same sy22
    replace tD := tD.same sy22
    replace cy9 := cy9.same sy22
    replace ey11 := ey11.same sy22
    replace ey12 := ey12.same sy22
    replace ey15 := ey15.same sy22
    replace ey18 := ey18.same sy22
    replace fy19 := fy19.same sy22
    replace ey21 := ey21.same sy22
    generalize upd Jy21 y22 _ = Jy22 at *
    clear sy22 hy22
    have ey22 := dl_lv fy22
    walk_at "go"
    refine ⟨small (show 1 ≤ 1000 by decide), fun y23 hy23 => ?_⟩
    have fy23 := lvL (xs := [(V.ref y22)]) (n0 := n0) (m0 := m0) (l := 1) hy23 ex0 (allD_cons ey22 allD_nil) (by simp)
    have sy23 := same_new hy23 (.lst [(V.ref y22)])
    have gy23 : (upd Jy22 y23 (.lst [(V.ref y22)])) y23 = some (.lst [(V.ref y22)]) := upd_same
    replace ex0 := ex0.same sy23
    replace gF := sy23 _ _ gF
    replace F0 := F0.same sy23
    replace tD := tD.same sy23
    replace cy9 := cy9.same sy23
    replace ey11 := ey11.same sy23
    replace ey12 := ey12.same sy23
    replace ey15 := ey15.same sy23
    replace ey18 := ey18.same sy23
    replace fy19 := fy19.same sy23
    replace ey21 := ey21.same sy23
    generalize upd Jy22 y23 _ = Jy23 at *
    clear sy23 hy23
    have ey23 := dl_lv fy23
    walk_at "go"
    refine ⟨small (show 0 ≤ 1000 by decide), fun y24 hy24 => ?_⟩
    have fy24 := lvL (xs := []) (n0 := n0) (m0 := m0) (l := 0) hy24 ex0 allD_nil (by simp)
    have sy24 := same_new hy24 (.lst [])
    have gy24 : (upd Jy23 y24 (.lst [])) y24 = some (.lst []) := upd_same
    replace ex0 := ex0.same sy24
    replace gF := sy24 _ _ gF
    replace F0 := F0.same sy24
    replace tD := tD.same sy24
    replace cy9 := cy9.same sy24
    replace ey11 := ey11.same sy24
    replace ey12 := ey12.same sy24
    replace ey15 := ey15.same sy24
    replace ey18 := ey18.same sy24
    replace fy19 := fy19.same sy24
    replace ey21 := ey21.same sy24
    replace ey23 := ey23.same sy24
    generalize upd Jy23 y24 _ = Jy24 at *
    clear sy24 hy24
    have ey24 := dl_lv fy24
    walk_at "go"
    refine ⟨small (show 2 ≤ 1000 by decide), fun y25 hy25 => ?_⟩
    have fy25 := lvT (xs := [(V.int 1), (V.ref y24)]) (n0 := n0) (m0 := m0) (l := 1) hy25 ex0 (allD_cons (Lv.up (l := 0) (ki (by decide)) (by decide)) (allD_cons ey24 allD_nil)) (by simp)
    have sy25 := same_new hy25 (.tup [(V.int 1), (V.ref y24)])
    replace ex0 := ex0.same sy25
    replace gF := sy25 _ _ gF
    replace F0 := F0.same sy25
    replace tD := tD.same sy25
    replace cy9 := cy9.same sy25
    replace ey11 := ey11.same sy25
    replace ey12 := ey12.same sy25
    replace ey15 := ey15.same sy25
    replace ey18 := ey18.same sy25
    replace fy19 := fy19.same sy25
    replace ey21 := ey21.same sy25
    replace ey23 := ey23.same sy25
    generalize upd Jy24 y25 _ = Jy25 at *
    clear sy25 hy25
    walk_at "go"
    refine ⟨small (show 1 ≤ 1000 by decide), fun y26 hy26 => ?_⟩
    have fy26 := lvL (xs := [(V.ref y25)]) (n0 := n0) (m0 := m0) (l := 2) hy26 ex0 (allD_cons fy25 allD_nil) (by simp)
    have sy26 := same_new hy26 (.lst [(V.ref y25)])
    have gy26 : (upd Jy25 y26 (.lst [(V.ref y25)])) y26 = some (.lst [(V.ref y25)]) := upd_same
    replace ex0 := ex0.same sy26
    replace gF := sy26 _ _ gF
    replace F0 := F0.same sy26
    replace tD := tD.same sy26
    replace cy9 := cy9.same sy26
    replace ey11 := ey11.same sy26
    replace ey12 := ey12.same sy26
    replace ey15 := ey15.same sy26
    replace ey18 := ey18.same sy26
    replace fy19 := fy19.same sy26
    replace ey21 := ey21.same sy26
    replace ey23 := ey23.same sy26
    generalize upd Jy25 y26 _ = Jy26 at *
    clear sy26 hy26
    have ey26 := dl_lv fy26
    walk_at "go"
    refine ⟨small (show 13 ≤ 1000 by decide), fun y27 hy27 => ?_⟩
    obtain ⟨LL, hLL⟩ : ∃ LL : List V, LL = [(V.ref y4), (V.ref dA), (V.ref y9), (V.ref y11), (V.ref y12), (V.ref y15), (V.ref y18), (V.ref y19), (V.ref y21), (V.ref y23), (V.ref y26), V.non, (tx [])] := ⟨_, rfl⟩
    have A : ∀ x ∈ LL, Dv S 15000000 50 Jy26 x := by
      rw [hLL]
      exact (allD_cons (F0.dv.mono (by decide) (by decide)) (allD_cons (Dv.mono (tD.lv (n0 := n0) (m0 := m0) hg20 (by omega) (by omega)) (by rw [nb]; omega) (by omega)) (allD_cons cy9 (allD_cons (Dv.mono ey11 (by simp only [nb]; omega) (by omega)) (allD_cons (Dv.mono ey12 (by simp only [nb]; omega) (by omega)) (allD_cons (Dv.mono ey15 (by simp only [nb]; omega) (by omega)) (allD_cons (Dv.mono ey18 (by simp only [nb]; omega) (by omega)) (allD_cons (Dv.mono fy19 (by simp only [nb]; omega) (by omega)) (allD_cons (Dv.mono ey21 (by simp only [nb]; omega) (by omega)) (allD_cons (Dv.mono ey23 (by simp only [nb]; omega) (by omega)) (allD_cons (Dv.mono ey26 (by simp only [nb]; omega) (by omega)) (allD_cons (dv_non (by decide) (by decide)) (allD_cons (dv_tx (by unfold Low; decide) (by decide) (by decide) (by decide)) allD_nil)))))))))))))
    rw [← hLL]
    clear hLL
    obtain ⟨S', hS'⟩ : ∃ S' : Addr → Prop, S' = fun x => S x ∨ x = y27 := ⟨_, rfl⟩
    have hSy : S' y27 := by rw [hS']; exact .inr rfl
    have s9 := same_new hy27 (.lst LL)
    have g9 : (upd Jy26 y27 (.lst LL)) y27 = some (.lst LL) := upd_same
    replace A := fun x hx => ((A x hx).grow hS' hy27).same s9
    have hTS : TrS S' _ (.ref dA) t := (tD.grow hS' hy27).same s9
    replace tD := tD.same s9
    replace ex0 := ex0.same s9
    generalize upd Jy26 y27 _ = J9 at *
    clear s9
    walk_at "go"
    refine ⟨y27, rfl, ⟨_, SqL.of g9⟩, ?_⟩
    refine for_lst (xs := LL) (fun j σ H' => ∃ (o6' o7' : Option V), σ = [some (.ref sa), o1', o2, o3, o4, o5, o6', o7', o8, some (.ref y4), some (.ref dA)] ∧ Same J9 H') ⟨_, _, rfl, Same.refl _⟩ (fun j σ H' _ ⟨_, _, _, sH⟩ => SqL.of (sH _ _ g9)) ?_ ?_
    · rintro j x σ H3 hx ⟨o6', o7', rfl, s3⟩
      obtain ⟨d, sv, fd⟩ := (A x (List.mem_of_getElem? hx)).same s3
      have sd := sv.sd (.inl hSy)
      walk_at "go"
      refine ⟨4, x, _, d, rfl, by omega, by omega, sd, fd.mono (by decide) (by decide), fun H4 s4 => ?_⟩
      walk_at "go"
      refine ifq rfl ?_
      walk_at "go"
      refine ⟨1, x, _, d, rfl, by omega, by omega, sd.same s4, fd.mono (by decide) (by decide), fun H5 s5 => ?_⟩
      walk_at "go"
      refine ifq rfl ?_
      walk_at "go"
      exact ⟨_, _, rfl, (s3.trans s4).trans s5⟩
    rintro σ H3 ⟨o6', o7', rfl, s3⟩
    replace tD := tD.same s3
    replace ex0 := ex0.same s3
    have nS : ∀ {G : Hp} {v : V} {t : Tr} {y : Addr}, TrS S G v t → G y = none → Sd y G v (.list (trD t)) := fun h e => h.sd (.inr e)
    have gS := s3 _ _ g9
    have dS : Sd y27 H3 (.ref dA) (.list (trD t)) := by
      have h2 : TrS S' H3 (.ref dA) t := hTS.same s3
      exact h2.sd (.inl hSy)
    walk_at "go"
    refine ⟨4, .ref dA, _, _, rfl, by omega, by omega, dS, fun b4 H4 s4 hb4 => ?_⟩
    obtain rfl : b4 = true := hb4.mpr ⟨t, rfl, by omega, by omega⟩
    walk_at "go"
    refine ifp (by simp) ?_
    have exS : Ex S' H4 := fun x hx => by
      rw [hS'] at hx
      rcases hx with z | z
      · obtain ⟨o, e⟩ := ex0 x z
        exact ⟨o, s4 _ _ e⟩
      · rw [z]; exact ⟨_, s4 _ _ gS⟩
    have hTS4 := (hTS.same s3).same s4
    walk_at "go"
    refine ⟨small (show 2 ≤ 1000 by decide), fun T5 hT5 => ?_⟩
    walk_at "go"
    refine ⟨small (show 1 ≤ 1000 by decide), fun D5 hD5 => ?_⟩
    have w5 := tr_wrap (c := 0) hTS4 exS hT5 hD5
    walk_at "go"
    refine ⟨4, .ref D5, _, _, rfl, by omega, by omega, w5.sd (.inl hSy), fun b5 H5 s5 hb5 => ?_⟩
    obtain rfl : b5 = false := by
      cases b5 with
      | false => rfl
      | true =>
        obtain ⟨u, e, _, hu2⟩ := hb5.mp rfl
        have e2 : trD (Tr.cons 0 t .nil) = trD u := by injection e
        rw [← trD_inj e2] at hu2
        simp only [Tr.sz] at hu2
        omega
    have := q H5
    walk_at "go"
    rw [decide_eq_true rfl]
    exact this
  rintro i σ H1 hi ⟨o1, o2, o3, o4, o5, o6, o7, o8, o9, o10, rfl, s1⟩
  have hi10 : i < 10 := by
    rw [List.length_map] at hi
    revert hi; split <;> (try split) <;> omega
  have ei : (0 : Int) + (i : Int) = (i : Int) := by omega
  rw [ei]
  walk_at "go"
  refine ⟨sa, ns, _, rfl, s1.seq hS, h63, by omega, by omega, fun p H2 hp2 s2 hpo => ?_⟩
  have hHp : H p = none := s1.free hp2
  have s12 := s1.trans s2
  walk_at "go"
  refine take_use hpo (by omega) (by omega) (by omega) (fun k0 H3 k00 k01 hpo3 s3 => ?_)
  have s13 : Same H H3 := Same.but s12 s3 hHp
  have k1 : 1 ≤ 1 + k0 := by omega
  have k4 : 1 + k0 ≤ 4 := by omega
  walk_at "go"
  refine ⟨p, _, _, rfl, hpo3, by omega, k1, k4, fun va t H4 z1 g1 hD1 hpo4 s4 T1 => ?_⟩
  have s14 : Same H H4 := Same.but s13 s4 hHp
  have pa : ∀ {G : Hp} {m : Nat}, PoolAt G p m → ∃ o, G p = some o := fun ⟨a, b, c, e, _⟩ => ⟨_, e⟩
  have hh := ht_sz t
  have hg : t.gr < 4 := by omega
  have u1 : TrH p H4 (.ref va) t := T1 p (pa hpo3)
  obtain ⟨n0, hn0⟩ : ∃ n0, n0 = 2000 * t.sz + 2000 := ⟨_, rfl⟩
  obtain ⟨m0, hm0⟩ : ∃ m0, m0 = 2 * Tr.ht t + 2 := ⟨_, rfl⟩
  obtain ⟨S, hS1⟩ : ∃ S : Addr → Prop, S = fun x => x = p := ⟨_, rfl⟩
  have hSp : S p := by rw [hS1]
  have Tw : TrS S H4 (.ref va) t := by rw [hS1]; exact sv_of u1
  have hfit := fl_lst (fl_tr hg)
  walk_at "go"
  refine ⟨_, .ref va, p, _, rfl, k1, k4, u1, Nat.le_trans hfit.2.2 (show 2 * Tr.ht t + 1 ≤ 51 by omega), fun c H5 s5 hc => ?_⟩
  obtain rfl := hc.of (t := t) (by omega) z1
  replace Tw := Tw.same s5
  have hp5 := hpo4.same s5
  have s15 := s14.trans s5
  have ex0 : Ex S H5 := fun x hx => by rw [hS1] at hx; rw [show x = p from hx]; exact pa hp5
  obtain ⟨va', vxs, e, nva, gva, _⟩ := Tw.open
  cases e
  have hvl := fl_len (dl_same_at (Tw.dl hg) gva).choose_spec.2
  have hvl2 := (svs_get (dl_same_at (Tw.dl hg) gva).choose_spec.1).1
  generalize (dl_same_at (Tw.dl hg) gva).choose = vds at hvl hvl2
  have ki : ∀ {S : Addr → Prop} {i : Int} {G : Hp}, i.natAbs < 10 ^ 60 → Dv S n0 m0 G (.int i) := fun h => dv_int h (by omega) (by omega)
  have hk1 : (1 + k0 - 1).natAbs < 10 ^ 60 := Nat.lt_of_le_of_lt (show _ ≤ 10 by omega) (by decide)
  clear T1 u1 s12 s2 s3 s13 s4 s5 hpo hpo3 hpo4 hD1 s14
  walk_at "go"
  refine ⟨small (show 0 ≤ 1000 by decide), fun x1 hx1 => ?_⟩
  have fx1 := lvL (xs := []) (n0 := n0) (m0 := m0) (l := 0) hx1 ex0 allD_nil (by simp)
  have sx1 := same_new hx1 (.lst [])
  have gx1 : (upd H5 x1 (.lst [])) x1 = some (.lst []) := upd_same
  replace ex0 := ex0.same sx1
  replace Tw := Tw.same sx1
  replace hp5 := hp5.same sx1
  replace gva := sx1 _ _ gva
  replace s15 := s15.trans sx1
  generalize upd H5 x1 _ = Jx1 at *
  clear sx1 hx1
  have ex1 := dl_lv fx1
  walk_at "go"
  refine ⟨small (show 2 ≤ 1000 by decide), fun x2 hx2 => ?_⟩
  have fx2 := lvT (xs := [(V.int 0), (V.ref x1)]) (n0 := n0) (m0 := m0) (l := 1) hx2 ex0 (allD_cons (Lv.up (l := 0) (ki (by decide)) (by decide)) (allD_cons ex1 allD_nil)) (by simp)
  have sx2 := same_new hx2 (.tup [(V.int 0), (V.ref x1)])
  replace ex0 := ex0.same sx2
  replace Tw := Tw.same sx2
  replace hp5 := hp5.same sx2
  replace gva := sx2 _ _ gva
  replace s15 := s15.trans sx2
  generalize upd Jx1 x2 _ = Jx2 at *
  clear sx2 hx2
  walk_at "go"
  refine ⟨small (show 1 ≤ 1000 by decide), fun x3 hx3 => ?_⟩
  have fx3 := lvL (xs := [(V.ref x2)]) (n0 := n0) (m0 := m0) (l := 2) hx3 ex0 (allD_cons fx2 allD_nil) (by simp)
  have sx3 := same_new hx3 (.lst [(V.ref x2)])
  have gx3 : (upd Jx2 x3 (.lst [(V.ref x2)])) x3 = some (.lst [(V.ref x2)]) := upd_same
  replace ex0 := ex0.same sx3
  replace Tw := Tw.same sx3
  replace hp5 := hp5.same sx3
  replace gva := sx3 _ _ gva
  replace s15 := s15.trans sx3
  generalize upd Jx2 x3 _ = Jx3 at *
  clear sx3 hx3
  have ex3 := dl_lv fx3
  walk_at "go"
  refine s_addL gva gx3 (by rw [sizeLine_eq]; simp; omega) (fun x4 hx4 => ?_)
  have cx4 : Dv S 5000000 50 _ (.ref x4) := cat2 (Tw.dl hg) fx3 gva gx3 hx4 ex0 (by simp only [nb]; omega) (by omega) (by omega)
  have sx4 := same_new hx4 (.lst (vxs ++ [(V.ref x2)]))
  replace ex0 := ex0.same sx4
  replace Tw := Tw.same sx4
  replace hp5 := hp5.same sx4
  replace gva := sx4 _ _ gva
  replace s15 := s15.trans sx4
  generalize upd Jx3 x4 _ = Jx4 at *
  clear sx4 hx4
  walk_at "go"
  refine ⟨small (show 2 ≤ 1000 by decide), fun x5 hx5 => ?_⟩
  have fx5 := lvT (xs := [(V.int (1 + k0 - 1)), (V.ref va)]) (n0 := n0) (m0 := m0) (l := 0) hx5 ex0 (allD_cons (ki hk1) (allD_cons (Tw.lv hg hn0 hm0) allD_nil)) (by simp)
  have sx5 := same_new hx5 (.tup [(V.int (1 + k0 - 1)), (V.ref va)])
  replace ex0 := ex0.same sx5
  replace Tw := Tw.same sx5
  replace hp5 := hp5.same sx5
  replace gva := sx5 _ _ gva
  replace s15 := s15.trans sx5
  replace cx4 := cx4.same sx5
  generalize upd Jx4 x5 _ = Jx5 at *
  clear sx5 hx5
  walk_at "go"
  refine ⟨small (show 1 ≤ 1000 by decide), fun x6 hx6 => ?_⟩
  have fx6 := lvL (xs := [(V.ref x5)]) (n0 := n0) (m0 := m0) (l := 1) hx6 ex0 (allD_cons fx5 allD_nil) (by simp)
  have sx6 := same_new hx6 (.lst [(V.ref x5)])
  have gx6 : (upd Jx5 x6 (.lst [(V.ref x5)])) x6 = some (.lst [(V.ref x5)]) := upd_same
  replace ex0 := ex0.same sx6
  replace Tw := Tw.same sx6
  replace hp5 := hp5.same sx6
  replace gva := sx6 _ _ gva
  replace s15 := s15.trans sx6
  replace cx4 := cx4.same sx6
  generalize upd Jx5 x6 _ = Jx6 at *
  clear sx6 hx6
  have ex6 := dl_lv fx6
  walk_at "go"
  refine ⟨small (show 2 ≤ 1000 by decide), fun x7 hx7 => ?_⟩
  have fx7 := lvT (xs := [(V.int 0), (V.ref va)]) (n0 := n0) (m0 := m0) (l := 0) hx7 ex0 (allD_cons (ki (by decide)) (allD_cons (Tw.lv hg hn0 hm0) allD_nil)) (by simp)
  have sx7 := same_new hx7 (.tup [(V.int 0), (V.ref va)])
  replace ex0 := ex0.same sx7
  replace Tw := Tw.same sx7
  replace hp5 := hp5.same sx7
  replace gva := sx7 _ _ gva
  replace s15 := s15.trans sx7
  replace cx4 := cx4.same sx7
  replace ex6 := ex6.same sx7
  generalize upd Jx6 x7 _ = Jx7 at *
  clear sx7 hx7
  walk_at "go"
  refine ⟨.ref va, p, t, rfl, ⟨pa hp5, Tw.sd (.inl hSp), z1, Nat.le_trans hh (Nat.le_trans z1 (by decide))⟩, fun D7 H7 hD7 sc T7 => ?_⟩
  have Tc : TrS S H7 (.ref D7) t := by rw [hS1]; exact sv_of (T7 p (pa hp5))
  replace ex0 := ex0.same sc
  replace Tw := Tw.same sc
  replace hp5 := hp5.same sc
  replace gva := sc _ _ gva
  replace s15 := s15.trans sc
  replace cx4 := cx4.same sc
  replace ex6 := ex6.same sc
  replace fx7 := fx7.same sc
  clear sc hD7 T7
  walk_at "go"
  refine ⟨small (show 2 ≤ 1000 by decide), fun x8 hx8 => ?_⟩
  have fx8 := lvT (xs := [(V.int 0), (V.ref D7)]) (n0 := n0) (m0 := m0) (l := 0) hx8 ex0 (allD_cons (ki (by decide)) (allD_cons (Tc.lv hg hn0 hm0) allD_nil)) (by simp)
  have sx8 := same_new hx8 (.tup [(V.int 0), (V.ref D7)])
  replace ex0 := ex0.same sx8
  replace Tw := Tw.same sx8
  replace hp5 := hp5.same sx8
  replace gva := sx8 _ _ gva
  replace s15 := s15.trans sx8
  replace cx4 := cx4.same sx8
  replace ex6 := ex6.same sx8
  replace fx7 := fx7.same sx8
  replace Tc := Tc.same sx8
  generalize upd H7 x8 _ = Jx8 at *
  clear sx8 hx8
  walk_at "go"
  refine ⟨small (show 2 ≤ 1000 by decide), fun x9 hx9 => ?_⟩
  have fx9 := lvL (xs := [(V.ref x7), (V.ref x8)]) (n0 := n0) (m0 := m0) (l := 1) hx9 ex0 (allD_cons fx7 (allD_cons fx8 allD_nil)) (by simp)
  have sx9 := same_new hx9 (.lst [(V.ref x7), (V.ref x8)])
  have gx9 : (upd Jx8 x9 (.lst [(V.ref x7), (V.ref x8)])) x9 = some (.lst [(V.ref x7), (V.ref x8)]) := upd_same
  replace ex0 := ex0.same sx9
  replace Tw := Tw.same sx9
  replace hp5 := hp5.same sx9
  replace gva := sx9 _ _ gva
  replace s15 := s15.trans sx9
  replace cx4 := cx4.same sx9
  replace ex6 := ex6.same sx9
  replace Tc := Tc.same sx9
  generalize upd Jx8 x9 _ = Jx9 at *
  clear sx9 hx9
  have ex9 := dl_lv fx9
  walk_at "go"
  refine ⟨small (show 2 ≤ 1000 by decide), fun x10 hx10 => ?_⟩
  have fx10 := lvT (xs := [(V.int 0), (V.ref va)]) (n0 := n0) (m0 := m0) (l := 0) hx10 ex0 (allD_cons (ki (by decide)) (allD_cons (Tw.lv hg hn0 hm0) allD_nil)) (by simp)
  have sx10 := same_new hx10 (.tup [(V.int 0), (V.ref va)])
  replace ex0 := ex0.same sx10
  replace Tw := Tw.same sx10
  replace hp5 := hp5.same sx10
  replace gva := sx10 _ _ gva
  replace s15 := s15.trans sx10
  replace cx4 := cx4.same sx10
  replace ex6 := ex6.same sx10
  replace Tc := Tc.same sx10
  replace ex9 := ex9.same sx10
  generalize upd Jx9 x10 _ = Jx10 at *
  clear sx10 hx10
  walk_at "go"
  refine ⟨small (show 2 ≤ 1000 by decide), fun x11 hx11 => ?_⟩
  have fx11 := lvT (xs := [(V.int 0), (V.ref va)]) (n0 := n0) (m0 := m0) (l := 0) hx11 ex0 (allD_cons (ki (by decide)) (allD_cons (Tw.lv hg hn0 hm0) allD_nil)) (by simp)
  have sx11 := same_new hx11 (.tup [(V.int 0), (V.ref va)])
  replace ex0 := ex0.same sx11
  replace Tw := Tw.same sx11
  replace hp5 := hp5.same sx11
  replace gva := sx11 _ _ gva
  replace s15 := s15.trans sx11
  replace cx4 := cx4.same sx11
  replace ex6 := ex6.same sx11
  replace Tc := Tc.same sx11
  replace ex9 := ex9.same sx11
  replace fx10 := fx10.same sx11
  generalize upd Jx10 x11 _ = Jx11 at *
  clear sx11 hx11
  walk_at "go"
  refine ⟨small (show 2 ≤ 1000 by decide), fun x12 hx12 => ?_⟩
  have fx12 := lvL (xs := [(V.ref x10), (V.ref x11)]) (n0 := n0) (m0 := m0) (l := 1) hx12 ex0 (allD_cons fx10 (allD_cons fx11 allD_nil)) (by simp)
  have sx12 := same_new hx12 (.lst [(V.ref x10), (V.ref x11)])
  have gx12 : (upd Jx11 x12 (.lst [(V.ref x10), (V.ref x11)])) x12 = some (.lst [(V.ref x10), (V.ref x11)]) := upd_same
  replace ex0 := ex0.same sx12
  replace Tw := Tw.same sx12
  replace hp5 := hp5.same sx12
  replace gva := sx12 _ _ gva
  replace s15 := s15.trans sx12
  replace cx4 := cx4.same sx12
  replace ex6 := ex6.same sx12
  replace Tc := Tc.same sx12
  replace ex9 := ex9.same sx12
  generalize upd Jx11 x12 _ = Jx12 at *
  clear sx12 hx12
  have ex12 := dl_lv fx12
  walk_at "go"
  refine ⟨small (show 5 ≤ 1000 by decide), fun x13 hx13 => ?_⟩
  obtain ⟨L5, hL5⟩ : ∃ LL : List V, LL = [(V.ref va), (V.ref x4), (V.ref x6), (V.ref x9), (V.ref x12)] := ⟨_, rfl⟩
  have A : ∀ x ∈ L5, Dv S 5000000 50 Jx12 x := by
    rw [hL5]
    exact (allD_cons (Dv.mono (Tw.lv hg hn0 hm0) (by rw [nb]; omega) (by omega)) (allD_cons cx4 (allD_cons (Dv.mono ex6 (by simp only [nb]; omega) (by omega)) (allD_cons (Dv.mono ex9 (by simp only [nb]; omega) (by omega)) (allD_cons (Dv.mono ex12 (by simp only [nb]; omega) (by omega)) allD_nil)))))
  have l5 : L5.length = 5 := by rw [hL5]; rfl
  rw [← hL5]
  clear hL5
  have gA : (upd Jx12 x13 (.lst L5)) x13 = some (.lst L5) := upd_same
  have nA : x13 ≠ p := fun z => by obtain ⟨o, e⟩ := pa hp5; rw [z, e] at hx13; cases hx13
  have sx13 := same_new hx13 (.lst L5)
  replace ex0 := ex0.same sx13
  replace Tw := Tw.same sx13
  replace hp5 := hp5.same sx13
  replace gva := sx13 _ _ gva
  replace s15 := s15.trans sx13
  replace A := fun x hx => (A x hx).same sx13
  generalize upd Jx12 x13 _ = Jx13 at *
  clear sx13 hx13
  walk_at "go"
  refine ⟨10, rfl, by decide, by decide, ?_⟩
  refine comp_rng (n := 10) (small (by decide)) (fun D j ys H' => (∀ v ∈ ys, Dv (fun x => S x ∨ x = D) 5000000 50 H' v) ∧ ys.length = j ∧ D ≠ p ∧ PoolAt H' p (50000 + 50 * j) ∧ SameBut1 p Jx13 H') (fun D hD => ⟨(fun _ z => nomatch z), rfl, (fun z => by obtain ⟨o, e⟩ := pa hp5; rw [z, e] at hD; cases hD), (hp5.same (same_new hD _)).mono (by omega), SameBut1.of (same_new hD _)⟩) (fun D ys H8 hD hy ⟨hA, hyl, hDp, hp8, s8⟩ => ?_) ?_
  · have kp8 : Kp S Jx13 H8 := kp_but s8 hSp
    have A8 := fun x hx => (A x hx).keep kp8
    have s18 : Same H H8 := Same.but s15 s8 hHp
    have hB : ∀ x ∈ ys, Dv S 5000000 50 H8 x := fun x hx => (hA x hx).less rfl
    refine s_addL (s8 _ _ gA nA) hy (by rw [l5, hyl, sizeLine_eq]; omega) (fun Ls hLs => ?_)
    have s9 := same_new hLs (.lst (L5 ++ ys))
    have g9 : (upd H8 Ls (.lst (L5 ++ ys))) Ls = some (.lst (L5 ++ ys)) := upd_same
    have A9 : ∀ x ∈ L5 ++ ys, Dv S 5000000 50 (upd H8 Ls (.lst (L5 ++ ys))) x := fun x hx => (allD_app A8 hB x hx).same s9
    have s19 := s18.trans s9
    generalize upd H8 Ls _ = H9 at *
    generalize L5 ++ ys = LL at *
    walk_at "go"
    refine ⟨Ls, rfl, ⟨_, SqL.of g9⟩, ?_⟩
    refine for_lst (xs := LL) (fun j σ H' => ∃ (o7' o8' : Option V), σ = [some (.ref sa), some (.int (i : Int)), some (.ref p), some (.int (1 + k0)), some (.ref va), some (.int (t.sz : Int)), some (.ref Ls), o7', o8', o9, o10] ∧ Same H9 H') ⟨_, _, rfl, Same.refl _⟩ (fun j σ H' _ ⟨_, _, _, sH⟩ => SqL.of (sH _ _ g9)) ?_ ?_
    · rintro j x σ H10 hx ⟨o7', o8', rfl, s10⟩
      obtain ⟨d, sv, fd⟩ := (A9 x (List.mem_of_getElem? hx)).same s10
      have sd := sv.sd (.inl hSp)
      walk_at "go"
      refine ⟨small (show 4 ≤ 1000 by decide), fun zl hzl => ?_⟩
      have t11 := same_new hzl (.lst [.int (1 + k0), .int (1 + k0), .int 4, .int 1])
      have g11 : (upd H10 zl (.lst [.int (1 + k0), .int (1 + k0), .int 4, .int 1])) zl = some (.lst [.int (1 + k0), .int (1 + k0), .int 4, .int 1]) := upd_same
      replace sd := sd.same t11
      have s11 := s10.trans t11
      generalize upd H10 zl _ = H11 at *
      refine ⟨zl, rfl, ⟨_, SqL.of g11⟩, ?_⟩
      refine for_lst (xs := [.int (1 + k0), .int (1 + k0), .int 4, .int 1]) (fun j σ H' => ∃ (o8' : Option V), σ = [some (.ref sa), some (.int (i : Int)), some (.ref p), some (.int (1 + k0)), some (.ref va), some (.int (t.sz : Int)), some (.ref Ls), some x, o8', o9, o10] ∧ Same H11 H') ⟨_, rfl, Same.refl _⟩ (fun j σ H' _ ⟨_, _, sH⟩ => SqL.of (sH _ _ g11)) ?_ ?_
      · rintro j2 x2 σ H12 hx2 ⟨o8', rfl, s12⟩
        obtain ⟨kk, rfl, kk1, kk4⟩ : ∃ kk : Int, x2 = .int kk ∧ 1 ≤ kk ∧ kk ≤ 4 := by
          match j2, hx2 with
          | 0, hx2 => cases hx2; exact ⟨_, rfl, k1, k4⟩
          | 1, hx2 => cases hx2; exact ⟨_, rfl, k1, k4⟩
          | 2, hx2 => cases hx2; exact ⟨_, rfl, by omega, by omega⟩
          | 3, hx2 => cases hx2; exact ⟨_, rfl, by omega, by omega⟩
          | n + 4, hx2 => simp at hx2
        walk_at "go"
        refine ⟨kk, x, p, d, rfl, kk1, kk4, sd.same s12, fd.mono (by decide) (by decide), fun H13 s13 => ?_⟩
        walk_at "go"
        refine ifq rfl ?_
        walk_at "go"
        exact ⟨_, rfl, s12.trans s13⟩
      rintro σ H12 ⟨o8', rfl, s12⟩
      exact ⟨_, _, rfl, s11.trans s12⟩
    rintro σ H10 ⟨o7', o8', rfl, s10⟩
    exact ⟨_, _, _, _, _, _, _, _, _, _, rfl, s19.trans s10⟩
  rintro D j ys H6 hD hj hy hyl ⟨hA, hyl', hDp, hp6, s6⟩
  have kpD : Kp S Jx13 H6 := kp_but s6 hSp
  have Tw6 : TrS (fun x => S x ∨ x = D) H6 (.ref va) t := (Tw.grow (S' := fun x => S x ∨ x = D) rfl hD).keep fun x o n e => kpD x o (fun z => n (.inl z)) e
  have ex6 : Ex (fun x => S x ∨ x = D) H6 := fun x hx => by
    rcases hx with z | z
    · rw [hS1] at z; rw [show x = p from z]; exact pa hp6
    · rw [z]; exact ⟨_, hy⟩
  walk_at "go"
  refine ifp rfl ?_
  walk_at "go"
  refine ⟨fun x => S x ∨ x = D, p, _, .ref va, t, _, rfl, .inl hSp, ex6, hp6, by omega, Tw6, hg, z1, by omega, by omega, fun w H7 hp7 s7 dw => ?_⟩
  refine ⟨ys, s7 _ _ hy hDp, by rw [sizeLine_eq]; omega, 10 - (j + 1), by omega, rfl, by omega, _, upd_same, by simp; omega, ?_, by simp; omega, hDp, ?_, ?_⟩
  · have bD : SameBut1 D H7 (upd H7 D (.lst (ys ++ [w]))) := fun b o hb nb => by rw [upd_ne nb]; exact hb
    intro v hv
    rcases List.mem_append.mp hv with z | z
    · exact ((hA v z).keep (kp_but s7 (.inl hSp))).keep (kp_but bD (.inr rfl))
    · rw [List.mem_singleton.mp z]; exact dw.keep (kp_but bD (.inr rfl))
  · obtain ⟨q1, q2, q3, e, h1, h2⟩ := hp7
    exact ⟨q1, q2, q3, by rw [upd_ne hDp.symm]; exact e, h1, by omega⟩
  · intro x o e n
    rw [upd_ne (fun z => by rw [z, hD] at e; cases e)]
    exact s7 _ _ (s6 _ _ e n) n

end
theorem len1 {P : List Value → Prop} (h : ∀ a, P [a]) : ∀ us, us.length = 1 → P us | [_], _ => h _
theorem len2 {P : List Value → Prop} (h : ∀ a b, P [a, b]) : ∀ us, us.length = 2 → P us | [_, _], _ => h _ _
theorem len3 {P : List Value → Prop} (h : ∀ a b c, P [a, b, c]) : ∀ us, us.length = 3 → P us | [_, _, _], _ => h _ _ _
theorem len4 {P : List Value → Prop} (h : ∀ a b c d, P [a, b, c, d]) : ∀ us, us.length = 4 → P us | [_, _, _, _], _ => h _ _ _ _
def FnAt (K : PySem.W.Frag) (x : Str) (st : Stmt) : Prop := ∃ f fd, PySem.W.nsIn K mainGlobals x = some (some (.ref f)) ∧ Fun K x x st f fd
theorem FnAt.mk {K : PySem.W.Frag} {x : Str} {st : Stmt} {f : Addr} {oc : Value} {od an : Option Addr} {osl : Array (Option Value)} {kV doc pm cdv ct : Value} (a : PySem.W.nsIn K mainGlobals x = some (some (.ref f))) (l : K.lookup f = some ⟨oc, od, .func (PySem.W.fnOf x x (defArgs st) (defBody st) (defScope st) .none kV doc pm an cdv ct), osl⟩) (c : PySem.W.codeIn K cdv x = true) (k : PySem.W.keepIn K (.ref f) = true) : FnAt K x st := ⟨f, _, a, fun_mk l c k⟩
theorem FnAt.at {K : PySem.W.Frag} {h : Heap} {mg : Str → Option Value} {x : Str} {st : Stmt} {ps : List Str} (p : FnAt K x st) (X : K.In h) (G : h.Ns mainGlobals mg) (hb : ∀ (kV doc pm : Value) (an : Option Addr) (cdv ct : Value) (us : List Value), us.length = ps.length → bindArgs (PySem.W.fnOf x x (defArgs st) (defBody st) (defScope st) .none kV doc pm an cdv ct) ⟨us, []⟩ = pure (ps.zip us)) : ∃ f fd, DefAt K mg x st ps f fd := let ⟨f, fd, a, F⟩ := p; ⟨f, fd, F, PySem.W.mg_of X G a, F.binds hb⟩
theorem all_mk {l : PySem.W.OpenLaw} {w : World} {K : PySem.W.Frag} {h : Heap} {mg : Str → Option Value} {fa : Addr} (X : K.In h) (G : h.Ns mainGlobals mg) (hfa : mg "law" = some (.ref fa)) {aK : Addr} {oK : Obj} {itK : Array Value} {nK : Nat} {x_MOST_TUPLES : Int} {t_MOST_TUPLES : Tok}
    (p0 : FnAt K "is_whole" d_is_whole)
    (p1 : FnAt K "check_kinds" d_check_kinds)
    (p2 : FnAt K "is_branch" d_is_branch)
    (p3 : FnAt K "is_tree" d_is_tree)
    (p4 : FnAt K "_law_pool" d_law_pool)
    (p5 : FnAt K "_law_take" d_law_take)
    (p6 : FnAt K "_law_tree" d_law_tree)
    (p7 : FnAt K "_law_copy" d_law_copy)
    (p8 : FnAt K "_law_count" d_law_count)
    (p9 : FnAt K "_law_odd" d_law_odd)
    (p10 : FnAt K "_law_changed" d_law_changed)
    (p11 : FnAt K "_law_no_tree" d_law_no_tree)
    (p12 : FnAt K "_law_right" d_law_right)
    (p13 : FnAt K "law" d_law)
    (z_bool : PySem.W.nsIn K mainGlobals "bool" = some none)
    (z_int : PySem.W.nsIn K mainGlobals "int" = some none)
    (z_isinstance : PySem.W.nsIn K mainGlobals "isinstance" = some none)
    (z_len : PySem.W.nsIn K mainGlobals "len" = some none)
    (z_list : PySem.W.nsIn K mainGlobals "list" = some none)
    (z_max : PySem.W.nsIn K mainGlobals "max" = some none)
    (z_min : PySem.W.nsIn K mainGlobals "min" = some none)
    (z_range : PySem.W.nsIn K mainGlobals "range" = some none)
    (z_repr : PySem.W.nsIn K mainGlobals "repr" = some none)
    (z_tuple : PySem.W.nsIn K mainGlobals "tuple" = some none)
    (g_K : PySem.W.nsIn K mainGlobals "KINDS" = some (some (.ref aK))) (l_K : K.lookup aK = some oK) (c_K : oK.cls = .type "tuple") (s_K : oK.data = .seq itK nK) (r_K : tupIs itK [tx [40, 41], tx [91, 93], tx [123, 125], tx [60, 62]] = true)
    (g_MOST_TUPLES : PySem.W.nsIn K mainGlobals "MOST_TUPLES" = some (some (.int x_MOST_TUPLES t_MOST_TUPLES))) (h_MOST_TUPLES : x_MOST_TUPLES = 20) :
    ∃ fd : FuncData, (∀ (s : Shared) (v : Value), BindsTo s fd ⟨[v], []⟩ [("script", v)]) ∧ ∀ base : Heap, K.In base → base.Ns mainGlobals mg → FnOk l.prog w K mg base CX0 28 fa fd ["script"] (spLaw K) := by
  have T : Txt K mg aK := ⟨PySem.W.mg_none_of X G z_bool, PySem.W.mg_none_of X G z_int, PySem.W.mg_none_of X G z_isinstance, PySem.W.mg_none_of X G z_len, PySem.W.mg_none_of X G z_list, PySem.W.mg_none_of X G z_max, PySem.W.mg_none_of X G z_min, PySem.W.mg_none_of X G z_range, PySem.W.mg_none_of X G z_repr, PySem.W.mg_none_of X G z_tuple, ⟨_, PySem.W.mg_of X G g_K, rfl⟩, fun H => .inr ⟨oK, itK, nK, l_K, c_K, s_K, tupIs_size r_K (by decide), tupIs_vals r_K⟩, ⟨_, PySem.W.mg_of X G g_MOST_TUPLES, by rw [h_MOST_TUPLES]; exact ⟨_, rfl⟩⟩⟩
  obtain ⟨f0, e0, D0⟩ := p0.at (ps := ["thing"]) X G fun _ _ _ _ _ _ => len1 fun _ => rfl
  obtain ⟨f1, e1, D1⟩ := p1.at (ps := ["k"]) X G fun _ _ _ _ _ _ => len1 fun _ => rfl
  obtain ⟨f2, e2, D2⟩ := p2.at (ps := ["k", "thing"]) X G fun _ _ _ _ _ _ => len2 fun _ _ => rfl
  obtain ⟨f3, e3, D3⟩ := p3.at (ps := ["k", "thing"]) X G fun _ _ _ _ _ _ => len2 fun _ _ => rfl
  obtain ⟨f4, e4, D4⟩ := p4.at (ps := ["script", "k"]) X G fun _ _ _ _ _ _ => len2 fun _ _ => rfl
  obtain ⟨f5, e5, D5⟩ := p5.at (ps := ["pool", "many"]) X G fun _ _ _ _ _ _ => len2 fun _ _ => rfl
  obtain ⟨f6, e6, D6⟩ := p6.at (ps := ["pool", "k", "most"]) X G fun _ _ _ _ _ _ => len3 fun _ _ _ => rfl
  obtain ⟨f7, e7, D7⟩ := p7.at (ps := ["tree"]) X G fun _ _ _ _ _ _ => len1 fun _ => rfl
  obtain ⟨f8, e8, D8⟩ := p8.at (ps := ["k", "thing"]) X G fun _ _ _ _ _ _ => len2 fun _ _ => rfl
  obtain ⟨f9, e9, D9⟩ := p9.at (ps := ["pool", "kind", "within"]) X G fun _ _ _ _ _ _ => len3 fun _ _ _ => rfl
  obtain ⟨f10, e10, D10⟩ := p10.at (ps := ["pool", "tree", "at", "left"]) X G fun _ _ _ _ _ _ => len4 fun _ _ _ _ => rfl
  obtain ⟨f11, e11, D11⟩ := p11.at (ps := ["pool", "tree", "many"]) X G fun _ _ _ _ _ _ => len3 fun _ _ _ => rfl
  obtain ⟨f12, e12, D12⟩ := p12.at (ps := ["k", "thing"]) X G fun _ _ _ _ _ _ => len2 fun _ _ => rfl
  obtain ⟨f13, e13, D13⟩ := p13.at (ps := ["script"]) X G fun _ _ _ _ _ _ => len1 fun _ => rfl
  have e := hfa.symm.trans D13.m
  cases e
  obtain ⟨_, _, kV13, dc13, pm13, an13, cd13, ct13, _, rfl, _, _⟩ := D13.F.ex
  refine ⟨PySem.W.fnOf "law" "law" (defArgs d_law) (defBody d_law) (defScope d_law) .none kV13 dc13 pm13 an13 cd13 ct13, fun s v => .of_eq rfl, fun base _ _ => ?_⟩
  have U_is_whole : FnU l.prog w K mg base 1 "is_whole" ["thing"] (spWhole K) := D0.fnU (ok_is_whole (k := 0) D0.F T )
  have U_check_kinds : FnU l.prog w K mg base 2 "check_kinds" ["k"] (spKinds) := D1.fnU (ok_check_kinds (k := 1) D1.F T (U_is_whole.mono (by decide)))
  have U_is_branch : FnU l.prog w K mg base 2 "is_branch" ["k", "thing"] (spBranchD) := D2.fnU (ok_is_branch (k := 1) D2.F T (U_is_whole.mono (by decide)))
  have U_is_tree : FnU l.prog w K mg base 3 "is_tree" ["k", "thing"] (spTreeD) := D3.fnU (ok_is_tree (k := 2) D3.F T (U_check_kinds.mono (by decide)) (U_is_branch.mono (by decide)))
  have U_law_pool : FnU l.prog w K mg base 1 "_law_pool" ["script", "k"] (spPool K) := D4.fnU (ok_law_pool (k := 0) D4.F T )
  have U_law_take : FnU l.prog w K mg base 1 "_law_take" ["pool", "many"] (spTake) := D5.fnU (ok_law_take (k := 0) D5.F T )
  have U_law_tree : FnU l.prog w K mg base 2 "_law_tree" ["pool", "k", "most"] (spMkB) := D6.fnU (ok_law_tree (k := 1) D6.F T (U_law_take.mono (by decide)))
  have R_law_copy : ∀ n, FnU l.prog w K mg base (0 + n) "_law_copy" ["tree"] (recSp gCopy n) := fun n => by
    induction n with
    | zero => exact D7.fnU ⟨fun _ _ _ _ h => h.elim, fun _ _ _ _ _ _ _ _ _ _ _ _ _ h => h.elim⟩
    | succ n ih => exact D7.fnU (ok_law_copy (k := 0 + n) n D7.F T  ih)
  have U_law_copy := R_law_copy 22
  have R_law_count : ∀ n, FnU l.prog w K mg base (0 + n) "_law_count" ["k", "thing"] (recSp gCountD n) := fun n => by
    induction n with
    | zero => exact D8.fnU ⟨fun _ _ _ _ h => h.elim, fun _ _ _ _ _ _ _ _ _ _ _ _ _ h => h.elim⟩
    | succ n ih => exact D8.fnU (ok_law_count (k := 0 + n) n D8.F T  ih)
  have U_law_count := R_law_count 26
  have U_law_odd : FnU l.prog w K mg base 2 "_law_odd" ["pool", "kind", "within"] (spOdd) := D9.fnU (ok_law_odd (k := 1) D9.F T (U_law_take.mono (by decide)))
  have R_law_changed : ∀ n, FnU l.prog w K mg base (2 + n) "_law_changed" ["pool", "tree", "at", "left"] (recSp gChg n) := fun n => by
    induction n with
    | zero => exact D10.fnU ⟨fun _ _ _ _ h => h.elim, fun _ _ _ _ _ _ _ _ _ _ _ _ _ h => h.elim⟩
    | succ n ih => exact D10.fnU (ok_law_changed (k := 2 + n) n D10.F T (U_law_odd.mono (by omega)) ih)
  have U_law_changed := R_law_changed 22
  have U_law_no_tree : FnU l.prog w K mg base 25 "_law_no_tree" ["pool", "tree", "many"] (spNoTr) := D11.fnU (ok_law_no_tree (k := 24) D11.F T (U_law_take.mono (by decide)) (U_law_changed.mono (by decide)))
  have U_law_right : FnU l.prog w K mg base 27 "_law_right" ["k", "thing"] (spRightD 16000000) := D12.fnU (ok_law_right (k := 26) D12.F T (U_is_tree.mono (by decide)) (U_law_count.mono (by decide)))
  exact ok_law (k := 27) D13.F T (U_law_pool.mono (by decide)) (U_law_tree.mono (by decide)) (U_law_count.mono (by decide)) (U_law_take.mono (by decide)) (U_is_tree.mono (by decide)) (U_law_no_tree.mono (by decide)) (U_law_right.mono (by decide)) (U_law_copy.mono (by decide))
theorem walk {l : PySem.W.OpenLaw} {q : Program} {loose : List Str} {XP : (Str → Option Value) → Heap → Prop} {YP : World → Heap → Prop} {d : DefRec} {K : Params → PySem.W.Frag} (hn : l.most = some 63) (hdf : d.params.defaults = [])
    (hY : ∀ (w : World) (h : Heap), YP w h → (K w.params).In h)
    (F : ∀ (w : World) (mg : Str → Option Value) (fa : Addr) (h : Heap), (K w.params).In h → h.Ns mainGlobals mg → mg d.name = some (.ref fa) →
      ∃ fd : FuncData, (∀ (s : Shared) (u : Value), BindsTo s fd ⟨[u], []⟩ [("script", u)]) ∧ ∀ base : Heap, (K w.params).In base → base.Ns mainGlobals mg → FnOk l.prog w (K w.params) mg base CX0 28 fa fd ["script"] (spLaw (K w.params))) :
    PySem.W.WalkO q loose XP YP l.row.toRowW d [] (fun f vs => PySem.call f vs) :=
  L2.walk_of (n := 63) (k := 28) (x := "script") (CX := fun _ => CX0) (sp := fun w => spLaw (K w.params)) hn (by decide) hdf ⟨rfl, by decide, by decide, rfl⟩ hY F (fun _ _ a ns hl _ hS => ⟨a, ns, rfl, hS, hl, fun _ => rfl⟩) fun _ _ _ _ _ z => z
end Bk
theorem PySem.W.Fast.tw17338760575629846462 : True := trivial
theorem PySem.W.Fast.tw5774057899504543588 : True := trivial
theorem PySem.W.Fast.tw18079326434220174538 : True := trivial
theorem PySem.W.Fast.tw5087819458544202886 : True := trivial
theorem PySem.W.Fast.tw9478538878801493821 : True := trivial
theorem PySem.W.Fast.tw2690515493124282284 : True := trivial
theorem PySem.W.Fast.tw2149735961126671242 : True := trivial
theorem PySem.W.Fast.tw3563627957273339771 : True := trivial
theorem PySem.W.Fast.tw12971077807469798273 : True := trivial
theorem PySem.W.Fast.tw17044168529423975140 : True := trivial
theorem PySem.W.Fast.tw12236379881143364739 : True := trivial
theorem PySem.W.Fast.tw17463817127102194281 : True := trivial
theorem PySem.W.Fast.tw5684565711218735868 : True := trivial
open PySem PySem.W PyProof.Rows
set_option maxRecDepth 100000 in
set_option maxHeartbeats 0 in
theorem PySem.Challenge.cw_bracketrows_k08_what_is_a_tree_holds : PySem.Challenge.rw_bracketrows_k08_what_is_a_tree.Holds := by
  w_on; o_law; k_head; (case hw => w_witness2)
  k_fill
  refine Bk.walk (l := PySem.Challenge.rw_bracketrows_k08_what_is_a_tree) rfl rfl (fun w h Y => PySem.W.kIn_of Y) ?F
  case F =>
    intro w mg fa h KX G hmg
    refine' Bk.all_mk KX G hmg ?p0 ?p1 ?p2 ?p3 ?p4 ?p5 ?p6 ?p7 ?p8 ?p9 ?p10 ?p11 ?p12 ?p13 ?z_bool ?z_int ?z_isinstance ?z_len ?z_list ?z_max ?z_min ?z_range ?z_repr ?z_tuple ?g_K ?l_K ?c_K ?s_K ?r_K ?g_MOST_TUPLES ?h_MOST_TUPLES
    (case p0 | p1 | p2 | p3 | p4 | p5 | p6 | p7 | p8 | p9 | p10 | p11 | p12 | p13 => (apply Bk.FnAt.mk; k_is; k_is; k_is; k_is))
    (case z_bool | z_int | z_isinstance | z_len | z_list | z_max | z_min | z_range | z_repr | z_tuple | g_K | l_K => k_is)
    (case c_K => rfl)
    (case s_K => rfl)
    (case r_K => decide +kernel)
    (case g_MOST_TUPLES => k_is)
    (case h_MOST_TUPLES => rfl)

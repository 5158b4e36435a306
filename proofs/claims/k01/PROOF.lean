import PyProof.Rows.All
import Wide.All
import OpenK.AllK
import Wide.FinOn
import Lean
import PyProof.EqAt
import PyProof.EqKinds
import PyProof.TupleCall
import PySem.Challenge.RW_bracketrows_k01_what_is_a_row
set_option Elab.async false
set_option linter.all false
set_option maxRecDepth 100000

-- CHANGE: your row's module here, as the last of these rows
/-! THE HAND LAYER, for ints, bools, texts, own classes, LISTS and tuples (index, slices, in, append, pop ..), calls, loops. Paste it whole ahead of your own text; what your proof does not reach may be deleted. -/
namespace L2
open PySem PySem.Spec PyProof.Rows

/-- a key: an int or a str -/
abbrev Key := Sum Int Str
def keyIs : Key → Value → Bool
  | .inl k, v => Value.isInt k v
  | .inr x, v => Value.isStrOf x v
def keyH (w : World) : Key → Int
  | .inl k => hashInt k
  | .inr x => hashStr w x
theorem keyIs_shape : ∀ {k : Key} {v : Value}, keyIs k v = true → (∃ i t, k = Sum.inl i ∧ v = Value.int i t) ∨ (∃ x t, k = Sum.inr x ∧ v = Value.str x t)
  | .inl i, v, h => by
    obtain ⟨t, e⟩ := Value.isInt_shape (k := i) (v := v) h
    exact .inl ⟨i, t, rfl, e⟩
  | .inr x, v, h => by
    obtain ⟨t, e⟩ := Value.isStrOf_shape (x := x) (v := v) h
    exact .inr ⟨x, t, rfl, e⟩
theorem keyIs_int (i : Int) (t : Tok) : keyIs (.inl i) (.int i t) = true := by simp [keyIs, Value.isInt]
theorem keyIs_str (x : Str) (t : Tok) : keyIs (.inr x) (.str x t) = true := by simp [keyIs, Value.isStrOf]
theorem key_ll (a b : Int) : decide ((Sum.inl a : Key) = Sum.inl b) = (a == b) := by
  by_cases e : a = b
  · subst e; simp
  · have h : ¬ (Sum.inl a : Key) = Sum.inl b := fun q => e (Sum.inl.inj q)
    rw [decide_eq_false h]
    exact (beq_eq_false_iff_ne.mpr e).symm
theorem key_rr (a b : Str) : decide ((Sum.inr a : Key) = Sum.inr b) = decide (a = b) := by
  by_cases e : a = b
  · subst e; simp
  · have h : ¬ (Sum.inr a : Key) = Sum.inr b := fun q => e (Sum.inr.inj q)
    rw [decide_eq_false h, decide_eq_false e]
theorem key_lr (a : Int) (b : Str) : decide ((Sum.inl a : Key) = Sum.inr b) = false := decide_eq_false (fun q => nomatch q)
theorem key_rl (a : Str) (b : Int) : decide ((Sum.inr a : Key) = Sum.inl b) = false := decide_eq_false (fun q => nomatch q)

def mixKind (prog : Program) (w : World) : PySem.KeyKind prog w Key where
  is := keyIs
  hash := keyH w
  inj := fun v a b ha hb => by
    rcases keyIs_shape ha with ⟨i, t, rfl, rfl⟩ | ⟨x, t, rfl, rfl⟩
    · rcases keyIs_shape hb with ⟨j, u, rfl, e⟩ | ⟨y, u, rfl, e⟩
      · injection e with e1 _; rw [e1]
      · exact nomatch e
    · rcases keyIs_shape hb with ⟨j, u, rfl, e⟩ | ⟨y, u, rfl, e⟩
      · exact nomatch e
      · injection e with e1 _; rw [e1]
  byValue := fun k v h => by
    rcases keyIs_shape h with ⟨i, t, rfl, rfl⟩ | ⟨x, t, rfl, rfl⟩ <;> rfl
  pyHash := fun hv h => by
    rcases keyIs_shape hv with ⟨i, t, rfl, rfl⟩ | ⟨x, t, rfl, rfl⟩
    · exact wpAny_pyHash_int h
    · exact wpAny_pyHash_str h
  eqBool := fun hu hv h => by
    rcases keyIs_shape hu with ⟨i, t, rfl, rfl⟩ | ⟨x, t, rfl, rfl⟩
    · rcases keyIs_shape hv with ⟨j, u, rfl, rfl⟩ | ⟨y, u, rfl, rfl⟩
      · rw [key_ll] at h; exact wpAny_eqBool_int h
      · rw [key_lr] at h; exact SeqAt.EqAt.int_str i t y u _ _ _ _ h
    · rcases keyIs_shape hv with ⟨j, u, rfl, rfl⟩ | ⟨y, u, rfl, rfl⟩
      · rw [key_rl] at h; exact SeqAt.EqAt.str_int x t j u _ _ _ _ h
      · rw [key_rr] at h; exact wpAny_eqBool_str h
  «strs» := fun k x t v h => by
    rcases keyIs_shape h with ⟨i, u, rfl, e⟩ | ⟨y, u, rfl, e⟩
    · exact nomatch e
    · injection e with e1 _
      subst e1
      cases v <;> rfl

theorem mixKind_is (prog : Program) (w : World) (k : Key) (v : Value) : (mixKind prog w).is k v = keyIs k v := rfl
theorem mixKind_int (prog : Program) (w : World) (i : Int) (t : Tok) : (mixKind prog w).is (.inl i) (.int i t) = true := keyIs_int i t
theorem mixKind_str (prog : Program) (w : World) (x : Str) (t : Tok) : (mixKind prog w).is (.inr x) (.str x t) = true := keyIs_str x t
end L2

namespace L2
open PySem PySem.Spec PyProof.Rows

/-- a value, without the heap -/
inductive V where
  | non | bl (b : Bool) | int (i : Int) | str (x : Str) | byt (b : Array UInt8) | flt (b : UInt64) | ref (a : Addr) | ty (n : String)
  deriving DecidableEq

def RelV : V → Value → Prop
  | .non, u => u = Value.none
  | .bl b, u => u = Value.bool b
  | .int i, u => ∃ t, u = Value.int i t
  | .str x, u => ∃ t, u = Value.str x t
  | .byt b, u => ∃ t, u = Value.bytes b t
  | .flt b, u => ∃ t, u = Value.float b t
  | .ref a, u => u = Value.ref a
  | .ty n, u => u = Value.type n

abbrev Vals : List V → List Value → Prop := Paired RelV
theorem Vals.length {xs : List V} {us : List Value} (r : Vals xs us) : xs.length = us.length := Paired.length r
theorem Vals.get : ∀ {xs : List V} {us : List Value} {i : Nat} {x : V}, Vals xs us → xs[i]? = some x → ∃ u, us[i]? = some u ∧ RelV x u
  | _, _, _, _, .nil, e => by simp at e
  | _, _, 0, _, .cons r _, e => by simp at e; subst e; exact ⟨_, rfl, r⟩
  | _, _, i + 1, x, .cons _ t, e => by
    obtain ⟨u, h1, h2⟩ := Vals.get (i := i) (x := x) t (by simpa using e)
    exact ⟨u, by simpa using h1, h2⟩
theorem Vals.set {x : V} {u : Value} (r : RelV x u) : ∀ {xs : List V} {us : List Value} (i : Nat), Vals xs us → Vals (xs.set i x) (us.set i u)
  | _, _, _, .nil => .nil
  | _, _, 0, .cons _ t => .cons r t
  | _, _, i + 1, .cons q t => .cons q (Vals.set r i t)
theorem Vals.append : ∀ {xs ys : List V} {us ws : List Value}, Vals xs us → Vals ys ws → Vals (xs ++ ys) (us ++ ws)
  | _, _, _, _, .nil, s => s
  | _, _, _, _, .cons r t, s => .cons r (Vals.append t s)
theorem Vals.take : ∀ {xs : List V} {us : List Value} (n : Nat), Vals xs us → Vals (xs.take n) (us.take n)
  | _, _, 0, _ => .nil
  | _, _, _ + 1, .nil => .nil
  | _, _, n + 1, .cons r t => .cons r (Vals.take n t)
theorem Vals.drop : ∀ {xs : List V} {us : List Value} (n : Nat), Vals xs us → Vals (xs.drop n) (us.drop n)
  | _, _, 0, r => r
  | _, _, _ + 1, .nil => .nil
  | _, _, n + 1, .cons _ t => Vals.drop n t
theorem Vals.none_of : ∀ {xs : List V} {us : List Value} {i : Nat}, Vals xs us → xs[i]? = none → us[i]? = none := fun {xs us i} r e => by
  have h1 := r.length
  have h2 : xs.length ≤ i := List.getElem?_eq_none_iff.mp e
  exact List.getElem?_eq_none_iff.mpr (by omega)

def RelO : Option V → Option Value → Prop
  | some v, some u => RelV v u
  | none, none => True
  | _, _ => False
def KV {κ : Type} : List (κ × V) → List (κ × Value) → Prop := Paired fun (p : κ × V) (q : κ × Value) => p.1 = q.1 ∧ RelV p.2 q.2

/-- a key of a dict (00_mix): an int or a text -/
def kV : Key → V
  | .inl i => .int i
  | .inr x => .str x

/-- what stands at a tracked address -/
inductive HO where
  /-- a list -/
  | lst (xs : List V)
  /-- a tuple (never changes) -/
  | tup (xs : List V)
  /-- a dict whose keys are ints and texts; one whose keys are tuples of ints and texts (the empty one is both) -/
  | dK (kvs : List (Key × V)) | dT (kvs : List (List Key × V))
  /-- a set of ints: its members, its size -/
  | set (S : Int → Bool) (n : Nat)
  /-- an instance of the class at C, its dict at dx, its attributes -/
  | ins (C dx : Addr) (fs : List (Str × V))
  /-- the dict of the instance at x -/
  | own (x : Addr)
  /-- the dict of an exception -/
  | xd (fs : List (Str × V))
  /-- a bound method, f of x -/
  | met (f x : Addr)
  /-- a range object lo, lo + 1, .. below hi -/
  | rng (lo hi : Int)
  /-- a thing that is known to the object (the script; a dict while a loop walks it): read, never written while it is so -/
  | frz (o : Obj) (u : HO)
  /-- a code object's table -/
  | tbl (ps : Array Value)
  /-- any other thing, by what is true of its one object (a def of one's own: SetO a S n := HO.ext fun h => ..) -/
  | ext (φ : Heap → Prop)

abbrev Hp := Addr → Option HO
def upd (H : Hp) (a : Addr) (o : HO) : Hp := fun b => if b = a then some o else H b
theorem upd_same {H : Hp} {a : Addr} {o : HO} : upd H a o a = some o := by unfold upd; rw [if_pos rfl]
theorem upd_ne {H : Hp} {a b : Addr} {o : HO} (h : b ≠ a) : upd H a o b = H b := by unfold upd; rw [if_neg h]
theorem upd_upd {H : Hp} {a : Addr} {o u : HO} : upd (upd H a o) a u = upd H a u := by
  funext b; unfold upd; split <;> rfl
/-- two objects of different content stand apart -/
theorem ne_of {H : Hp} {a b : Addr} {o u : HO} (h : H a = some o) (h' : H b = some u) (d : o ≠ u) : a ≠ b := by
  intro e; subst e; rw [h] at h'; exact d (Option.some.inj h')
theorem ne_of_none {H : Hp} {a b : Addr} {o : HO} (h : H a = some o) (h' : H b = none) : a ≠ b := by
  intro e; subst e; rw [h] at h'; cases h'

section
variable (P : Program) (w : World)
def ObjOk (H : Hp) (h : Heap) (a : Addr) : HO → Prop
  | .lst xs => xs.length ≤ sizeLine ∧ ∃ (its : List Value) (n : Nat), Vals xs its ∧ h.get? a = some { cls := .type "list", data := .seq its.toArray n }
  | .tup xs => xs.length ≤ sizeLine ∧ ∃ its : List Value, Vals xs its ∧ IsTup h a its.toArray
  | .dK kvs => kvs.length ≤ sizeLine ∧ (a == sysModules) = false ∧ ∃ vs, KV kvs vs ∧ h.DictOf (mixKind P w) a vs
  | .dT kvs => kvs.length ≤ sizeLine ∧ (a == sysModules) = false ∧ ∃ xs : List (List Key × Addr × Value),
      Paired (fun (p : List Key × V) (q : List Key × Addr × Value) => p.1 = q.1 ∧ H q.2.1 = some (.tup (p.1.map kV)) ∧ RelV p.2 q.2.2) kvs xs ∧
      ∃ o es ep, h.get? a = some o ∧ o.ExactDict ∧ o.data = .dict es ep ∧ es.toList = xs.map (entryOfKey (tupleKind (mixKind P w))) ∧ (xs.map (·.1)).Nodup
  | .set S n => h.SetOf (intKind P w) a S n
  | .ins C dx fs => H dx = some (.own a) ∧ fs.length ≤ 1000 ∧ dx ≠ a ∧ h.get? a = some (PySem.W.instObj C dx) ∧
      ∃ mA, h.Ns1 dx mA ∧ (∀ f, RelO (fs.lookup f) (mA f)) ∧ PySem.Within mA (fs.map (·.1))
  | .own _ => ∃ o, h.get? a = some o
  | .xd fs => ∃ mA, h.Ns1 a mA ∧ ∀ f, RelO (fs.lookup f) (mA f)
  | .rng lo hi => ∃ t u v, h.get? a = some { cls := .type "range", data := .fields #[.int lo t, .int hi u, .int 1 v] }
  | .frz o u => h.get? a = some o ∧ ObjOk H h a u
  | .tbl ps => h.get? a = some { cls := .none, data := .fields ps }
  | .met f x => h.get? a = some (PySem.W.methodObj (.ref f) (.ref x))
  | .ext φ => φ h ∧ (∃ o, h.get? a = some o) ∧ ∀ h1 h2 : Heap, φ h1 → (∀ o, h1.get? a = some o → h2.get? a = some o) → φ h2
/-- the abstract heap is held -/
def HOk (H : Hp) (h : Heap) : Prop := ∀ a o, H a = some o → ObjOk P w H h a o
end

section
variable {P : Program} {w : World} {H H' : Hp} {h h' : Heap} {a : Addr} {o : HO}
theorem ObjOk.lt (x : ObjOk P w H h a o) : a < h.objs.size := by
  cases o with
  | lst xs => obtain ⟨_, _, _, _, e⟩ := x; exact Heap.lt_size e
  | tup xs => obtain ⟨_, _, _, p⟩ := x; exact p.lt
  | dK kvs => obtain ⟨_, _, _, _, o, _, _, e, _⟩ := x; exact Heap.lt_size e
  | dT kvs => obtain ⟨_, _, _, _, o, _, _, e, _⟩ := x; exact Heap.lt_size e
  | set S n => obtain ⟨o, _, _, _, e, _⟩ := x; exact Heap.lt_size e
  | ins C dx fs => obtain ⟨_, _, _, e, _⟩ := x; exact Heap.lt_size e
  | own y => obtain ⟨_, e⟩ := x; exact Heap.lt_size e
  | xd fs => obtain ⟨_, ⟨_, _, _, e, _⟩, _⟩ := x; exact Heap.lt_size e
  | rng lo hi => obtain ⟨_, _, _, e⟩ := x; exact Heap.lt_size e
  | frz ob u => obtain ⟨e, _⟩ := x; exact Heap.lt_size e
  | tbl ps => exact Heap.lt_size (show h.get? a = some _ from x)
  | met f y => exact Heap.lt_size (show h.get? a = some _ from x)
  | ext φ => obtain ⟨_, ⟨_, e⟩, _⟩ := x; exact Heap.lt_size e
theorem Paired.mapP {α β : Type} {F G : α → β → Prop} : ∀ {l₁ : List α} {l₂ : List β}, Paired F l₁ l₂ → (∀ a b, F a b → G a b) → Paired G l₁ l₂
  | _, _, .nil, _ => .nil
  | _, _, .cons r t, f => .cons (f _ _ r) (Paired.mapP t f)
theorem Paired.imp' {α β : Type} {F G : α → β → Prop} (f : ∀ a b, F a b → G a b) {l₁ : List α} {l₂ : List β} (r : Paired F l₁ l₂) : Paired G l₁ l₂ := Paired.mapP r f
/-- what an object's description leans on: its own object, its own dict, the tuples -/
theorem ObjOk.stay (x : ObjOk P w H h a o) (k : ∀ b u, (b = a ∨ H b = some (.own a)) → h.get? b = some u → h'.get? b = some u)
    (ho : ∀ b, H b = some (.own a) → H' b = some (.own a)) (ht : ∀ b xs, H b = some (.tup xs) → H' b = some (.tup xs)) : ObjOk P w H' h' a o := by
  induction o with
  | lst xs => obtain ⟨z, its, n, r, e⟩ := x; exact ⟨z, its, n, r, k _ _ (.inl rfl) e⟩
  | tup xs => obtain ⟨z, its, r, ob, e, c⟩ := x; exact ⟨z, its, r, ob, k _ _ (.inl rfl) e, c⟩
  | dK kvs => obtain ⟨z, y, vs, r, ob, es, ep, e, c⟩ := x; exact ⟨z, y, vs, r, ob, es, ep, k _ _ (.inl rfl) e, c⟩
  | dT kvs =>
    obtain ⟨z, y, xs, r, ob, es, ep, e, c⟩ := x
    exact ⟨z, y, xs, Paired.mapP r fun p q z => ⟨z.1, ht _ _ z.2.1, z.2.2⟩, ob, es, ep, k _ _ (.inl rfl) e, c⟩
  | set S n => obtain ⟨ob, es, ep, t, e, c⟩ := x; exact ⟨ob, es, ep, t, k _ _ (.inl rfl) e, c⟩
  | ins C dx fs =>
    obtain ⟨d, z, ne, e, mA, ⟨od, es, ep, e2, c⟩, r⟩ := x
    exact ⟨ho _ d, z, ne, k _ _ (.inl rfl) e, mA, ⟨od, es, ep, k _ _ (.inr d) e2, c⟩, r⟩
  | own y => obtain ⟨ob, e⟩ := x; exact ⟨ob, k _ _ (.inl rfl) e⟩
  | xd fs => obtain ⟨mA, ⟨od, es, ep, e, c⟩, r⟩ := x; exact ⟨mA, ⟨od, es, ep, k _ _ (.inl rfl) e, c⟩, r⟩
  | rng lo hi => obtain ⟨t, u, v, e⟩ := x; exact ⟨t, u, v, k _ _ (.inl rfl) e⟩
  | frz ob u ih => obtain ⟨e, q⟩ := x; exact ⟨k _ _ (.inl rfl) e, ih q⟩
  | tbl ps =>
    have e : h.get? a = some { cls := .none, data := .fields ps } := x
    show h'.get? a = some { cls := .none, data := .fields ps }
    exact k a _ (.inl rfl) e
  | met f y =>
    have e : h.get? a = some (PySem.W.methodObj (.ref f) (.ref y)) := x
    show h'.get? a = some (PySem.W.methodObj (.ref f) (.ref y))
    exact k a _ (.inl rfl) e
  | ext φ => obtain ⟨p, ⟨o, e⟩, st⟩ := x; exact ⟨st _ _ p fun o q => k _ _ (.inl rfl) q, ⟨o, k _ _ (.inl rfl) e⟩, st⟩
theorem HOk.lt (x : HOk P w H h) (e : H a = some o) : a < h.objs.size := (x a o e).lt
theorem HOk.fresh (x : HOk P w H h) (e : h.objs.size ≤ a) : H a = none := by
  cases q : H a with
  | none => rfl
  | some u => exact absurd (Nat.lt_of_lt_of_le (x.lt q) e) (Nat.lt_irrefl _)
/-- every object of the heap is kept -/
theorem HOk.kept (x : HOk P w H h) (k : ∀ b u, h.get? b = some u → h'.get? b = some u) : HOk P w H h' := fun a o e =>
  (x a o e).stay (fun b u _ q => k b u q) (fun _ q => q) fun _ _ q => q
/-- a new object is laid and tracked -/
theorem HOk.laid (x : HOk P w H h) (k : ∀ b u, h.get? b = some u → h'.get? b = some u) (hp : h.objs.size ≤ a) (new : ObjOk P w (upd H a o) h' a o) : HOk P w (upd H a o) h' := fun b u e => by
  have hn := x.fresh hp
  by_cases hb : b = a
  · subst hb; rw [upd_same] at e; cases e; exact new
  · rw [upd_ne hb] at e
    exact (x b u e).stay (fun c v _ q => k c v q) (fun c q => by rw [upd_ne (ne_of_none q hn)]; exact q) fun c xs q => by rw [upd_ne (ne_of_none q hn)]; exact q
end

/-- what may be read as u: it is u, or a known u -/
def Rd (H : Hp) (a : Addr) (u : HO) : Prop := H a = some u ∨ ∃ o, H a = some (.frz o u)
theorem Rd.of {H : Hp} {a : Addr} {u : HO} (h : H a = some u) : Rd H a u := .inl h
theorem Rd.ok {P : Program} {w : World} {H : Hp} {h : Heap} {a : Addr} {u : HO} (r : Rd H a u) (x : HOk P w H h) : ObjOk P w H h a u := by
  rcases r with r | ⟨o, r⟩
  · exact x a u r
  · obtain ⟨_, q⟩ := x a _ r
    exact q
/-- what may be written -/
def Mut : Option HO → Prop
  | some (.lst _) => True
  | some (.dK _) => True
  | some (.dT _) => True
  | some (.set _ _) => True
  | some (.ins _ _ _) => True
  | some (.ext _) => True
  | _ => False
section
variable {P : Program} {w : World} {H : Hp} {h h' : Heap} {x e : Addr} {o' : HO}
/-- the object at e is changed: x itself, or the dict of the instance x -/
theorem HOk.write (ok : HOk P w H h) (mu : Mut (H x)) (he : e = x ∨ H e = some (.own x)) (k : ∀ b u, b ≠ e → h.get? b = some u → h'.get? b = some u) (heo : ∃ u, h'.get? e = some u)
    (new : ObjOk P w (upd H x o') h' x o') : HOk P w (upd H x o') h' := fun b u q => by
  have nown : ∀ c y, H c = some (.own y) → c ≠ x := fun c y r z => by subst z; rw [r] at mu; exact mu
  have ntup : ∀ c xs, H c = some (.tup xs) → c ≠ x := fun c xs r z => by subst z; rw [r] at mu; exact mu
  by_cases hb : b = x
  · subst hb; rw [upd_same] at q; cases q; exact new
  · rw [upd_ne hb] at q
    by_cases hbe : b = e
    · have q' : H b = some (.own x) := by
        rcases he with z | z
        · exact absurd (hbe.trans z) hb
        · rw [hbe]; exact z
      rw [q] at q'; cases q'
      obtain ⟨v, hv⟩ := heo
      exact ⟨v, by rw [hbe]; exact hv⟩
    · refine (ok b u q).stay (fun c v hc r => k c v ?_ r) (fun c r => by rw [upd_ne (nown c b r)]; exact r) fun c xs r => by rw [upd_ne (ntup c xs r)]; exact r
      rcases hc with rfl | hc
      · exact hbe
      · rintro rfl
        rcases he with z | z
        · exact nown c b hc z
        · rw [hc] at z; cases z; exact hb rfl
end

/-! ### kept unless tracked; of the frames at fs (the callers') the slots may change (an exception that passes writes there); of the records at ex (iterators) nothing is said -/
structure Un (fs ex : List Addr) (H H' : Hp) (h h' : Heap) : Prop where
  keep : ∀ b o, h.get? b = some o → H b = none → b ∉ fs → b ∉ ex → h'.get? b = some o
  slot : ∀ b o, h.get? b = some o → H b = none → b ∈ fs → b ∉ ex → ∃ sl, h'.get? b = some { o with slots := sl }
  free : ∀ b o, h.get? b = some o → H b = none → b ∉ ex → H' b = none
  there : ∀ b o, h.get? b = some o → b ∉ ex → ∃ o', h'.get? b = some o'
  tups : ∀ b xs, H b = some (.tup xs) → H' b = some (.tup xs)
  frzs : ∀ b o u, H b = some (.frz o u) → H' b = some (.frz o u)
  tbls : ∀ b ps, H b = some (.tbl ps) → ∃ more, H' b = some (.tbl (ps ++ more))
section
variable {fs fs' ex ex' : List Addr} {H H1 H2 : Hp} {h h1 h2 h' : Heap} {a x e : Addr} {o : HO}
theorem Un.any (u : Un fs ex H H1 h h1) {b : Addr} {ob : Obj} (q : h.get? b = some ob) (n : H b = none) (hx : b ∉ ex) : ∃ sl, h1.get? b = some { ob with slots := sl } := by
  by_cases hb : b ∈ fs
  · exact u.slot b ob q n hb hx
  · exact ⟨ob.slots, u.keep b ob q n hb hx⟩
theorem Un.trans (a : Un fs ex H H1 h h1) (b : Un fs ex H1 H2 h1 h2) : Un fs ex H H2 h h2 where
  keep := fun c ob q n hc hx => b.keep c ob (a.keep c ob q n hc hx) (a.free c ob q n hx) hc hx
  slot := fun c ob q n hc hx => by
    obtain ⟨sl, e1⟩ := a.slot c ob q n hc hx
    obtain ⟨sl', e2⟩ := b.slot c _ e1 (a.free c ob q n hx) hc hx
    exact ⟨sl', e2⟩
  free := fun c ob q n hx => by
    obtain ⟨o', e1⟩ := a.there c ob q hx
    exact b.free c o' e1 (a.free c ob q n hx) hx
  there := fun c ob q hx => by
    obtain ⟨o', e1⟩ := a.there c ob q hx
    exact b.there c o' e1 hx
  tups := fun c xs q => b.tups c xs (a.tups c xs q)
  frzs := fun c ob xs q => b.frzs c ob xs (a.frzs c ob xs q)
  tbls := fun c ps q => by
    obtain ⟨m1, e1⟩ := a.tbls c ps q
    obtain ⟨m2, e2⟩ := b.tbls c _ e1
    exact ⟨m1 ++ m2, by rw [e2, Array.append_assoc]⟩
theorem Un.kept (k : ∀ b u, h.get? b = some u → h'.get? b = some u) : Un fs ex H H h h' :=
  ⟨fun b ob q _ _ _ => k b ob q, fun b ob q _ _ _ => ⟨ob.slots, k b ob q⟩, fun _ _ _ n _ => n, fun b ob q _ => ⟨ob, k b ob q⟩, fun _ _ q => q, fun _ _ _ q => q, fun _ ps q => ⟨#[], by rw [q]; simp⟩⟩
theorem Un.refl : Un fs ex H H h h := Un.kept fun _ _ q => q
theorem Un.laid (k : ∀ b u, h.get? b = some u → h'.get? b = some u) (hp : h.objs.size ≤ a) (hn : H a = none) : Un fs ex H (upd H a o) h h' where
  keep := fun b u q _ _ _ => k b u q
  slot := fun b u q _ _ _ => ⟨u.slots, k b u q⟩
  free := fun b u q n _ => by rw [upd_ne (Nat.ne_of_lt (Nat.lt_of_lt_of_le (Heap.lt_size q) hp))]; exact n
  there := fun b u q _ => ⟨u, k b u q⟩
  tups := fun b xs q => by rw [upd_ne (ne_of_none q hn)]; exact q
  frzs := fun b u xs q => by rw [upd_ne (ne_of_none q hn)]; exact q
  tbls := fun b ps q => ⟨#[], by rw [upd_ne (ne_of_none q hn), q]; simp⟩
theorem Un.write (mu : Mut (H x)) (he : e = x ∨ H e = some (.own x)) (k : ∀ b u, b ≠ e → h.get? b = some u → h'.get? b = some u) (heo : ∃ u, h'.get? e = some u) : Un fs ex H (upd H x o) h h' := by
  have hx : ∀ b, H b = none → b ≠ x := fun b n z => by subst z; rw [n] at mu; exact mu
  have hb : ∀ b, H b = none → b ≠ e := fun b n z => by
    subst z
    rcases he with r | r
    · exact hx b n r
    · rw [n] at r; cases r
  have hm : ∀ b u, H b = some u → ¬ Mut (some u) → b ≠ x := fun b u q nm z => by subst z; rw [q] at mu; exact nm mu
  refine ⟨fun b u q n _ _ => k b u (hb b n) q, fun b u q n _ _ => ⟨u.slots, k b u (hb b n) q⟩, fun b u q n _ => by rw [upd_ne (hx b n)]; exact n, fun b u q _ => ?_,
    fun b xs q => by rw [upd_ne (hm b _ q fun z => z)]; exact q, fun b u xs q => by rw [upd_ne (hm b _ q fun z => z)]; exact q, fun b ps q => ⟨#[], by rw [upd_ne (hm b _ q fun z => z), q]; simp⟩⟩
  by_cases hbe : b = e
  · subst hbe; exact heo
  · exact ⟨u, k b u hbe q⟩
theorem Un.mono (u : Un fs ex H H1 h h1) (hs : ∀ b ∈ fs, b ∈ fs') (hx : ∀ b ∈ ex, b ∈ ex') : Un fs' ex' H H1 h h1 :=
  ⟨fun b ob q n hb he => u.keep b ob q n (fun z => hb (hs b z)) fun z => he (hx b z), fun _ _ q n _ he => u.any q n fun z => he (hx _ z), fun b ob q n he => u.free b ob q n fun z => he (hx b z), fun b ob q he => u.there b ob q fun z => he (hx b z), u.tups, u.frzs, u.tbls⟩
end

/-! ### the heap without what is tracked -/
def trk (h : Heap) (H : Hp) : List Addr := (List.range h.objs.size).filter fun a => (H a).isSome
def hidT (h : Heap) (H : Hp) : Heap := PySem.W.hideAll h (trk h H)
theorem hidT_size (h : Heap) (H : Hp) : (hidT h H).objs.size = h.objs.size := PySem.W.hideAll_size _ _
theorem hidT_get {h : Heap} {H : Hp} {b : Addr} {o : Obj} (e : h.get? b = some o) (n : H b = none) : (hidT h H).get? b = some o :=
  PySem.W.hideAll_get _ e fun hm => by
    have q : (H b).isSome = true := (List.mem_filter.mp hm).2
    rw [n] at q; simp at q
theorem of_hidT {h : Heap} {H : Hp} {b : Addr} {o : Obj} (e : (hidT h H).get? b = some o) : h.get? b = some o ∧ H b = none := by
  have e' : h.get? b = some o := PySem.W.of_hideAll (trk h H) e
  refine ⟨e', ?_⟩
  cases q : H b with
  | none => rfl
  | some x =>
    have hm : b ∈ trk h H := List.mem_filter.mpr ⟨List.mem_range.mpr (Heap.lt_size e'), by simp [q]⟩
    have z : (hidT h H).get? b = none := PySem.W.hideAll_none (trk h H) hm
    rw [z] at e; cases e

/-! ### OpenK's ledger, filled with every new object but one -/
def allNews (g h : Heap) (L : Addr) : List (Addr × Obj) := (List.range h.objs.size).filterMap fun a => if a = L ∨ (g.get? a).isSome = true then none else (h.get? a).map fun o => (a, o)
theorem mem_allNews {g h : Heap} {L a : Addr} {o : Obj} (h1 : a ≠ L) (h2 : g.get? a = none) (h3 : h.get? a = some o) : (a, o) ∈ allNews g h L :=
  List.mem_filterMap.mpr ⟨a, List.mem_range.mpr (Heap.lt_size h3), by simp [h1, h2, h3]⟩
theorem of_mem_allNews {g h : Heap} {L : Addr} {p : Addr × Obj} (hp : p ∈ allNews g h L) : p.1 ≠ L ∧ g.get? p.1 = none ∧ h.get? p.1 = some p.2 := by
  obtain ⟨b, _, e⟩ := List.mem_filterMap.mp hp
  split at e
  · cases e
  · rename_i hn
    cases q : h.get? b with
    | none => rw [q] at e; simp at e
    | some u =>
      rw [q] at e
      simp only [Option.map_some, Option.some.injEq] at e
      subst e
      refine ⟨fun z => hn (.inl z), ?_, q⟩
      show g.get? b = none
      cases r : g.get? b with
      | none => rfl
      | some v => exact (hn (.inr (by simp [r]))).elim
def rest (g h : Heap) (L d : Addr) : List (Addr × Obj) := (allNews g h L).filter fun p => decide (p.1 ≠ d)
theorem rest_ne {g h : Heap} {L d : Addr} : ∀ p ∈ rest g h L d, p.1 ≠ d := fun p hp => of_decide_eq_true (List.mem_filter.mp hp).2
theorem mem_rest {g h : Heap} {L d a : Addr} {o : Obj} (h1 : a ≠ L) (h2 : g.get? a = none) (h3 : h.get? a = some o) (h4 : a ≠ d) : (a, o) ∈ rest g h L d :=
  List.mem_filter.mpr ⟨mem_allNews h1 h2 h3, decide_eq_true h4⟩
theorem news_all {g h : Heap} {L : Addr} : News g L h (allNews g h L) := fun p hp => let ⟨a, b, c⟩ := of_mem_allNews hp; ⟨c, a, b⟩
theorem news_at {g h : Heap} {L d : Addr} {o : Obj} (h1 : d ≠ L) (h2 : g.get? d = none) (h3 : h.get? d = some o) : News g L h ((d, o) :: rest g h L d) := fun p hp => by
  rcases List.mem_cons.mp hp with rfl | hp
  · exact ⟨h3, h1, h2⟩
  · exact news_all p (List.mem_filter.mp hp).1
/-- behind a rule that changed d alone: all else but the frame is kept -/
theorem kept_of_news {g h h' : Heap} {L d : Addr} {m : Str → Option Value} (k : ∀ b o, g.get? b = some o → h.get? b = some o) (F : Fr g L h' m) (N : News g L h' (rest g h L d)) :
    ∀ b o, b ≠ L → b ≠ d → h.get? b = some o → h'.get? b = some o := fun b o h1 h2 e => by
  cases q : g.get? b with
  | some u =>
    have := k b u q
    rw [e] at this; cases this
    exact F.keep b _ q
  | none => exact (N (b, o) (mem_rest h1 q e h2)).1
end L2

namespace L2
open PySem PySem.Spec PyProof.Rows

/-- the module's facts, over the base: the heap at the law's entry without what is tracked there -/
structure Mod (K : PySem.W.Frag) (mg : Str → Option Value) (base : Heap) : Prop where
  kin : K.In base
  glob : base.Ns mainGlobals mg
  blt : ∃ mb, base.Ns builtinsNs mb ∧ ∀ x : Str, x ≠ "__name__" → mb x = bootBuiltins x
  nolimit : base.NoLimit

/-- the context: a def's body (or a comprehension's block) running. base: fixed through the whole law; s₀, H₀: the entry; outer: the frames whose slots others may change (a def's callers); stack: all frames that run;
   ex: iterators that were made ahead of the entry and are walked here (a comprehension's); fn: the names whose cells were made at the entry (a def: all; a comprehension's block: its own); calm: not within an except suite; pn: pins that every state bears; xe: what is wanted of an exception that leaves the code -/
structure Cx where
  prog : Program
  w : World
  K : PySem.W.Frag
  mg : Str → Option Value
  base : Heap
  A : Around
  N : List Str
  s₀ : Shared
  H₀ : Hp
  env : Env
  outer : List Env
  stack : List Env
  ex : List Addr
  fn : Str → Bool
  calm : Bool
  pn : List (Addr × Obj)
  xe : Value → Shared → Prop
/-- the callers' frames -/
def frs (l : List Env) : List Addr := l.filterMap (·.frame)
abbrev Cx.fs (X : Cx) : List Addr := frs X.outer

def Vis (sc : Scope) (x : Str) : Prop := sc.names.lookup x = some .local ∨ sc.names.lookup x = some .cell ∨ sc.names.lookup x = some .free
def Loc (sc : Scope) (x : Str) : Prop := sc.names.lookup x = some .local ∨ sc.names.lookup x = some .cell
def Look (env : Env) (h : Heap) (m : Str → Option Value) (x : Str) (u : Value) : Prop :=
  (env.kindOf x = some .local ∧ m x = some u) ∨ ((env.kindOf x = some .cell ∨ env.kindOf x = some .free) ∧ ∃ c, env.cells.lookup x = some c ∧ h.IsCell c (some u))

structure Cx.Ok (X : Cx) : Prop where
  mod : Mod X.K X.mg X.base
  kind : X.env.scope.kind = .function
  glob : X.env.globals = mainGlobals
  blt : X.env.builtins = builtinsNs
  above : X.s₀.heap.objs.size ≤ X.env.locals
  inj : ∀ x y c, X.env.cells.lookup x = some c → X.env.cells.lookup y = some c → x = y
  has : ∀ x, (X.env.kindOf x = some .cell ∨ X.env.kindOf x = some .free) → ∃ c, X.env.cells.lookup x = some c
  cab : ∀ x c, X.fn x = true → X.env.cells.lookup x = some c → X.s₀.heap.objs.size ≤ c
  hd : X.calm = true → X.A.handled = none
  frames : X.A.frames = some X.stack
  stk : X.stack = X.outer ∨ (X.stack = X.env :: X.outer ∧ X.env.frame = some X.env.locals)
  exf : ∀ b ∈ X.ex, b ≠ X.env.locals ∧ ∀ x c, X.env.cells.lookup x = some c → c ≠ b
  bs : ∀ b o, X.base.get? b = some o → X.s₀.heap.get? b = some o ∧ X.H₀ b = none
  bsz : X.base.objs.size ≤ X.s₀.heap.objs.size
  noex : ∀ b o, X.base.get? b = some o → b ∉ X.ex
  exfs : ∀ b ∈ X.ex, b ∉ X.fs
  funs : X.s₀.heap.FunFrames X.base X.outer
  frf : ∀ b ∈ X.fs, X.H₀ b = none

structure Inv (X : Cx) (pins : List (Addr × Obj)) (σ : List (Option V)) (H : Hp) (s : Shared) : Prop where
  ok : X.Ok
  os : s.os = X.s₀.os
  bare : AllBare s.gens
  base : Un X.fs X.ex X.H₀ H X.s₀.heap s.heap
  loc : ∃ m, s.heap.Ns X.env.locals m ∧ ∀ (i : Nat) (x : Str) (v : V), X.N[i]? = some x → σ[i]? = some (some v) → Vis X.env.scope x → ∃ u, RelV v u ∧ Look X.env s.heap m x u
  cell : ∀ x c, X.env.cells.lookup x = some c → ∃ v, s.heap.IsCell c v
  free : H X.env.locals = none
  freeC : ∀ x c, X.env.cells.lookup x = some c → H c = none
  pin : ∀ p ∈ X.pn ++ pins, s.heap.get? p.1 = some p.2 ∧ H p.1 = none ∧ p.1 ≠ X.env.locals ∧ p.1 ∉ X.fs ∧ ∀ v, p.2.data ≠ .cell v
  hok : HOk X.prog X.w H s.heap
  len : σ.length = X.N.length

section
variable {X : Cx} {pins : List (Addr × Obj)} {σ : List (Option V)} {H H' : Hp} {s : Shared} {h' : Heap}

theorem Cx.Ok.nofr (ok : X.Ok) {b : Addr} {o : Obj} (e : X.base.get? b = some o) : b ∉ X.fs := fun hb => by
  have := (ok.funs.mem hb).1
  rw [e] at this; cases this
theorem Inv.bs (I : Inv X pins σ H s) : ∀ b o, X.base.get? b = some o → s.heap.get? b = some o ∧ H b = none := fun b o e =>
  ⟨I.base.keep b o (I.ok.bs b o e).1 (I.ok.bs b o e).2 (I.ok.nofr e) (I.ok.noex b o e), I.base.free b o (I.ok.bs b o e).1 (I.ok.bs b o e).2 (I.ok.noex b o e)⟩
theorem Inv.bk (I : Inv X pins σ H s) : ∀ b o, X.base.get? b = some o → s.heap.get? b = some o := fun b o e => (I.bs b o e).1
theorem Inv.mod (I : Inv X pins σ H s) : Mod X.K X.mg X.base := I.ok.mod
theorem Inv.kIn (I : Inv X pins σ H s) : X.K.In s.heap := I.ok.mod.kin.keeps I.bk
theorem Inv.nolimit (I : Inv X pins σ H s) : s.heap.NoLimit := I.ok.mod.nolimit.keeps I.bk
/-- the frame over the base: for OpenK's rules (K.In X.base is I.mod.kin) -/
theorem Inv.fr (I : Inv X pins σ H s) : ∃ m, Fr X.base X.env.locals s.heap m :=
  let ⟨m, hn, _⟩ := I.loc
  ⟨m, hn, I.bk, Nat.le_trans I.ok.bsz I.ok.above⟩
theorem Inv.lt (I : Inv X pins σ H s) : X.env.locals < s.heap.objs.size := let ⟨_, hn, _⟩ := I.loc; hn.lt
theorem Inv.sz (I : Inv X pins σ H s) : X.s₀.heap.objs.size ≤ s.heap.objs.size := Nat.le_trans I.ok.above (Nat.le_of_lt I.lt)
theorem Inv.nofs (I : Inv X pins σ H s) {a : Addr} (h : s.heap.objs.size ≤ a) : a ∉ X.fs := fun hb => by
  obtain ⟨_, o, ho, _⟩ := I.ok.funs.mem hb
  exact absurd (Nat.lt_of_lt_of_le (Heap.lt_size ho) (Nat.le_trans I.sz h)) (Nat.lt_irrefl _)
theorem Inv.cne (I : Inv X pins σ H s) : ∀ x c, X.env.cells.lookup x = some c → c ≠ X.env.locals := fun x c e z => by
  obtain ⟨v, o, ho, hd⟩ := I.cell x c e
  obtain ⟨m, ⟨o', es, ep, ho', hd', _⟩, _⟩ := I.loc
  rw [z, ho'] at ho; cases ho; rw [hd'] at hd; cases hd
theorem Inv.funs (I : Inv X pins σ H s) : s.heap.FunFrames X.base X.outer := by
  have all : ∀ (l : List Env), (∀ b ∈ frs l, b ∈ X.fs) → X.s₀.heap.FunFrames X.base l → s.heap.FunFrames X.base l := by
    intro l
    induction l with
    | nil => intro _ _; trivial
    | cons env r ih =>
      intro hs hl
      obtain ⟨hk, ⟨L, o, hf, hn, ho, hd⟩, hr⟩ := hl
      have hL : L ∈ X.fs := hs L (by unfold frs; rw [List.filterMap_cons, hf]; exact List.mem_cons_self)
      obtain ⟨sl, e⟩ := I.base.slot L o ho (I.ok.frf L hL) hL fun z => I.ok.exfs L z hL
      exact ⟨hk, ⟨L, _, hf, hn, e, hd⟩, ih (fun b hb => hs b (by unfold frs; rw [List.filterMap_cons, hf]; exact List.mem_cons_of_mem _ hb)) hr⟩
  exact all X.outer (fun _ hb => hb) I.ok.funs

/-- the frames that run, for a call -/
theorem Inv.stack (I : Inv X pins σ H s) : s.heap.FunFrames X.base X.stack := by
  rcases I.ok.stk with e | ⟨e, hf⟩
  · rw [e]; exact I.funs
  · rw [e]
    obtain ⟨m, hn, _⟩ := I.loc
    refine .cons (by rw [I.ok.kind]; decide) hf hn ?_ I.funs
    exact Heap.get?_none_of_le (Nat.le_trans I.ok.bsz I.ok.above)
theorem Inv.stkSub (I : Inv X pins σ H s) : ∀ b ∈ frs X.stack, b ∈ X.env.locals :: X.fs := fun b hb => by
  rcases I.ok.stk with e | ⟨e, hf⟩
  · rw [e] at hb; exact List.mem_cons_of_mem _ hb
  · rw [e] at hb
    unfold frs at hb
    rw [List.filterMap_cons, hf] at hb
    exact hb
theorem Inv.stkFree (I : Inv X pins σ H s) : ∀ b ∈ frs X.stack, H b = none := fun b hb => by
  rcases List.mem_cons.mp (I.stkSub b hb) with e | hb
  · rw [e]; exact I.free
  · obtain ⟨_, o, ho, _⟩ := I.ok.funs.mem hb
    exact I.base.free b o ho (I.ok.frf b hb) fun z => I.ok.exfs b z hb

/-- THE STEP: the untracked objects but the frame and the records at ch are kept (the callers' frames up to slots), the frame's map is kept, the new abstract heap is held -/
theorem Inv.step {g' : Array GenState} {t' : Nat} {d' : Drawn} {ch : List Addr} (I : Inv X pins σ H s)
    (hch : ∀ b ∈ ch, (b ∈ X.ex ∨ X.s₀.heap.objs.size ≤ b) ∧ b ≠ X.env.locals ∧ (∀ x c, X.env.cells.lookup x = some c → c ≠ b) ∧ ∀ p ∈ X.pn ++ pins, p.1 ≠ b)
    (keep : ∀ b o, b ≠ X.env.locals → b ∉ X.fs → b ∉ ch → s.heap.get? b = some o → H b = none → h'.get? b = some o)
    (slot : ∀ b o, b ≠ X.env.locals → b ∈ X.fs → b ∉ ch → s.heap.get? b = some o → H b = none → ∃ sl, h'.get? b = some { o with slots := sl }) (free : ∀ b o, b ∉ ch → s.heap.get? b = some o → H b = none → H' b = none)
    (there : ∀ b o, b ∉ ch → s.heap.get? b = some o → ∃ o', h'.get? b = some o')
    (tups : ∀ b xs, H b = some (.tup xs) → H' b = some (.tup xs)) (frzs : ∀ b o u, H b = some (.frz o u) → H' b = some (.frz o u)) (tbls : ∀ b ps, H b = some (.tbl ps) → ∃ more, H' b = some (.tbl (ps ++ more)))
    (ns : ∀ m, s.heap.Ns X.env.locals m → h'.Ns X.env.locals m) (hok : HOk X.prog X.w H' h') (hg : AllBare g') :
    Inv X pins σ H' { s with heap := h', gens := g', drawn := d', toks := t' } := by
  have neL : ∀ b o, X.s₀.heap.get? b = some o → b ≠ X.env.locals := fun b o e => Nat.ne_of_lt (Nat.lt_of_lt_of_le (Heap.lt_size e) I.ok.above)
  have neC : ∀ b o, X.s₀.heap.get? b = some o → b ∉ X.ex → b ∉ ch := fun b o e hx hb => by
    rcases (hch b hb).1 with z | z
    · exact hx z
    · exact absurd (Nat.lt_of_lt_of_le (Heap.lt_size e) z) (Nat.lt_irrefl _)
  have cellK : ∀ x c, X.env.cells.lookup x = some c → ∀ v, s.heap.IsCell c v → h'.IsCell c v := fun x c e v ⟨o, ho, hd⟩ => by
    have nch : c ∉ ch := fun z => (hch c z).2.2.1 x c e rfl
    by_cases hc : c ∈ X.fs
    · obtain ⟨sl, q⟩ := slot c o (I.cne x c e) hc nch ho (I.freeC x c e)
      exact ⟨_, q, hd⟩
    · exact ⟨o, keep c o (I.cne x c e) hc nch ho (I.freeC x c e), hd⟩
  refine ⟨I.ok, I.os, hg, ⟨fun b o e n hb hx => ?_, fun b o e n hb hx => ?_, fun b o e n hx => ?_, fun b o e hx => ?_, fun b xs e => tups b xs (I.base.tups b xs e), fun b o xs e => frzs b o xs (I.base.frzs b o xs e), fun b ps e => ?_⟩, ?_, fun x c e => ?_, ?_, fun x c e => ?_, fun p hp => ?_, hok, I.len⟩
  · exact keep b o (neL b o e) hb (neC b o e hx) (I.base.keep b o e n hb hx) (I.base.free b o e n hx)
  · obtain ⟨sl, e1⟩ := I.base.slot b o e n hb hx
    obtain ⟨sl', e2⟩ := slot b _ (neL b o e) hb (neC b o e hx) e1 (I.base.free b o e n hx)
    exact ⟨sl', e2⟩
  · obtain ⟨o', e1⟩ := I.base.there b o e hx
    exact free b o' (neC b o e hx) e1 (I.base.free b o e n hx)
  · obtain ⟨o', e1⟩ := I.base.there b o e hx
    exact there b o' (neC b o e hx) e1
  · obtain ⟨m1, e1⟩ := I.base.tbls b ps e
    obtain ⟨m2, e2⟩ := tbls b _ e1
    exact ⟨m1 ++ m2, by rw [e2, Array.append_assoc]⟩
  · obtain ⟨m, hn, hl⟩ := I.loc
    refine ⟨m, ns m hn, fun i x v e1 e2 e3 => ?_⟩
    obtain ⟨u, r, l⟩ := hl i x v e1 e2 e3
    refine ⟨u, r, ?_⟩
    rcases l with l | ⟨k, c, e, z⟩
    · exact .inl l
    · exact .inr ⟨k, c, e, cellK x c e _ z⟩
  · obtain ⟨v, z⟩ := I.cell x c e
    exact ⟨v, cellK x c e v z⟩
  · obtain ⟨m, ⟨o, _, _, ho, _⟩, _⟩ := I.loc
    exact free _ o (fun z => (hch _ z).2.1 rfl) ho I.free
  · obtain ⟨v, o, ho, hd⟩ := I.cell x c e
    exact free c o (fun z => (hch c z).2.2.1 x c e rfl) ho (I.freeC x c e)
  · obtain ⟨e, n, ne, nf, d⟩ := I.pin p hp
    have nch : p.1 ∉ ch := fun z => (hch p.1 z).2.2.2 p hp rfl
    exact ⟨keep p.1 p.2 ne nf nch e n, free p.1 p.2 nch e n, ne, nf, d⟩
/-- .. where the frame's own object is kept too -/
theorem Inv.un {t' : Nat} (I : Inv X pins σ H s) (u : Un X.fs [] H H' s.heap h') (hok : HOk X.prog X.w H' h') : Inv X pins σ H' { s with heap := h', toks := t' } := by
  obtain ⟨m, ⟨o, es, ep, ho, r⟩, _⟩ := id I.loc
  obtain ⟨sl, hL⟩ := u.any ho I.free (by simp)
  exact I.step (g' := s.gens) (d' := s.drawn) (ch := []) (fun _ z => nomatch z) (fun b o _ hb _ e n => u.keep b o e n hb (by simp)) (fun b o _ hb _ e n => u.slot b o e n hb (by simp)) (fun b o _ e n => u.free b o e n (by simp)) (fun b o _ e => u.there b o e (by simp)) u.tups u.frzs u.tbls (fun m' hm => by
    obtain ⟨o', es', ep', ho', r'⟩ := hm
    rw [ho] at ho'; cases ho'
    exact ⟨_, es', ep', hL, r'⟩) hok I.bare
/-- behind a call (or a comprehension's block): the slots of this frame may have changed too, the records at ch may have turned -/
theorem Inv.call {g' : Array GenState} {t' : Nat} {d' : Drawn} {ch : List Addr} (I : Inv X pins σ H s) (u : Un (frs X.stack) ch H H' s.heap h') (hok : HOk X.prog X.w H' h') (hg : AllBare g')
    (hch : ∀ b ∈ ch, (b ∈ X.ex ∨ X.s₀.heap.objs.size ≤ b) ∧ b ≠ X.env.locals ∧ (∀ x c, X.env.cells.lookup x = some c → c ≠ b) ∧ ∀ p ∈ X.pn ++ pins, p.1 ≠ b) :
    Inv X pins σ H' { s with heap := h', gens := g', drawn := d', toks := t' } := by
  obtain ⟨m, ⟨o, es, ep, ho, r⟩, _⟩ := id I.loc
  obtain ⟨sl, hL⟩ := u.any ho I.free fun z => (hch _ z).2.1 rfl
  exact I.step (ch := ch) hch (fun b o hL hb hc e n => u.keep b o e n (fun z => (List.mem_cons.mp (I.stkSub b z)).elim hL hb) hc) (fun b o _ _ hc e n => u.any e n hc) (fun b o hc e n => u.free b o e n hc) (fun b o hc e => u.there b o e hc) u.tups u.frzs u.tbls (fun m' hm => by
    obtain ⟨o', es', ep', ho', r'⟩ := hm
    rw [ho] at ho'; cases ho'
    exact ⟨_, es', ep', hL, r'⟩) hok hg
/-- an untracked record of ours (an iterator) has turned -/
theorem Inv.turned {t' : Nat} {it : Addr} (I : Inv X pins σ H s) (k : ∀ b o, b ≠ it → s.heap.get? b = some o → h'.get? b = some o) (hn : H it = none) (hL : it ≠ X.env.locals)
    (h1 : it ∈ X.ex ∨ X.s₀.heap.objs.size ≤ it) (h2 : ∀ x c, X.env.cells.lookup x = some c → c ≠ it) (h3 : ∀ p ∈ X.pn ++ pins, p.1 ≠ it) : Inv X pins σ H { s with heap := h', toks := t' } := by
  have nit : ∀ b u, H b = some u → b ≠ it := fun b u e z => by rw [z, hn] at e; cases e
  refine I.step (g' := s.gens) (d' := s.drawn) (ch := [it]) (fun b hb => ?_) (fun b o _ _ hc e _ => k b o (fun z => hc (by simp [z])) e) (fun b o _ _ hc e _ => ⟨o.slots, k b o (fun z => hc (by simp [z])) e⟩) (fun _ _ _ _ n => n)
    (fun b o hc e => ⟨o, k b o (fun z => hc (by simp [z])) e⟩) (fun _ _ e => e) (fun _ _ _ e => e) (fun b ps e => ⟨#[], by rw [e]; simp⟩) (fun m hm => ?_) (fun b u e => ?_) I.bare
  · have e : b = it := by simpa using hb
    subst e
    exact ⟨h1, hL, h2, h3⟩
  · obtain ⟨o, es, ep, ho, r⟩ := hm
    exact ⟨o, es, ep, k _ o (Ne.symm hL) ho, r⟩
  · refine (I.hok b u e).stay (fun c v hc q => k c v ?_ q) (fun _ q => q) fun _ _ q => q
    rcases hc with z | z
    · rw [z]; exact nit b u e
    · exact nit c _ z
theorem Inv.tok (I : Inv X pins σ H s) (t : Nat) : Inv X pins σ H { s with toks := t } := I.un (h' := s.heap) (t' := t) Un.refl I.hok
/-- all objects kept -/
theorem Inv.kept {t' : Nat} (I : Inv X pins σ H s) (k : ∀ b u, s.heap.get? b = some u → h'.get? b = some u) : Inv X pins σ H { s with heap := h', toks := t' } := I.un (Un.kept k) (I.hok.kept k)
/-- a new object laid and tracked -/
theorem Inv.laid {a : Addr} {o : HO} {t' : Nat} (I : Inv X pins σ H s) (k : ∀ b u, s.heap.get? b = some u → h'.get? b = some u) (hp : s.heap.objs.size ≤ a) (new : ObjOk X.prog X.w (upd H a o) h' a o) :
    Inv X pins σ (upd H a o) { s with heap := h', toks := t' } := I.un (Un.laid k hp (I.hok.fresh hp)) (I.hok.laid k hp new)
/-- an object written -/
theorem Inv.write {x e : Addr} {o : HO} {t' : Nat} (I : Inv X pins σ H s) (mu : Mut (H x)) (he : e = x ∨ H e = some (.own x)) (k : ∀ b u, b ≠ e → s.heap.get? b = some u → h'.get? b = some u) (heo : ∃ u, h'.get? e = some u)
    (new : ObjOk X.prog X.w (upd H x o) h' x o) : Inv X pins σ (upd H x o) { s with heap := h', toks := t' } := I.un (Un.write mu he k heo) (I.hok.write mu he k heo new)
/-- forgetting slots, pins -/
theorem Inv.weak {σ' : List (Option V)} (I : Inv X pins σ H s) (hl : σ'.length = σ.length) (w : ∀ (i : Nat) v, σ'[i]? = some (some v) → σ[i]? = some (some v)) : Inv X pins σ' H s :=
  ⟨I.ok, I.os, I.bare, I.base, let ⟨m, hn, hl'⟩ := I.loc; ⟨m, hn, fun i x v e1 e2 e3 => hl' i x v e1 (w i v e2) e3⟩, I.cell, I.free, I.freeC, I.pin, I.hok, hl.trans I.len⟩
theorem Inv.pins_of {pins' : List (Addr × Obj)} (I : Inv X pins σ H s) (h : ∀ p ∈ pins', s.heap.get? p.1 = some p.2 ∧ H p.1 = none ∧ p.1 ≠ X.env.locals ∧ p.1 ∉ X.fs ∧ ∀ v, p.2.data ≠ .cell v) : Inv X pins' σ H s :=
  ⟨I.ok, I.os, I.bare, I.base, I.loc, I.cell, I.free, I.freeC, fun p hp => (List.mem_append.mp hp).elim (fun z => I.pin p (List.mem_append_left _ z)) (h p), I.hok, I.len⟩

theorem nodup_ix {N : List Str} (hN : N.Nodup) {i j : Nat} {x : Str} (a : N[i]? = some x) (b : N[j]? = some x) : i = j := by
  obtain ⟨h1, e1⟩ := List.getElem?_eq_some_iff.mp a
  obtain ⟨h2, e2⟩ := List.getElem?_eq_some_iff.mp b
  exact (List.getElem_inj hN).mp (e1.trans e2.symm)

/-- a name is stored; what changed -/
theorem store_ok2 {M : Model} {A : Around} {E : Value → Shared → Prop} {i : Nat} {x : Str} {v : V} {u : Value} {Q : Unit → Shared → Prop} (I : Inv X pins σ H s) (hN : X.N.Nodup) (hi : X.N[i]? = some x) (hx : Loc X.env.scope x) (r : RelV v u)
    (h : ∀ s', Inv X pins (σ.set i (some v)) H s' → (∃ a, Heap.SameBut a s.heap s'.heap ∧ (a = X.env.locals ∨ X.env.cells.lookup x = some a)) → Q () s') (hf : X.fn x = true ∨ X.env.scope.names.lookup x = some .local := by first | exact .inl rfl | exact .inr rfl | assumption) : wpAny M A (storeName X.env x u) Q E s := by
  obtain ⟨m, hn, hl⟩ := id I.loc
  have hcls : (X.env.scope.kind == .class || (X.env.scope.kind == .module && X.env.locals != X.env.globals)) = false := by rw [I.ok.kind]; rfl
  have hiσ : i < σ.length := by rw [I.len]; exact (List.getElem?_eq_some_iff.mp hi).1
  have cne := I.cne
  have tracked : ∀ {a : Addr} {h' : Heap}, (∃ o, s.heap.get? a = some o ∧ H a = none) → Heap.SameBut a s.heap h' → HOk X.prog X.w H h' := fun {a h'} ha hs b ob e => by
    obtain ⟨_, _, hfree⟩ := ha
    refine (I.hok b ob e).stay (fun c w' hc q => (hs.2 c ?_).trans q) (fun _ q => q) fun _ _ q => q
    rintro rfl
    rcases hc with rfl | hc
    · rw [hfree] at e; cases e
    · rw [hfree] at hc; cases hc
  rcases hx with hk | hk
  · refine wpAny_storeName_local hk hn (fun h' hn' hs => ?_) hcls
    obtain ⟨oL, _, _, hoL, _⟩ := id hn
    refine h _ ⟨I.ok, I.os, I.bare, ⟨fun b o e n hb hx => ?_, fun b o e n hb hx => ?_, I.base.free, fun b o e hx => ?_, I.base.tups, I.base.frzs, I.base.tbls⟩, ⟨_, hn', fun j y v' e1 e2 e3 => ?_⟩, fun y c e => ?_, I.free, I.freeC, fun p hp => ?_, tracked ⟨oL, hoL, I.free⟩ hs, by simpa using I.len⟩ ⟨_, hs, .inl rfl⟩
    · exact (hs.2 b (Nat.ne_of_lt (Nat.lt_of_lt_of_le (Heap.lt_size e) I.ok.above))).trans (I.base.keep b o e n hb hx)
    · obtain ⟨sl, e1⟩ := I.base.slot b o e n hb hx
      exact ⟨sl, (hs.2 b (Nat.ne_of_lt (Nat.lt_of_lt_of_le (Heap.lt_size e) I.ok.above))).trans e1⟩
    · obtain ⟨o', e1⟩ := I.base.there b o e hx
      exact ⟨o', (hs.2 b (Nat.ne_of_lt (Nat.lt_of_lt_of_le (Heap.lt_size e) I.ok.above))).trans e1⟩
    · by_cases hj : j = i
      · subst hj
        rw [hi] at e1; cases e1
        rw [List.getElem?_set_self hiσ] at e2
        cases e2
        exact ⟨u, r, .inl ⟨hk, by simp⟩⟩
      · rw [List.getElem?_set_ne (Ne.symm hj)] at e2
        obtain ⟨u', r', q⟩ := hl j y v' e1 e2 e3
        refine ⟨u', r', ?_⟩
        rcases q with ⟨k, e⟩ | ⟨k, c, e, z⟩
        · refine .inl ⟨k, ?_⟩
          have : y ≠ x := fun e => hj (nodup_ix hN e1 (e ▸ hi))
          simp [this, e]
        · exact .inr ⟨k, c, e, z.sameBut hs (cne y c e)⟩
    · obtain ⟨w', z⟩ := I.cell y c e
      exact ⟨w', z.sameBut hs (cne y c e)⟩
    · obtain ⟨e, n, ne, nf, d⟩ := I.pin p hp
      exact ⟨(hs.2 p.1 ne).trans e, n, ne, nf, d⟩
  · have hfn : X.fn x = true := by
      rcases hf with z | z
      · exact z
      · rw [z] at hk; cases hk
    obtain ⟨c, hc⟩ := I.ok.has x (.inl hk)
    obtain ⟨w', z⟩ := I.cell x c hc
    refine wpAny_storeName_cell I.ok.kind hk hc z (fun h' hc' hs => ?_)
    obtain ⟨oc, hoc, hocd⟩ := id z
    refine h { s with heap := h' } ⟨I.ok, I.os, I.bare, ⟨fun b o e n hb hx => ?_, fun b o e n hb hx => ?_, I.base.free, fun b o e hx => ?_, I.base.tups, I.base.frzs, I.base.tbls⟩, ⟨m, hn.sameBut hs (Ne.symm (cne x c hc)), fun j y v' e1 e2 e3 => ?_⟩, fun y c' e => ?_, I.free, I.freeC, fun p hp => ?_, tracked ⟨oc, hoc, I.freeC x c hc⟩ hs, by simpa using I.len⟩ ⟨c, hs, .inr hc⟩
    · exact (hs.2 b (Nat.ne_of_lt (Nat.lt_of_lt_of_le (Heap.lt_size e) (I.ok.cab x c hfn hc)))).trans (I.base.keep b o e n hb hx)
    · obtain ⟨sl, e1⟩ := I.base.slot b o e n hb hx
      exact ⟨sl, (hs.2 b (Nat.ne_of_lt (Nat.lt_of_lt_of_le (Heap.lt_size e) (I.ok.cab x c hfn hc)))).trans e1⟩
    · obtain ⟨o', e1⟩ := I.base.there b o e hx
      exact ⟨o', (hs.2 b (Nat.ne_of_lt (Nat.lt_of_lt_of_le (Heap.lt_size e) (I.ok.cab x c hfn hc)))).trans e1⟩
    · by_cases hj : j = i
      · subst hj
        rw [hi] at e1; cases e1
        rw [List.getElem?_set_self hiσ] at e2
        cases e2
        exact ⟨u, r, .inr ⟨.inl hk, c, hc, hc'⟩⟩
      · rw [List.getElem?_set_ne (Ne.symm hj)] at e2
        obtain ⟨u', r', q⟩ := hl j y v' e1 e2 e3
        refine ⟨u', r', ?_⟩
        rcases q with q | ⟨k, c', e, z'⟩
        · exact .inl q
        · refine .inr ⟨k, c', e, z'.sameBut hs ?_⟩
          rintro rfl
          exact hj (nodup_ix hN e1 (I.ok.inj _ _ _ e hc ▸ hi))
    · by_cases hcc : c' = c
      · subst hcc; exact ⟨_, hc'⟩
      · obtain ⟨w2, z2⟩ := I.cell y c' e
        exact ⟨w2, z2.sameBut hs hcc⟩
    · obtain ⟨e, n, ne, nf, d⟩ := I.pin p hp
      refine ⟨(hs.2 p.1 ?_).trans e, n, ne, nf, d⟩
      intro q
      rw [q, hoc] at e
      have q' : oc = p.2 := Option.some.inj e
      exact d w' (by rw [← q']; exact hocd)
theorem store_ok {M : Model} {A : Around} {E : Value → Shared → Prop} {i : Nat} {x : Str} {v : V} {u : Value} {Q : Unit → Shared → Prop} (I : Inv X pins σ H s) (hN : X.N.Nodup) (hi : X.N[i]? = some x) (hx : Loc X.env.scope x) (r : RelV v u)
    (h : ∀ s', Inv X pins (σ.set i (some v)) H s' → Q () s') (hf : X.fn x = true ∨ X.env.scope.names.lookup x = some .local := by first | exact .inl rfl | exact .inr rfl | assumption) : wpAny M A (storeName X.env x u) Q E s :=
  store_ok2 I hN hi hx r (fun s' I' _ => h s' I') hf
/-- behind a call or a block, the state as it is -/
theorem Inv.call' {s' : Shared} {ch : List Addr} (I : Inv X pins σ H s) (ho : s'.os = s.os) (u : Un (frs X.stack) ch H H' s.heap s'.heap) (hok : HOk X.prog X.w H' s'.heap) (hg : AllBare s'.gens)
    (hch : ∀ b ∈ ch, (b ∈ X.ex ∨ X.s₀.heap.objs.size ≤ b) ∧ b ≠ X.env.locals ∧ (∀ x c, X.env.cells.lookup x = some c → c ≠ b) ∧ ∀ p ∈ X.pn ++ pins, p.1 ≠ b) : Inv X pins σ H' s' := by
  obtain ⟨h', g', d', t', o'⟩ := s'
  have e : o' = s.os := ho
  subst e
  exact I.call (g' := g') (t' := t') (d' := d') u hok hg hch
end

/-! ### the judgements -/
/-- an exception: its class, its own dict's address (where it has one), the abstract heap behind it -/
abbrev XK := Value → Option Addr → Hp → Prop
abbrev St := List (Option V)
abbrev VK := V → Hp → Prop
/-- an expression's reading; a test's; an argument list's -/
abbrev TE := St → Hp → VK → Prop
abbrev TT := St → Hp → (Bool → Hp → Prop) → Prop
abbrev TA := St → Hp → (List V → Hp → Prop) → Prop
/-- what is wanted behind a statement -/
structure Ends where
  nx : St → Hp → Prop
  rt : VK
  bk : St → Hp → Prop := fun _ _ => False
  ct : St → Hp → Prop := fun _ _ => False
abbrev TS := Ends → St → Hp → Prop

def EP (X : Cx) (pins : List (Addr × Obj)) (σ : St) (Q : VK) (u : Value) (s' : Shared) : Prop := ∃ v H', Inv X pins σ H' s' ∧ RelV v u ∧ Q v H'
def TP (X : Cx) (pins : List (Addr × Obj)) (σ : St) (Q : Bool → Hp → Prop) (b : Bool) (s' : Shared) : Prop := ∃ H', Inv X pins σ H' s' ∧ Q b H'
def AP (X : Cx) (pins : List (Addr × Obj)) (σ : St) (Q : List V → Hp → Prop) (us : List Value) (s' : Shared) : Prop := ∃ vs H', Inv X pins σ H' s' ∧ Vals vs us ∧ Q vs H'
def SP (X : Cx) (pins : List (Addr × Obj)) (D : Ends) (f : Flow) (s' : Shared) : Prop :=
  match f with
  | .next => ∃ σ' H', Inv X pins σ' H' s' ∧ D.nx σ' H'
  | .brk => ∃ σ' H', Inv X pins σ' H' s' ∧ D.bk σ' H'
  | .cont => ∃ σ' H', Inv X pins σ' H' s' ∧ D.ct σ' H'
  | .ret u => ∃ v σ' H', Inv X pins σ' H' s' ∧ RelV v u ∧ D.rt v H'

def PE (X : Cx) (e : Expr) (t : TE) : Prop :=
  ∀ (pins : List (Addr × Obj)) (s : Shared) (σ : St) (H : Hp) (Q : VK), Inv X pins σ H s → t σ H Q → wpAny (model X.prog X.w) X.A (eval e X.env) (EP X pins σ Q) X.xe s
def PT (X : Cx) (e : Expr) (t : TT) : Prop :=
  ∀ (pins : List (Addr × Obj)) (s : Shared) (σ : St) (H : Hp) (Q : Bool → Hp → Prop), Inv X pins σ H s → t σ H Q → wpAny (model X.prog X.w) X.A (isTrue e X.env (eval e X.env)) (TP X pins σ Q) X.xe s
/-- a test whatever its 'whole' is (and, or) -/
def PW (X : Cx) (e : Expr) (t : TT) : Prop :=
  ∀ (whole : Sem Value) (pins : List (Addr × Obj)) (s : Shared) (σ : St) (H : Hp) (Q : Bool → Hp → Prop), Inv X pins σ H s → t σ H Q → wpAny (model X.prog X.w) X.A (isTrue e X.env whole) (TP X pins σ Q) X.xe s
theorem PW.pt {X : Cx} {e : Expr} {t : TT} (h : PW X e t) : PT X e t := h _
/-- an argument list (no star), from the left -/
def PA (X : Cx) (es : List Expr) (t : TA) : Prop :=
  ∀ (pos : Pos) (pins : List (Addr × Obj)) (s : Shared) (σ : St) (H : Hp) (Q : List V → Hp → Prop), Inv X pins σ H s → t σ H Q → wpAny (model X.prog X.w) X.A (spliced (backTo pos (starEach es X.env))) (AP X pins σ Q) X.xe s
def PS (X : Cx) (st : Stmt) (t : TS) : Prop :=
  ∀ (pins : List (Addr × Obj)) (s : Shared) (σ : St) (H : Hp) (D : Ends), Inv X pins σ H s → t D σ H → wpAny (model X.prog X.w) X.A (exec st X.env) (SP X pins D) X.xe s
def PSs (X : Cx) (st : List Stmt) (t : TS) : Prop :=
  ∀ (pins : List (Addr × Obj)) (s : Shared) (σ : St) (H : Hp) (D : Ends), Inv X pins σ H s → t D σ H → wpAny (model X.prog X.w) X.A (execs st X.env) (SP X pins D) X.xe s
/-- weaken the end -/
theorem thn {α : Type} {t : Sem α} {Q Q' : α → Shared → Prop} {M : Model} {A : Around} {E : Value → Shared → Prop} {s : Shared} (h : wpAny M A t Q E s) (hQ : ∀ a s, Q a s → Q' a s) : wpAny M A t Q' E s := wpAny_mono h hQ fun _ _ x => x
end L2

namespace L2
open PySem PySem.Spec PyProof.Rows
section
variable {X : Cx}

/-- two expressions in a row -/
theorem bin {a b : Expr} {ta tb : TE} (ha : PE X a ta) (hb : PE X b tb) {pins : List (Addr × Obj)} {s : Shared} {σ : St} {H : Hp} {R : V → V → Hp → Prop} (I : Inv X pins σ H s) (h : ta σ H fun x H1 => tb σ H1 fun y H2 => R x y H2)
    {α : Type} {Q : α → Shared → Prop} {f : Value → Value → Sem α}
    (hf : ∀ v u s2 x y H2, Inv X pins σ H2 s2 → RelV x v → RelV y u → R x y H2 → wpAny (model X.prog X.w) X.A (f v u) Q X.xe s2) :
    wpAny (model X.prog X.w) X.A (eval a X.env) (fun v s₁ => wpAny (model X.prog X.w) X.A (eval b X.env) (fun u s₂ => wpAny (model X.prog X.w) X.A (f v u) Q X.xe s₂) X.xe s₁) X.xe s := by
  refine thn (ha pins s σ H _ I h) fun v s1 ⟨x, H1, I1, r1, q1⟩ => ?_
  refine thn (hb pins s1 σ H1 _ I1 q1) fun u s2 ⟨y, H2, I2, r2, q2⟩ => ?_
  exact hf v u s2 x y H2 I2 r1 r2 q2

/-! ### names and constants -/
def tVar (i : Nat) : TE := fun σ H Q => ∃ v, σ[i]? = some (some v) ∧ Q v H
def tC (v : V) : TE := fun _ H Q => Q v H
theorem pe_var {i : Nat} {x : Str} {pos : Pos} (hN : X.N[i]? = some x) (hv : Vis X.env.scope x) (hd : (x == ("__debug__" : Str)) = false := by decide) (hcd : (x == ("__classdict__" : Str)) = false := by decide) : PE X (.Name x pos) (tVar i) := by
  intro pins s σ H Q I h
  obtain ⟨v, e, h⟩ := h
  obtain ⟨m, hn, hl⟩ := I.loc
  obtain ⟨u, r, l⟩ := hl i x v hN e hv
  have fin : EP X pins σ Q u s := ⟨v, H, I, r, h⟩
  rcases l with ⟨hk, hm⟩ | ⟨hk, c, hc, hcell⟩
  · exact wpAny_Name (wpAny_loadName_local I.ok.kind hk hn hm fin) hd
  · rcases hk with hk | hk
    · exact wpAny_Name (wpAny_loadName_cell I.ok.kind hk hc hcell fin) hd
    · exact wpAny_Name (wpAny_loadName_free I.ok.kind hk hc hcell fin hcd) hd
theorem pe_int {i j pos} : PE X (.Constant (.int i) j pos) (tC (.int i)) := fun _ _ _ H _ I h => wpAny_Constant_int ⟨.int i, H, I.tok _, ⟨_, rfl⟩, h⟩
theorem pe_bl {b j pos} : PE X (.Constant (.bool b) j pos) (tC (.bl b)) := fun _ _ _ H _ I h => Constant_bool ⟨.bl b, H, I, rfl, h⟩
theorem pe_non {j pos} : PE X (.Constant .none j pos) (tC .non) := fun _ _ _ H _ I h => Constant_none ⟨.non, H, I, rfl, h⟩
theorem pe_str {x j pos} : PE X (.Constant (.str x) j pos) (tC (.str x)) := fun _ _ _ H _ I h => Calls.Constant_str ⟨.str x, H, I.tok _, ⟨_, rfl⟩, h⟩

/-- a global name of the def -/
def Gl (X : Cx) (x : Str) : Prop := X.env.kindOf x = some .globalImplicit
theorem ld_glob {E : Value → Shared → Prop} {pins : List (Addr × Obj)} {s : Shared} {σ : St} {H : Hp} {x : Str} {u : Value} {pos : Pos} {Q : Value → Shared → Prop} (I : Inv X pins σ H s) (hg : Gl X x) (hm : X.mg x = some u) (h : Q u s)
    (hd : (x == ("__debug__" : Str)) = false := by decide) : wpAny (model X.prog X.w) X.A (eval (.Name x pos) X.env) Q E s :=
  Calls.Name_function_global I.ok.kind hg (Calls.loadGlobal_global (by rw [I.ok.glob]; exact I.mod.glob.keeps I.bk) hm h) hd
theorem ld_blt {E : Value → Shared → Prop} {pins : List (Addr × Obj)} {s : Shared} {σ : St} {H : Hp} {x : Str} {u : Value} {pos : Pos} {Q : Value → Shared → Prop} (I : Inv X pins σ H s) (hg : Gl X x) (hm : X.mg x = none) (hv : bootBuiltins x = some u) (h : Q u s)
    (hn : x ≠ "__name__" := by decide) (hd : (x == ("__debug__" : Str)) = false := by decide) : wpAny (model X.prog X.w) X.A (eval (.Name x pos) X.env) Q E s := by
  obtain ⟨mb, h1, h2⟩ := I.mod.blt
  exact Calls.Name_function_global I.ok.kind hg (Calls.loadGlobal_builtin (by rw [I.ok.glob]; exact I.mod.glob.keeps I.bk) hm (by rw [I.ok.blt]; exact h1.keeps I.bk) ((h2 x hn).trans hv) h) hd
/-- a module's constant, a class, a function, as a value -/
theorem pe_glob {x : Str} {v : V} {u : Value} {pos : Pos} (hg : Gl X x) (hm : X.mg x = some u) (r : RelV v u) (hd : (x == ("__debug__" : Str)) = false := by decide) : PE X (.Name x pos) (tC v) :=
  fun _ _ _ H _ I h => ld_glob I hg hm ⟨v, H, I, r, h⟩ hd
theorem pe_bltn {x : Str} {v : V} {u : Value} {pos : Pos} (hg : Gl X x) (hm : X.mg x = none) (hv : bootBuiltins x = some u) (r : RelV v u) (hn : x ≠ "__name__" := by decide) (hd : (x == ("__debug__" : Str)) = false := by decide) : PE X (.Name x pos) (tC v) :=
  fun _ _ _ H _ I h => ld_blt I hg hm hv ⟨v, H, I, r, h⟩ hn hd

/-! ### arithmetic -/
/-- two ints -/
def t2I (ta tb : TE) (k : Int → Int → Hp → Prop) : St → Hp → Prop := fun σ H => ta σ H fun x H1 => tb σ H1 fun y H2 => ∃ i j, x = .int i ∧ y = .int j ∧ k i j H2
def tAdd (ta tb : TE) : TE := fun σ H Q => t2I ta tb (fun i j H2 => Q (.int (i + j)) H2) σ H
def tSub (ta tb : TE) : TE := fun σ H Q => t2I ta tb (fun i j H2 => Q (.int (i - j)) H2) σ H
/-- the left factor below 2^64 -/
def tMul (ta tb : TE) : TE := fun σ H Q => t2I ta tb (fun i j H2 => (-(2 ^ 64) < i ∧ i < 2 ^ 64) ∧ Q (.int (i * j)) H2) σ H
variable {a b : Expr} {ta tb : TE} {pos : Pos}
theorem pe_add (ha : PE X a ta) (hb : PE X b tb) : PE X (.BinOp a .Add b pos) (tAdd ta tb) := by
  intro pins s σ H Q I h
  refine wpAny_BinOp (bin ha hb I h fun v u s2 x y H2 I2 rx ry q => ?_)
  obtain ⟨i, j, rfl, rfl, q⟩ := q
  obtain ⟨t, rfl⟩ := rx
  obtain ⟨t', rfl⟩ := ry
  exact add_int ⟨.int _, H2, I2.tok _, ⟨_, rfl⟩, q⟩
theorem pe_sub (ha : PE X a ta) (hb : PE X b tb) : PE X (.BinOp a .Sub b pos) (tSub ta tb) := by
  intro pins s σ H Q I h
  refine wpAny_BinOp (bin ha hb I h fun v u s2 x y H2 I2 rx ry q => ?_)
  obtain ⟨i, j, rfl, rfl, q⟩ := q
  obtain ⟨t, rfl⟩ := rx
  obtain ⟨t', rfl⟩ := ry
  exact sub_int ⟨.int _, H2, I2.tok _, ⟨_, rfl⟩, q⟩
theorem pe_mul (ha : PE X a ta) (hb : PE X b tb) : PE X (.BinOp a .Mult b pos) (tMul ta tb) := by
  intro pins s σ H Q I h
  refine wpAny_BinOp (bin ha hb I h fun v u s2 x y H2 I2 rx ry q => ?_)
  obtain ⟨i, j, rfl, rfl, ⟨q1, q2⟩, q⟩ := q
  obtain ⟨t, rfl⟩ := rx
  obtain ⟨t', rfl⟩ := ry
  exact mul_int ⟨.int _, H2, I2.tok _, ⟨_, rfl⟩, q⟩ (.of_left (intBits_le_64 q1 q2))

/-! ### comparisons -/
def PC (X : Cx) (op : CmpOp) (a b : Expr) (t : TE) : Prop :=
  ∀ (pins : List (Addr × Obj)) (s : Shared) (σ : St) (H : Hp) (Q : VK), Inv X pins σ H s → t σ H Q →
    wpAny (model X.prog X.w) X.A (eval a X.env) (fun v s₁ => wpAny (model X.prog X.w) X.A (eval b X.env) (fun u s₂ => wpAny (model X.prog X.w) X.A (compareOp op v u) (EP X pins σ Q) X.xe s₂) X.xe s₁) X.xe s
theorem nobehind (b : Expr) {op : CmpOp} (h : op ≠ .In) (h2 : op ≠ .NotIn) : behindInMarks op b = false := by
  have e1 : (op == CmpOp.In) = false := by cases op <;> first | rfl | exact absurd rfl h
  have e2 : (op == CmpOp.NotIn) = false := by cases op <;> first | rfl | exact absurd rfl h2
  cases b <;> simp [behindInMarks, e1, e2]
def tCmp (p : Int → Int → Bool) (ta tb : TE) : TE := fun σ H Q => t2I ta tb (fun i j H2 => Q (.bl (p i j)) H2) σ H
abbrev tLt : TE → TE → TE := tCmp fun i j => decide (i < j)
abbrev tLe : TE → TE → TE := tCmp fun i j => decide (i ≤ j)
abbrev tGt : TE → TE → TE := tCmp fun i j => decide (j < i)
abbrev tGe : TE → TE → TE := tCmp fun i j => decide (j ≤ i)
abbrev tEqI : TE → TE → TE := tCmp fun i j => decide (i = j)
abbrev tNeI : TE → TE → TE := tCmp fun i j => !decide (i = j)
/-- a comparison of two ints, by its rule -/
theorem pc_int {op : CmpOp} {p : Int → Int → Bool} (ha : PE X a ta) (hb : PE X b tb)
    (rule : ∀ (i j : Int) (t u : Tok) (Q : Value → Shared → Prop) (s : Shared), Q (.bool (p i j)) s → wpAny (model X.prog X.w) X.A (compareOp op (.int i t) (.int j u)) Q X.xe s) : PC X op a b (tCmp p ta tb) := by
  intro pins s σ H Q I h
  refine bin ha hb I h fun v u s2 x y H2 I2 rx ry q => ?_
  obtain ⟨i, j, rfl, rfl, q⟩ := q
  obtain ⟨t, rfl⟩ := rx
  obtain ⟨t', rfl⟩ := ry
  exact rule i j t t' _ s2 ⟨.bl _, H2, I2, rfl, q⟩
theorem pc_lt (ha : PE X a ta) (hb : PE X b tb) : PC X .Lt a b (tLt ta tb) := pc_int ha hb fun _ _ _ _ _ _ h => lt_int h
theorem pc_le (ha : PE X a ta) (hb : PE X b tb) : PC X .LtE a b (tLe ta tb) := pc_int ha hb fun _ _ _ _ _ _ h => le_int h
theorem pc_gt (ha : PE X a ta) (hb : PE X b tb) : PC X .Gt a b (tGt ta tb) := pc_int ha hb fun _ _ _ _ _ _ h => gt_int h
theorem pc_ge (ha : PE X a ta) (hb : PE X b tb) : PC X .GtE a b (tGe ta tb) := pc_int ha hb fun _ _ _ _ _ _ h => ge_int h
theorem pc_eqI (ha : PE X a ta) (hb : PE X b tb) : PC X .Eq a b (tEqI ta tb) := pc_int ha hb fun _ _ _ _ _ _ h => eq_int (by rw [Bool.beq_eq_decide_eq]; exact h)
theorem pc_neI (ha : PE X a ta) (hb : PE X b tb) : PC X .NotEq a b (tNeI ta tb) := pc_int ha hb fun _ _ _ _ _ _ h => ne_int (by rw [bne, Bool.beq_eq_decide_eq]; exact h)
/-- is None -/
def tIsN (ta : TE) : TE := fun σ H Q => ta σ H fun x H1 => Q (.bl (decide (x = .non))) H1
def tNotN (ta : TE) : TE := fun σ H Q => ta σ H fun x H1 => Q (.bl (!decide (x = .non))) H1
theorem RelV.none_iff {x : V} {v : Value} (r : RelV x v) : (v == Value.none) = decide (x = .non) := by
  cases x with
  | non => cases r; rfl
  | bl _ => cases r; rfl
  | int _ => obtain ⟨t, rfl⟩ := r; rfl
  | str _ => obtain ⟨t, rfl⟩ := r; rfl
  | byt _ => obtain ⟨t, rfl⟩ := r; rfl
  | flt _ => obtain ⟨t, rfl⟩ := r; rfl
  | ref _ => cases r; rfl
  | ty _ => cases r; rfl
theorem pc_isN {j pos'} (ha : PE X a ta) : PC X .Is a (.Constant .none j pos') (tIsN ta) := by
  intro pins s σ H Q I h
  refine thn (ha pins s σ H _ I h) fun v s1 ⟨x, H1, I1, r1, q1⟩ => ?_
  exact Constant_none (is_none_gen ⟨.bl _, H1, I1, by rw [r1.none_iff]; rfl, q1⟩)
theorem pc_notN {j pos'} (ha : PE X a ta) : PC X .IsNot a (.Constant .none j pos') (tNotN ta) := by
  intro pins s σ H Q I h
  refine thn (ha pins s σ H _ I h) fun v s1 ⟨x, H1, I1, r1, q1⟩ => ?_
  exact Constant_none (isnot_none_gen ⟨.bl _, H1, I1, by rw [r1.none_iff]; rfl, q1⟩)
/-- a comparison as a value, as a test -/
def tB (t : TE) : TT := fun σ H Q => t σ H fun x H1 => ∃ c, x = .bl c ∧ Q c H1
theorem pe_cmp {op : CmpOp} {t : TE} (h : PC X op a b t) (h1 : behindInMarks op b = false := by first | exact nobehind _ (by decide) (by decide) | rfl) : PE X (.Compare a [op] [b] pos) t := fun pins s σ H Q I hw => wpAny_Compare1 (h pins s σ H Q I hw) h1
theorem pt_cmp {op : CmpOp} {t : TE} (h : PC X op a b t) (h1 : behindInMarks op b = false := by first | exact nobehind _ (by decide) (by decide) | rfl) : PT X (.Compare a [op] [b] pos) (tB t) := by
  intro pins s σ H Q I hw
  refine wpAny_isTrue_Compare1 (thn (h pins s σ H _ I hw) fun v s1 h1 => thn h1 fun u s2 h2 => thn h2 fun c s3 ⟨x, H1, I1, r1, q1⟩ => ?_) h1
  obtain ⟨d, rfl, q⟩ := q1
  cases r1
  exact wpAny_truthy_bool ⟨H1, I1, q⟩
/-- an expression whose value is a bool, as a test -/
theorem pt_val {e : Expr} {t : TE} (h : PE X e t) (he : ∀ whole, isTrue e X.env whole = (do let v ← whole; standAt e.pos; holding [v] (truthy v)) := by intro _; rfl) : PT X e (tB t) := by
  intro pins s σ H Q I hw
  refine isTrue_plain (thn (h pins s σ H _ I hw) fun v s1 ⟨x, H1, I1, r1, q1⟩ => ?_) (he _)
  obtain ⟨d, rfl, q⟩ := q1
  cases r1
  exact wpAny_truthy_bool ⟨H1, I1, q⟩

/-! ### and, or, not -/
variable {tA tB' : TT} {rest : List Expr}
def tAnd (t u : TT) : TT := fun σ H Q => t σ H fun c H1 => if c = true then u σ H1 Q else Q false H1
def tOr (t u : TT) : TT := fun σ H Q => t σ H fun c H1 => if c = true then Q true H1 else u σ H1 Q
def tNot (t : TT) : TT := fun σ H Q => t σ H fun c H1 => Q (!c) H1
theorem pw_and1 (ha : PT X a tA) : PW X (.BoolOp .And [a] pos) tA := by
  intro wh pins s σ H Q I h
  refine isTrue_and (thn (ha pins s σ H Q I h) fun c s1 e => ?_)
  cases c with
  | true => exact isTrue_and_nil e
  | false => exact e
theorem pw_or1 (ha : PT X a tA) : PW X (.BoolOp .Or [a] pos) tA := by
  intro wh pins s σ H Q I h
  refine isTrue_or (thn (ha pins s σ H Q I h) fun c s1 e => ?_)
  cases c with
  | false => exact isTrue_or_nil e
  | true => exact e
theorem pw_and (ha : PT X a tA) (hb : PW X (.BoolOp .And (b :: rest) pos) tB') : PW X (.BoolOp .And (a :: b :: rest) pos) (tAnd tA tB') := by
  intro wh pins s σ H Q I h
  refine isTrue_and (thn (ha pins s σ H _ I h) fun c s1 ⟨H1, I1, q1⟩ => ?_)
  cases c with
  | true => exact hb wh pins s1 σ H1 Q I1 q1
  | false => exact ⟨H1, I1, q1⟩
theorem pw_or (ha : PT X a tA) (hb : PW X (.BoolOp .Or (b :: rest) pos) tB') : PW X (.BoolOp .Or (a :: b :: rest) pos) (tOr tA tB') := by
  intro wh pins s σ H Q I h
  refine isTrue_or (thn (ha pins s σ H _ I h) fun c s1 ⟨H1, I1, q1⟩ => ?_)
  cases c with
  | true => exact ⟨H1, I1, q1⟩
  | false => exact hb wh pins s1 σ H1 Q I1 q1
theorem pt_not (ha : PT X a tA) : PT X (.UnaryOp .Not a pos) (tNot tA) := by
  intro pins s σ H Q I h
  exact isTrue_not (ha pins s σ H (fun c H1 => Q (!c) H1) I h)
/-- .. as values (bools) -/
def tAndV (ta tb : TE) : TE := fun σ H Q => ta σ H fun x H1 => ∃ c, x = .bl c ∧ if c = true then tb σ H1 Q else Q (.bl false) H1
def tOrV (ta tb : TE) : TE := fun σ H Q => ta σ H fun x H1 => ∃ c, x = .bl c ∧ if c = true then Q (.bl true) H1 else tb σ H1 Q
def tNotV (ta : TE) : TE := fun σ H Q => ta σ H fun x H1 => ∃ c, x = .bl c ∧ Q (.bl (!c)) H1
theorem pe_one {op} {t : TE} (h : PE X a t) : PE X (.BoolOp op [a] pos) t := fun pins s σ H Q I hw => BoolOp_one (h pins s σ H Q I hw)
theorem pe_and (ha : PE X a ta) (hb : PE X (.BoolOp .And (b :: rest) pos) tb) : PE X (.BoolOp .And (a :: b :: rest) pos) (tAndV ta tb) := by
  intro pins s σ H Q I h
  refine BoolOp_and (thn (ha pins s σ H _ I h) fun v s1 ⟨x, H1, I1, r1, q1⟩ => ?_)
  obtain ⟨c, rfl, q1⟩ := q1
  cases r1
  refine wpAny_truthy_bool ?_
  cases c with
  | true => exact hb pins s1 σ H1 Q I1 q1
  | false => exact ⟨.bl false, H1, I1, rfl, q1⟩
theorem pe_or (ha : PE X a ta) (hb : PE X (.BoolOp .Or (b :: rest) pos) tb) : PE X (.BoolOp .Or (a :: b :: rest) pos) (tOrV ta tb) := by
  intro pins s σ H Q I h
  refine BoolOp_or (thn (ha pins s σ H _ I h) fun v s1 ⟨x, H1, I1, r1, q1⟩ => ?_)
  obtain ⟨c, rfl, q1⟩ := q1
  cases r1
  refine wpAny_truthy_bool ?_
  cases c with
  | false => exact hb pins s1 σ H1 Q I1 q1
  | true => exact ⟨.bl true, H1, I1, rfl, q1⟩
theorem pe_not (ha : PE X a ta) : PE X (.UnaryOp .Not a pos) (tNotV ta) := by
  intro pins s σ H Q I h
  refine UnaryOp_ (thn (ha pins s σ H _ I h) fun v s1 ⟨x, H1, I1, r1, q1⟩ => ?_)
  obtain ⟨c, rfl, q1⟩ := q1
  cases r1
  exact not_of (wpAny_truthy_bool ⟨.bl (!c), H1, I1, rfl, q1⟩)
/-- a if t else b -/
def tIf (t : TT) (ta tb : TE) : TE := fun σ H Q => t σ H fun c H1 => if c = true then ta σ H1 Q else tb σ H1 Q
theorem pe_ifExp {c : Expr} (hc : PT X c tA) (ha : PE X a ta) (hb : PE X b tb) : PE X (.IfExp c a b pos) (tIf tA ta tb) := by
  intro pins s σ H Q I h
  refine wpAny_IfExp (thn (hc pins s σ H _ I h) fun d s1 ⟨H1, I1, q1⟩ => ?_)
  cases d with
  | true => exact ha pins s1 σ H1 Q I1 q1
  | false => exact hb pins s1 σ H1 Q I1 q1
end
end L2

namespace L2
open PySem PySem.Spec PyProof.Rows

/-! ### a list, a tuple that is read: tracked, frozen, or an object of the module -/
def SqL (K : PySem.W.Frag) (H : Hp) (a : Addr) (xs : List V) : Prop :=
  Rd H a (.lst xs) ∨
    ∃ (o : Obj) (its : Array Value) (n : Nat), K.lookup a = some o ∧ o.cls = .type "list" ∧ o.dict = none ∧ o.data = .seq its n ∧ its.size ≤ sizeLine ∧ Vals xs its.toList
def SqT (K : PySem.W.Frag) (H : Hp) (a : Addr) (xs : List V) : Prop :=
  Rd H a (.tup xs) ∨
    ∃ (o : Obj) (its : Array Value) (n : Nat), K.lookup a = some o ∧ o.cls = .type "tuple" ∧ o.data = .seq its n ∧ its.size ≤ sizeLine ∧ Vals xs its.toList
def absV : Value → Option V
  | .none => some .non
  | .bool b => some (.bl b)
  | .int i _ => some (.int i)
  | .str x _ => some (.str x)
  | .bytes b _ => some (.byt b)
  | .float b _ => some (.flt b)
  | .ref a => some (.ref a)
  | .type n => some (.ty n)
  | _ => none
theorem RelV.abs {x : V} {u : Value} (r : RelV x u) : absV u = some x := by
  cases x with
  | non => cases r; rfl
  | bl _ => cases r; rfl
  | int _ => obtain ⟨t, rfl⟩ := r; rfl
  | str _ => obtain ⟨t, rfl⟩ := r; rfl
  | byt _ => obtain ⟨t, rfl⟩ := r; rfl
  | flt _ => obtain ⟨t, rfl⟩ := r; rfl
  | ref _ => cases r; rfl
  | ty _ => cases r; rfl
theorem RelV.inj {x y : V} {u : Value} (r : RelV x u) (q : RelV y u) : x = y := Option.some.inj (r.abs.symm.trans q.abs)
theorem Vals.inj : ∀ {xs ys : List V} {us : List Value}, Vals xs us → Vals ys us → xs = ys
  | _, _, _, .nil, .nil => rfl
  | _, _, _, .cons r t, .cons r' t' => by rw [r.inj r', Vals.inj t t']
section
variable {X : Cx} {pins : List (Addr × Obj)} {σ : St} {H : Hp} {s : Shared} {a : Addr} {xs ys : List V}
theorem SqL.of {K : PySem.W.Frag} (h : H a = some (.lst xs)) : SqL K H a xs := .inl (.inl h)
theorem SqT.of {K : PySem.W.Frag} (h : H a = some (.tup xs)) : SqT K H a xs := .inl (.inl h)
theorem Inv.list (I : Inv X pins σ H s) (h : SqL X.K H a xs) : ∃ its : List Value, Vals xs its ∧ PlainL s.heap a its.toArray ∧ xs.length ≤ sizeLine := by
  rcases h with h | ⟨o, its, n, hk, hc, hd, hs, hz, r⟩
  · obtain ⟨z, its, n, r, e⟩ := h.ok I.hok
    exact ⟨its, r, ⟨_, n, e, rfl, rfl, rfl⟩, z⟩
  · refine ⟨its.toList, r, ⟨o, n, I.kIn a o hk, hc, hd, by simpa using hs⟩, ?_⟩
    have e := r.length
    simp only [Array.length_toList] at e
    omega
theorem Inv.tuple (I : Inv X pins σ H s) (h : SqT X.K H a xs) : ∃ its : List Value, Vals xs its ∧ IsTup s.heap a its.toArray ∧ xs.length ≤ sizeLine := by
  rcases h with h | ⟨o, its, n, hk, hc, hs, hz, r⟩
  · obtain ⟨z, its, r, p⟩ := h.ok I.hok
    exact ⟨its, r, p, z⟩
  · refine ⟨its.toList, r, ⟨o, I.kIn a o hk, hc, n, by simpa using hs⟩, ?_⟩
    have e := r.length
    simp only [Array.length_toList] at e
    omega
theorem Inv.list_inj (I : Inv X pins σ H s) (h : SqL X.K H a xs) (h' : SqL X.K H a ys) : xs = ys := by
  obtain ⟨its, r, ⟨o, n, e, _, _, d⟩, _⟩ := I.list h
  obtain ⟨its', r', ⟨o', n', e', _, _, d'⟩, _⟩ := I.list h'
  rw [e] at e'; cases e'
  rw [d] at d'
  injection d' with d1 _
  have : its = its' := by simpa using congrArg Array.toList d1
  subst this
  exact r.inj r'
theorem Inv.tuple_inj (I : Inv X pins σ H s) (h : SqT X.K H a xs) (h' : SqT X.K H a ys) : xs = ys := by
  obtain ⟨its, r, ⟨o, e, _, n, d⟩, _⟩ := I.tuple h
  obtain ⟨its', r', ⟨o', e', _, n', d'⟩, _⟩ := I.tuple h'
  rw [e] at e'; cases e'
  rw [d] at d'
  injection d' with d1 _
  have : its = its' := by simpa using congrArg Array.toList d1
  subst this
  exact r.inj r'
end

/-! ### another wish about exceptions -/
abbrev Cx.wish (X : Cx) (E : Value → Shared → Prop) : Cx := { X with xe := E }
/-- no exception leaves -/
abbrev Cx.nox (X : Cx) : Cx := X.wish fun _ _ => False
theorem Cx.Ok.wish {X : Cx} (ok : X.Ok) (E : Value → Shared → Prop) : (X.wish E).Ok :=
  ⟨ok.mod, ok.kind, ok.glob, ok.blt, ok.above, ok.inj, ok.has, ok.cab, ok.hd, ok.frames, ok.stk, ok.exf, ok.bs, ok.bsz, ok.noex, ok.exfs, ok.funs, ok.frf⟩
theorem Cx.Ok.unwish {X : Cx} {E : Value → Shared → Prop} (ok : (X.wish E).Ok) : X.Ok :=
  ⟨ok.mod, ok.kind, ok.glob, ok.blt, ok.above, ok.inj, ok.has, ok.cab, ok.hd, ok.frames, ok.stk, ok.exf, ok.bs, ok.bsz, ok.noex, ok.exfs, ok.funs, ok.frf⟩
section
variable {X : Cx} {pins : List (Addr × Obj)} {σ : St} {H : Hp} {s : Shared} {E : Value → Shared → Prop}
theorem Inv.wish (I : Inv X pins σ H s) (E : Value → Shared → Prop) : Inv (X.wish E) pins σ H s := ⟨I.ok.wish E, I.os, I.bare, I.base, I.loc, I.cell, I.free, I.freeC, I.pin, I.hok, I.len⟩
theorem Inv.unwish (I : Inv (X.wish E) pins σ H s) : Inv X pins σ H s := ⟨I.ok.unwish, I.os, I.bare, I.base, I.loc, I.cell, I.free, I.freeC, I.pin, I.hok, I.len⟩
theorem SP.unwish {D : Ends} {f : Flow} {s' : Shared} (h : SP (X.wish E) pins D f s') : SP X pins D f s' := by
  cases f with
  | next => obtain ⟨σ', H', I, q⟩ := h; exact ⟨σ', H', I.unwish, q⟩
  | brk => obtain ⟨σ', H', I, q⟩ := h; exact ⟨σ', H', I.unwish, q⟩
  | cont => obtain ⟨σ', H', I, q⟩ := h; exact ⟨σ', H', I.unwish, q⟩
  | ret u => obtain ⟨v, σ', H', I, r, q⟩ := h; exact ⟨v, σ', H', I.unwish, r, q⟩
theorem PE.nox {e : Expr} {t : TE} (h : PE X.nox e t) : PE X e t := fun pins s σ H Q I hw =>
  wpAny_mono (h pins s σ H Q (I.wish _) hw) (fun _ _ ⟨v, H', I', r, q⟩ => ⟨v, H', I'.unwish, r, q⟩) fun _ _ z => False.elim z
theorem PT.nox {e : Expr} {t : TT} (h : PT X.nox e t) : PT X e t := fun pins s σ H Q I hw =>
  wpAny_mono (h pins s σ H Q (I.wish _) hw) (fun _ _ ⟨H', I', q⟩ => ⟨H', I'.unwish, q⟩) fun _ _ z => False.elim z
theorem PSs.nox {st : List Stmt} {t : TS} (h : PSs X.nox st t) : PSs X st t := fun pins s σ H D I hw =>
  wpAny_mono (h pins s σ H D (I.wish _) hw) (fun _ _ q => q.unwish) fun _ _ z => False.elim z
end

/-! ### blocks and small statements -/
section
variable {X : Cx} {st : Stmt} {rest : List Stmt} {t u : TS} {e : Expr} {te : TE} {pos : Pos}
def tNext : TS := fun D σ H => D.nx σ H
def tSeq (t u : TS) : TS := fun D σ H => t { D with nx := u D } σ H
theorem pss_nil : PSs X [] tNext := fun _ _ σ H _ I h => wpAny_execs_nil ⟨σ, H, I, h⟩
theorem pss_cons (h1 : PS X st t) (h2 : PSs X rest u) : PSs X (st :: rest) (tSeq t u) := by
  intro pins s σ H D I h
  refine wpAny_execs_cons (thn (h1 pins s σ H { D with nx := u D } I h) fun f s1 q => ?_)
  cases f with
  | next =>
    obtain ⟨σ', H', I', q⟩ := q
    exact h2 pins s1 σ' H' D I' q
  | ret v => exact q
  | brk => exact q
  | cont => exact q
theorem pss_one (h1 : PS X st t) : PSs X [st] t := by
  intro pins s σ H D I h
  refine wpAny_execs_cons (thn (h1 pins s σ H D I h) fun f s1 q => ?_)
  cases f with
  | next => exact wpAny_execs_nil q
  | ret v => exact q
  | brk => exact q
  | cont => exact q
def tBreak : TS := fun D σ H => D.bk σ H
def tCont : TS := fun D σ H => D.ct σ H
theorem ps_pass : PS X (.Pass pos) tNext := fun _ _ σ H _ I h => wpAny_Pass ⟨σ, H, I, h⟩
theorem ps_break : PS X (.Break pos) tBreak := fun _ _ σ H _ I h => wpAny_Break ⟨σ, H, I, h⟩
theorem ps_continue : PS X (.Continue pos) tCont := fun _ _ σ H _ I h => wpAny_Continue ⟨σ, H, I, h⟩
/-- in a def's body nothing is shown -/
theorem Inv.quiet {pins : List (Addr × Obj)} {σ : St} {H : Hp} {s : Shared} (I : Inv X pins σ H s) : interactive X.env = false := by simp [interactive, I.ok.kind]
/-- a docstring -/
theorem ps_doc {x j pos pos'} : PS X (.Expr (.Constant (.str x) j pos) pos') tNext := fun _ s σ H _ I h => wpAny_Expr (Calls.Constant_str (show SP X _ _ .next { s with toks := s.toks + 1 } from ⟨σ, H, I.tok _, h⟩)) I.quiet
/-- an expression whose value is dropped -/
def tDrop (te : TE) : TS := fun D σ H => te σ H fun _ H1 => D.nx σ H1
theorem ps_expr (he : PE X e te) (hs : swapsWith e none pos.line X.env = pure false := by rfl) : PS X (.Expr e pos) (tDrop te) := by
  intro pins s σ H D I h
  exact wpAny_Expr_any (thn (he pins s σ H _ I h) fun v s1 ⟨x, H1, I1, r1, q1⟩ => ⟨σ, H1, I1, q1⟩) I.quiet hs
def tRet (te : TE) : TS := fun D σ H => te σ H D.rt
theorem ps_ret (he : PE X e te) : PS X (.Return (some e) pos) (tRet te) := by
  intro pins s σ H D I h
  exact wpAny_Return_some (thn (he pins s σ H _ I h) fun v s1 ⟨x, H1, I1, r1, q1⟩ => ⟨x, σ, H1, I1, r1, q1⟩)
def tRetN : TS := fun D _ H => D.rt .non H
theorem ps_retN : PS X (.Return none pos) tRetN := fun _ _ σ H _ I h => wpAny_Return_none ⟨.non, σ, H, I, rfl, h⟩
def tIfS (c : TT) (t u : TS) : TS := fun D σ H => c σ H fun b H1 => if b = true then t D σ H1 else u D σ H1
theorem ps_if {c : Expr} {a b : List Stmt} {tc : TT} (hc : PT X c tc) (ha : PSs X a t) (hb : PSs X b u) : PS X (.If c a b pos) (tIfS tc t u) := by
  intro pins s σ H D I h
  refine wpAny_If (thn (hc pins s σ H _ I h) fun d s1 ⟨H1, I1, q1⟩ => ?_)
  cases d with
  | true => exact ha pins s1 σ H1 D I1 q1
  | false => exact hb pins s1 σ H1 D I1 q1
/-- code that the proof never comes to -/
def tNever : TS := fun _ _ _ => False
theorem ps_never : PS X st tNever := fun _ _ _ _ _ _ h => h.elim
theorem pss_never {sts : List Stmt} : PSs X sts tNever := fun _ _ _ _ _ _ h => h.elim
end

/-! ### targets -/
abbrev TG := V → St → Hp → (St → Hp → Prop) → Prop
abbrev TGs := List V → St → Hp → (St → Hp → Prop) → Prop
def PG (X : Cx) (target : Expr) (t : TG) : Prop :=
  ∀ (pins : List (Addr × Obj)) (s : Shared) (σ : St) (H : Hp) (v : V) (u : Value) (Q : St → Hp → Prop), Inv X pins σ H s → RelV v u → t v σ H Q →
    wpAny (model X.prog X.w) X.A (assign target X.env u) (fun _ s' => ∃ σ' H', Inv X pins σ' H' s' ∧ Q σ' H') X.xe s
/-- several targets, one after another -/
def PGs (X : Cx) (ts : List Expr) (t : TGs) : Prop :=
  ∀ (pins : List (Addr × Obj)) (s : Shared) (σ : St) (H : Hp) (vs : List V) (us : List Value) (Q : St → Hp → Prop), Inv X pins σ H s → Vals vs us → t vs σ H Q →
    wpAny (model X.prog X.w) X.A (assignInOrder ((assignEach ts X.env).map (·.2)) us) (fun _ s' => ∃ σ' H', Inv X pins σ' H' s' ∧ Q σ' H') X.xe s
/-- o[i] = v, by values -/
abbrev TSet := V → V → V → Hp → (Hp → Prop) → Prop
def PSet (X : Cx) (t : TSet) : Prop :=
  ∀ (pins : List (Addr × Obj)) (s : Shared) (σ : St) (H : Hp) (o i v : V) (ov iv u : Value) (Q : Hp → Prop), Inv X pins σ H s → RelV o ov → RelV i iv → RelV v u → t o i v H Q →
    wpAny (model X.prog X.w) X.A (setItem ov iv u) (fun _ s' => ∃ H', Inv X pins σ H' s' ∧ Q H') X.xe s
/-- a op= b, by values -/
abbrev TIp := V → V → Hp → VK → Prop
def PIp (X : Cx) (op : Operator) (t : TIp) : Prop :=
  ∀ (pins : List (Addr × Obj)) (s : Shared) (σ : St) (H : Hp) (x y : V) (v u : Value) (Q : VK), Inv X pins σ H s → RelV x v → RelV y u → t x y H Q →
    wpAny (model X.prog X.w) X.A (inplaceOp op v u) (EP X pins σ Q) X.xe s
section
variable {X : Cx} {pos : Pos}
def gName (i : Nat) : TG := fun v σ H Q => Q (σ.set i (some v)) H
theorem pg_name {i : Nat} {x : Str} (hN : X.N.Nodup) (hi : X.N[i]? = some x) (hx : Loc X.env.scope x) (hf : X.fn x = true ∨ X.env.scope.names.lookup x = some .local := by first | exact .inl rfl | exact .inr rfl | assumption) : PG X (.Name x pos) (gName i) := by
  intro pins s σ H v u Q I r h
  exact wpAny_assign_Name (store_ok I hN hi hx r (fun s' I' => ⟨_, H, I', h⟩) hf)
def gNil : TGs := fun vs σ H Q => vs = [] ∧ Q σ H
def gCons (t : TG) (u : TGs) : TGs := fun vs σ H Q => ∃ v r, vs = v :: r ∧ t v σ H fun σ' H' => u r σ' H' Q
theorem pgs_nil : PGs X [] gNil := by
  intro pins s σ H vs us Q I r h
  obtain ⟨e, h⟩ := h
  subst e
  cases r
  exact assignInOrder_nil ⟨σ, H, I, h⟩
theorem pgs_cons {e : Expr} {es : List Expr} {t : TG} {u : TGs} (h1 : PG X e t) (h2 : PGs X es u)
    (hs : (assignEach (e :: es) X.env).map (·.2) = assign e X.env :: (assignEach es X.env).map (·.2) := by rfl) : PGs X (e :: es) (gCons t u) := by
  intro pins s σ H vs us Q I r h
  obtain ⟨v, vr, e1, h⟩ := h
  subst e1
  cases r with
  | cons r rr =>
    rw [hs]
    refine assignInOrder_cons (thn (h1 pins s σ H _ _ _ I r h) fun _ s1 ⟨σ1, H1, I1, q1⟩ => ?_)
    exact h2 pins s1 σ1 H1 _ _ Q I1 rr q1
/-- (a, b, ..) = a tuple of that length -/
def gTup (K : PySem.W.Frag) (n : Nat) (t : TGs) : TG := fun v σ H Q => ∃ a xs, v = .ref a ∧ SqT K H a xs ∧ xs.length = n ∧ t xs σ H Q
theorem pg_tup {es : List Expr} {k : Nat} {t : TGs} {n : Nat} (hc : X.calm = true) (h : PGs X es t)
    (hn : (assignEach es X.env).length = n := by rfl) (hst : (assignEach es X.env).findIdx? (·.1) = none := by rfl) : PG X (.Tuple es k pos) (gTup X.K n t) := by
  intro pins s σ H v u Q I r hw
  obtain ⟨a, xs, e1, hq, hl, hw⟩ := hw
  subst e1
  cases r
  obtain ⟨its, rv, ht, hz⟩ := I.tuple hq
  refine assign_Tuple_tuple (I.ok.hd hc) ht (by simp [hn, ← hl, rv.length]) hst fun h' hx => ?_
  have I1 : Inv X pins σ H { s with heap := h' } := I.kept (t' := s.toks) fun b o e => hx b o (Nat.ne_of_lt (Heap.lt_size e)) e
  exact h pins _ σ H xs _ Q I1 (by simpa using rv) hw
/-- o[i] = .. -/
def gSub (to ti : TE) (t : TSet) : TG := fun v σ H Q => to σ H fun o H1 => ti σ H1 fun i H2 => t o i v H2 fun H3 => Q σ H3
theorem pg_sub {o i : Expr} {to ti : TE} {t : TSet} (ho : PE X o to) (hi : PE X i ti) (hs : PSet X t)
    (ha : ∀ v, assign (.Subscript o i pos) X.env v = (do
      let ov ← holding [v] (eval o X.env)
      let iv ← holding [v, ov] (eval i X.env)
      standAt pos
      holding [v, ov, iv] (setItem ov iv v)
      release [v, ov, iv] []) := by intro _; rfl) : PG X (.Subscript o i pos) (gSub to ti t) := by
  intro pins s σ H v u Q I r h
  rw [ha]
  refine wpAny_bind (wpAny_holding (thn (ho pins s σ H _ I h) fun ov s1 ⟨x, H1, I1, r1, q1⟩ => ?_))
  refine wpAny_bind (wpAny_holding (thn (hi pins s1 σ H1 _ I1 q1) fun iv s2 ⟨y, H2, I2, r2, q2⟩ => ?_))
  refine wpAny_bind (wpAny_standAt (wpAny_bind (wpAny_holding (thn (hs pins s2 σ H2 x y v ov iv u _ I2 r1 r2 r q2) fun _ s3 ⟨H3, I3, q3⟩ => ?_))))
  exact wpAny_release ⟨σ, H3, I3, q3⟩
/-- target = value -/
def tAsg (te : TE) (g : TG) : TS := fun D σ H => te σ H fun x H1 => g x σ H1 D.nx
theorem ps_asg {tg e : Expr} {te : TE} {g : TG} (he : PE X e te) (hg : PG X tg g) (hs : swapsWithSole [tg] e pos.line X.env = pure false := by rfl) (hw : swappedStores [tg] e X.env = pure none := by rfl)
    (h1 : (assignEach [tg] X.env).map (·.2) = [assign tg X.env] := by rfl) : PS X (.Assign [tg] e pos) (tAsg te g) := by
  intro pins s σ H D I h
  refine wpAny_Assign_stores (thn (he pins s σ H _ I h) fun v s1 ⟨x, H1, I1, r1, q1⟩ => ?_) hs hw
  rw [h1]
  exact thn (hg pins s1 σ H1 x v _ I1 r1 q1) fun _ s2 q => q
/-- name = value -/
theorem ps_set {i : Nat} {x : Str} {e : Expr} {te : TE} {pos' : Pos} (hN : X.N.Nodup) (hi : X.N[i]? = some x) (hx : Loc X.env.scope x) (he : PE X e te) (hs : swapsWith e (some (.Name x pos')) pos.line X.env = pure false := by rfl) (hf : X.fn x = true ∨ X.env.scope.names.lookup x = some .local := by first | exact .inl rfl | exact .inr rfl | assumption) :
    PS X (.Assign [.Name x pos'] e pos) (tAsg te (gName i)) := by
  intro pins s σ H D I h
  refine wpAny_Assign_Name (thn (he pins s σ H _ I h) fun v s1 ⟨y, H1, I1, r1, q1⟩ => ?_) hs
  exact store_ok I1 hN hi hx r1 (fun s2 I2 => ⟨_, H1, I2, q1⟩) hf
/-- a, b = x, y with plain local names: stored from the right; the pair itself is not tracked (the opening rows as in PyProof/Rows/TupAssign.lean:23) -/
def tPar (i j : Nat) (ta : TA) : TS := fun D σ H => ta σ H fun vs H1 => ∃ v w, vs = [v, w] ∧ D.nx ((σ.set i (some v)).set j (some w)) H1
theorem ps_par {i j : Nat} {x y : Str} {a b : Expr} {ta : TA} {px py pt : Pos} {kt k2 pt2} (hc : X.calm = true) (hN : X.N.Nodup) (hi : X.N[i]? = some x) (hj : X.N[j]? = some y) (hij : i ≠ j)
    (hx : X.env.scope.names.lookup x = some .local) (hy : X.env.scope.names.lookup y = some .local) (ha : PA X [a, b] ta)
    (hw : swappedStores [.Tuple [.Name x px, .Name y py] kt pt] (.Tuple [a, b] k2 pt2) X.env = pure (some [x, y]))
    (hs : swapsWithSole [.Tuple [.Name x px, .Name y py] kt pt] (.Tuple [a, b] k2 pt2) pos.line X.env = pure false := by rfl) :
    PS X (.Assign [.Tuple [.Name x px, .Name y py] kt pt] (.Tuple [a, b] k2 pt2) pos) (tPar i j ta) := by
  intro pins s σ H D I h
  rw [exec_Assign_arm]
  refine wpAny_bind (wpAny_standAt ?_)
  rw [hs]
  refine wpAny_bind (wpAny_pure ?_)
  rw [if_neg (by decide)]
  refine wpAny_bind (Tuple_ (thn (ha _ pins s σ H _ I h) fun us s1 ⟨vs, H1, I1, r1, q1⟩ => ?_))
  obtain ⟨v, w, e1, q1⟩ := q1
  subst e1
  obtain ⟨u1, u2, rfl, rv, rw'⟩ : ∃ u1 u2, us = [u1, u2] ∧ RelV v u1 ∧ RelV w u2 := by
    cases r1 with
    | cons p q =>
      cases q with
      | cons p' q' =>
        cases q'
        exact ⟨_, _, rfl, p, p'⟩
  refine wpAny_newObj_type ?_ (by show 2 ≤ sizeLine; decide)
  have I2 : Inv X pins σ H1 { s1 with heap := s1.heap.push { cls := .type "tuple", data := .seq [u1, u2].toArray } } := I1.kept (t' := s1.toks) fun b o e => Heap.get?_push_of_some _ e
  rw [hw]
  refine wpAny_bind (wpAny_pure ?_)
  show wpAny (model X.prog X.w) X.A (do rule "assign.swapped-stores"; let items ← unpackItems (.ref s1.heap.objs.size) 2 none; assignInOrder [fun v => bindName X.env y v, fun v => bindName X.env x v] items.reverse; pure Flow.next) _ _ _
  refine wpAny_bind (wpAny_rule (wpAny_bind (unpackItems_tuple (items := #[u1, u2]) (I.ok.hd hc) (IsTup.new s1.heap _) fun h' hx' => ?_)))
  have I3 := I2.kept (h' := h') (t' := s1.toks) fun b o e => hx' b o (Nat.ne_of_lt (Heap.lt_size e)) e
  show wpAny _ _ (assignInOrder [fun v => bindName X.env y v, fun v => bindName X.env x v] [u2, u1] >>= fun _ => pure Flow.next) _ _ _
  refine wpAny_bind (assignInOrder_cons (wpAny_bindName (store_ok I3 hN hj (.inl hy) rw' (fun s2 I4 => ?_) (.inr hy))))
  refine assignInOrder_cons (wpAny_bindName (store_ok I4 hN hi (.inl hx) rv (fun s3 I5 => assignInOrder_nil (wpAny_pure ?_)) (.inr hx)))
  rw [List.set_comm _ _ (Ne.symm hij)] at I5
  exact ⟨_, H1, I5, q1⟩
/-- name op= e -/
def tAug (i : Nat) (te : TE) (ti : TIp) : TS := fun D σ H => ∃ x, σ[i]? = some (some x) ∧ te σ H fun y H1 => ti x y H1 fun z H2 => D.nx (σ.set i (some z)) H2
theorem ps_aug {i : Nat} {x : Str} {e : Expr} {te : TE} {op : Operator} {ti : TIp} {pos' : Pos} (hN : X.N.Nodup) (hi : X.N[i]? = some x) (hx : Loc X.env.scope x) (he : PE X e te) (ho : PIp X op ti) (hf : X.fn x = true ∨ X.env.scope.names.lookup x = some .local := by first | exact .inl rfl | exact .inr rfl | assumption) :
    PS X (.AugAssign (.Name x pos') op e pos) (tAug i te ti) := by
  intro pins s σ H D I h
  obtain ⟨v, e1, h⟩ := h
  obtain ⟨m, hn, hl⟩ := I.loc
  have vis : Vis X.env.scope x := by rcases hx with k | k; exact .inl k; exact .inr (.inl k)
  obtain ⟨u, r, l⟩ := hl i x v hi e1 vis
  refine wpAny_AugAssign_Name ?_
  have go : wpAny (model X.prog X.w) X.A (eval e X.env) (fun w s₂ => wpAny (model X.prog X.w) X.A (inplaceOp op u w) (fun r s₃ => wpAny (model X.prog X.w) X.A (storeName X.env x r) (fun _ => SP X pins D .next) X.xe s₃) X.xe s₂) X.xe s := by
    refine thn (he pins s σ H _ I h) fun w s1 ⟨y, H1, I1, r1, q1⟩ => ?_
    refine thn (ho pins s1 σ H1 v y u w _ I1 r r1 q1) fun z s2 ⟨zv, H2, I2, r2, q2⟩ => ?_
    exact store_ok I2 hN hi hx r2 (fun s3 I3 => ⟨_, H2, I3, q2⟩) hf
  rcases l with ⟨hk, hm⟩ | ⟨hk, c, hc, hcell⟩
  · exact wpAny_loadName_local I.ok.kind hk hn hm go
  · rcases hk with hk | hk
    · exact wpAny_loadName_cell I.ok.kind hk hc hcell go
    · rcases hx with k | k
      · have : X.env.scope.names.lookup x = some .free := hk
        rw [k] at this; cases this
      · have : X.env.scope.names.lookup x = some .free := hk
        rw [k] at this; cases this
/-- o[i] op= e -/
def tAugS (to ti te : TE) (tget : V → V → Hp → VK → Prop) (tip : TIp) (tset : TSet) : TS := fun D σ H => to σ H fun o H1 => ti σ H1 fun i H2 => tget o i H2 fun x H3 => te σ H3 fun y H4 => tip x y H4 fun z H5 => tset o i z H5 fun H6 => D.nx σ H6
/-- o[i], by values -/
def PGet (X : Cx) (t : V → V → Hp → VK → Prop) : Prop :=
  ∀ (pins : List (Addr × Obj)) (s : Shared) (σ : St) (H : Hp) (o i : V) (ov iv : Value) (Q : VK), Inv X pins σ H s → RelV o ov → RelV i iv → t o i H Q →
    wpAny (model X.prog X.w) X.A (getItem ov iv) (EP X pins σ Q) X.xe s
theorem ps_augS {o i e : Expr} {to ti te : TE} {tget : V → V → Hp → VK → Prop} {tip : TIp} {tset : TSet} {op : Operator} {tpos : Pos} (ho : PE X o to) (hi : PE X i ti) (hg : PGet X tget) (he : PE X e te) (hp : PIp X op tip) (hs : PSet X tset)
    (ha : ∀ ov iv new, augStore i ov iv new = (do holding [new, ov, iv] (setItem ov iv new); release [new, ov, iv] []; pure .next) := by intros; rfl) : PS X (.AugAssign (.Subscript o i tpos) op e pos) (tAugS to ti te tget tip tset) := by
  intro pins s σ H D I h
  refine wpAny_AugAssign_SubscriptAny (thn (ho pins s σ H _ I h) fun ov s1 ⟨x1, H1, I1, r1, q1⟩ => ?_) ha
  refine thn (hi pins s1 σ H1 _ I1 q1) fun iv s2 ⟨x2, H2, I2, r2, q2⟩ => ?_
  refine thn (hg pins s2 σ H2 x1 x2 ov iv _ I2 r1 r2 q2) fun old s3 ⟨x3, H3, I3, r3, q3⟩ => ?_
  refine thn (he pins s3 σ H3 _ I3 q3) fun v s4 ⟨x4, H4, I4, r4, q4⟩ => ?_
  refine thn (hp pins s4 σ H4 x3 x4 old v _ I4 r3 r4 q4) fun new s5 ⟨x5, H5, I5, r5, q5⟩ => ?_
  exact thn (hs pins s5 σ H5 x1 x2 x5 ov iv new _ I5 r1 r2 r5 q5) fun _ s6 ⟨H6, I6, q6⟩ => ⟨σ, H6, I6, q6⟩
/-- ints -/
def ipI (f : Int → Int → Int) : TIp := fun x y H Q => ∃ i j, x = .int i ∧ y = .int j ∧ Q (.int (f i j)) H
theorem ip_add : PIp X .Add (ipI fun i j => i + j) := by
  intro pins s σ H x y v u Q I r1 r2 h
  obtain ⟨i, j, e1, e2, q⟩ := h
  subst e1; subst e2
  obtain ⟨t, rfl⟩ := r1
  obtain ⟨t', rfl⟩ := r2
  exact iadd_int ⟨.int _, H, I.tok _, ⟨_, rfl⟩, q⟩
theorem ip_sub : PIp X .Sub (ipI fun i j => i - j) := by
  intro pins s σ H x y v u Q I r1 r2 h
  obtain ⟨i, j, e1, e2, q⟩ := h
  subst e1; subst e2
  obtain ⟨t, rfl⟩ := r1
  obtain ⟨t', rfl⟩ := r2
  exact isub_int ⟨.int _, H, I.tok _, ⟨_, rfl⟩, q⟩
end

/-! ### while -/
section
variable {X : Cx} {pos : Pos}
/-- the invariant W with its measure -/
def tWhile (c : TT) (tb : TS) : TS := fun D σ H => ∃ W : Nat → St → Hp → Prop, (∃ m, W m σ H) ∧ ∀ m σ H, W m σ H →
  c σ H fun b H1 => if b = true then ∃ N : St → Hp → Prop, (∀ σ' H', N σ' H' → ∃ m', m' < m ∧ W m' σ' H') ∧ tb { D with nx := N, ct := N, bk := D.nx } σ H1 else D.nx σ H1
theorem ps_while {c : Expr} {body : List Stmt} {tc : TT} {tb : TS} (hp : PassesOwn (model X.prog X.w) X.A X.env X.xe) (hc : PT X c tc) (hb : PSs X body tb) : PS X (.While c body [] pos) (tWhile tc tb) := by
  intro pins s σ H D I h
  obtain ⟨W, ⟨m0, w0⟩, turn⟩ := h
  refine wpAny_While (codeAny_whileLoop (fun n s' => ∃ σ' H', Inv X pins σ' H' s' ∧ W n σ' H') ?_ m0 ⟨σ, H, I, w0⟩)
  rintro n s1 ⟨σ1, H1, I1, w1⟩
  refine wpAny_passesOwn hp (thn (hc pins s1 σ1 H1 _ I1 (turn n σ1 H1 w1)) fun b s2 ⟨H2, I2, q2⟩ => ?_)
  cases b with
  | true =>
    obtain ⟨N, hN, q2⟩ := q2
    rw [if_pos rfl]
    refine wpAny_passesOwn hp (thn (hb pins s2 σ1 H2 _ I2 q2) fun f s3 q3 => ?_)
    cases f with
    | next =>
      obtain ⟨σ3, H3, I3, n3⟩ := q3
      obtain ⟨m', hm, w3⟩ := hN σ3 H3 n3
      exact ⟨m', hm, σ3, H3, I3, w3⟩
    | cont =>
      obtain ⟨σ3, H3, I3, n3⟩ := q3
      obtain ⟨m', hm, w3⟩ := hN σ3 H3 n3
      exact ⟨m', hm, σ3, H3, I3, w3⟩
    | brk => exact q3
    | ret v => exact q3
  | false =>
    rw [if_neg Bool.false_ne_true]
    exact wpAny_execs_nil ⟨σ1, H2, I2, q2⟩
end

/-! ### what a loop or a comprehension walks -/
/-- at turn i: it yields x (the heap may grow), or it stops -/
structure It where
  go : Nat → Hp → Prop
  yld : Nat → Hp → V → Hp → Prop
  stop : Nat → Hp → Prop
/-- the iterator's own objects may turn: they are not the frame's, not pinned, younger than the entry (or a comprehension's own) -/
def FpOk (X : Cx) (pins : List (Addr × Obj)) (H : Hp) (b : Addr) : Prop :=
  H b = none ∧ b ≠ X.env.locals ∧ b ∉ X.fs ∧ (b ∈ X.ex ∨ X.s₀.heap.objs.size ≤ b) ∧ (∀ x c, X.env.cells.lookup x = some c → c ≠ b) ∧ ∀ p ∈ X.pn ++ pins, p.1 ≠ b
theorem Inv.fpOk {X : Cx} {pins : List (Addr × Obj)} {σ : St} {H H' : Hp} {s : Shared} {b : Addr} (I : Inv X pins σ H s) (hb : s.heap.objs.size ≤ b) (hn : H' b = none) : FpOk X pins H' b := by
  refine ⟨hn, Nat.ne_of_gt (Nat.lt_of_lt_of_le I.lt hb), I.nofs hb, .inr (Nat.le_trans I.sz hb), fun x c e z => ?_, fun p hp z => ?_⟩
  · obtain ⟨v, q⟩ := I.cell x c e
    exact absurd (Nat.lt_of_lt_of_le q.lt (by rw [z]; exact hb)) (Nat.lt_irrefl _)
  · exact absurd (Nat.lt_of_lt_of_le (Heap.lt_size (I.pin p hp).1) (by rw [z]; exact hb)) (Nat.lt_irrefl _)
structure Turn (P : Program) (w : World) (K : PySem.W.Frag) (tg : Expr) (J : It) (fp : List Addr) (it : Addr) (tn : Nat → Heap → Prop) : Prop where
  mem : it ∈ fp
  obj : ∀ i h, tn i h → ∀ b ∈ fp, ∃ o, h.get? b = some o ∧ ∀ v, o.data ≠ .cell v
  keep : ∀ i h h', tn i h → (∀ b ∈ fp, ∀ o, h.get? b = some o → h'.get? b = some o) → tn i h'
  item : ∀ (X : Cx), X.prog = P → X.w = w → X.K = K → X.calm = true → ∀ (i : Nat) (pins : List (Addr × Obj)) (s : Shared) (σ : St) (H : Hp) (E : Value → Shared → Prop), Inv X pins σ H s → (∀ b ∈ fp, FpOk X pins H b) → tn i s.heap → J.go i H →
    wpAny (model P w) X.A (pyNext (.ref it)) (fun r s1 => ∃ u, r = some u ∧
      wpAny (model P w) X.A (letOwnedTupleGo tg (.ref it) u) (fun _ s2 => ∃ x H', Inv X pins σ H' s2 ∧ RelV x u ∧ J.yld i H x H' ∧ tn (i + 1) s2.heap ∧ ∀ b ∈ fp, H' b = none) E s1) E s
  done : ∀ (X : Cx), X.prog = P → X.w = w → X.K = K → X.calm = true → ∀ (i : Nat) (pins : List (Addr × Obj)) (s : Shared) (σ : St) (H : Hp) (E : Value → Shared → Prop), Inv X pins σ H s → (∀ b ∈ fp, FpOk X pins H b) → tn i s.heap → J.stop i H →
    wpAny (model P w) X.A (pyNext (.ref it)) (fun r s1 => r = none ∧ Inv X pins σ H s1) E s
  self : ∀ (A : Around) (i : Nat) (s : Shared) (Q : Value → Shared → Prop) (E : Value → Shared → Prop), tn i s.heap → Q (.ref it) s → wpAny (model P w) A (pyIter (.ref it)) Q E s
abbrev TI := St → Hp → (It → Hp → Prop) → Prop
/-- an iterator has come -/
def PIE (X : Cx) (pins : List (Addr × Obj)) (σ : St) (tg : Expr) (R : It → Hp → Prop) (itv : Value) (s2 : Shared) : Prop :=
  ∃ (it : Addr) (fp : List Addr) (tn : Nat → Heap → Prop) (J : It) (H' : Hp), itv = .ref it ∧ Inv X pins σ H' s2 ∧ Turn X.prog X.w X.K tg J fp it tn ∧ tn 0 s2.heap ∧ (∀ b ∈ fp, FpOk X pins H' b) ∧ R J H'
def PI (X : Cx) (tg iter : Expr) (wi : TI) : Prop :=
  ∀ (pins : List (Addr × Obj)) (s : Shared) (σ : St) (H : Hp) (R : It → Hp → Prop), Inv X pins σ H s → wi σ H R →
    wpAny (model X.prog X.w) X.A (eval iter X.env) (fun v s1 => wpAny (model X.prog X.w) X.A (pyIter v) (PIE X pins σ tg R) X.xe s1) X.xe s

/-- the step ahead of the store is nothing for an iterator that keeps no tuple -/
theorem go_of {M : Model} {A : Around} {E : Value → Shared → Prop} {s : Shared} {tg : Expr} {it : Addr} {u : Value} {o : Obj} {n : String} {vs : Array Value} {Q : Unit → Shared → Prop} (ho : s.heap.get? it = some o) (hc : o.cls = .type n) (hd : o.data = .fields vs)
    (hn : ["enumerate", "zip", "dict_itemiterator", "dict_reverseitemiterator", "odict_iterator", "itertools.zip_longest", "itertools.pairwise"].contains n = false) (hQ : Q () s) : wpAny M A (letOwnedTupleGo tg (.ref it) u) Q E s := by
  unfold letOwnedTupleGo
  cases tg <;> first
    | exact wpAny_pure hQ
    | (cases u <;> first
        | exact wpAny_pure hQ
        | (refine wpAny_bind (wpAny_load ho ?_)
           rw [hc, hd]
           show wpAny M A (if (["enumerate", "zip", "dict_itemiterator", "dict_reverseitemiterator", "odict_iterator", "itertools.zip_longest", "itertools.pairwise"].contains n && vs[0]? == some (rawInt _)) = true then _ else _) Q E s
           rw [if_neg (by intro h; rw [hn, Bool.false_and] at h; cases h)]
           exact wpAny_pure hQ))

/-- the list at a, as it stands at each turn (a loop may append to it) -/
def Itl (K : PySem.W.Frag) (a : Addr) : It :=
  ⟨fun i H => ∃ xs x, SqL K H a xs ∧ xs[i]? = some x, fun i H x H' => H' = H ∧ ∀ xs, SqL K H a xs → xs[i]? = some x, fun i H => ∃ xs, SqL K H a xs ∧ xs.length ≤ i⟩
def Itt (K : PySem.W.Frag) (a : Addr) : It :=
  ⟨fun i H => ∃ xs x, SqT K H a xs ∧ xs[i]? = some x, fun i H x H' => H' = H ∧ ∀ xs, SqT K H a xs → xs[i]? = some x, fun i H => ∃ xs, SqT K H a xs ∧ xs.length ≤ i⟩
/-- lo, lo + 1, .. (n of them) -/
def Itr (lo : Int) (n : Nat) : It := ⟨fun i _ => i < n, fun i H x H' => H' = H ∧ x = .int (lo + i), fun i _ => n ≤ i⟩
theorem turn_list {P : Program} {w : World} {K : PySem.W.Frag} {tg : Expr} (a it : Addr) : Turn P w K tg (Itl K a) [it] it (fun i h => h.IsListIter it a i) where
  mem := by simp
  obj := fun i h st b hb => by
    have e : b = it := by simpa using hb
    subst e
    obtain ⟨o, e, c, d⟩ := st
    exact ⟨o, e, fun v z => by rw [d] at z; cases z⟩
  keep := fun i h h' st k => st.at fun o e => k it (by simp) o e
  item := by
    intro X hP hw hK hc i pins s σ H E I hf st hg
    subst hP hw hK
    obtain ⟨xs, x, hq, hx⟩ := hg
    obtain ⟨its, rv, p, hz⟩ := I.list hq
    obtain ⟨u, hu, ru⟩ := rv.get hx
    obtain ⟨f0, f1, f2, f3, f4, f5⟩ := hf it (by simp)
    refine wpAny_pyNext_list_item st p.isList (x := u) (by simpa using hu) fun h' st' sb => ?_
    have I1 : Inv X pins σ H { s with heap := h' } := I.turned (t' := s.toks) (fun b o hb e => (sb.2 b hb).trans e) f0 f1 f3 f4 f5
    obtain ⟨o, e, c, d⟩ := id st'
    exact ⟨u, rfl, go_of (s := { s with heap := h' }) e c d (by decide) ⟨x, H, I1, ru, ⟨rfl, fun ys hy => by rw [I.list_inj hy hq]; exact hx⟩, st', fun b hb => (hf b hb).1⟩⟩
  done := by
    intro X hP hw hK hc i pins s σ H E I hf st hg
    subst hP hw hK
    obtain ⟨xs, hq, hx⟩ := hg
    obtain ⟨its, rv, p, hz⟩ := I.list hq
    obtain ⟨f0, f1, f2, f3, f4, f5⟩ := hf it (by simp)
    have hl := rv.length
    exact wpAny_pyNext_list_end (I.ok.hd hc) st p.isList (by simp; omega) fun h' eb => ⟨rfl, I.turned (t' := s.toks) (fun b o hb e => eb b o hb e) f0 f1 f3 f4 f5⟩
  self := fun _ _ _ _ _ st h => wpAny_pyIter_listiter st h
theorem turn_tuple {P : Program} {w : World} {K : PySem.W.Frag} {tg : Expr} (a it : Addr) : Turn P w K tg (Itt K a) [it] it (fun i h => h.IsTupleIter it a i) where
  mem := by simp
  obj := fun i h st b hb => by
    have e : b = it := by simpa using hb
    subst e
    obtain ⟨o, e, c, d⟩ := st
    exact ⟨o, e, fun v z => by rw [d] at z; cases z⟩
  keep := fun i h h' st k => st.at fun o e => k it (by simp) o e
  item := by
    intro X hP hw hK hc i pins s σ H E I hf st hg
    subst hP hw hK
    obtain ⟨xs, x, hq, hx⟩ := hg
    obtain ⟨its, rv, p, hz⟩ := I.tuple hq
    obtain ⟨u, hu, ru⟩ := rv.get hx
    obtain ⟨f0, f1, f2, f3, f4, f5⟩ := hf it (by simp)
    refine wpAny_pyNext_tuple_item st (show s.heap.IsTuple a its.toArray from p) (x := u) (by simpa using hu) fun h' st' sb => ?_
    have I1 : Inv X pins σ H { s with heap := h' } := I.turned (t' := s.toks) (fun b o hb e => (sb.2 b hb).trans e) f0 f1 f3 f4 f5
    obtain ⟨o, e, c, d⟩ := id st'
    exact ⟨u, rfl, go_of (s := { s with heap := h' }) e c d (by decide) ⟨x, H, I1, ru, ⟨rfl, fun ys hy => by rw [I.tuple_inj hy hq]; exact hx⟩, st', fun b hb => (hf b hb).1⟩⟩
  done := by
    intro X hP hw hK hc i pins s σ H E I hf st hg
    subst hP hw hK
    obtain ⟨xs, hq, hx⟩ := hg
    obtain ⟨its, rv, p, hz⟩ := I.tuple hq
    obtain ⟨f0, f1, f2, f3, f4, f5⟩ := hf it (by simp)
    have hl := rv.length
    exact wpAny_pyNext_tuple_end (I.ok.hd hc) st (show s.heap.IsTuple a its.toArray from p) (by simp; omega) fun h' eb => ⟨rfl, I.turned (t' := s.toks) (fun b o hb e => eb b o hb e) f0 f1 f3 f4 f5⟩
  self := fun _ _ _ _ _ st h => wpAny_pyIter_tupleiter st h
theorem turn_range {P : Program} {w : World} {K : PySem.W.Frag} {tg : Expr} (it : Addr) (lo : Int) (n : Nat) : Turn P w K tg (Itr lo n) [it] it (fun i h => IsRangeIter h it (lo + (i : Nat) * 1) ((n : Int) - (i : Nat)) 1) where
  mem := by simp
  obj := fun i h st b hb => by
    have e : b = it := by simpa using hb
    subst e
    exact ⟨_, st, fun v z => by
      have z' : Data.fields _ = Data.cell v := z
      cases z'⟩
  keep := fun i h h' st k => k it (by simp) _ st
  item := by
    intro X hP hw hK hc i pins s σ H E I hf st hg
    subst hP hw hK
    obtain ⟨f0, f1, f2, f3, f4, f5⟩ := hf it (by simp)
    have W := Walks.range (prog := X.prog) (w := X.w) (I.ok.hd hc) it lo 1 n
    refine W.item i s _ _ hg st fun v h' tk hv st' kk => ?_
    obtain ⟨t, rfl⟩ := hv
    have I1 : Inv X pins σ H { s with heap := h', toks := tk } := I.turned (fun b o hb e => kk b o (by simpa using hb) e) f0 f1 f3 f4 f5
    refine ⟨_, rfl, go_of (s := { s with heap := h', toks := tk }) (n := "range_iterator") st' rfl rfl (by decide) ⟨.int (lo + i), H, I1, ⟨t, ?_⟩, ⟨rfl, rfl⟩, st', fun b hb => (hf b hb).1⟩⟩
    rw [Int.mul_one]
  done := by
    intro X hP hw hK hc i pins s σ H E I hf st hg
    subst hP hw hK
    obtain ⟨f0, f1, f2, f3, f4, f5⟩ := hf it (by simp)
    exact wpAny_pyNext_range_end (I.ok.hd hc) st (by have : n ≤ i := hg; omega) fun h' eb => ⟨rfl, I.turned (t' := s.toks) (fun b o hb e => eb b o hb e) f0 f1 f3 f4 f5⟩
  self := fun _ _ _ _ _ st h => wpAny_pyIter_rangeiter st h
end L2

namespace L2
open PySem PySem.Spec PyProof.Rows
section
variable {X : Cx} {tg : Expr}
def iList (K : PySem.W.Frag) (tl : TE) : TI := fun σ H R => tl σ H fun x H1 => ∃ a, x = .ref a ∧ (∃ xs, SqL K H1 a xs) ∧ R (Itl K a) H1
def iTup (K : PySem.W.Frag) (tl : TE) : TI := fun σ H R => tl σ H fun x H1 => ∃ a, x = .ref a ∧ (∃ xs, SqT K H1 a xs) ∧ R (Itt K a) H1
theorem pi_list {l : Expr} {tl : TE} (hl : PE X l tl) : PI X tg l (iList X.K tl) := by
  intro pins s σ H R I h
  refine thn (hl pins s σ H _ I h) fun v s1 ⟨x, H1, I1, r1, q1⟩ => ?_
  obtain ⟨a, e, ⟨xs, hq⟩, q⟩ := q1
  subst e
  cases r1
  obtain ⟨its, rv, p, hz⟩ := I1.list hq
  refine wpAny_pyIter_list p.isList ?_
  refine ⟨s1.heap.objs.size, [s1.heap.objs.size], _, _, H1, rfl, I1.kept (t' := s1.toks) fun b o e => Heap.get?_push_of_some _ e, turn_list a _, ⟨_, Heap.get?_push_size _ rfl, rfl, rfl⟩, fun b hb => ?_, q⟩
  have e : b = s1.heap.objs.size := by simpa using hb
  subst e
  exact I1.fpOk (Nat.le_refl _) (I1.hok.fresh (Nat.le_refl _))
theorem pi_tup {l : Expr} {tl : TE} (hl : PE X l tl) : PI X tg l (iTup X.K tl) := by
  intro pins s σ H R I h
  refine thn (hl pins s σ H _ I h) fun v s1 ⟨x, H1, I1, r1, q1⟩ => ?_
  obtain ⟨a, e, ⟨xs, hq⟩, q⟩ := q1
  subst e
  cases r1
  obtain ⟨its, rv, p, hz⟩ := I1.tuple hq
  refine wpAny_pyIter_tuple (show s1.heap.IsTuple a its.toArray from p) ?_
  refine ⟨s1.heap.objs.size, [s1.heap.objs.size], _, _, H1, rfl, I1.kept (t' := s1.toks) fun b o e => Heap.get?_push_of_some _ e, turn_tuple a _, ⟨_, Heap.get?_push_size _ rfl, rfl, rfl⟩, fun b hb => ?_, q⟩
  have e : b = s1.heap.objs.size := by simpa using hb
  subst e
  exact I1.fpOk (Nat.le_refl _) (I1.hok.fresh (Nat.le_refl _))
/-- a range object just made, walked -/
theorem range_it {pins : List (Addr × Obj)} {σ : St} {H : Hp} {s : Shared} {R : It → Hp → Prop} {E : Value → Shared → Prop} {lo hi : Int} {t u v : Tok} {tk : Nat} (I : Inv X pins σ H s) (h1 : -(2 ^ 62) ≤ lo) (h2 : lo < 2 ^ 62) (h3 : -(2 ^ 62) ≤ hi) (h4 : hi < 2 ^ 62)
    (q : R (Itr lo (hi - lo).toNat) H) : wpAny (model X.prog X.w) X.A (pyIter (.ref s.heap.objs.size)) (PIE X pins σ tg R) E { s with heap := s.heap.push { cls := .type "range", data := .fields #[.int lo t, .int hi u, .int 1 v] }, toks := tk } := by
  refine wpAny_pyIter_range (IsRange.new ..) (small_one h1 h2 h3 h4) ?_
  have I1 : Inv X pins σ H { s with heap := s.heap.push { cls := .type "range", data := .fields #[.int lo t, .int hi u, .int 1 v] }, toks := tk } := I.kept fun b o e => Heap.get?_push_of_some _ e
  refine ⟨(s.heap.push { cls := .type "range", data := .fields #[.int lo t, .int hi u, .int 1 v] }).objs.size, [(s.heap.push { cls := .type "range", data := .fields #[.int lo t, .int hi u, .int 1 v] }).objs.size], _, _, H, rfl,
    I1.kept (t' := tk) fun b o e => Heap.get?_push_of_some _ e, turn_range _ lo (hi - lo).toNat, ?_, fun b hb => ?_, q⟩
  · have e1 : lo + ((0 : Nat) : Int) * 1 = lo := by simp
    have e2 : (((hi - lo).toNat : Nat) : Int) - ((0 : Nat) : Int) = Builtin.Range.rangeSize lo hi 1 := by rw [rangeSize_one]; split <;> omega
    show IsRangeIter _ _ (lo + ((0 : Nat) : Int) * 1) ((((hi - lo).toNat : Nat) : Int) - ((0 : Nat) : Int)) 1
    rw [e1, e2]
    exact Heap.get?_push_size _ rfl
  · have e : b = (s.heap.push { cls := .type "range", data := .fields #[.int lo t, .int hi u, .int 1 v] }).objs.size := by simpa using hb
    subst e
    exact I1.fpOk (Nat.le_refl _) (I1.hok.fresh (Nat.le_refl _))
def iRng1 (ta : TA) : TI := fun σ H R => ta σ H fun vs H1 => ∃ j : Int, vs = [.int j] ∧ -(2 ^ 62) ≤ j ∧ j < 2 ^ 62 ∧ R (Itr 0 j.toNat) H1
def iRng2 (ta : TA) : TI := fun σ H R => ta σ H fun vs H1 => ∃ i j : Int, vs = [.int i, .int j] ∧ (-(2 ^ 62) ≤ i ∧ i < 2 ^ 62 ∧ -(2 ^ 62) ≤ j ∧ j < 2 ^ 62) ∧ R (Itr i (j - i).toNat) H1
theorem pi_range1 {a : Expr} {ta : TA} {p pos : Pos} (hg : Gl X "range") (hm : X.mg "range" = none) (ha : PA X [a] ta) (hs : starEach [a] X.env = [(false, eval a X.env)] := by rfl) : PI X tg (.Call (.Name "range" p) [a] [] pos) (iRng1 ta) := by
  intro pins s σ H R I h
  refine Call_ (ld_blt I hg hm boot_range (PyProof.Rows.callWith_type1 (thn (ha pos pins s σ H _ I h) fun us s1 ⟨vs, H1, I1, r1, q1⟩ => ?_) hs rfl))
  obtain ⟨j, e, q1, q2, q⟩ := q1
  subst e
  cases r1 with
  | cons r rr =>
    cases rr
    obtain ⟨t, rfl⟩ := r
    exact call_range_1 (range_it I1 (by omega) (by omega) q1 q2 (by simpa using q))
theorem pi_range2 {a b : Expr} {ta : TA} {p pos : Pos} (hg : Gl X "range") (hm : X.mg "range" = none) (ha : PA X [a, b] ta) (hs : starEach [a, b] X.env = [(false, eval a X.env), (false, eval b X.env)] := by rfl) (hs2 : starEach [b] X.env = [(false, eval b X.env)] := by rfl) :
    PI X tg (.Call (.Name "range" p) [a, b] [] pos) (iRng2 ta) := by
  intro pins s σ H R I h
  refine Call_ (ld_blt I hg hm boot_range (PyProof.Rows.callWith_type1 (thn (ha pos pins s σ H _ I h) fun us s1 ⟨vs, H1, I1, r1, q1⟩ => ?_) (by rw [hs, hs2]) (by rw [hs2]; rfl)))
  obtain ⟨i, j, e, ⟨q1, q2, q3, q4⟩, q⟩ := q1
  subst e
  cases r1 with
  | cons r rr =>
    cases rr with
    | cons r' rr =>
      cases rr
      obtain ⟨t, rfl⟩ := r
      obtain ⟨t', rfl⟩ := r'
      exact call_range_2 (range_it I1 q1 q2 q3 q4 q)

/-! ### for -/
/-- W: the invariant by the turn and a measure; N: what the body is to reach -/
def tFor (wi : TI) (g : TG) (tb : TS) : TS := fun D σ H => wi σ H fun J H1 => ∃ W : Nat → Nat → St → Hp → Prop, (∃ m, W 0 m σ H1) ∧ ∀ i m σ H, W i m σ H →
  (J.stop i H ∧ D.nx σ H) ∨ (J.go i H ∧ ∃ N : St → Hp → Prop, (∀ σ' H', N σ' H' → ∃ m', m' < m ∧ W (i + 1) m' σ' H') ∧ ∀ x H', J.yld i H x H' → g x σ H' fun σ2 H2 => tb { D with nx := N, ct := N, bk := D.nx } σ2 H2)
/-- the records at fp as they stand -/
def pinsAt (fp : List Addr) (h : Heap) : List (Addr × Obj) := fp.filterMap fun b => (h.get? b).map fun o => (b, o)
theorem mem_pinsAt {fp : List Addr} {h : Heap} {b : Addr} {o : Obj} (hb : b ∈ fp) (e : h.get? b = some o) : (b, o) ∈ pinsAt fp h := List.mem_filterMap.mpr ⟨b, hb, by rw [e]; rfl⟩
theorem of_pinsAt {fp : List Addr} {h : Heap} {p : Addr × Obj} (hp : p ∈ pinsAt fp h) : p.1 ∈ fp ∧ h.get? p.1 = some p.2 := by
  obtain ⟨b, hb, e⟩ := List.mem_filterMap.mp hp
  cases q : h.get? b with
  | none => rw [q] at e; cases e
  | some o =>
    rw [q] at e
    have e' : (b, o) = p := Option.some.inj e
    subst e'
    exact ⟨hb, q⟩
theorem Inv.pinned {pins : List (Addr × Obj)} {σ : St} {H : Hp} {s : Shared} {fp : List Addr} (I : Inv X pins σ H s) (hf : ∀ b ∈ fp, FpOk X pins H b) (ho : ∀ b ∈ fp, ∃ o, s.heap.get? b = some o ∧ ∀ v, o.data ≠ .cell v) : Inv X (pins ++ pinsAt fp s.heap) σ H s :=
  I.pins_of fun p hp => (List.mem_append.mp hp).elim (fun z => I.pin p (List.mem_append_right _ z)) fun z => by
    obtain ⟨hb, e⟩ := of_pinsAt z
    obtain ⟨f0, f1, f2, _⟩ := hf p.1 hb
    obtain ⟨o, e', d⟩ := ho p.1 hb
    rw [e] at e'; cases e'
    exact ⟨e, f0, f1, f2, d⟩
theorem Inv.unpinned {pins pl : List (Addr × Obj)} {σ : St} {H : Hp} {s : Shared} (I : Inv X (pins ++ pl) σ H s) : Inv X pins σ H s := I.pins_of fun p hp => I.pin p (List.mem_append_right _ (List.mem_append_left _ hp))
theorem ps_for {iter : Expr} {body : List Stmt} {wi : TI} {g : TG} {tb : TS} {pos : Pos} (hp : PassesOwn (model X.prog X.w) X.A X.env X.xe) (hc : X.calm = true) (hi : PI X tg iter wi) (hg : PG X tg g) (hb : PSs X body tb)
    (hs : ∀ x, foldedSetIterable iter X.env x = pure x := by intro _; rfl) : PS X (.For tg iter body [] pos) (tFor wi g tb) := by
  intro pins s σ H D I h
  refine wpAny_For (thn (hi pins s σ H _ I h) fun v s1 h1 => thn h1 fun itv s2 h2 => ?_) hs
  obtain ⟨it, fp, tn, J, H2, e, I2, T, st2, f2, W, ⟨m0, w0⟩, turn⟩ := h2
  subst e
  -- what stays true of the iterator's objects through the loop
  have stat : ∀ {H' : Hp}, (∀ b ∈ fp, H' b = none) → ∀ b ∈ fp, FpOk X pins H' b := fun hn b hb => ⟨hn b hb, (f2 b hb).2⟩
  refine codeAny_forLoop_any (fun n s' => ∃ i σ' H', Inv X pins σ' H' s' ∧ tn i s'.heap ∧ (∀ b ∈ fp, H' b = none) ∧ W i n σ' H') ?_ m0 ⟨0, σ, H2, I2, st2, fun b hb => (f2 b hb).1, w0⟩
  rintro n s3 ⟨i, σ3, H3, I3, st3, fr3, w3⟩
  rcases turn i n σ3 H3 w3 with ⟨stop, qn⟩ | ⟨go, N, hN, step⟩
  · refine wpAny_passesOwn hp (thn (T.done X rfl rfl rfl hc i pins s3 σ3 H3 X.xe I3 (stat fr3) st3 stop) fun r s4 ⟨hr, I4⟩ => ?_)
    subst hr
    exact wpAny_execs_nil ⟨σ3, H3, I4, qn⟩
  · refine wpAny_passesOwn hp (thn (T.item X rfl rfl rfl hc i pins s3 σ3 H3 X.xe I3 (stat fr3) st3 go) fun r s4 ⟨u, hr, h4⟩ => ?_)
    subst hr
    refine wpAny_passesOwn hp (thn h4 fun _ s5 ⟨x, H5, I5, r5, y5, st5, fr5⟩ => ?_)
    have I5' := I5.pinned (stat fr5) (T.obj _ _ st5)
    refine wpAny_passesOwn hp (thn (hg _ s5 σ3 H5 x u _ I5' r5 (step x H5 y5)) fun _ s6 ⟨σ6, H6, I6, q6⟩ => ?_)
    refine wpAny_passesOwn hp (thn (hb _ s6 σ6 H6 _ I6 q6) fun f s7 q7 => ?_)
    have again : ∀ {σ7 : St} {H7 : Hp}, Inv X (pins ++ pinsAt fp s5.heap) σ7 H7 s7 → N σ7 H7 → ∃ m, m < n ∧ ∃ i σ' H', Inv X pins σ' H' s7 ∧ tn i s7.heap ∧ (∀ b ∈ fp, H' b = none) ∧ W i m σ' H' := fun {σ7 H7} I7 n7 => by
      obtain ⟨m', hm, w7⟩ := hN σ7 H7 n7
      refine ⟨m', hm, i + 1, σ7, H7, I7.unpinned, T.keep _ _ _ st5 fun b hb o e => (I7.pin (b, o) (List.mem_append_right _ (List.mem_append_right _ (mem_pinsAt hb e)))).1, fun b hb => ?_, w7⟩
      obtain ⟨o, e, d⟩ := T.obj _ _ st5 b hb
      exact (I7.pin (b, o) (List.mem_append_right _ (List.mem_append_right _ (mem_pinsAt hb e)))).2.1
    cases f with
    | next => obtain ⟨σ7, H7, I7, n7⟩ := q7; exact again I7 n7
    | cont => obtain ⟨σ7, H7, I7, n7⟩ := q7; exact again I7 n7
    | brk => obtain ⟨σ7, H7, I7, q7⟩ := q7; exact ⟨σ7, H7, I7.unpinned, q7⟩
    | ret v => obtain ⟨x7, σ7, H7, I7, r7, q7⟩ := q7; exact ⟨x7, σ7, H7, I7.unpinned, r7, q7⟩
end

/-! ### the forms one uses -/
/-- over a list that the body leaves as it is -/
theorem for_list {K : PySem.W.Frag} {a : Addr} {xs : List V} {g : TG} {tb : TS} {D : Ends} {σ : St} {H : Hp} (Pv : Nat → St → Hp → Prop) (h0 : Pv 0 σ H) (hl : ∀ i σ H, i ≤ xs.length → Pv i σ H → SqL K H a xs)
    (hs : ∀ i x σ H, xs[i]? = some x → Pv i σ H → g x σ H fun σ2 H2 => tb { D with nx := Pv (i + 1), ct := Pv (i + 1), bk := D.nx } σ2 H2) (hd : ∀ σ H, Pv xs.length σ H → D.nx σ H) :
    ∃ W : Nat → Nat → St → Hp → Prop, (∃ m, W 0 m σ H) ∧ ∀ i m σ H, W i m σ H →
      ((Itl K a).stop i H ∧ D.nx σ H) ∨ ((Itl K a).go i H ∧ ∃ N : St → Hp → Prop, (∀ σ' H', N σ' H' → ∃ m', m' < m ∧ W (i + 1) m' σ' H') ∧ ∀ x H', (Itl K a).yld i H x H' → g x σ H' fun σ2 H2 => tb { D with nx := N, ct := N, bk := D.nx } σ2 H2) := by
  refine ⟨fun i m σ H => m = xs.length - i ∧ i ≤ xs.length ∧ Pv i σ H, ⟨xs.length, by simp, Nat.zero_le _, h0⟩, ?_⟩
  rintro i m σ H ⟨rfl, hi, p⟩
  have q := hl i σ H hi p
  by_cases hlt : i < xs.length
  · refine .inr ⟨⟨xs, xs[i], q, by simp [hlt]⟩, Pv (i + 1), fun σ' H' p' => ⟨xs.length - (i + 1), by omega, rfl, hlt, p'⟩, fun x H' y => ?_⟩
    obtain ⟨e, y⟩ := y
    subst e
    exact hs i x σ _ (y xs q) p
  · have e : i = xs.length := by omega
    subst e
    exact .inl ⟨⟨xs, q, Nat.le_refl _⟩, hd σ H p⟩
theorem for_tup {K : PySem.W.Frag} {a : Addr} {xs : List V} {g : TG} {tb : TS} {D : Ends} {σ : St} {H : Hp} (Pv : Nat → St → Hp → Prop) (h0 : Pv 0 σ H) (hl : ∀ i σ H, i ≤ xs.length → Pv i σ H → SqT K H a xs)
    (hs : ∀ i x σ H, xs[i]? = some x → Pv i σ H → g x σ H fun σ2 H2 => tb { D with nx := Pv (i + 1), ct := Pv (i + 1), bk := D.nx } σ2 H2) (hd : ∀ σ H, Pv xs.length σ H → D.nx σ H) :
    ∃ W : Nat → Nat → St → Hp → Prop, (∃ m, W 0 m σ H) ∧ ∀ i m σ H, W i m σ H →
      ((Itt K a).stop i H ∧ D.nx σ H) ∨ ((Itt K a).go i H ∧ ∃ N : St → Hp → Prop, (∀ σ' H', N σ' H' → ∃ m', m' < m ∧ W (i + 1) m' σ' H') ∧ ∀ x H', (Itt K a).yld i H x H' → g x σ H' fun σ2 H2 => tb { D with nx := N, ct := N, bk := D.nx } σ2 H2) := by
  refine ⟨fun i m σ H => m = xs.length - i ∧ i ≤ xs.length ∧ Pv i σ H, ⟨xs.length, by simp, Nat.zero_le _, h0⟩, ?_⟩
  rintro i m σ H ⟨rfl, hi, p⟩
  have q := hl i σ H hi p
  by_cases hlt : i < xs.length
  · refine .inr ⟨⟨xs, xs[i], q, by simp [hlt]⟩, Pv (i + 1), fun σ' H' p' => ⟨xs.length - (i + 1), by omega, rfl, hlt, p'⟩, fun x H' y => ?_⟩
    obtain ⟨e, y⟩ := y
    subst e
    exact hs i x σ _ (y xs q) p
  · have e : i = xs.length := by omega
    subst e
    exact .inl ⟨⟨xs, q, Nat.le_refl _⟩, hd σ H p⟩
theorem for_range {lo : Int} {n : Nat} {g : TG} {tb : TS} {D : Ends} {σ : St} {H : Hp} (Pv : Nat → St → Hp → Prop) (h0 : Pv 0 σ H)
    (hs : ∀ i σ H, i < n → Pv i σ H → g (.int (lo + i)) σ H fun σ2 H2 => tb { D with nx := Pv (i + 1), ct := Pv (i + 1), bk := D.nx } σ2 H2) (hd : ∀ σ H, Pv n σ H → D.nx σ H) :
    ∃ W : Nat → Nat → St → Hp → Prop, (∃ m, W 0 m σ H) ∧ ∀ i m σ H, W i m σ H →
      ((Itr lo n).stop i H ∧ D.nx σ H) ∨ ((Itr lo n).go i H ∧ ∃ N : St → Hp → Prop, (∀ σ' H', N σ' H' → ∃ m', m' < m ∧ W (i + 1) m' σ' H') ∧ ∀ x H', (Itr lo n).yld i H x H' → g x σ H' fun σ2 H2 => tb { D with nx := N, ct := N, bk := D.nx } σ2 H2) := by
  refine ⟨fun i m σ H => m = n - i ∧ i ≤ n ∧ Pv i σ H, ⟨n, by simp, Nat.zero_le _, h0⟩, ?_⟩
  rintro i m σ H ⟨rfl, hi, p⟩
  by_cases hlt : i < n
  · refine .inr ⟨hlt, Pv (i + 1), fun σ' H' p' => ⟨n - (i + 1), by omega, rfl, hlt, p'⟩, fun x H' y => ?_⟩
    obtain ⟨e, y⟩ := y
    subst e y
    exact hs i σ _ hlt p
  · have e : i = n := by omega
    subst e
    exact .inl ⟨Nat.le_refl _, hd σ H p⟩
/-- while, by a word and a measure of the state -/
theorem while_by {c : TT} {tb : TS} {D : Ends} {σ : St} {H : Hp} (Pv : St → Hp → Prop) (μ : St → Hp → Nat) (h0 : Pv σ H)
    (hs : ∀ σ H, Pv σ H → c σ H fun b H1 => if b = true then tb { D with nx := fun σ' H' => Pv σ' H' ∧ μ σ' H' < μ σ H, ct := fun σ' H' => Pv σ' H' ∧ μ σ' H' < μ σ H, bk := D.nx } σ H1 else D.nx σ H1)
    (mono : ∀ σ H Q Q', (∀ b H1, Q b H1 → Q' b H1) → c σ H Q → c σ H Q') : tWhile c tb D σ H := by
  refine ⟨fun m σ H => m = μ σ H ∧ Pv σ H, ⟨_, rfl, h0⟩, ?_⟩
  rintro m σ H ⟨rfl, p⟩
  refine mono σ H _ _ (fun b H1 q => ?_) (hs σ H p)
  cases b with
  | true => exact ⟨_, fun σ' H' ⟨p', l⟩ => ⟨_, l, rfl, p'⟩, q⟩
  | false => exact q
end L2

namespace L2
open PySem PySem.Spec PyProof.Rows

abbrev R2 := V → V → Hp → VK → Prop
/-- a two-place operation on values: f is binaryOp op, inplaceOp op or compareOp op -/
def OpR (X : Cx) (f : Value → Value → Sem Value) (r : R2) : Prop :=
  ∀ (pins : List (Addr × Obj)) (s : Shared) (σ : St) (H : Hp) (x y : V) (v u : Value) (Q : VK), Inv X pins σ H s → RelV x v → RelV y u → r x y H Q →
    wpAny (model X.prog X.w) X.A (f v u) (EP X pins σ Q) X.xe s
/-- a one-place operation -/
def UnR (X : Cx) (f : Value → Sem Value) (r : V → Hp → VK → Prop) : Prop :=
  ∀ (pins : List (Addr × Obj)) (s : Shared) (σ : St) (H : Hp) (x : V) (v : Value) (Q : VK), Inv X pins σ H s → RelV x v → r x H Q →
    wpAny (model X.prog X.w) X.A (f v) (EP X pins σ Q) X.xe s
/-- a call of a value that is known (a builtin, a type) with values -/
def CallR (X : Cx) (f : Value) (r : List V → Hp → VK → Prop) : Prop :=
  ∀ (pins : List (Addr × Obj)) (s : Shared) (σ : St) (H : Hp) (xs : List V) (us : List Value) (Q : VK), Inv X pins σ H s → Vals xs us → r xs H Q →
    wpAny (model X.prog X.w) X.A (call f us) (EP X pins σ Q) X.xe s
/-- a value's truth -/
def TruR (X : Cx) (r : V → Hp → (Bool → Hp → Prop) → Prop) : Prop :=
  ∀ (pins : List (Addr × Obj)) (s : Shared) (σ : St) (H : Hp) (x : V) (v : Value) (Q : Bool → Hp → Prop), Inv X pins σ H s → RelV x v → r x H Q →
    wpAny (model X.prog X.w) X.A (truthy v) (TP X pins σ Q) X.xe s

def tOp (r : R2) (ta tb : TE) : TE := fun σ H Q => ta σ H fun x H1 => tb σ H1 fun y H2 => r x y H2 Q
def tUn (r : V → Hp → VK → Prop) (ta : TE) : TE := fun σ H Q => ta σ H fun x H1 => r x H1 Q
/-- ints in, under C, and a value out -/
def rI (C : Int → Int → Prop) (g : Int → Int → V) : R2 := fun x y H Q => ∃ i j, x = .int i ∧ y = .int j ∧ C i j ∧ Q (g i j) H
def rI0 (g : Int → Int → V) : R2 := fun x y H Q => ∃ i j, x = .int i ∧ y = .int j ∧ Q (g i j) H
def rU (g : Int → V) : V → Hp → VK → Prop := fun x H Q => ∃ i, x = .int i ∧ Q (g i) H

section
variable {X : Cx} {a b c : Expr} {ta tb tc : TE} {pos : Pos}

theorem binT (ha : PE X a ta) (hb : PE X b tb) {pins : List (Addr × Obj)} {s : Shared} {σ : St} {H : Hp} {R : V → V → Hp → Prop} (I : Inv X pins σ H s)
    (h : ta σ H fun x H1 => tb σ H1 fun y H2 => R x y H2) {Q : Value → Shared → Prop} {f : Value → Value → Sem Value}
    (hf : ∀ v u s2 x y H2, Inv X pins σ H2 s2 → RelV x v → RelV y u → R x y H2 → wpAny (model X.prog X.w) X.A (f v u) Q X.xe s2) :
    wpAny (model X.prog X.w) X.A (eval a X.env) (fun v s₁ => wpAny (model X.prog X.w) X.A (eval b X.env) (fun u s₂ => wpAny (model X.prog X.w) X.A (f v u) Q X.xe s₂) X.xe s₁) X.xe s := by
  refine thn (ha pins s σ H _ I h) fun v s1 ⟨x, H1, I1, r1, q1⟩ => ?_
  refine thn (hb pins s1 σ H1 _ I1 q1) fun u s2 ⟨y, H2, I2, r2, q2⟩ => ?_
  exact hf v u s2 x y H2 I2 r1 r2 q2

theorem pe_op {op : Operator} {r : R2} (ho : OpR X (binaryOp op) r) (ha : PE X a ta) (hb : PE X b tb) : PE X (.BinOp a op b pos) (tOp r ta tb) := by
  intro pins s σ H Q I h
  exact wpAny_BinOp (binT ha hb I h fun v u s2 x y H2 I2 rx ry q => ho pins s2 σ H2 x y v u Q I2 rx ry q)
theorem pe_un {op : UnaryOp} {r : V → Hp → VK → Prop} (ho : UnR X (unaryOp op) r) (ha : PE X a ta) : PE X (.UnaryOp op a pos) (tUn r ta) := by
  intro pins s σ H Q I h
  exact UnaryOp_ (thn (ha pins s σ H _ I h) fun v s1 ⟨x, H1, I1, r1, q1⟩ => ho pins s1 σ H1 x v Q I1 r1 q1)
/-- a op= e at a name: the name's slot i -/
theorem augR {op : Operator} {r : R2} (ho : OpR X (inplaceOp op) r) {pins : List (Addr × Obj)} {s : Shared} {σ : St} {H : Hp} {x y : V} {v u : Value} {Q : VK} (I : Inv X pins σ H s)
    (rx : RelV x v) (ry : RelV y u) (q : r x y H Q) : wpAny (model X.prog X.w) X.A (inplaceOp op v u) (EP X pins σ Q) X.xe s := ho pins s σ H x y v u Q I rx ry q

/-! ### ints -/
theorem opI {f : Value → Value → Sem Value} {C : Int → Int → Prop} {g : Int → Int → Int}
    (rule : ∀ (i j : Int) (t u : Tok) (s : Shared) (Q : Value → Shared → Prop) (E : Value → Shared → Prop), C i j → Q (.int (g i j) s.toks) { s with toks := s.toks + 1 } → wpAny (model X.prog X.w) X.A (f (.int i t) (.int j u)) Q E s) :
    OpR X f (rI C fun i j => .int (g i j)) := by
  intro pins s σ H x y v u Q I rx ry h
  obtain ⟨i, j, rfl, rfl, hc, q⟩ := h
  obtain ⟨t, rfl⟩ := rx
  obtain ⟨t', rfl⟩ := ry
  exact rule i j t t' s _ _ hc ⟨.int (g i j), H, I.tok _, ⟨_, rfl⟩, q⟩
theorem opI0 {f : Value → Value → Sem Value} {g : Int → Int → Int}
    (rule : ∀ (i j : Int) (t u : Tok) (s : Shared) (Q : Value → Shared → Prop) (E : Value → Shared → Prop), Q (.int (g i j) s.toks) { s with toks := s.toks + 1 } → wpAny (model X.prog X.w) X.A (f (.int i t) (.int j u)) Q E s) :
    OpR X f (rI0 fun i j => .int (g i j)) := by
  intro pins s σ H x y v u Q I rx ry h
  obtain ⟨i, j, rfl, rfl, q⟩ := h
  obtain ⟨t, rfl⟩ := rx
  obtain ⟨t', rfl⟩ := ry
  exact rule i j t t' s _ _ ⟨.int (g i j), H, I.tok _, ⟨_, rfl⟩, q⟩
theorem opB0 {f : Value → Value → Sem Value} {g : Int → Int → Bool}
    (rule : ∀ (i j : Int) (t u : Tok) (s : Shared) (Q : Value → Shared → Prop) (E : Value → Shared → Prop), Q (.bool (g i j)) s → wpAny (model X.prog X.w) X.A (f (.int i t) (.int j u)) Q E s) :
    OpR X f (rI0 fun i j => .bl (g i j)) := by
  intro pins s σ H x y v u Q I rx ry h
  obtain ⟨i, j, rfl, rfl, q⟩ := h
  obtain ⟨t, rfl⟩ := rx
  obtain ⟨t', rfl⟩ := ry
  exact rule i j t t' s _ _ ⟨.bl (g i j), H, I, rfl, q⟩

def CDiv (i j : Int) : Prop := 0 < j ∧ j < 1073741824
def CDivN (i j : Int) : Prop := j ≠ 0 ∧ j.natAbs < 1073741824
def CPow (i j : Int) : Prop := 0 ≤ j ∧ j ≤ 1000000 ∧ i.natAbs < 2 ^ 64
def CMul (i j : Int) : Prop := (-(2 ^ 64) < i ∧ i < 2 ^ 64) ∨ (-(2 ^ 64) < j ∧ j < 2 ^ 64)
theorem CMul.ok {i j : Int} (h : CMul i j) : IntMulOk i j := by
  rcases h with ⟨h1, h2⟩ | ⟨h1, h2⟩
  · exact .of_left (intBits_le_64 h1 h2)
  · exact .of_right (intBits_le_64 h1 h2)
theorem two_pow_nn (k : Nat) : (0 : Int) ≤ 2 ^ k := by
  rw [two_pow_cast]
  exact Int.natCast_nonneg _

theorem op_add : OpR X (binaryOp .Add) (rI0 fun i j => .int (i + j)) := opI0 fun _ _ _ _ _ _ _ q => add_int q
theorem op_sub : OpR X (binaryOp .Sub) (rI0 fun i j => .int (i - j)) := opI0 fun _ _ _ _ _ _ _ q => sub_int q
theorem op_mul : OpR X (binaryOp .Mult) (rI CMul fun i j => .int (i * j)) := opI fun _ _ _ _ _ _ _ hc q => mul_int q hc.ok
/-- // by a positive divisor -/
theorem op_fdiv : OpR X (binaryOp .FloorDiv) (rI CDiv fun i j => .int (i / j)) := opI fun i j _ _ _ _ _ hc q => by
  have h1 : (0 : Int) < j := hc.1
  have h2 : j < 1073741824 := hc.2
  exact floordiv_int (by omega) (by rw [Int.fdiv_eq_ediv_of_nonneg i (by omega)]; exact q) (.inl (PyProof.noPylong_small (by omega)))
theorem op_fdivN : OpR X (binaryOp .FloorDiv) (rI CDivN fun i j => .int (i.fdiv j)) := opI fun _ _ _ _ _ _ _ hc q => floordiv_int hc.1 q (.inl (PyProof.noPylong_small hc.2))
/-- % by a positive divisor of any size -/
theorem op_mod : OpR X (binaryOp .Mod) (rI (fun _ j => 0 < j) fun i j => .int (i % j)) := opI fun i j _ _ _ _ _ hc q => by
  have h1 : (0 : Int) < j := hc
  exact mod_int' (by omega) (by rw [Int.fmod_eq_emod_of_nonneg i (by omega)]; exact q)
theorem op_modN : OpR X (binaryOp .Mod) (rI (fun _ j => j ≠ 0) fun i j => .int (i.fmod j)) := opI fun _ _ _ _ _ _ _ hc q => mod_int' hc q
theorem op_pow : OpR X (binaryOp .Pow) (rI CPow fun i j => .int (i ^ j.toNat)) := opI fun _ _ _ _ _ _ _ hc q => pow_int_small hc.1 hc.2.1 hc.2.2 q
theorem op_shl : OpR X (binaryOp .LShift) (rI CPow fun i j => .int (i * 2 ^ j.toNat)) := opI fun _ _ _ _ _ _ _ hc q => lshift_int_small hc.1 hc.2.1 hc.2.2 q
theorem op_shr : OpR X (binaryOp .RShift) (rI (fun _ j => 0 ≤ j) fun i j => .int (i / 2 ^ j.toNat)) := opI fun i j _ _ _ _ _ hc q =>
  rshift_int hc (by rw [Int.fdiv_eq_ediv_of_nonneg i (two_pow_nn _)]; exact q)
theorem op_and : OpR X (binaryOp .BitAnd) (rI0 fun i j => .int (Builtin.bitAnd i j)) := opI0 fun _ _ _ _ _ _ _ q => and_int q
theorem op_or : OpR X (binaryOp .BitOr) (rI0 fun i j => .int (Builtin.bitOr i j)) := opI0 fun _ _ _ _ _ _ _ q => or_int q
theorem op_xor : OpR X (binaryOp .BitXor) (rI0 fun i j => .int (Builtin.bitXor i j)) := opI0 fun _ _ _ _ _ _ _ q => xor_int q

theorem iop_add : OpR X (inplaceOp .Add) (rI0 fun i j => .int (i + j)) := opI0 fun _ _ _ _ _ _ _ q => iadd_int q
theorem iop_sub : OpR X (inplaceOp .Sub) (rI0 fun i j => .int (i - j)) := opI0 fun _ _ _ _ _ _ _ q => isub_int q
theorem iop_mul : OpR X (inplaceOp .Mult) (rI CMul fun i j => .int (i * j)) := opI fun _ _ _ _ _ _ _ hc q => imul_int q hc.ok
theorem iop_fdiv : OpR X (inplaceOp .FloorDiv) (rI CDiv fun i j => .int (i / j)) := opI fun i j _ _ _ _ _ hc q => by
  have h1 : (0 : Int) < j := hc.1
  have h2 : j < 1073741824 := hc.2
  exact ifloordiv_int (by omega) (by rw [Int.fdiv_eq_ediv_of_nonneg i (by omega)]; exact q) (.inl (PyProof.noPylong_small (by omega)))
theorem iop_mod : OpR X (inplaceOp .Mod) (rI (fun _ j => 0 < j) fun i j => .int (i % j)) := opI fun i j _ _ _ _ _ hc q => by
  have h1 : (0 : Int) < j := hc
  exact imod_int (by omega) (by rw [Int.fmod_eq_emod_of_nonneg i (by omega)]; exact q)
theorem iop_shl : OpR X (inplaceOp .LShift) (rI CPow fun i j => .int (i * 2 ^ j.toNat)) := opI fun _ _ _ _ _ _ _ hc q => ilshift_int_small hc.1 hc.2.1 hc.2.2 q
theorem iop_shr : OpR X (inplaceOp .RShift) (rI (fun _ j => 0 ≤ j) fun i j => .int (i / 2 ^ j.toNat)) := opI fun i j _ _ _ _ _ hc q =>
  irshift_int hc (by rw [Int.fdiv_eq_ediv_of_nonneg i (two_pow_nn _)]; exact q)
theorem iop_and : OpR X (inplaceOp .BitAnd) (rI0 fun i j => .int (Builtin.bitAnd i j)) := opI0 fun _ _ _ _ _ _ _ q => iand_int q
theorem iop_or : OpR X (inplaceOp .BitOr) (rI0 fun i j => .int (Builtin.bitOr i j)) := opI0 fun _ _ _ _ _ _ _ q => ior_int q
theorem iop_xor : OpR X (inplaceOp .BitXor) (rI0 fun i j => .int (Builtin.bitXor i j)) := opI0 fun _ _ _ _ _ _ _ q => ixor_int q

theorem unI {f : Value → Sem Value} {g : Int → Int}
    (rule : ∀ (i : Int) (t : Tok) (s : Shared) (Q : Value → Shared → Prop) (E : Value → Shared → Prop), Q (.int (g i) s.toks) { s with toks := s.toks + 1 } → wpAny (model X.prog X.w) X.A (f (.int i t)) Q E s) :
    UnR X f (rU fun i => .int (g i)) := by
  intro pins s σ H x v Q I rx h
  obtain ⟨i, rfl, q⟩ := h
  obtain ⟨t, rfl⟩ := rx
  exact rule i t s _ _ ⟨.int (g i), H, I.tok _, ⟨_, rfl⟩, q⟩
theorem un_neg : UnR X (unaryOp .USub) (rU fun i => .int (-i)) := unI fun _ _ _ _ _ q => neg_int q
theorem un_inv : UnR X (unaryOp .Invert) (rU fun i => .int (Builtin.bitNot i)) := unI fun _ _ _ _ _ q => invert_int q

/-! ### bools among ints: n += (a < b) -/
theorem op_add_ib : OpR X (binaryOp .Add) (fun x y H Q => ∃ i k, x = .int i ∧ y = .bl k ∧ Q (.int (i + b2i k)) H) := by
  intro pins s σ H x y v u Q I rx ry h
  obtain ⟨i, k, rfl, rfl, q⟩ := h
  obtain ⟨t, rfl⟩ := rx
  cases ry
  exact add_int_bool ⟨.int (i + b2i k), H, I.tok _, ⟨_, rfl⟩, q⟩
end

/-! ### comparisons -/
/-- the scalars that == tells apart as data does -/
def scal : V → V → Bool
  | .non, .non => true | .non, .int _ => true | .int _, .non => true | .non, .bl _ => true | .bl _, .non => true | .non, .str _ => true | .str _, .non => true
  | .int _, .int _ => true | .bl _, .bl _ => true | .str _, .str _ => true | .byt _, .byt _ => true
  | .int _, .str _ => true | .str _, .int _ => true | .bl _, .str _ => true | .str _, .bl _ => true
  | _, _ => false
def rEq : R2 := fun x y H Q => scal x y = true ∧ Q (.bl (decide (x = y))) H
def rNe : R2 := fun x y H Q => scal x y = true ∧ Q (.bl (!decide (x = y))) H

theorem dec_int {i j : Int} : decide (V.int i = V.int j) = (i == j) := by
  rw [Bool.eq_iff_iff]
  simp
theorem dec_bl {i j : Bool} : decide (V.bl i = V.bl j) = (i == j) := by
  rw [Bool.eq_iff_iff]
  simp
theorem dec_str {i j : Str} : decide (V.str i = V.str j) = (i == j) := by
  rw [Bool.eq_iff_iff]
  simp
theorem dec_byt {i j : Array UInt8} : decide (V.byt i = V.byt j) = (i.toList == j.toList) := by
  rw [Bool.eq_iff_iff]
  cases i
  cases j
  simp

section
variable {X : Cx} {a b c : Expr} {ta tb tc : TE} {pos : Pos}
theorem fin_bl {pins : List (Addr × Obj)} {σ : St} {H : Hp} {s : Shared} {Q : VK} {k k' : Bool} (I : Inv X pins σ H s) (q : Q (.bl k) H) (e : k = k') : EP X pins σ Q (.bool k') s := by
  subst e
  exact ⟨.bl k, H, I, rfl, q⟩
theorem op_eq : OpR X (compareOp .Eq) rEq := by
  intro pins s σ H x y v u Q I rx ry h
  obtain ⟨hs, q⟩ := h
  cases x with
  | non =>
    cases rx
    cases y with
    | non => cases ry; exact PySem.EqNone.eq_none_none (fin_bl I q (by simp))
    | bl j => cases ry; exact PySem.EqNone.eq_none_bool (fin_bl I q (by simp))
    | int j => obtain ⟨t', rfl⟩ := ry; exact PySem.EqNone.eq_none_int (fin_bl I q (by simp))
    | str j => obtain ⟨t', rfl⟩ := ry; exact PySem.EqNone.eq_none_str (fin_bl I q (by simp))
    | _ => exact absurd (show false = true from hs) Bool.false_ne_true
  | bl i =>
    cases rx
    cases y with
    | non => cases ry; exact PySem.EqNone.eq_bool_none (fin_bl I q (by simp))
    | bl j => cases ry; exact eq_bool (fin_bl I q dec_bl)
    | str j => obtain ⟨t', rfl⟩ := ry; exact PySem.EqMixed.eq_bool_str (fin_bl I q (by simp))
    | _ => exact absurd (show false = true from hs) Bool.false_ne_true
  | int i =>
    obtain ⟨t, rfl⟩ := rx
    cases y with
    | non => cases ry; exact PySem.EqNone.eq_int_none (fin_bl I q (by simp))
    | int j => obtain ⟨t', rfl⟩ := ry; exact eq_int (fin_bl I q dec_int)
    | str j => obtain ⟨t', rfl⟩ := ry; exact PySem.EqMixed.eq_int_str (fin_bl I q (by simp))
    | _ => exact absurd (show false = true from hs) Bool.false_ne_true
  | str i =>
    obtain ⟨t, rfl⟩ := rx
    cases y with
    | non => cases ry; exact PySem.EqNone.eq_str_none (fin_bl I q (by simp))
    | bl j => cases ry; exact PySem.EqMixed.eq_str_bool (fin_bl I q (by simp))
    | int j => obtain ⟨t', rfl⟩ := ry; exact PySem.EqMixed.eq_str_int (fin_bl I q (by simp))
    | str j => obtain ⟨t', rfl⟩ := ry; exact eq_str (fin_bl I q dec_str)
    | _ => exact absurd (show false = true from hs) Bool.false_ne_true
  | byt i =>
    obtain ⟨t, rfl⟩ := rx
    cases y with
    | byt j => obtain ⟨t', rfl⟩ := ry; exact PySem.W.eq_bytes (fin_bl I q dec_byt)
    | _ => exact absurd (show false = true from hs) Bool.false_ne_true
  | _ => cases y <;> exact absurd (show false = true from hs) Bool.false_ne_true
theorem op_ne : OpR X (compareOp .NotEq) rNe := by
  intro pins s σ H x y v u Q I rx ry h
  obtain ⟨hs, q⟩ := h
  cases x with
  | non =>
    cases rx
    cases y with
    | non => cases ry; exact PySem.EqNone.ne_none_none (fin_bl I q (by simp))
    | bl j => cases ry; exact PySem.EqNone.ne_none_bool (fin_bl I q (by simp))
    | int j => obtain ⟨t', rfl⟩ := ry; exact PySem.EqNone.ne_none_int (fin_bl I q (by simp))
    | str j => obtain ⟨t', rfl⟩ := ry; exact PySem.EqNone.ne_none_str (fin_bl I q (by simp))
    | _ => exact absurd (show false = true from hs) Bool.false_ne_true
  | bl i =>
    cases rx
    cases y with
    | non => cases ry; exact PySem.EqNone.ne_bool_none (fin_bl I q (by simp))
    | bl j => cases ry; exact ne_bool (fin_bl I q (congrArg not dec_bl))
    | str j => obtain ⟨t', rfl⟩ := ry; exact PySem.EqMixed.ne_bool_str (fin_bl I q (by simp))
    | _ => exact absurd (show false = true from hs) Bool.false_ne_true
  | int i =>
    obtain ⟨t, rfl⟩ := rx
    cases y with
    | non => cases ry; exact PySem.EqNone.ne_int_none (fin_bl I q (by simp))
    | int j => obtain ⟨t', rfl⟩ := ry; exact ne_int (fin_bl I q (congrArg not dec_int))
    | str j => obtain ⟨t', rfl⟩ := ry; exact PySem.EqMixed.ne_int_str (fin_bl I q (by simp))
    | _ => exact absurd (show false = true from hs) Bool.false_ne_true
  | str i =>
    obtain ⟨t, rfl⟩ := rx
    cases y with
    | non => cases ry; exact PySem.EqNone.ne_str_none (fin_bl I q (by simp))
    | bl j => cases ry; exact PySem.EqMixed.ne_str_bool (fin_bl I q (by simp))
    | int j => obtain ⟨t', rfl⟩ := ry; exact PySem.EqMixed.ne_str_int (fin_bl I q (by simp))
    | str j => obtain ⟨t', rfl⟩ := ry; exact ne_str (fin_bl I q (congrArg not dec_str))
    | _ => exact absurd (show false = true from hs) Bool.false_ne_true
  | byt i =>
    obtain ⟨t, rfl⟩ := rx
    cases y with
    | byt j => obtain ⟨t', rfl⟩ := ry; exact PySem.W.ne_bytes (fin_bl I q (congrArg not dec_byt))
    | _ => exact absurd (show false = true from hs) Bool.false_ne_true
  | _ => cases y <;> exact absurd (show false = true from hs) Bool.false_ne_true

theorem op_lt : OpR X (compareOp .Lt) (rI0 fun i j => .bl (decide (i < j))) := opB0 fun _ _ _ _ _ _ _ q => lt_int q
theorem op_le : OpR X (compareOp .LtE) (rI0 fun i j => .bl (decide (i ≤ j))) := opB0 fun _ _ _ _ _ _ _ q => le_int q
theorem op_gt : OpR X (compareOp .Gt) (rI0 fun i j => .bl (decide (j < i))) := opB0 fun _ _ _ _ _ _ _ q => gt_int q
theorem op_ge : OpR X (compareOp .GtE) (rI0 fun i j => .bl (decide (j ≤ i))) := opB0 fun _ _ _ _ _ _ _ q => ge_int q
theorem op_lt_str : OpR X (compareOp .Lt) (fun x y H Q => ∃ i j, x = .str i ∧ y = .str j ∧ Q (.bl (decide (i.cps.toList < j.cps.toList))) H) := by
  intro pins s σ H x y v u Q I rx ry h
  obtain ⟨i, j, rfl, rfl, q⟩ := h
  obtain ⟨t, rfl⟩ := rx
  obtain ⟨t', rfl⟩ := ry
  exact lt_str (fin_bl I q rfl)
/-- the one string within the other -/
theorem op_in_str : OpR X (compareOp .In) (fun x y H Q => ∃ i j, x = .str i ∧ y = .str j ∧ Q (.bl (!(Builtin.Str.occurrences j i 0 j.length 1).isEmpty)) H) := by
  intro pins s σ H x y v u Q I rx ry h
  obtain ⟨i, j, rfl, rfl, q⟩ := h
  obtain ⟨t, rfl⟩ := rx
  obtain ⟨t', rfl⟩ := ry
  exact in_str (fin_bl I q rfl)

/-- is None, is not None: the right side a value none -/
theorem op_isN : OpR X (compareOp .Is) (fun x y H Q => y = .non ∧ Q (.bl (decide (x = .non))) H) := by
  intro pins s σ H x y v u Q I rx ry h
  obtain ⟨rfl, q⟩ := h
  cases ry
  refine is_none_gen (fin_bl I q ?_)
  cases x <;> first
    | (cases rx; rfl)
    | (obtain ⟨t, rfl⟩ := rx; rfl)
theorem op_notN : OpR X (compareOp .IsNot) (fun x y H Q => y = .non ∧ Q (.bl (!decide (x = .non))) H) := by
  intro pins s σ H x y v u Q I rx ry h
  obtain ⟨rfl, q⟩ := h
  cases ry
  refine isnot_none_gen (fin_bl I q ?_)
  cases x <;> first
    | (cases rx; rfl)
    | (obtain ⟨t, rfl⟩ := rx; rfl)

theorem op_notin_str : OpR X (compareOp .NotIn) (fun x y H Q => ∃ i j, x = .str i ∧ y = .str j ∧ Q (.bl (!(!(Builtin.Str.occurrences j i 0 j.length 1).isEmpty))) H) := by
  intro pins s σ H x y v u Q I rx ry h
  obtain ⟨i, j, rfl, rfl, q⟩ := h
  obtain ⟨t, rfl⟩ := rx
  obtain ⟨t', rfl⟩ := ry
  exact notIn_str (fin_bl I q rfl)
/-- is, is not of two objects that are tracked lists or instances -/
def isObj : HO → Bool
  | .lst _ => true
  | .ins _ _ _ => true
  | _ => false
theorem obj_there {pins : List (Addr × Obj)} {s : Shared} {σ : St} {H : Hp} {a : Addr} {o : HO} (I : Inv X pins σ H s) (h : H a = some o) (p : isObj o = true) : ∃ ob, s.heap.get? a = some ob ∧ ob.cls ≠ .type "tuple" := by
  cases o with
  | lst xs =>
    obtain ⟨_, its, n, _, e⟩ : xs.length ≤ sizeLine ∧ ∃ (its : List Value) (n : Nat), Vals xs its ∧ s.heap.get? a = some { cls := .type "list", data := .seq its.toArray n } := I.hok a _ h
    exact ⟨_, e, (by show Value.type "list" ≠ .type "tuple"; decide +kernel)⟩
  | ins C dx fs =>
    have x := I.hok a _ h
    obtain ⟨_, _, _, e, _⟩ := x
    exact ⟨_, e, (by show Value.ref C ≠ .type "tuple"; exact fun z => by cases z)⟩
  | _ => exact absurd (show false = true from p) Bool.false_ne_true
theorem op_is_ref : OpR X (compareOp .Is) (fun x y H Q => ∃ a b oa ob, x = .ref a ∧ y = .ref b ∧ H a = some oa ∧ isObj oa = true ∧ H b = some ob ∧ isObj ob = true ∧ Q (.bl (decide (a = b))) H) := by
  intro pins s σ H x y v u Q I rx ry h
  obtain ⟨a, b, oa, ob, rfl, rfl, ha, pa, hb, pb, q⟩ := h
  cases rx
  cases ry
  obtain ⟨o1, e1, n1⟩ := obj_there I ha pa
  obtain ⟨o2, e2, _⟩ := obj_there I hb pb
  by_cases z : a = b
  · subst z
    exact wpAny_is_ref_self (fin_bl I q (by simp))
  · exact wpAny_is_ref_other z e1 e2 n1 (fin_bl I q (by simp [z]))
theorem op_isnot_ref : OpR X (compareOp .IsNot) (fun x y H Q => ∃ a b oa ob, x = .ref a ∧ y = .ref b ∧ H a = some oa ∧ isObj oa = true ∧ H b = some ob ∧ isObj ob = true ∧ Q (.bl (!decide (a = b))) H) := by
  intro pins s σ H x y v u Q I rx ry h
  obtain ⟨a, b, oa, ob, rfl, rfl, ha, pa, hb, pb, q⟩ := h
  cases rx
  cases ry
  obtain ⟨o1, e1, n1⟩ := obj_there I ha pa
  obtain ⟨o2, e2, _⟩ := obj_there I hb pb
  by_cases z : a = b
  · subst z
    exact wpAny_isNot_ref_self (fin_bl I q (by simp))
  · exact wpAny_isNot_ref_other z e1 e2 n1 (fin_bl I q (by simp [z]))

/-- two rules for one operation: by cases -/
theorem OpR.or {f : Value → Value → Sem Value} {r r' : R2} (h : OpR X f r) (h' : OpR X f r') : OpR X f (fun x y H Q => r x y H Q ∨ r' x y H Q) := by
  intro pins s σ H x y v u Q I rx ry q
  rcases q with q | q
  · exact h pins s σ H x y v u Q I rx ry q
  · exact h' pins s σ H x y v u Q I rx ry q

theorem nomark (b : Expr) {op : CmpOp} (h : op ≠ .In := by decide) (h2 : op ≠ .NotIn := by decide) : behindInMarks op b = false := by
  have e1 : (op == CmpOp.In) = false := by cases op <;> first | rfl | exact absurd rfl h
  have e2 : (op == CmpOp.NotIn) = false := by cases op <;> first | rfl | exact absurd rfl h2
  cases b <;> simp [behindInMarks, e1, e2]
/-- a comparison as a value; hm: nomark b, or (for in, not in) by with_unfolding_all rfl -/
theorem pe_cmpR {op : CmpOp} {r : R2} (ho : OpR X (compareOp op) r) (ha : PE X a ta) (hb : PE X b tb) (hm : behindInMarks op b = false) : PE X (.Compare a [op] [b] pos) (tOp r ta tb) := by
  intro pins s σ H Q I h
  exact wpAny_Compare1 (binT ha hb I h fun v u s2 x y H2 I2 rx ry q => ho pins s2 σ H2 x y v u Q I2 rx ry q) hm
/-- a reading of a value as a test -/
def tTest (t : TE) : TT := fun σ H Q => t σ H fun x H' => ∃ k, x = .bl k ∧ Q k H'
theorem pt_cmpR {op : CmpOp} {r : R2} (ho : OpR X (compareOp op) r) (ha : PE X a ta) (hb : PE X b tb) (hm : behindInMarks op b = false) : PT X (.Compare a [op] [b] pos) (tTest (tOp r ta tb)) := by
  intro pins s σ H Q I h
  refine wpAny_isTrue_Compare1 (thn (ha pins s σ H _ I h) fun v s1 ⟨x, H1, I1, r1, q1⟩ => thn (hb pins s1 σ H1 _ I1 q1) fun u s2 ⟨y, H2, I2, r2, q2⟩ =>
    thn (ho pins s2 σ H2 x y v u _ I2 r1 r2 q2) fun c s3 ⟨z, H3, I3, r3, k, e, q3⟩ => ?_) hm
  subst e
  cases r3
  exact wpAny_truthy_bool ⟨H3, I3, q3⟩
/-- a op1 b op2 c -/
def tChain (r r' : R2) (ta tb tc : TE) : TE := fun σ H Q => ta σ H fun x H1 => tb σ H1 fun y H2 => r x y H2 fun z H3 => ∃ k, z = .bl k ∧
  (if k = true then tc σ H3 fun w' H4 => r' y w' H4 Q else Q (.bl false) H3)
theorem pe_chain {op op' : CmpOp} {r r' : R2} (ho : OpR X (compareOp op) r) (ho' : OpR X (compareOp op') r') (ha : PE X a ta) (hb : PE X b tb) (hc : PE X c tc)
    (hm : lastMarks [op, op'] [b, c] = false := by with_unfolding_all rfl) : PE X (.Compare a [op, op'] [b, c] pos) (tChain r r' ta tb tc) := by
  intro pins s σ H Q I h
  refine Compare_chain (thn (ha pins s σ H _ I h) fun v s1 ⟨x, H1, I1, r1, q1⟩ => chain_link (thn (hb pins s1 σ H1 _ I1 q1) fun u s2 ⟨y, H2, I2, r2, q2⟩ =>
    thn (ho pins s2 σ H2 x y v u _ I2 r1 r2 q2) fun d s3 ⟨z, H3, I3, r3, k, e, q3⟩ => ?_)) hm
  subst e
  cases r3
  refine wpAny_truthy_bool ?_
  cases k with
  | false => exact ite_ff ⟨.bl false, H3, I3, rfl, q3⟩
  | true => exact ite_tt (chain_last (thn (hc pins s3 σ H3 _ I3 q3) fun w' s4 ⟨z', H4, I4, r4, q4⟩ => ho' pins s4 σ H4 y z' u w' Q I4 r2 r4 q4))
theorem pt_chain {op op' : CmpOp} {r r' : R2} (ho : OpR X (compareOp op) r) (ho' : OpR X (compareOp op') r') (ha : PE X a ta) (hb : PE X b tb) (hc : PE X c tc)
    (hm : lastMarks [op, op'] [b, c] = false := by with_unfolding_all rfl) : PT X (.Compare a [op, op'] [b, c] pos) (tTest (tChain r r' ta tb tc)) := by
  intro pins s σ H Q I h
  refine isTrue_chain (thn (ha pins s σ H _ I h) fun v s1 ⟨x, H1, I1, r1, q1⟩ => test_link (thn (hb pins s1 σ H1 _ I1 q1) fun u s2 ⟨y, H2, I2, r2, q2⟩ =>
    thn (ho pins s2 σ H2 x y v u _ I2 r1 r2 q2) fun d s3 ⟨z, H3, I3, r3, k, e, q3⟩ => ?_)) hm
  subst e
  cases r3
  refine wpAny_truthy_bool ?_
  cases k with
  | false =>
    obtain ⟨k', e', q'⟩ := q3
    cases e'
    exact ite_ff ⟨H3, I3, q'⟩
  | true =>
    refine ite_tt (test_last (thn (hc pins s3 σ H3 _ I3 q3) fun w' s4 ⟨z', H4, I4, r4, q4⟩ => thn (ho' pins s4 σ H4 y z' u w' _ I4 r2 r4 q4) fun d' s5 ⟨z2, H5, I5, r5, k2, e2, q5⟩ => ?_))
    subst e2
    cases r5
    exact wpAny_truthy_bool ⟨H5, I5, q5⟩

/-! ### truth -/
/-- a value's truth by the abstract heap -/
def TruV (K : PySem.W.Frag) (x : V) (H : Hp) (k : Bool) : Prop :=
  match x with
  | .non => k = false
  | .bl b => k = b
  | .int i => k = (i != 0)
  | .str y => y.length ≤ sizeLine ∧ k = ((y.length : Int) != 0)
  | .byt y => y.size ≤ sizeLine ∧ k = ((y.size : Int) != 0)
  | .ref p => (∃ xs, SqL K H p xs ∧ k = !xs.isEmpty) ∨ (∃ xs, SqT K H p xs ∧ k = !xs.isEmpty) ∨ ∃ kvs, H p = some (.dK kvs) ∧ k = !kvs.isEmpty
  | _ => False
theorem isEmpty_kv {κ : Type} {kvs : List (κ × V)} {vs : List (κ × Value)} (r : KV kvs vs) : (!vs.isEmpty) = !kvs.isEmpty := by
  cases r <;> rfl
theorem isEmpty_of {xs : List V} {its : List Value} (r : Vals xs its) : (!its.toArray.isEmpty) = !xs.isEmpty := by
  cases r <;> simp
theorem line63 : (sizeLine : Nat) < 2 ^ 63 := by rw [sizeLine_eq]; decide
theorem tru_ok : TruR X (fun x H Q => ∃ k, TruV X.K x H k ∧ Q k H) := by
  intro pins s σ H x v Q I rx h
  obtain ⟨k, e, q⟩ := h
  have hl := line63
  have hs : sizeLine = 16777216 := sizeLine_eq
  cases x with
  | non =>
    cases rx
    have e' : k = false := e
    subst e'
    exact truthy_none ⟨H, I, q⟩
  | bl b =>
    cases rx
    have e' : k = b := e
    subst e'
    exact wpAny_truthy_bool ⟨H, I, q⟩
  | int i =>
    obtain ⟨t, rfl⟩ := rx
    have e' : k = (i != 0) := e
    subst e'
    exact PySem.P.truthy_int ⟨H, I, q⟩
  | str y =>
    obtain ⟨t, rfl⟩ := rx
    obtain ⟨hy, e'⟩ : y.length ≤ sizeLine ∧ k = ((y.length : Int) != 0) := e
    subst e'
    exact PySem.P.truthy_str (by omega) ⟨H, I.tok _, q⟩
  | byt y =>
    obtain ⟨t, rfl⟩ := rx
    obtain ⟨hy, e'⟩ : y.size ≤ sizeLine ∧ k = ((y.size : Int) != 0) := e
    subst e'
    exact PySem.W.truthy_bytes (by omega) ⟨H, I.tok _, q⟩
  | ref p =>
    cases rx
    have e' : (∃ xs, SqL X.K H p xs ∧ k = !xs.isEmpty) ∨ (∃ xs, SqT X.K H p xs ∧ k = !xs.isEmpty) ∨ ∃ kvs, H p = some (.dK kvs) ∧ k = !kvs.isEmpty := e
    rcases e' with ⟨xs, hx, e'⟩ | ⟨xs, hx, e'⟩ | ⟨kvs, hx, e'⟩
    · subst e'
      obtain ⟨its, r, pl, hz⟩ := I.list hx
      have hlen := r.length
      exact wpAny_truthy_list pl.isList (by simp only [List.size_toArray]; omega) ⟨H, I.tok _, by rw [isEmpty_of r]; exact q⟩
    · subst e'
      obtain ⟨its, r, pl, hz⟩ := I.tuple hx
      have hlen := r.length
      exact truthy_tuple pl (by simp only [List.size_toArray]; omega) ⟨H, I.tok _, by rw [isEmpty_of r]; exact q⟩
    · subst e'
      obtain ⟨hz, hS, vs, r, m⟩ : kvs.length ≤ sizeLine ∧ (p == sysModules) = false ∧ ∃ vs, KV kvs vs ∧ s.heap.DictOf (mixKind X.prog X.w) p vs := I.hok p _ hx
      have hlen : kvs.length = vs.length := Paired.length r
      exact wpAny_truthy_dict hS m (by omega) ⟨H, I.tok _, by rw [isEmpty_kv r]; exact q⟩
  | _ => exact (show False from e).elim
/-- any expression whose test is its value's truth (a name, a call, a subscript, a field ..: he by fun _ => rfl) -/
theorem pt_truth (ha : PE X a ta) (he : ∀ whole, isTrue a X.env whole = (do let v ← whole; standAt a.pos; holding [v] (truthy v))) :
    PT X a (fun σ H Q => ta σ H fun x H' => ∃ k, TruV X.K x H' k ∧ Q k H') := by
  intro pins s σ H Q I h
  exact isTrue_plain (thn (ha pins s σ H _ I h) fun v s1 ⟨x, H1, I1, r1, q1⟩ => tru_ok pins s1 σ H1 x v Q I1 r1 q1) (he _)

/-! ### strs and bytes -/
theorem pe_byt {x : List UInt8} {k : Nat} : PE X (.Constant (.bytes x) k pos) (fun _ H Q => Q (.byt x.toArray) H) := fun _ _ _ H _ I h => PySem.W.Constant_bytes ⟨.byt x.toArray, H, I.tok _, ⟨_, rfl⟩, h⟩
theorem op_add_str : OpR X (binaryOp .Add) (fun x y H Q => ∃ i j, x = .str i ∧ y = .str j ∧ i.length + j.length ≤ sizeLine ∧ Q (.str (i ++ j)) H) := by
  intro pins s σ H x y v u Q I rx ry h
  obtain ⟨i, j, rfl, rfl, hz, q⟩ := h
  obtain ⟨t, rfl⟩ := rx
  obtain ⟨t', rfl⟩ := ry
  exact add_str (fun t' tk => ⟨.str (i ++ j), H, I.tok _, ⟨_, rfl⟩, q⟩) hz
theorem iop_add_str : OpR X (inplaceOp .Add) (fun x y H Q => ∃ i j, x = .str i ∧ y = .str j ∧ i.length + j.length ≤ sizeLine ∧ Q (.str (i ++ j)) H) := by
  intro pins s σ H x y v u Q I rx ry h
  obtain ⟨i, j, rfl, rfl, hz, q⟩ := h
  obtain ⟨t, rfl⟩ := rx
  obtain ⟨t', rfl⟩ := ry
  exact iadd_str (fun t' tk => ⟨.str (i ++ j), H, I.tok _, ⟨_, rfl⟩, q⟩) hz
theorem op_add_byt : OpR X (binaryOp .Add) (fun x y H Q => ∃ i j, x = .byt i ∧ y = .byt j ∧ i.size + j.size ≤ 16777216 ∧ Q (.byt (i ++ j)) H) := by
  intro pins s σ H x y v u Q I rx ry h
  obtain ⟨i, j, rfl, rfl, hz, q⟩ := h
  obtain ⟨t, rfl⟩ := rx
  obtain ⟨t', rfl⟩ := ry
  exact PySem.W.KBy.add_bytes hz (fun t' tk => ⟨.byt (i ++ j), H, I.tok _, ⟨_, rfl⟩, q⟩)

def PlainIxT (b : Expr) : Prop := ∀ o i, subscripted b false o i = operate [o, i] (getItem o i)
/-- s[i], 0 ≤ i < len -/
theorem pe_item_str (ha : PE X a ta) (hb : PE X b tb) (hs : PlainIxT b) :
    PE X (.Subscript a b pos) (tOp (fun x y H Q => ∃ z i c, x = .str z ∧ y = .int i ∧ 0 ≤ i ∧ i < 2 ^ 63 ∧ i < z.length ∧ z.cps[i.toNat]? = some c ∧ Q (.str ⟨#[c]⟩) H) ta tb) := by
  intro pins s σ H Q I h
  refine Subscript_ (binT ha hb I h fun v u s2 x y H2 I2 rx ry q => ?_)
  obtain ⟨z, i, c, rfl, rfl, h0, h63, h1, hc, q⟩ := q
  obtain ⟨t, rfl⟩ := rx
  obtain ⟨t', rfl⟩ := ry
  have e : seqIndex? i z.length = some i.toNat := PySem.StrLaws.seqIndex_nonneg h0 h1
  exact tail_any (typeIs_str s2 z t) slot_str_getitem.lookup (getItem_str (c := c) (by
    have e1 : decide (i < -(2 ^ 63 : Int)) = false := decide_eq_false (by omega)
    have e2 : decide (i ≥ 2 ^ 63) = false := decide_eq_false (by omega)
    rw [e1, e2] <;> rfl) (by rw [e]; exact hc) ⟨.str ⟨#[c]⟩, H2, I2.tok _, ⟨_, rfl⟩, q⟩) (hs _ _)
/-- b[i], 0 ≤ i < len -/
theorem pe_item_byt (ha : PE X a ta) (hb : PE X b tb) (hs : PlainIxT b) :
    PE X (.Subscript a b pos) (tOp (fun x y H Q => ∃ (z : List UInt8) (i : Int), x = .byt z.toArray ∧ y = .int i ∧ z.length ≤ sizeLine ∧ 0 ≤ i ∧ i < z.length ∧ Q (.int ((z.getD i.toNat 0).toNat : Nat)) H) ta tb) := by
  intro pins s σ H Q I h
  refine Subscript_ (binT ha hb I h fun v u s2 x y H2 I2 rx ry q => ?_)
  obtain ⟨z, i, rfl, rfl, hz, h0, h1, q⟩ := q
  obtain ⟨t, rfl⟩ := rx
  obtain ⟨t', rfl⟩ := ry
  have hl : sizeLine = 16777216 := sizeLine_eq
  exact tail_any (PySem.W.typeIs_bytes s2 z.toArray t) PySem.W.FB.slot_bytes_getitem.lookup (PySem.W.getItem_bytes (by omega) h0 h1 ⟨.int ((z.getD i.toNat 0).toNat : Nat), H2, I2.tok _, ⟨_, rfl⟩, q⟩) (hs _ _)

/-! ### scalar builtins, by CallR -/
theorem vals1 {x : V} {us : List Value} (r : Vals [x] us) : ∃ u, us = [u] ∧ RelV x u := by
  cases r with
  | cons r1 r2 => cases r2; exact ⟨_, rfl, r1⟩
theorem vals2 {x y : V} {us : List Value} (r : Vals [x, y] us) : ∃ u w', us = [u, w'] ∧ RelV x u ∧ RelV y w' := by
  cases r with
  | cons r1 r2 =>
    cases r2 with
    | cons r3 r4 => cases r4; exact ⟨_, _, rfl, r1, r3⟩
theorem call_abs : CallR X (.builtin "abs") (fun xs H Q => ∃ i, xs = [.int i] ∧ Q (.int (if i < 0 then -i else i)) H) := by
  intro pins s σ H xs us Q I r h
  obtain ⟨i, rfl, q⟩ := h
  obtain ⟨u, rfl, t, rfl⟩ := vals1 r
  exact call_abs_int fun u tk => ⟨.int (if i < 0 then -i else i), H, I.tok _, ⟨_, rfl⟩, q⟩
theorem call_max2 (hc : X.calm = true) : CallR X (.builtin "max") (fun xs H Q => ∃ i j, xs = [.int i, .int j] ∧ Q (.int (if j > i then j else i)) H) := by
  intro pins s σ H xs us Q I r h
  obtain ⟨i, j, rfl, q⟩ := h
  obtain ⟨u, w', rfl, ⟨t, rfl⟩, ⟨t', rfl⟩⟩ := vals2 r
  refine max_two_ints (I.ok.hd hc) fun h' tk k => ⟨_, H, I.kept k, ?_, q⟩
  by_cases hj : j > i
  · rw [if_pos hj, if_pos hj]; exact ⟨_, rfl⟩
  · rw [if_neg hj, if_neg hj]; exact ⟨_, rfl⟩
theorem call_min2 (hc : X.calm = true) : CallR X (.builtin "min") (fun xs H Q => ∃ i j, xs = [.int i, .int j] ∧ Q (.int (if j < i then j else i)) H) := by
  intro pins s σ H xs us Q I r h
  obtain ⟨i, j, rfl, q⟩ := h
  obtain ⟨u, w', rfl, ⟨t, rfl⟩, ⟨t', rfl⟩⟩ := vals2 r
  refine min_two_ints (I.ok.hd hc) fun h' tk k => ⟨_, H, I.kept k, ?_, q⟩
  by_cases hj : j < i
  · rw [if_pos hj, if_pos hj]; exact ⟨_, rfl⟩
  · rw [if_neg hj, if_neg hj]; exact ⟨_, rfl⟩
theorem call_int1 : CallR X (.type "int") (fun xs H Q => (∃ i, xs = [.int i] ∧ Q (.int i) H) ∨ ∃ k, xs = [.bl k] ∧ Q (.int (if k then 1 else 0)) H) := by
  intro pins s σ H xs us Q I r h
  rcases h with ⟨i, rfl, q⟩ | ⟨k, rfl, q⟩
  · obtain ⟨u, rfl, t, rfl⟩ := vals1 r
    exact call_int_int ⟨.int i, H, I, ⟨_, rfl⟩, q⟩
  · obtain ⟨u, rfl, r1⟩ := vals1 r
    cases r1
    exact call_int_bool ⟨.int (if k then 1 else 0), H, I.tok _, ⟨_, rfl⟩, q⟩
theorem call_bool1 : CallR X (.type "bool") (fun xs H Q => (∃ i, xs = [.int i] ∧ Q (.bl (i != 0)) H) ∨ ∃ k, xs = [.bl k] ∧ Q (.bl k) H) := by
  intro pins s σ H xs us Q I r h
  rcases h with ⟨i, rfl, q⟩ | ⟨k, rfl, q⟩
  · obtain ⟨u, rfl, t, rfl⟩ := vals1 r
    exact call_bool_int ⟨.bl (i != 0), H, I, rfl, q⟩
  · obtain ⟨u, rfl, r1⟩ := vals1 r
    cases r1
    exact call_bool_bool ⟨.bl k, H, I, rfl, q⟩
theorem call_str_int : CallR X (.type "str") (fun xs H Q => ∃ i, xs = [.int i] ∧ i.natAbs.log2 < 1920 ∧ Q (.str (toString i)) H) := by
  intro pins s σ H xs us Q I r h
  obtain ⟨i, rfl, hz, q⟩ := h
  obtain ⟨u, rfl, t, rfl⟩ := vals1 r
  exact PySem.P.str_of_int hz ⟨.str _, H, I.tok _, ⟨_, rfl⟩, q⟩
theorem call_ord : CallR X (.builtin "ord") (fun xs H Q => ∃ x, xs = [.str x] ∧ x.length = 1 ∧ Q (.int (x.cps.getD 0 0 : Nat)) H) := by
  intro pins s σ H xs us Q I r h
  obtain ⟨x, rfl, hz, q⟩ := h
  obtain ⟨u, rfl, t, rfl⟩ := vals1 r
  exact ord_of_one hz ⟨.int _, H, I.tok _, ⟨_, rfl⟩, q⟩
theorem call_chr : CallR X (.builtin "chr") (fun xs H Q => ∃ i, xs = [.int i] ∧ 0 ≤ i ∧ i ≤ 1114111 ∧ Q (.str ⟨#[i.toNat]⟩) H) := by
  intro pins s σ H xs us Q I r h
  obtain ⟨i, rfl, h0, h1, q⟩ := h
  obtain ⟨u, rfl, t, rfl⟩ := vals1 r
  exact chr_of_range h0 h1 ⟨.str _, H, I.tok _, ⟨_, rfl⟩, q⟩
/-- len of a str, a bytes, a list, a tuple -/
def LenV (K : PySem.W.Frag) (x : V) (H : Hp) (n : Nat) : Prop :=
  match x with
  | .str y => y.length ≤ sizeLine ∧ n = y.length
  | .byt y => y.size ≤ sizeLine ∧ n = y.size
  | .ref p => (∃ xs, SqL K H p xs ∧ n = xs.length) ∨ ∃ xs, SqT K H p xs ∧ n = xs.length
  | _ => False
theorem call_len : CallR X (.builtin "len") (fun xs H Q => ∃ x n, xs = [x] ∧ LenV X.K x H n ∧ Q (.int n) H) := by
  intro pins s σ H xs us Q I r h
  obtain ⟨x, n, rfl, e, q⟩ := h
  obtain ⟨u, rfl, rx⟩ := vals1 r
  have hl := line63
  have hs : sizeLine = 16777216 := sizeLine_eq
  cases x with
  | str y =>
    obtain ⟨t, rfl⟩ := rx
    obtain ⟨hy, e'⟩ : y.length ≤ sizeLine ∧ n = y.length := e
    subst e'
    exact len_str (by omega) ⟨.int _, H, I.tok _, ⟨_, rfl⟩, q⟩
  | byt y =>
    obtain ⟨t, rfl⟩ := rx
    obtain ⟨hy, e'⟩ : y.size ≤ sizeLine ∧ n = y.size := e
    subst e'
    exact PySem.W.len_bytes (by omega) ⟨.int _, H, I.tok _, ⟨_, rfl⟩, q⟩
  | ref p =>
    cases rx
    have e' : (∃ xs, SqL X.K H p xs ∧ n = xs.length) ∨ ∃ xs, SqT X.K H p xs ∧ n = xs.length := e
    rcases e' with ⟨xs, hx, e'⟩ | ⟨xs, hx, e'⟩
    · subst e'
      obtain ⟨its, r', pl, hz⟩ := I.list hx
      have hlen := r'.length
      exact Calls.call_len_list pl.isList (by simp only [List.size_toArray]; omega) ⟨.int xs.length, H, I.tok _, ⟨_, by simp only [List.size_toArray]; rw [hlen]⟩, q⟩
    · subst e'
      obtain ⟨its, r', pl, hz⟩ := I.tuple hx
      have hlen := r'.length
      exact len_tuple pl (by simp only [List.size_toArray]; omega) ⟨.int xs.length, H, I.tok _, ⟨_, by simp only [List.size_toArray]; rw [hlen]⟩, q⟩
  | _ => exact (show False from e).elim
/-- divmod: a new tuple -/
theorem call_divmod : CallR X (.builtin "divmod") (fun xs H Q => ∃ i j, xs = [.int i, .int j] ∧ CDiv i j ∧ ∀ p, H p = none → Q (.ref p) (upd H p (.tup [.int (i / j), .int (i % j)]))) := by
  intro pins s σ H xs us Q I r h
  obtain ⟨i, j, rfl, ⟨h1, h2⟩, q⟩ := h
  obtain ⟨u, w', rfl, ⟨t, rfl⟩, ⟨t', rfl⟩⟩ := vals2 r
  refine divmod_int (by omega) ?_ (.inl (PyProof.noPylong_small (by omega)))
  rw [Int.fdiv_eq_ediv_of_nonneg i (by omega), Int.fmod_eq_emod_of_nonneg i (by omega)]
  have hn : H s.heap.objs.size = none := I.hok.fresh (Nat.le_refl _)
  refine ⟨.ref s.heap.objs.size, _, ?_, rfl, q _ hn⟩
  refine I.laid (fun b o e => Heap.get?_push_of_some _ e) (Nat.le_refl _) ⟨by simp only [List.length_cons, List.length_nil]; rw [sizeLine_eq]; decide, [.int (i / j) s.toks, .int (i % j) (s.toks + 1)], .cons ⟨_, rfl⟩ (.cons ⟨_, rfl⟩ .nil), ?_⟩
  exact ⟨_, Heap.get?_push_size s.heap rfl, rfl, 0, rfl⟩
end
end L2

namespace L2
open PySem PySem.Spec PyProof.Rows

/-! ### an instance, its attributes a map -/
structure ObjM (h : Heap) (x dx C : Addr) (mA : Str → Option Value) : Prop where
  obj : h.get? x = some (PySem.W.instObj C dx)
  ns : h.Ns1 dx mA
  ne : dx ≠ x

theorem lookIn_ns {h : Heap} {dx : Addr} {mA : Str → Option Value} (n : h.Ns1 dx mA) : ∃ od, h.get? dx = some od ∧ ∀ name, PySem.W.lookIn name od = some (mA name) := by
  obtain ⟨o, es, ep, ho, hd, hk, _, hm⟩ := n
  refine ⟨o, ho, fun name => ?_⟩
  have e := hm name
  unfold nsFind findBy at e
  rw [← Array.find?_toList] at e
  unfold PySem.W.lookIn
  rw [hd]
  dsimp only
  split
  · rename_i y q
    rw [q] at e
    exact congrArg some e
  · rename_i q
    rw [q] at e
    have a : es.toList.any (·.refKey) = false := by
      rw [List.any_eq_false]
      intro y hy
      obtain ⟨z, t, hkey⟩ := hk y (Array.mem_toList_iff.mp hy)
      simp [DictEntry.refKey, hkey]
    have a' : ¬ es.toList.any (·.refKey) = true := by rw [a]; exact Bool.false_ne_true
    rw [if_neg a']
    exact congrArg some e

theorem ObjM.look {h : Heap} {x dx C : Addr} {mA : Str → Option Value} (I : ObjM h x dx C mA) : ∃ od, PySem.W.InstAt h x (PySem.W.instObj C dx) C (some od) ∧ ∀ name, PySem.W.lookIn name od = some (mA name) :=
  let ⟨od, ho, hl⟩ := lookIn_ns I.ns
  ⟨od, ⟨I.obj, rfl, rfl, ho⟩, hl⟩

section
variable {prog : Program} {w : World} {A : Around} {E : Value → Shared → Prop} {s : Shared} {K : PySem.W.Frag} {x dx C f : Addr} {mA : Str → Option Value} {name : Str} {v : Value}

theorem get_map {expr : Bool} {Q : Value → Shared → Prop} (X : K.In s.heap) (I : ObjM s.heap x dx C mA) (hg : PySem.W.plainGet K C name = true) (hh : PySem.W.hasDictIn K C = true)
    (ha : PySem.W.findIn K (.ref C) name = some none) (hv : mA name = some v) (hv' : PySem.W.handedIn v = true) (h : Q v { s with toks := s.toks + 1 }) :
    wpAny (model prog w) A (getAttr (.ref x) name expr) Q E s := by
  obtain ⟨od, J, hl⟩ := I.look
  exact PySem.W.get_value X J (PySem.W.plainGet_of hg).1 (PySem.W.findObj_own hh ha rfl (by rw [hl, hv])) hv' h

theorem get_const {expr : Bool} {a : Value} {Q : Value → Shared → Prop} (X : K.In s.heap) (I : ObjM s.heap x dx C mA) (hg : PySem.W.plainGet K C name = true) (hh : PySem.W.hasDictIn K C = true)
    (ha : PySem.W.findIn K (.ref C) name = some (some a)) (hn : PySem.W.specialIn K a "__get__" = some none) (hc : PySem.W.copiedNames.contains name = false) (hv : mA name = none) (hv' : PySem.W.handedIn a = true)
    (h : Q a { s with toks := s.toks + 1 }) : wpAny (model prog w) A (getAttr (.ref x) name expr) Q E s := by
  obtain ⟨od, J, hl⟩ := I.look
  exact PySem.W.get_value X J (PySem.W.plainGet_of hg).1 (PySem.W.findObj_cls hh ha hn hv' hc (by rw [hl, hv])) hv' h

theorem get_meth {pl : Sem Bool} {Q : Value × List Value → Shared → Prop} (X : K.In s.heap) (I : ObjM s.heap x dx C mA) (hg : PySem.W.plainGet K C name = true)
    (hf : PySem.W.findIn K (.ref C) name = some (some (.ref f))) (ht : PySem.W.isFn K (.ref f) = true) (hv : mA name = none) (h : Q (.ref f, [.ref x]) s) :
    wpAny (model prog w) A (getMethod (.ref x) name pl) Q E s := by
  obtain ⟨od, J, hl⟩ := I.look
  exact PySem.W.method_fn X J (PySem.W.plainGet_of hg).1 (PySem.W.plainGet_of hg).2 hf (beq_iff_eq.mp ht) (by show (PySem.W.lookIn name od).map (·.isSome) = some false; rw [hl, hv]; rfl) h

theorem set_map {ns : List Str} {Q : Unit → Shared → Prop} (X : K.In s.heap) (I : ObjM s.heap x dx C mA)
    (hs : PySem.W.findIn K (.ref C) "__setattr__" = some (some (.builtin "object.__setattr__"))) (hp : PySem.W.plainOver K C = true) (ht : PySem.W.takerIn K C name = some none) (hh : PySem.W.hasDictIn K C = true)
    (hw : PySem.Within mA ns) (hsz : ns.length ≤ sizeLine)
    (h : ∀ h', ObjM h' x dx C (fun y => if y = name then some v else mA y) → Heap.SameBut dx s.heap h' → Q () { s with heap := h', toks := s.toks + 2 }) :
    wpAny (model prog w) A (setAttr (.ref x) name v) Q E s := by
  obtain ⟨od, J, hl⟩ := I.look
  refine PySem.W.set_plain X J hs (PySem.W.osa_open (s := { s with toks := s.toks + 1 }) (r := none) X J hp ht fun b => ?_)
  obtain ⟨cd, hc, hd'⟩ := PySem.W.any_some hh
  have hx : s.heap.get? x = some ⟨.ref C, some dx, .plain, #[]⟩ := I.obj
  refine wpAny_bind (wpAny_pure (wpAny_bind (wpAny_bind (wpAny_loadPart hx (wpAny_bind (PySem.W.Looks.here (s := { s with toks := s.toks + 1 }) (PySem.W.looks_clsIn X hc) ?_))))))
  rw [hd']
  refine wpAny_pure (a := some dx) (wpAny_bind (wpAny_pure (wpAny_bind ?_)))
  refine wpAny_nsSet1 (s := { s with toks := s.toks + 1 }) I.ns fun h' hn2 hs2 => ?_
  obtain ⟨oD, esD, epD, hoD, hdD, hcD⟩ := hn2.count (PySem.Within.cons name v hw)
  refine wpAny_bind (wpAny_lookBehind hoD (by rw [hdD]; exact pastItsLine_dict (Nat.le_trans hcD (by rw [List.length_cons]; omega))) ?_)
  exact wpAny_pure (h _ ⟨(hs2.2 _ (Ne.symm I.ne)).trans I.obj, hn2, I.ne⟩ hs2)

/-- C(..): the dict at the heap's end, the instance behind it; then its __init__ -/
theorem make_map {R : Result → Shared → Prop} {vs : List Value} {kw : List (Str × Value)} (X : K.In s.heap) (hm : PySem.W.makesIn K C = true)
    (hi : PySem.W.findIn K (.ref C) "__init__" = some (some (.ref f))) (hf : PySem.W.typeIn K (.ref f) = some (.type "function"))
    (h : codeAny (model prog w) (A.under (.builtin "type.__call__" ⟨.ref C :: vs, kw⟩)) (.call (.ref f) ⟨.ref (s.heap.objs.size + 1) :: vs, kw⟩) (PySem.W.InitBack (s.heap.objs.size + 1) R)
      { s with heap := (s.heap.push PySem.W.emptyDict).push (PySem.W.instObj C s.heap.objs.size) }) :
    codeAny (model prog w) A (.call (.ref C) ⟨vs, kw⟩) R s := by
  obtain ⟨hh, g, d, t, os⟩ := s
  exact PySem.W.make_core (PySem.W.makes_of X hm) (PySem.W.looks_findIn X hi) (fun self => PySem.W.bind_fn X self hf) (.inl rfl) h
/-- C() where there is no __init__ but object's -/
theorem make_map0 {R : Result → Shared → Prop} (X : K.In s.heap) (hm : PySem.W.makesIn K C = true)
    (hi : PySem.W.findIn K (.ref C) "__init__" = some (some (.builtin "object.__init__")))
    (hb : ∀ self, PySem.W.Looks (model prog w) s.heap (bindSpecial (.builtin "object.__init__") self) (.builtin "object.__init__", [self]))
    (h : codeAny (model prog w) (A.under (.builtin "type.__call__" ⟨[.ref C], []⟩)) (.call (.builtin "object.__init__") ⟨[.ref (s.heap.objs.size + 1)], []⟩) (PySem.W.InitBack (s.heap.objs.size + 1) R)
      { s with heap := (s.heap.push PySem.W.emptyDict).push (PySem.W.instObj C s.heap.objs.size) }) :
    codeAny (model prog w) A (.call (.ref C) ⟨[], []⟩) R s := by
  obtain ⟨hh, g, d, t, os⟩ := s
  exact PySem.W.make_core (PySem.W.makes_of X hm) (PySem.W.looks_findIn X hi) hb (.inr ⟨rfl, rfl⟩) h
end

/-! ### the attributes as a list of pairs -/
def putF (f : Str) (v : V) : List (Str × V) → List (Str × V)
  | [] => [(f, v)]
  | (g, x) :: r => if g = f then (g, v) :: r else (g, x) :: putF f v r
theorem lookup_putF (f g : Str) (v : V) : ∀ fs : List (Str × V), (putF f v fs).lookup g = if g = f then some v else fs.lookup g
  | [] => by
    show List.lookup g [(f, v)] = _
    by_cases h : g = f
    · have hb : (g == f) = true := beq_iff_eq.mpr h
      simp only [List.lookup, hb, if_pos h]
    · have hb : (g == f) = false := beq_eq_false_iff_ne.mpr h
      simp only [List.lookup, hb, if_neg h]
  | (k, x) :: r => by
    have ih := lookup_putF f g v r
    rw [show putF f v ((k, x) :: r) = (if k = f then (k, v) :: r else (k, x) :: putF f v r) from rfl]
    by_cases hk : k = f
    · rw [if_pos hk]
      by_cases h : g = k
      · have hb : (g == k) = true := beq_iff_eq.mpr h
        simp only [List.lookup, hb, if_pos (h.trans hk)]
      · have hb : (g == k) = false := beq_eq_false_iff_ne.mpr h
        simp only [List.lookup, hb, if_neg (fun e : g = f => h (e.trans hk.symm))]
    · rw [if_neg hk]
      by_cases h : g = k
      · have hb : (g == k) = true := beq_iff_eq.mpr h
        simp only [List.lookup, hb, if_neg (fun e : g = f => hk (h.symm.trans e))]
      · have hb : (g == k) = false := beq_eq_false_iff_ne.mpr h
        simp only [List.lookup, hb]
        exact ih
theorem keys_putF (f : Str) (v : V) : ∀ fs : List (Str × V), f ∈ (putF f v fs).map (·.1) ∧ ∀ g, g ∈ fs.map (·.1) → g ∈ (putF f v fs).map (·.1)
  | [] => ⟨by simp [putF], fun g h => by simp at h⟩
  | (k, x) :: r => by
    obtain ⟨i1, i2⟩ := keys_putF f v r
    rw [show putF f v ((k, x) :: r) = (if k = f then (k, v) :: r else (k, x) :: putF f v r) from rfl]
    by_cases hk : k = f
    · rw [if_pos hk]
      subst hk
      exact ⟨by simp, fun g h => by simpa using h⟩
    · rw [if_neg hk]
      refine ⟨?_, fun g h => ?_⟩
      · rw [List.map_cons]
        exact List.mem_cons_of_mem _ i1
      · rw [List.map_cons] at h ⊢
        rcases List.mem_cons.mp h with e | e
        · exact List.mem_cons.mpr (.inl e)
        · exact List.mem_cons_of_mem _ (i2 g e)
theorem length_putF (f : Str) (v : V) : ∀ fs : List (Str × V), (putF f v fs).length ≤ fs.length + 1
  | [] => by simp [putF]
  | (k, x) :: r => by
    have ih := length_putF f v r
    rw [show putF f v ((k, x) :: r) = (if k = f then (k, v) :: r else (k, x) :: putF f v r) from rfl]
    by_cases hk : k = f
    · rw [if_pos hk, List.length_cons, List.length_cons]; omega
    · rw [if_neg hk, List.length_cons, List.length_cons]; omega

theorem RelO.some_of {v : V} {o : Option Value} (r : RelO (some v) o) : ∃ u, o = some u ∧ RelV v u := by
  cases o with
  | none => exact (show False from r).elim
  | some u => exact ⟨u, rfl, r⟩
theorem RelO.none_of {o : Option Value} (r : RelO none o) : o = none := by
  cases o with
  | none => rfl
  | some u => exact (show False from r).elim
theorem handed_of {v : V} {u : Value} (r : RelV v u) : PySem.W.handedIn u = true := by
  cases v with
  | non => cases (show u = Value.none from r); rfl
  | bl b => cases (show u = Value.bool b from r); rfl
  | int i => obtain ⟨t, e⟩ := (show ∃ t, u = Value.int i t from r); cases e; rfl
  | str x => obtain ⟨t, e⟩ := (show ∃ t, u = Value.str x t from r); cases e; rfl
  | byt b => obtain ⟨t, e⟩ := (show ∃ t, u = Value.bytes b t from r); cases e; rfl
  | flt b => obtain ⟨t, e⟩ := (show ∃ t, u = Value.float b t from r); cases e; rfl
  | ref a => cases (show u = Value.ref a from r); rfl
  | ty n => cases (show u = Value.type n from r); rfl

section
variable {P : Program} {w : World} {H H' : Hp} {h h' : Heap} {a C dx : Addr} {fs fs' : List (Str × V)}
theorem ins_get (hok : HOk P w H h) (e : H a = some (.ins C dx fs)) : ∃ mA, ObjM h a dx C mA ∧ (∀ f, RelO (fs.lookup f) (mA f)) ∧ PySem.Within mA (fs.map (·.1)) ∧ fs.length ≤ 1000 ∧ H dx = some (.own a) := by
  obtain ⟨d, z, ne, ob, mA, n, r, q⟩ := (show ObjOk P w H h a (.ins C dx fs) from hok a _ e)
  exact ⟨mA, ⟨ob, n, ne⟩, r, q, z, d⟩
end

/-! ### what of the text a class must have -/
structure Cls (K : PySem.W.Frag) (C : Addr) : Prop where
  pg : PySem.W.plainGet K C Str.empty = true
  hd : PySem.W.hasDictIn K C = true
  po : PySem.W.plainOver K C = true
  sa : PySem.W.findIn K (.ref C) "__setattr__" = some (some (.builtin "object.__setattr__"))
theorem Cls.get {K : PySem.W.Frag} {C : Addr} (c : Cls K C) (f : Str) : PySem.W.plainGet K C f = true := c.pg
/-- no class of it has the name -/
def NoAttr (K : PySem.W.Frag) (C : Addr) (f : Str) : Prop := PySem.W.findIn K (.ref C) f = some none
theorem NoAttr.taker {K : PySem.W.Frag} {C : Addr} {f : Str} (n : NoAttr K C f) : PySem.W.takerIn K C f = some none := by
  unfold PySem.W.takerIn
  rw [show PySem.W.findIn K (.ref C) f = some none from n]
  rfl
/-- a constant of the class -/
structure Con (K : PySem.W.Frag) (C : Addr) (f : Str) (v : V) (u : Value) : Prop where
  at_ : PySem.W.findIn K (.ref C) f = some (some u)
  rel : RelV v u
  get : PySem.W.specialIn K u "__get__" = some none
  cp : PySem.W.copiedNames.contains f = false
/-- a method: a plain def of the class or of one above it -/
structure Meth (K : PySem.W.Frag) (C : Addr) (m : Str) (f : Addr) : Prop where
  at_ : PySem.W.findIn K (.ref C) m = some (some (.ref f))
  fn : PySem.W.isFn K (.ref f) = true
  kp : PySem.W.keepIn K (.ref f) = true

section
variable {X : Cx} {pins : List (Addr × Obj)} {σ : St} {H : Hp} {s : Shared} {a C dx : Addr} {fs : List (Str × V)} {f : Str} {v : V} {A : Around} {E : Value → Shared → Prop}

theorem getattr_ok {b : Bool} {Q : Value → Shared → Prop} (I : Inv X pins σ H s) (e : H a = some (.ins C dx fs)) (c : Cls X.K C) (n : NoAttr X.K C f) (l : fs.lookup f = some v)
    (h : ∀ u s', Inv X pins σ H s' → RelV v u → Q u s') : wpAny (model X.prog X.w) A (getAttr (.ref a) f b) Q E s := by
  obtain ⟨mA, O, r, _, _, _⟩ := ins_get I.hok e
  obtain ⟨u, hu, ru⟩ := RelO.some_of (v := v) (o := mA f) (by rw [← l]; exact r f)
  exact get_map I.kIn O (c.get f) c.hd n hu (handed_of ru) (h u _ (I.tok _) ru)

theorem getcon_ok {b : Bool} {u : Value} {Q : Value → Shared → Prop} (I : Inv X pins σ H s) (e : H a = some (.ins C dx fs)) (c : Cls X.K C) (k : Con X.K C f v u) (l : fs.lookup f = none)
    (h : ∀ s', Inv X pins σ H s' → Q u s') : wpAny (model X.prog X.w) A (getAttr (.ref a) f b) Q E s := by
  obtain ⟨mA, O, r, _, _, _⟩ := ins_get I.hok e
  have hn : mA f = none := RelO.none_of (by rw [← l]; exact r f)
  exact get_const I.kIn O (c.get f) c.hd k.at_ k.get k.cp hn (handed_of k.rel) (h _ (I.tok _))

theorem getmeth_ok {m : Str} {g : Addr} {pl : Sem Bool} {Q : Value × List Value → Shared → Prop} (I : Inv X pins σ H s) (e : H a = some (.ins C dx fs)) (c : Cls X.K C) (k : Meth X.K C m g) (l : fs.lookup m = none)
    (h : Q (.ref g, [.ref a]) s) : wpAny (model X.prog X.w) A (getMethod (.ref a) m pl) Q E s := by
  obtain ⟨mA, O, r, _, _, _⟩ := ins_get I.hok e
  have hn : mA m = none := RelO.none_of (by rw [← l]; exact r m)
  exact get_meth I.kIn O (c.get m) k.at_ k.fn hn h

theorem setattr_ok {y : V} {u : Value} {Q : Unit → Shared → Prop} (I : Inv X pins σ H s) (e : H a = some (.ins C dx fs)) (c : Cls X.K C) (n : NoAttr X.K C f) (hl : fs.length < 1000) (ry : RelV y u)
    (h : ∀ s', Inv X pins σ (upd H a (.ins C dx (putF f y fs))) s' → Q () s') : wpAny (model X.prog X.w) A (setAttr (.ref a) f u) Q E s := by
  obtain ⟨mA, O, r, wi, _, ho⟩ := ins_get I.hok e
  have hz : (fs.map (·.1)).length ≤ sizeLine := by rw [List.length_map, sizeLine_eq]; omega
  refine set_map I.kIn O c.sa c.po n.taker c.hd wi hz fun h' O' sb => h _ ?_
  have hd : ∃ o, h'.get? dx = some o := let ⟨o, _, _, e', _⟩ := O'.ns; ⟨o, e'⟩
  refine I.write (x := a) (e := dx) (by rw [e]; exact True.intro) (.inr ho) (fun b q hb z => (sb.2 b hb).trans z) hd ?_
  refine ⟨by rw [upd_ne O.ne]; exact ho, ?_, O.ne, O'.obj, _, O'.ns, fun g => ?_, fun g hg => ?_⟩
  · have := length_putF f y fs; omega
  · show RelO ((putF f y fs).lookup g) (if g = f then some u else mA g)
    rw [lookup_putF]
    by_cases q : g = f
    · rw [if_pos q, if_pos q]; exact ry
    · rw [if_neg q, if_neg q]; exact r g
  · by_cases q : g = f
    · rw [q]; exact (keys_putF f y fs).1
    · refine (keys_putF f y fs).2 g (wi g fun z => hg ?_)
      show (if g = f then some u else mA g) = none
      rw [if_neg q]; exact z

/-- a new instance, tracked, without attributes -/
theorem Inv.made (I : Inv X pins σ H s) : Inv X pins σ (upd (upd H s.heap.objs.size (.own (s.heap.objs.size + 1))) (s.heap.objs.size + 1) (.ins C s.heap.objs.size []))
    { s with heap := (s.heap.push PySem.W.emptyDict).push (PySem.W.instObj C s.heap.objs.size) } := by
  have e1 : (s.heap.push PySem.W.emptyDict).get? s.heap.objs.size = some PySem.W.emptyDict := Heap.get?_push_size s.heap rfl
  have e2 : ((s.heap.push PySem.W.emptyDict).push (PySem.W.instObj C s.heap.objs.size)).get? (s.heap.objs.size + 1) = some (PySem.W.instObj C s.heap.objs.size) := by
    have := Heap.get?_push_size (s.heap.push PySem.W.emptyDict) (o := PySem.W.instObj C s.heap.objs.size) rfl
    rwa [Heap.size_push] at this
  have e3 : (s.heap.push PySem.W.emptyDict).Ns s.heap.objs.size (fun _ => none) := ⟨PySem.W.emptyDict, #[], _, e1, rfl, (fun e he => absurd he (by simp)), fun _ => rfl⟩
  have I1 := I.laid (a := s.heap.objs.size) (o := .own (s.heap.objs.size + 1)) (h' := s.heap.push PySem.W.emptyDict) (t' := s.toks) (fun b u q => Heap.get?_push_of_some _ q) (Nat.le_refl _) ⟨_, e1⟩
  refine I1.laid (a := s.heap.objs.size + 1) (o := .ins C s.heap.objs.size []) (t' := s.toks) (fun b u q => Heap.get?_push_of_some _ q) (Nat.le_of_eq (Heap.size_push _ _)) ?_
  have ne : s.heap.objs.size ≠ s.heap.objs.size + 1 := Nat.ne_of_lt (Nat.lt_succ_self _)
  refine ⟨by rw [upd_ne ne, upd_same], Nat.zero_le _, ne, e2, fun _ => none, (Heap.Ns1.of_empty e3).at fun o q => Heap.get?_push_of_some _ q, fun _ => True.intro, fun y hy => absurd rfl hy⟩

/-- e.f where nothing but the object is asked: through attributeBase (super) and the last hold -/
theorem attr_of {prog : Program} {w : World} {env : Env} {e : Expr} {f : Str} {pos : Pos} {s : Shared} {Q : Value → Shared → Prop} (hb : attributeBase e f env (eval e env) = eval e env)
    (h : wpAny (model prog w) A (eval e env) (fun o s₁ => wpAny (model prog w) A (getAttr o f true) Q E s₁) E s) : wpAny (model prog w) A (eval (.Attribute e f pos) env) Q E s :=
  Attribute_any_ h (by rw [arm_eval_Attribute, hb])
end

/-! ### readings and rules -/
/-- e.f, an attribute of the instance -/
def tFld (K : PySem.W.Frag) (ta : TE) (f : Str) : TE := fun σ H Q => ta σ H fun x H1 => ∃ a C dx fs v, x = .ref a ∧ H1 a = some (.ins C dx fs) ∧ Cls K C ∧ NoAttr K C f ∧ fs.lookup f = some v ∧ Q v H1
/-- e.f, a constant of the class -/
def tCon (K : PySem.W.Frag) (ta : TE) (f : Str) : TE := fun σ H Q => ta σ H fun x H1 => ∃ a C dx fs v u, x = .ref a ∧ H1 a = some (.ins C dx fs) ∧ Cls K C ∧ Con K C f v u ∧ fs.lookup f = none ∧ Q v H1
/-- e.f = value -/
def sFld (K : PySem.W.Frag) (ta tv : TE) (f : Str) : TS := fun D σ H => tv σ H fun y H1 => ta σ H1 fun x H2 => ∃ a C dx fs, x = .ref a ∧ H2 a = some (.ins C dx fs) ∧ Cls K C ∧ NoAttr K C f ∧ fs.length < 1000 ∧
  D.nx σ (upd H2 a (.ins C dx (putF f y fs)))
/-- an augmented operator on two values -/
def InOp (X : Cx) (op : Operator) (rd : V → V → Hp → VK → Prop) : Prop :=
  ∀ (pins : List (Addr × Obj)) (s : Shared) (σ : St) (H : Hp) (x y : V) (u v : Value) (Q : VK), Inv X pins σ H s → RelV x u → RelV y v → rd x y H Q → wpAny (model X.prog X.w) X.A (inplaceOp op u v) (EP X pins σ Q) X.xe s
/-- e.f op= value -/
def sFldAug (K : PySem.W.Frag) (ta tv : TE) (rd : V → V → Hp → VK → Prop) (f : Str) : TS := fun D σ H => ta σ H fun x H1 => ∃ a C dx fs v, x = .ref a ∧ H1 a = some (.ins C dx fs) ∧ Cls K C ∧ NoAttr K C f ∧ fs.lookup f = some v ∧
  tv σ H1 fun y H2 => rd v y H2 fun z H3 => ∃ dx' fs', H3 a = some (.ins C dx' fs') ∧ fs'.length < 1000 ∧ D.nx σ (upd H3 a (.ins C dx' (putF f z fs')))

section
variable {X : Cx} {o e value : Expr} {f : Str} {pos pos' tpos : Pos} {ta tv : TE}
theorem pe_fld (he : PE X e ta) (hb : attributeBase e f X.env (eval e X.env) = eval e X.env) : PE X (.Attribute e f pos) (tFld X.K ta f) := by
  intro pins s σ H Q I h
  refine attr_of hb (thn (he pins s σ H _ I h) fun u s1 ⟨x, H1, I1, rx, a, C, dx, fs, v, ex, ea, c, n, l, q⟩ => ?_)
  subst ex
  obtain rfl : u = Value.ref a := rx
  exact getattr_ok I1 ea c n l fun u' s2 I2 ru => ⟨v, H1, I2, ru, q⟩
theorem pe_con (he : PE X e ta) (hb : attributeBase e f X.env (eval e X.env) = eval e X.env) : PE X (.Attribute e f pos) (tCon X.K ta f) := by
  intro pins s σ H Q I h
  refine attr_of hb (thn (he pins s σ H _ I h) fun u s1 ⟨x, H1, I1, rx, a, C, dx, fs, v, u0, ex, ea, c, k, l, q⟩ => ?_)
  subst ex
  obtain rfl : u = Value.ref a := rx
  exact getcon_ok I1 ea c k l fun s2 I2 => ⟨v, H1, I2, k.rel, q⟩
theorem ps_fld (ha : PE X o ta) (hv : PE X value tv) (hs : swapsWith value (some (.Attribute o f pos')) pos.line X.env = pure false) : PS X (.Assign [.Attribute o f pos'] value pos) (sFld X.K ta tv f) := by
  intro pins s σ H D I h
  refine plainObj_wpAny_Assign_Attribute (thn (hv pins s σ H _ I h) fun u s1 ⟨y, H1, I1, ry, q⟩ => thn (ha pins s1 σ H1 _ I1 q) fun ov s2 ⟨x, H2, I2, rx, a, C, dx, fs, ex, ea, c, n, l, q2⟩ => ?_) hs
  subst ex
  obtain rfl : ov = Value.ref a := rx
  exact setattr_ok I2 ea c n l ry fun s3 I3 => ⟨σ, _, I3, q2⟩
theorem ps_fldaug {op : Operator} {rd : V → V → Hp → VK → Prop} (ha : PE X o ta) (hv : PE X value tv) (hop : InOp X op rd) : PS X (.AugAssign (.Attribute o f tpos) op value pos) (sFldAug X.K ta tv rd f) := by
  intro pins s σ H D I h
  refine wpAny_AugAssign_AttributeAny (thn (ha pins s σ H _ I h) fun ov s1 ⟨x, H1, I1, rx, a, C, dx, fs, v, ex, ea, c, n, l, q⟩ => ?_)
  subst ex
  obtain rfl : ov = Value.ref a := rx
  refine getattr_ok I1 ea c n l fun u s2 I2 ru => thn (hv pins s2 σ H1 _ I2 q) fun w3 s3 ⟨y, H2, I3, ry, q3⟩ => thn (hop pins s3 σ H2 v y u w3 _ I3 ru ry q3) fun w4 s4 ⟨z, H3, I4, rz, dx', fs', ea', l', q4⟩ => ?_
  exact setattr_ok I4 ea' c n l' rz fun s5 I5 => ⟨σ, _, I5, q4⟩
def rAdd : V → V → Hp → VK → Prop := fun x y H Q => ∃ i j, x = .int i ∧ y = .int j ∧ Q (.int (i + j)) H
def rSub : V → V → Hp → VK → Prop := fun x y H Q => ∃ i j, x = .int i ∧ y = .int j ∧ Q (.int (i - j)) H
theorem in_add : InOp X .Add rAdd := by
  rintro pins s σ H x y u v Q I rx ry ⟨i, j, rfl, rfl, q⟩
  obtain ⟨t, rfl⟩ := (show ∃ t, u = Value.int i t from rx)
  obtain ⟨t', rfl⟩ := (show ∃ t', v = Value.int j t' from ry)
  exact PyProof.Rows.iadd_int ⟨.int (i + j), H, I.tok _, ⟨_, rfl⟩, q⟩
theorem in_sub : InOp X .Sub rSub := by
  rintro pins s σ H x y u v Q I rx ry ⟨i, j, rfl, rfl, q⟩
  obtain ⟨t, rfl⟩ := (show ∃ t, u = Value.int i t from rx)
  obtain ⟨t', rfl⟩ := (show ∃ t', v = Value.int j t' from ry)
  exact PyProof.Rows.isub_int ⟨.int (i - j), H, I.tok _, ⟨_, rfl⟩, q⟩

/-- what is between an instance and its method: the tree of a method call -/
theorem methcall_of {pl : Sem Bool} {m : Str} {apos : Pos} {args : List Expr} {pins : List (Addr × Obj)} {s : Shared} {σ : St} {H : Hp} {Q : Value → Shared → Prop} {te : TE} (he : PE X e te) (I : Inv X pins σ H s)
    (h : te σ H fun x H1 => ∃ a C dx fs g, x = .ref a ∧ H1 a = some (.ins C dx fs) ∧ Cls X.K C ∧ Meth X.K C m g ∧ fs.lookup m = none ∧
      ∀ s1, Inv X pins σ H1 s1 → wpAny (model X.prog X.w) X.A (callWith pos (.ref g) [.ref a] (backTo pos (starEach args X.env)) (backToKw pos (keywordEach [] X.env))) Q X.xe s1)
    (ht : eval (.Call (.Attribute e m apos) args [] pos) X.env = (do
      let ov ← eval e X.env
      standAt apos.atName
      let (f, first) ← holding [ov] (getMethod ov m pl)
      callWith pos f first (backTo pos (starEach args X.env)) (backToKw pos (keywordEach [] X.env)))) :
    wpAny (model X.prog X.w) X.A (eval (.Call (.Attribute e m apos) args [] pos) X.env) Q X.xe s := by
  refine PySem.W.methodCall_KW (pl := pl) (thn (he pins s σ H _ I h) fun u s1 ⟨x, H1, I1, rx, a, C, dx, fs, g, ex, ea, c, k, l, q⟩ => ?_) ht
  subst ex
  obtain rfl : u = Value.ref a := rx
  exact getmeth_ok I1 ea c k l (q s1 I1)
end

/-! ### isinstance -/
section
variable {X : Cx} {pins : List (Addr × Obj)} {σ : St} {H : Hp} {s : Shared} {A : Around} {E : Value → Shared → Prop} {Q : Value → Shared → Prop} {c : Value} {b : Bool}
/-- the type of a value, as the fragment's deciders take it; for an instance its class -/
inductive TyOf (K : PySem.W.Frag) (H : Hp) : V → Value → Prop where
  | non : TyOf K H .non (.type "NoneType")
  | bl (x : Bool) : TyOf K H (.bl x) (.type "bool")
  | int (i : Int) : TyOf K H (.int i) (.type "int")
  | str (x : Str) : TyOf K H (.str x) (.type "str")
  | flt (x : UInt64) : TyOf K H (.flt x) (.type "float")
  | lst {a : Addr} {xs : List V} (e : H a = some (.lst xs)) : TyOf K H (.ref a) (.type "list")
  | frz {a : Addr} {o : Obj} {xs : List V} (e : H a = some (.frz o (.lst xs))) : TyOf K H (.ref a) (.type "list")
  | tup {a : Addr} {xs : List V} (e : H a = some (.tup xs)) : TyOf K H (.ref a) (.type "tuple")
  | dK {a : Addr} {kvs : List (Key × V)} (e : H a = some (.dK kvs)) : TyOf K H (.ref a) (.type "dict")
  | dT {a : Addr} {kvs : List (List Key × V)} (e : H a = some (.dT kvs)) : TyOf K H (.ref a) (.type "dict")
  | ins {a C dx : Addr} {fs : List (Str × V)} (e : H a = some (.ins C dx fs)) (cl : Cls K C) (ha : PySem.W.findIn K (.ref C) "__class__" = some (some (.builtin "object.__class__")))
      (hn : PySem.W.specialIn K (.builtin "object.__class__") "__get__" = some (some (.builtin "getset_descriptor.__get__"))) (htk : PySem.W.takesIn K (.builtin "object.__class__") = some true)
      (hm : PySem.W.mroIn K C (.type "object") = some true) : TyOf K H (.ref a) (.ref C)
/-- isinstance(x, c) for one class c, a built-in or an own one: kitOne's answer -/
theorem isinst_ok {x : V} {u t : Value} (I : Inv X pins σ H s) (rx : RelV x u) (ty : TyOf X.K H x t) (e : PySem.W.kitOne X.K t c = some b) (h : ∀ tk, Q (.bool b) { s with toks := tk }) :
    wpAny (model X.prog X.w) A (call (.builtin "isinstance") [u, c]) Q E s := by
  cases ty with
  | non => cases (show u = Value.none from rx); exact PySem.W.kia_one PySem.W.kitx_none I.kIn True.intro e (fun z => nomatch z) h
  | bl y => cases (show u = Value.bool y from rx); exact PySem.W.kia_one PySem.W.kitx_bool I.kIn True.intro e (fun z => nomatch z) h
  | int i => obtain ⟨t, q⟩ := (show ∃ t, u = Value.int i t from rx); cases q; exact PySem.W.kia_one PySem.W.kitx_int I.kIn True.intro e (fun z => nomatch z) h
  | str y => obtain ⟨t, q⟩ := (show ∃ t, u = Value.str y t from rx); cases q; exact PySem.W.kia_one PySem.W.kitx_str I.kIn True.intro e (fun z => nomatch z) h
  | flt y => obtain ⟨t, q⟩ := (show ∃ t, u = Value.float y t from rx); cases q; exact PySem.W.kia_one PySem.W.kitx_float I.kIn True.intro e (fun z => nomatch z) h
  | @lst a xs ea =>
    cases (show u = Value.ref a from rx)
    obtain ⟨_, _, n, _, h1⟩ := (show ObjOk X.prog X.w H s.heap a (.lst xs) from I.hok a _ ea)
    exact PySem.W.kia_one PySem.W.kitx_list I.kIn ⟨_, h1, rfl⟩ e (fun z => nomatch z) h
  | @frz a ob xs ea =>
    cases (show u = Value.ref a from rx)
    obtain ⟨_, _, _, n, _, h1⟩ := (show ObjOk X.prog X.w H s.heap a (.frz ob (.lst xs)) from I.hok a _ ea)
    exact PySem.W.kia_one PySem.W.kitx_list I.kIn ⟨_, h1, rfl⟩ e (fun z => nomatch z) h
  | @tup a xs ea =>
    cases (show u = Value.ref a from rx)
    obtain ⟨_, _, _, p⟩ := (show ObjOk X.prog X.w H s.heap a (.tup xs) from I.hok a _ ea)
    obtain ⟨o, h1, h2, _⟩ := p
    exact PySem.W.kia_one PySem.W.kitx_tuple I.kIn ⟨o, h1, h2⟩ e (fun z => nomatch z) h
  | @dK a kvs ea =>
    cases (show u = Value.ref a from rx)
    obtain ⟨_, _, vs, _, p⟩ := (show ObjOk X.prog X.w H s.heap a (.dK kvs) from I.hok a _ ea)
    obtain ⟨o, es, ep, h1, h2, _⟩ := p
    exact PySem.W.kia_one PySem.W.kitx_dict I.kIn ⟨o, h1, h2.1⟩ e (fun z => nomatch z) h
  | @dT a kvs ea =>
    cases (show u = Value.ref a from rx)
    obtain ⟨_, _, xs, _, o, es, ep, h1, h2, _⟩ := (show ObjOk X.prog X.w H s.heap a (.dT kvs) from I.hok a _ ea)
    exact PySem.W.kia_one PySem.W.kitx_dict I.kIn ⟨o, h1, h2.1⟩ e (fun z => nomatch z) h
  | @ins a C dx fs ea cl ha hn htk hm =>
    cases (show u = Value.ref a from rx)
    obtain ⟨mA, O, _⟩ := ins_get I.hok ea
    obtain ⟨od, J, _⟩ := O.look
    exact PySem.W.kia_one (PySem.W.kitx_own (cl.get _) cl.hd ha hn htk hm) I.kIn J e (fun z => nomatch z) h
end
end L2

namespace L2
open PySem PySem.Spec PyProof.Rows

/-! ### room -/
structure Room (k : Nat) (A : Around) : Prop where
  hd : A.handled = none
  dp : A.depth + 3 * k + 5 < recursionLimit
  un : A.units + 16 * k + 200 < cLine
  gd : A.guards = some []
theorem Room.mono {j k : Nat} {A : Around} (r : Room k A) (h : j ≤ k) : Room j A := ⟨r.hd, by have := r.dp; omega, by have := r.un; omega, r.gd⟩
theorem Room.deeper {k : Nat} {A : Around} (r : Room (k + 1) A) (env : Env) : Room k (A.deeper env) :=
  ⟨r.hd, by have := r.dp; show A.depth + 1 + 3 * k + 5 < _; omega, by have := r.un; show A.units + 3 + 16 * k + 200 < _; omega, by first | exact r.gd | simpa [Around.deeper, Around.under, Code.guards, Code.isGuard, pushGuards] using r.gd⟩
theorem Room.in1 {k : Nat} {A : Around} (r : Room (k + 1) A) : Room k A.in1 :=
  ⟨r.hd, by have := r.dp; show A.depth + 3 * k + 5 < _; omega, by have := r.un; show A.units + 1 + 16 * k + 200 < _; omega, r.gd⟩
theorem make_depth {A : Around} {C : Addr} {us : List Value} {kw : List (Str × Value)} : (A.under (.builtin "type.__call__" ⟨.ref C :: us, kw⟩)).depth = A.depth + 1 := by
  first | rfl | simp [Around.under, Code.weight, Code.isCreation, Code.isGuard, Code.isCaller, Code.frames, Code.isFrame, guardIds]
theorem make_units {A : Around} {C : Addr} {us : List Value} {kw : List (Str × Value)} : (A.under (.builtin "type.__call__" ⟨.ref C :: us, kw⟩)).units = A.units + 1 := by
  first | rfl | simp [Around.under, Code.cUnits, Code.frames, Code.isFrame]
theorem Room.make {k : Nat} {A : Around} (r : Room (k + 1) A) (C : Addr) (us : List Value) (kw : List (Str × Value)) : Room k (A.under (.builtin "type.__call__" ⟨.ref C :: us, kw⟩)) :=
  ⟨r.hd, by have := r.dp; rw [make_depth]; omega, by have := r.un; rw [make_units]; omega, by first | exact r.gd | simpa [Around.under, Code.guards, Code.isGuard, guardIds, pushGuards] using r.gd⟩
theorem Room.depth {k : Nat} {A : Around} (r : Room k A) : A.depth < recursionLimit := by have := r.dp; omega
theorem Room.units {k : Nat} {A : Around} (r : Room k A) : A.units + 64 < cLine := by have := r.un; omega
theorem Room.units0 {k : Nat} {A : Around} (r : Room k A) : A.units < cLine := by have := r.un; omega

/-! ### argument lists and displays -/
def tNil : TA := fun _ H Q => Q [] H
def tCons (ta : TE) (tr : TA) : TA := fun σ H Q => ta σ H fun x H1 => tr σ H1 fun xs H2 => Q (x :: xs) H2
section
variable {X : Cx} {e : Expr} {es : List Expr} {te : TE} {t : TA} {pos : Pos}
theorem pa_nil : PA X [] tNil := fun _ _ _ _ H Q I h => Calls.spliced_nil ⟨[], H, I, .nil, h⟩
theorem pa_cons (ha : PE X e te) (hr : PA X es t) (hs : starEach (e :: es) X.env = (false, eval e X.env) :: starEach es X.env := by rfl) : PA X (e :: es) (tCons te t) := by
  intro pos pins s σ H Q I h
  rw [hs]
  show wpAny _ _ (spliced ((false, eval e X.env) :: backTo pos (starEach es X.env))) _ _ s
  refine Calls.spliced_cons (thn (ha pins s σ H _ I h) fun u s1 ⟨x, H1, I1, r1, q1⟩ => ?_)
  exact thn (hr pos pins s1 σ H1 _ I1 q1) fun us s2 ⟨xs, H2, I2, r2, q2⟩ => ⟨x :: xs, H2, I2, .cons r1 r2, q2⟩

/-- a tuple, a list of written items -/
def tTup (t : TA) : TE := fun σ H Q => t σ H fun xs H1 => xs.length ≤ sizeLine ∧ ∀ p, H1 p = none → Q (.ref p) (upd H1 p (.tup xs))
def tLst (t : TA) : TE := fun σ H Q => t σ H fun xs H1 => xs.length ≤ sizeLine ∧ ∀ p, H1 p = none → Q (.ref p) (upd H1 p (.lst xs))
theorem pe_tup {x1} (h : PA X es t) : PE X (.Tuple es x1 pos) (tTup t) := by
  intro pins s σ H Q I hq
  refine wpAny_Tuple_spliced (thn (h pos pins s σ H _ I hq) fun us s1 ⟨xs, H1, I1, r, z, q⟩ => ⟨by rw [← r.length]; exact z, ?_⟩)
  have hf : H1 s1.heap.objs.size = none := I1.hok.fresh (Nat.le_refl _)
  refine ⟨.ref s1.heap.objs.size, upd H1 s1.heap.objs.size (.tup xs), I1.laid (t' := s1.toks) (fun b u e => Heap.get?_push_of_some _ e) (Nat.le_refl _) ?_, rfl, q _ hf⟩
  exact ⟨z, us, r, ⟨_, Heap.get?_push_size _ rfl, rfl, _, rfl⟩⟩
theorem pe_lst (h : PA X es t) : PE X (.List es pos) (tLst t) := by
  intro pins s σ H Q I hq
  refine wpAny_List_spliced (thn (h pos pins s σ H _ I hq) fun us s1 ⟨xs, H1, I1, r, z, q⟩ => ⟨by rw [← r.length]; exact z, ?_⟩)
  have hf : H1 s1.heap.objs.size = none := I1.hok.fresh (Nat.le_refl _)
  refine ⟨.ref s1.heap.objs.size, upd H1 s1.heap.objs.size (.lst xs), I1.laid (t' := s1.toks) (fun b u e => Heap.get?_push_of_some _ e) (Nat.le_refl _) ?_, rfl, q _ hf⟩
  exact ⟨z, us, 0, r, Heap.get?_push_size _ rfl⟩
end

/-! ### what a def promises -/
/-- a def's promise: the bound arguments in the parameters' order, the heap, the wanted end, the wanted exception -/
abbrev Sp := List V → Hp → VK → XK → Prop
/-- how an exception lies behind a call (file 08 gives it): the callers' frames, abstract heap and state ahead of the call, the wish, the exception, the state -/
abbrev CXT := List Env → Hp → Shared → XK → Value → Shared → Prop

/-- the state at a call -/
structure Env0 (P : Program) (w : World) (K : PySem.W.Frag) (mg : Str → Option Value) (base : Heap) (A : Around) (outer : List Env) (s : Shared) (H : Hp) : Prop where
  frames : A.frames = some outer
  mod : Mod K mg base
  bs : ∀ b o, base.get? b = some o → s.heap.get? b = some o ∧ H b = none
  bsz : base.objs.size ≤ s.heap.objs.size
  funs : s.heap.FunFrames base outer
  frf : ∀ b ∈ frs outer, H b = none
  hok : HOk P w H s.heap
  bare : AllBare s.gens
/-- a call's end -/
def CE (outer : List Env) (P : Program) (w : World) (H : Hp) (s : Shared) (Q : VK) (u : Value) (s' : Shared) : Prop :=
  ∃ v H', s'.os = s.os ∧ AllBare s'.gens ∧ Un (frs outer) [] H H' s.heap s'.heap ∧ HOk P w H' s'.heap ∧ RelV v u ∧ Q v H'
def CR (CX : CXT) (outer : List Env) (P : Program) (w : World) (H : Hp) (s : Shared) (Q : VK) (E : XK) (r : Result) (s' : Shared) : Prop :=
  match r with
  | .ok (.ret u) => CE outer P w H s Q u s'
  | .ok _ => False
  | .error e => CX outer H s E e s'
structure FnOk (P : Program) (w : World) (K : PySem.W.Frag) (mg : Str → Option Value) (base : Heap) (CX : CXT) (k : Nat) (f : Addr) (fd : FuncData) (ps : List Str) (sp : Sp) : Prop where
  len : ∀ vs H Q E, sp vs H Q E → vs.length = ps.length
  run : ∀ (A : Around) (outer : List Env) (s : Shared) (H : Hp) (args : Args) (us : List Value) (vs : List V) (Q : VK) (E : XK), Room k A → Env0 P w K mg base A outer s H → BindsTo s fd args (ps.zip us) → Vals vs us → sp vs H Q E →
    codeAny (model P w) A (.call (.ref f) args) (CR CX outer P w H s Q E) s
theorem FnOk.mono {P : Program} {w : World} {K : PySem.W.Frag} {mg : Str → Option Value} {base : Heap} {CX : CXT} {j k : Nat} {f : Addr} {fd : FuncData} {ps : List Str} {sp : Sp} (F : FnOk P w K mg base CX j f fd ps sp) (h : j ≤ k) :
    FnOk P w K mg base CX k f fd ps sp := ⟨F.len, fun A outer s H args us vs Q E hr => F.run A outer s H args us vs Q E (hr.mono h)⟩
/-- a weaker promise -/
theorem FnOk.imp {P : Program} {w : World} {K : PySem.W.Frag} {mg : Str → Option Value} {base : Heap} {CX : CXT} {k : Nat} {f : Addr} {fd : FuncData} {ps : List Str} {sp sp' : Sp} (F : FnOk P w K mg base CX k f fd ps sp)
    (h : ∀ vs H Q E, sp' vs H Q E → sp vs H Q E) : FnOk P w K mg base CX k f fd ps sp' :=
  ⟨fun vs H Q E q => F.len vs H Q E (h _ _ _ _ q), fun A outer s H args us vs Q E hr he hb hv hs => F.run A outer s H args us vs Q E hr he hb hv (h _ _ _ _ hs)⟩

theorem Env0.make {P : Program} {w : World} {K : PySem.W.Frag} {mg : Str → Option Value} {base : Heap} {A : Around} {outer : List Env} {s : Shared} {H : Hp} (e : Env0 P w K mg base A outer s H) (C : Addr) (us : List Value) (kw : List (Str × Value)) :
    Env0 P w K mg base (A.under (.builtin "type.__call__" ⟨.ref C :: us, kw⟩)) outer s H := ⟨by first | exact e.frames | (simpa [Around.under, Code.envs, Code.isFrame, pushEnvs] using e.frames), e.mod, e.bs, e.bsz, e.funs, e.frf, e.hok, e.bare⟩
theorem Env0.in1 {P : Program} {w : World} {K : PySem.W.Frag} {mg : Str → Option Value} {base : Heap} {A : Around} {outer : List Env} {s : Shared} {H : Hp} (e : Env0 P w K mg base A outer s H) :
    Env0 P w K mg base A.in1 outer s H := ⟨e.frames, e.mod, e.bs, e.bsz, e.funs, e.frf, e.hok, e.bare⟩

section
variable {X : Cx} {pins : List (Addr × Obj)} {σ : St} {H : Hp} {s s' : Shared}
/-- from a body: what a callee wants -/
theorem Inv.env0 (I : Inv X pins σ H s) : Env0 X.prog X.w X.K X.mg X.base X.A X.stack s H :=
  ⟨I.ok.frames, I.ok.mod, I.bs, Nat.le_trans I.ok.bsz I.sz, I.stack, I.stkFree, I.hok, I.bare⟩
/-- behind a call -/
theorem Inv.after {Q : VK} {u : Value} (I : Inv X pins σ H s) (h : CE X.stack X.prog X.w H s Q u s') : EP X pins σ Q u s' := by
  obtain ⟨v, H', os, bare, un, hok, r, q⟩ := h
  obtain ⟨hh, g, d, t, os'⟩ := s'
  obtain rfl : os' = s.os := os
  exact ⟨v, H', I.call (h' := hh) (g' := g) (d' := d) (t' := t) (ch := []) un hok bare (fun b z => absurd z (by simp)), r, q⟩
end

/-! ### calls -/
/-- f(..): the written arguments, then the defaults dvs; E: what is wanted of an exception -/
def tCall (sp : Sp) (dvs : List V) (E : XK) (t : TA) : TE := fun σ H Q => t σ H fun vs H1 => sp (vs ++ dvs) H1 Q E
/-- o.m(..) of an instance of the class at C -/
def tMeth (C : Addr) (m : Str) (sp : Sp) (dvs : List V) (E : XK) (ta : TE) (t : TA) : TE := fun σ H Q => ta σ H fun x H1 => ∃ a dx fs, x = .ref a ∧ H1 a = some (.ins C dx fs) ∧ fs.lookup m = none ∧
  t σ H1 fun vs H2 => sp (x :: (vs ++ dvs)) H2 Q E
/-- C(..): a new instance and its dict, then __init__ -/
def tMake (C : Addr) (sp : Sp) (dvs : List V) (E : XK) (t : TA) : TE := fun σ H Q => t σ H fun vs H1 => ∀ x dx, H1 x = none → H1 dx = none → dx ≠ x →
  sp (.ref x :: (vs ++ dvs)) (upd (upd H1 dx (.own x)) x (.ins C dx [])) (fun v H2 => v = .non ∧ Q (.ref x) H2) E

/-- how the parameters are bound: us the positional arguments, kw the keywords' values by name, ds the defaults that fill up -/
def Binds (K : PySem.W.Frag) (fd : FuncData) (ps : List Str) (ds : List Value) : Prop :=
  ∀ (s : Shared) (us : List Value), K.In s.heap → (us ++ ds).length = ps.length → BindsTo s fd ⟨us, []⟩ (ps.zip (us ++ ds))
/-- every parameter is given -/
theorem Binds.all {K : PySem.W.Frag} {fd : FuncData} {ps : List Str} (h : ∀ us : List Value, us.length = ps.length → bindArgs fd ⟨us, []⟩ = pure (ps.zip us)) : Binds K fd ps [] := fun s us _ hl => by
  rw [List.append_nil] at hl ⊢
  exact .of_eq (h us hl)

/-- an exception of a callee reaches what this body wants of exceptions -/
def Passes (CX : CXT) (X : Cx) (E : XK) : Prop := ∀ (pins : List (Addr × Obj)) (σ : St) (H : Hp) (s : Shared) (e : Value) (s' : Shared), Inv X pins σ H s → CX X.stack H s E e s' → X.xe e s'

section
variable {X : Cx} {CX : CXT} {k : Nat} {f C : Addr} {fd : FuncData} {ps : List Str} {sp : Sp} {dvs : List V} {ds : List Value} {E : XK} {x m : Str} {p pos apos : Pos} {e o : Expr} {es : List Expr} {ta : TE} {t : TA}

/-- the callee runs -/
theorem run_fn {pins : List (Addr × Obj)} {σ : St} {H : Hp} {s : Shared} {Q : VK} {us : List Value} {vs : List V} (F : FnOk X.prog X.w X.K X.mg X.base CX k f fd ps sp) (hr : Room k X.A) (hb : Binds X.K fd ps ds) (hd : Vals dvs ds) (hx : Passes CX X E)
    (I : Inv X pins σ H s) (r : Vals vs us) (h : sp (vs ++ dvs) H Q E) : wpAny (model X.prog X.w) X.A (call (.ref f) us) (EP X pins σ Q) X.xe s := by
  have r2 : Vals (vs ++ dvs) (us ++ ds) := r.append hd
  have hl : (us ++ ds).length = ps.length := by rw [← r2.length]; exact F.len _ _ _ _ h
  refine wpAny_call (codeAny_mono (F.run X.A X.stack s H ⟨us, []⟩ (us ++ ds) (vs ++ dvs) Q E hr I.env0 (hb s us I.kIn hl) r2 h) fun r s' hq => ?_)
  cases r with
  | error e => exact hx pins σ H s e s' I hq
  | ok fl =>
    cases fl with
    | ret u => exact I.after hq
    | next => exact False.elim hq
    | brk => exact False.elim hq
    | cont => exact False.elim hq

theorem pe_call (F : FnOk X.prog X.w X.K X.mg X.base CX k f fd ps sp) (hr : Room k X.A) (hg : Gl X x) (hm : X.mg x = some (.ref f)) (hk : PySem.W.keepIn X.K (.ref f) = true) (hb : Binds X.K fd ps ds) (hd : Vals dvs ds) (hx : Passes CX X E)
    (ha : PA X (e :: es) t) (hdb : (x == ("__debug__" : Str)) = false := by decide) (he : starEach (e :: es) X.env = (false, eval e X.env) :: starEach es X.env := by rfl) (hpl : (backTo pos (starEach es X.env)).any (·.1) = false := by rfl) :
    PE X (.Call (.Name x p) (e :: es) [] pos) (tCall sp dvs E t) := by
  intro pins s σ H Q I h
  refine wpAny_Call_Name_kw (ld_glob I hg hm ?_ hdb)
  refine PySem.W.callWith_K (h₀ := X.base) I.ok.mod.kin hk (thn (ha pos pins s σ H _ I h) fun us s1 ⟨vs, H1, I1, r, q⟩ => ⟨I1.kIn, ?_⟩) he hpl
  exact run_fn F hr hb hd hx I1 r q
theorem pe_call0 (F : FnOk X.prog X.w X.K X.mg X.base CX k f fd ps sp) (hr : Room k X.A) (hg : Gl X x) (hm : X.mg x = some (.ref f)) (hk : PySem.W.keepIn X.K (.ref f) = true) (hb : Binds X.K fd ps ds) (hd : Vals dvs ds) (hx : Passes CX X E)
    (hdb : (x == ("__debug__" : Str)) = false := by decide) : PE X (.Call (.Name x p) [] [] pos) (tCall sp dvs E tNil) := by
  intro pins s σ H Q I h
  refine wpAny_Call_Name_kw (ld_glob I hg hm ?_ hdb)
  exact PySem.W.callWith_K0 I.kIn hk (run_fn (us := []) F hr hb hd hx I .nil h)

/-- o.m(e, ..) -/
theorem pe_meth {pl : Sem Bool} (he : PE X o ta) (c : Cls X.K C) (hm : Meth X.K C m f) (F : FnOk X.prog X.w X.K X.mg X.base CX k f fd ps sp) (hr : Room k X.A) (hb : Binds X.K fd ps ds) (hd : Vals dvs ds) (hx : Passes CX X E) (ha : PA X (e :: es) t)
    (hst : starEach (e :: es) X.env = (false, eval e X.env) :: starEach es X.env := by rfl) (hpl : (backTo pos (starEach es X.env)).any (·.1) = false := by rfl)
    (ht : eval (.Call (.Attribute o m apos) (e :: es) [] pos) X.env = (do
      let ov ← eval o X.env
      standAt apos.atName
      let (f, first) ← holding [ov] (getMethod ov m pl)
      callWith pos f first (backTo pos (starEach (e :: es) X.env)) (backToKw pos (keywordEach [] X.env))) := by rfl) :
    PE X (.Call (.Attribute o m apos) (e :: es) [] pos) (tMeth C m sp dvs E ta t) := by
  intro pins s σ H Q I h
  refine PySem.W.methodCall_KW (pl := pl) (thn (he pins s σ H _ I h) fun u s1 ⟨x, H1, I1, rx, a, dx, fs, ex, ea, l, q⟩ => ?_) ht
  subst ex
  obtain rfl : u = Value.ref a := rx
  refine getmeth_ok I1 ea c hm l ?_
  refine PySem.W.callWith_K (first := [.ref a]) (h₀ := X.base) I.ok.mod.kin hm.kp (thn (ha pos pins s1 σ H1 _ I1 q) fun us s2 ⟨vs, H2, I2, r, q2⟩ => ⟨I2.kIn, ?_⟩) hst hpl
  exact run_fn (us := .ref a :: us) (vs := .ref a :: vs) F hr hb hd hx I2 (.cons rfl r) q2
/-- o.m() -/
theorem pe_meth0 {pl : Sem Bool} (he : PE X o ta) (c : Cls X.K C) (hm : Meth X.K C m f) (F : FnOk X.prog X.w X.K X.mg X.base CX k f fd ps sp) (hr : Room k X.A) (hb : Binds X.K fd ps ds) (hd : Vals dvs ds) (hx : Passes CX X E)
    (ht : eval (.Call (.Attribute o m apos) [] [] pos) X.env = (do
      let ov ← eval o X.env
      standAt apos.atName
      let (f, first) ← holding [ov] (getMethod ov m pl)
      callWith pos f first (backTo pos (starEach [] X.env)) (backToKw pos (keywordEach [] X.env))) := by rfl) :
    PE X (.Call (.Attribute o m apos) [] [] pos) (tMeth C m sp dvs E ta tNil) := by
  intro pins s σ H Q I h
  refine PySem.W.methodCall_KW (pl := pl) (thn (he pins s σ H _ I h) fun u s1 ⟨x, H1, I1, rx, a, dx, fs, ex, ea, l, q⟩ => ?_) ht
  subst ex
  obtain rfl : u = Value.ref a := rx
  refine getmeth_ok I1 ea c hm l ?_
  exact PySem.W.callWith_K0 (first := [.ref a]) I1.kIn hm.kp (run_fn (us := [.ref a]) (vs := [.ref a]) F hr hb hd hx I1 (.cons rfl .nil) q)

/-- what a class must have to be made -/
structure Mk (K : PySem.W.Frag) (C f : Addr) : Prop where
  makes : PySem.W.makesIn K C = true
  init : PySem.W.findIn K (.ref C) "__init__" = some (some (.ref f))
  fn : PySem.W.isFn K (.ref f) = true
  kp : PySem.W.keepIn K (.ref C) = true

theorem run_make {pins : List (Addr × Obj)} {σ : St} {H : Hp} {s : Shared} {Q : VK} {us : List Value} {vs : List V} (M : Mk X.K C f) (F : FnOk X.prog X.w X.K X.mg X.base CX k f fd ps sp) (hr : Room (k + 1) X.A) (hb : Binds X.K fd ps ds) (hd : Vals dvs ds)
    (hx : Passes CX X E) (I : Inv X pins σ H s) (r : Vals vs us)
    (h : ∀ x dx, H x = none → H dx = none → dx ≠ x → sp (.ref x :: (vs ++ dvs)) (upd (upd H dx (.own x)) x (.ins C dx [])) (fun v H2 => v = .non ∧ Q (.ref x) H2) E) :
    wpAny (model X.prog X.w) X.A (call (.ref C) us) (EP X pins σ Q) X.xe s := by
  have hq := h (s.heap.objs.size + 1) s.heap.objs.size (I.hok.fresh (Nat.le_succ _)) (I.hok.fresh (Nat.le_refl _)) (Nat.ne_of_lt (Nat.lt_succ_self _))
  have I2 := Inv.made (C := C) I
  have r2 : Vals (V.ref (s.heap.objs.size + 1) :: (vs ++ dvs)) (Value.ref (s.heap.objs.size + 1) :: (us ++ ds)) := .cons rfl (r.append hd)
  have hl : (Value.ref (s.heap.objs.size + 1) :: us ++ ds).length = ps.length := by
    have e := r2.length
    rw [F.len _ _ _ _ hq] at e
    exact e.symm
  refine wpAny_call (make_map (f := f) I.kIn M.makes M.init (beq_iff_eq.mp M.fn) (codeAny_mono (F.run _ X.stack _ _ ⟨Value.ref (s.heap.objs.size + 1) :: us, []⟩ (Value.ref (s.heap.objs.size + 1) :: (us ++ ds)) _ _ E (hr.make C us [])
    (I2.env0.make C us []) (hb _ (Value.ref (s.heap.objs.size + 1) :: us) I2.kIn hl) r2 hq) fun r s' hq' => ?_))
  cases r with
  | error e => exact hx pins σ _ _ e s' I2 hq'
  | ok fl =>
    cases fl with
    | ret u =>
      obtain ⟨v, H', I3, rv, ev, q3⟩ := I2.after hq'
      subst ev
      exact ⟨rv, ⟨V.ref (s.heap.objs.size + 1), H', I3, rfl, q3⟩⟩
    | next => exact False.elim hq'
    | brk => exact False.elim hq'
    | cont => exact False.elim hq'
theorem pe_make (M : Mk X.K C f) (F : FnOk X.prog X.w X.K X.mg X.base CX k f fd ps sp) (hr : Room (k + 1) X.A) (hg : Gl X x) (hm : X.mg x = some (.ref C)) (hb : Binds X.K fd ps ds) (hd : Vals dvs ds) (hx : Passes CX X E)
    (ha : PA X (e :: es) t) (hdb : (x == ("__debug__" : Str)) = false := by decide) (he : starEach (e :: es) X.env = (false, eval e X.env) :: starEach es X.env := by rfl) (hpl : (backTo pos (starEach es X.env)).any (·.1) = false := by rfl) :
    PE X (.Call (.Name x p) (e :: es) [] pos) (tMake C sp dvs E t) := by
  intro pins s σ H Q I h
  refine wpAny_Call_Name_kw (ld_glob I hg hm ?_ hdb)
  refine PySem.W.callWith_K (h₀ := X.base) I.ok.mod.kin M.kp (thn (ha pos pins s σ H _ I h) fun us s1 ⟨vs, H1, I1, r, q⟩ => ⟨I1.kIn, ?_⟩) he hpl
  exact run_make M F hr hb hd hx I1 r q
theorem pe_make0 (M : Mk X.K C f) (F : FnOk X.prog X.w X.K X.mg X.base CX k f fd ps sp) (hr : Room (k + 1) X.A) (hg : Gl X x) (hm : X.mg x = some (.ref C)) (hb : Binds X.K fd ps ds) (hd : Vals dvs ds) (hx : Passes CX X E)
    (hdb : (x == ("__debug__" : Str)) = false := by decide) : PE X (.Call (.Name x p) [] [] pos) (tMake C sp dvs E tNil) := by
  intro pins s σ H Q I h
  refine wpAny_Call_Name_kw (ld_glob I hg hm ?_ hdb)
  exact PySem.W.callWith_K0 I.kIn M.kp (run_make (us := []) M F hr hb hd hx I .nil h)
end

/-! ### keywords -/
/-- the values of the keywords, from the left -/
def PK (X : Cx) (kws : List Keyword) (t : TA) : Prop :=
  ∀ (pos : Pos) (pins : List (Addr × Obj)) (s : Shared) (σ : St) (H : Hp) (Q : List V → Hp → Prop), Inv X pins σ H s → t σ H Q → wpAny (model X.prog X.w) X.A (evalAll ((backToKw pos (keywordEach kws X.env)).map (·.2))) (AP X pins σ Q) X.xe s
section
variable {X : Cx} {CX : CXT} {k : Nat} {f C : Addr} {fd : FuncData} {ps ks : List Str} {sp : Sp} {E : XK} {x m : Str} {p pos apos kpos : Pos} {e o : Expr} {es : List Expr} {kws : List Keyword} {te ta : TE} {t tk : TA} {nm : Option Str}
theorem pk_nil : PK X [] tNil := fun _ _ _ _ H Q I h => wpAny_evalAll_nil ⟨[], H, I, .nil, h⟩
theorem pk_cons (ha : PE X e te) (hr : PK X kws t) : PK X (⟨nm, e, kpos⟩ :: kws) (tCons te t) := by
  intro pos pins s σ H Q I h
  show wpAny _ _ (evalAll ((do let v ← eval e X.env; standAt pos; pure v) :: (backToKw pos (keywordEach kws X.env)).map (·.2))) _ _ s
  refine wpAny_evalAll_cons (wpAny_bind (thn (ha pins s σ H _ I h) fun u s1 ⟨x, H1, I1, r1, q1⟩ => wpAny_bind (wpAny_standAt (wpAny_pure ?_))))
  exact thn (hr pos pins s1 σ H1 _ I1 q1) fun us s2 ⟨xs, H2, I2, r2, q2⟩ => ⟨x :: xs, H2, I2, .cons r1 r2, q2⟩

/-- how a call with keywords binds: g puts the positional values us and the keywords' values ws (names ks) in the parameters' order, defaults among them -/
structure KBinds (K : PySem.W.Frag) (fd : FuncData) (ps ks : List Str) (g : List Value → List Value → List Value) (gV : List V → List V → List V) : Prop where
  to : ∀ (s : Shared) (us ws : List Value), K.In s.heap → (g us ws).length = ps.length → BindsTo s fd ⟨us, ks.zip ws⟩ (ps.zip (g us ws))
  rel : ∀ {vs : List V} {us : List Value} {zs : List V} {ws : List Value}, Vals vs us → Vals zs ws → Vals (gV vs zs) (g us ws)
def tCallK (sp : Sp) (gV : List V → List V → List V) (E : XK) (t tk : TA) : TE := fun σ H Q => t σ H fun vs H1 => tk σ H1 fun zs H2 => sp (gV vs zs) H2 Q E
variable {g : List Value → List Value → List Value} {gV : List V → List V → List V}
theorem run_fnk {pins : List (Addr × Obj)} {σ : St} {H : Hp} {s : Shared} {Q : VK} {us ws : List Value} {vs zs : List V} (F : FnOk X.prog X.w X.K X.mg X.base CX k f fd ps sp) (hr : Room k X.A) (hb : KBinds X.K fd ps ks g gV) (hx : Passes CX X E)
    (I : Inv X pins σ H s) (r : Vals vs us) (rz : Vals zs ws) (h : sp (gV vs zs) H Q E) : wpAny (model X.prog X.w) X.A (call (.ref f) us (ks.zip ws)) (EP X pins σ Q) X.xe s := by
  have r2 := hb.rel r rz
  have hl : (g us ws).length = ps.length := by rw [← r2.length]; exact F.len _ _ _ _ h
  refine wpAny_call (codeAny_mono (F.run X.A X.stack s H ⟨us, ks.zip ws⟩ (g us ws) (gV vs zs) Q E hr I.env0 (hb.to s us ws I.kIn hl) r2 h) fun r s' hq => ?_)
  cases r with
  | error e => exact hx pins σ H s e s' I hq
  | ok fl =>
    cases fl with
    | ret u => exact I.after hq
    | next => exact False.elim hq
    | brk => exact False.elim hq
    | cont => exact False.elim hq
/-- f(e, .., k = v, ..) -/
theorem pe_callK (F : FnOk X.prog X.w X.K X.mg X.base CX k f fd ps sp) (hr : Room k X.A) (hg : Gl X x) (hm : X.mg x = some (.ref f)) (hk : PySem.W.keepIn X.K (.ref f) = true) (hb : KBinds X.K fd ps ks g gV) (hx : Passes CX X E)
    (ha : PA X (e :: es) t) (hkw : PK X kws tk) (hall : (backToKw pos (keywordEach kws X.env)).all (·.1.isSome) = true := by rfl) (hks : (backToKw pos (keywordEach kws X.env)).filterMap (·.1) = ks := by rfl)
    (hdb : (x == ("__debug__" : Str)) = false := by decide) (he : starEach (e :: es) X.env = (false, eval e X.env) :: starEach es X.env := by rfl)
    (hpl : ((backTo pos (starEach (e :: es) X.env)).any (·.1) || (backToKw pos (keywordEach kws X.env)).any (·.1.isNone)) = false := by rfl) :
    PE X (.Call (.Name x p) (e :: es) kws pos) (tCallK sp gV E t tk) := by
  intro pins s σ H Q I h
  refine wpAny_Call_Name_kw (ld_glob I hg hm ?_ hdb)
  refine PySem.W.callWith_KW (h₀ := X.base) I.ok.mod.kin hk hall (thn (ha pos pins s σ H _ I h) fun us s1 ⟨vs, H1, I1, r, q⟩ => ?_) hpl he
  refine thn (hkw pos pins s1 σ H1 _ I1 q) fun ws s2 ⟨zs, H2, I2, rz, q2⟩ => ⟨I2.kIn, ?_⟩
  rw [hks]
  exact run_fnk F hr hb hx I2 r rz q2
end

/-! ### a def's body keeps its promise -/
/-- names: the parameters first -/
structure FnScope (N P : List Str) (sc : Scope) : Prop where
  kind : sc.kind = .function
  co : sc.isCoroutine = false
  gen : sc.isGenerator = false
  nd : N.Nodup
  pre : N.take P.length = P
  par : ∀ x ∈ P, sc.names.lookup x = some .local ∨ sc.names.lookup x = some .cell
  nofree : ∀ y ∈ sc.names, y.2 ≠ .free

theorem bindL_out {kindOf : Str → Option NameKind} {x : Str} : ∀ {binds : List (Str × Value)} {m : Str → Option Value}, (∀ v, (x, v) ∉ binds) → bindL kindOf binds m x = m x
  | [], _, _ => rfl
  | (n, v) :: r, m, h => by
    unfold bindL
    rw [bindL_out fun w hw => h w (List.mem_cons_of_mem _ hw)]
    split
    · have : x ≠ n := by rintro rfl; exact h v List.mem_cons_self
      simp [this]
    · rfl
theorem bindC_out {kindOf : Str → Option NameKind} {x : Str} : ∀ {binds : List (Str × Value)} {m : Str → Option Value}, (∀ v, (x, v) ∉ binds) → bindC kindOf binds m x = m x
  | [], _, _ => rfl
  | (n, v) :: r, m, h => by
    unfold bindC
    rw [bindC_out fun w hw => h w (List.mem_cons_of_mem _ hw)]
    split
    · rfl
    · have : x ≠ n := by rintro rfl; exact h v List.mem_cons_self
      simp [this]
theorem bindL_get {kindOf : Str → Option NameKind} {x : Str} {v : Value} : ∀ {P : List Str} {vs : List Value} {i : Nat} {m : Str → Option Value}, P.Nodup → P[i]? = some x → vs[i]? = some v → kindOf x = some .local →
    bindL kindOf (P.zip vs) m x = some v
  | [], _, _, _, _, h, _, _ => by simp at h
  | _ :: _, [], _, _, _, _, h, _ => by simp at h
  | p :: P, w :: vs, 0, m, nd, h1, h2, hk => by
    simp at h1 h2; subst h1; subst h2
    show bindL kindOf ((p, w) :: P.zip vs) m p = _
    unfold bindL
    rw [bindL_out fun v hv => (List.nodup_cons.mp nd).1 (List.of_mem_zip hv).1, if_pos hk]
    simp
  | p :: P, w :: vs, i + 1, m, nd, h1, h2, hk => by
    show bindL kindOf ((p, w) :: P.zip vs) m x = _
    unfold bindL
    exact bindL_get (i := i) (List.nodup_cons.mp nd).2 (by simpa using h1) (by simpa using h2) hk
theorem bindC_get {kindOf : Str → Option NameKind} {x : Str} {v : Value} : ∀ {P : List Str} {vs : List Value} {i : Nat} {m : Str → Option Value}, P.Nodup → P[i]? = some x → vs[i]? = some v → kindOf x ≠ some .local →
    bindC kindOf (P.zip vs) m x = some v
  | [], _, _, _, _, h, _, _ => by simp at h
  | _ :: _, [], _, _, _, _, h, _ => by simp at h
  | p :: P, w :: vs, 0, m, nd, h1, h2, hk => by
    simp at h1 h2; subst h1; subst h2
    show bindC kindOf ((p, w) :: P.zip vs) m p = _
    unfold bindC
    rw [bindC_out fun v hv => (List.nodup_cons.mp nd).1 (List.of_mem_zip hv).1, if_neg hk]
    simp
  | p :: P, w :: vs, i + 1, m, nd, h1, h2, hk => by
    show bindC kindOf ((p, w) :: P.zip vs) m x = _
    unfold bindC
    exact bindC_get (i := i) (List.nodup_cons.mp nd).2 (by simpa using h1) (by simpa using h2) hk

/-- the names' values at the entry -/
def start (N : List Str) (vs : List V) : St := vs.map some ++ List.replicate (N.length - vs.length) none

/-- the context of a def's body, at its entry; an exception leaves the frame, then lies as CX says -/
def cxOf (CX : CXT) (P : Program) (w : World) (K : PySem.W.Frag) (mg : Str → Option Value) (base : Heap) (N : List Str) (qual : Str) (scope : Scope) (f : Addr) (cd : Value) (A : Around) (outer : List Env) (s : Shared) (H : Hp) (E : XK) : Cx where
  prog := P
  w := w
  K := K
  mg := mg
  base := base
  A := A.deeper (envOfC qual scope s.heap.objs.size f cd)
  N := N
  s₀ := s
  H₀ := H
  env := envOfC qual scope s.heap.objs.size f cd
  outer := outer
  stack := envOfC qual scope s.heap.objs.size f cd :: outer
  ex := []
  calm := true
  fn := fun _ => true
  pn := []
  xe := fun e s' => wpAny (model P w) (A.deeper (envOfC qual scope s.heap.objs.size f cd)) (leaving (envOfC qual scope s.heap.objs.size f cd) e) (fun _ s'' => CX outer H s E e s'') (fun e' s'' => CX outer H s E e' s'') s'

theorem cell_has {sc : Scope} {n : Nat} {x : Str} (h : sc.names.lookup x = some .cell) : ∃ c, (cellsFrom n sc.names []).lookup x = some c := by
  have q := PySem.W.cellsFrom_some sc.names n [] (.inl h)
  exact Option.isSome_iff_exists.mp q

theorem inv_start {CX : CXT} {P : Program} {w : World} {K : PySem.W.Frag} {mg : Str → Option Value} {base : Heap} {N ps : List Str} {qual : Str} {scope : Scope} {f : Addr} {cd : Value} {A : Around} {outer : List Env} {s s1 : Shared} {H : Hp} {E : XK} {us : List Value} {vs : List V}
    (S : FnScope N ps scope) (hd : A.handled = none) (e0 : Env0 P w K mg base A outer s H) (hl : vs.length = ps.length) (r : Vals vs us)
    (x : InCallC s s.heap.objs.size (bindL (envOfC qual scope s.heap.objs.size f cd).kindOf (ps.zip us) fun _ => none) (cellsFrom (s.heap.objs.size + 1) scope.names []) (bindC (envOfC qual scope s.heap.objs.size f cd).kindOf (ps.zip us) fun _ => none) s1) :
    Inv (cxOf CX P w K mg base N qual scope f cd A outer s H E) [] (start N vs) H s1 := by
  have hpl : ps.length ≤ N.length := by have := congrArg List.length S.pre; rw [List.length_take] at this; omega
  obtain ⟨h1, tk, rfl, hk⟩ := x.done
  have noA : ∀ b : Addr, b ∉ (cxOf CX P w K mg base N qual scope f cd A outer s H E).ex := fun b z => absurd (show b ∈ ([] : List Addr) from z) (by simp)
  refine ⟨⟨e0.mod, S.kind, rfl, rfl, Nat.le_refl _, fun y z c h1 h2 => ?_, fun y hy => ?_, fun y c _ h => ?_, fun _ => hd, Around.frames_deeper e0.frames, .inr ⟨rfl, rfl⟩, fun b z => absurd z (noA b), e0.bs, e0.bsz, fun b _ _ => noA b, fun b z => absurd z (noA b), e0.funs, e0.frf⟩,
    rfl, e0.bare, Un.kept hk, ⟨_, x.toInCall.ns, fun i y v h1 h2 h3 => ?_⟩, fun y c h => ⟨_, x.cell y c h⟩, e0.hok.fresh (Nat.le_refl _), fun y c h => ?_, fun p hp => absurd (show p ∈ ([] : List (Addr × Obj)) from hp) (by simp), e0.hok.kept hk, ?_⟩
  · exact name_of_addr x.apart (PySem.mem_of_lookup h1) (PySem.mem_of_lookup h2)
  · have hy : scope.names.lookup y = some .cell ∨ scope.names.lookup y = some .free := hy
    rcases hy with hy | hy
    · exact cell_has hy
    · exact absurd rfl (S.nofree _ (PySem.mem_of_lookup hy))
  · exact Nat.le_of_lt (x.above y c (PySem.mem_of_lookup h))
  · have hi : i < vs.length := by
      unfold start at h2
      by_cases hi : i < vs.length
      · exact hi
      · rw [List.getElem?_append_right (by simpa using hi)] at h2
        rw [List.getElem?_replicate] at h2
        split at h2 <;> cases h2
    have ha : vs[i]? = some v := by
      unfold start at h2
      rw [List.getElem?_append_left (by simpa using hi), List.getElem?_map] at h2
      cases e : vs[i]? with
      | none => rw [e] at h2; cases h2
      | some a => rw [e] at h2; cases h2; rfl
    obtain ⟨u, hu, rv⟩ := r.get ha
    have hp : ps[i]? = some y := by
      rw [← S.pre, List.getElem?_take_of_lt (by omega)]; exact h1
    have ndP : ps.Nodup := by rw [← S.pre]; exact S.nd.sublist (List.take_sublist _ _)
    refine ⟨u, rv, ?_⟩
    rcases S.par y (List.mem_of_getElem? hp) with k | k
    · exact .inl ⟨k, bindL_get ndP hp hu k⟩
    · obtain ⟨c, e⟩ := cell_has (n := s.heap.objs.size + 1) k
      refine .inr ⟨.inl k, c, e, ?_⟩
      have q := x.cell y c e
      rw [bindC_get ndP hp hu (by show scope.names.lookup y ≠ _; rw [k]; decide)] at q
      exact q
  · exact e0.hok.fresh (Nat.le_of_lt (x.above y c (PySem.mem_of_lookup h)))
  · unfold start
    show _ = N.length
    rw [List.length_append, List.length_map, List.length_replicate]
    omega

/-- THE RULE: a def (or a method) of the text, by its body. The body's reading t is chosen for each entry; it is run at the parameters' values -/
theorem fn_of {CX : CXT} {P : Program} {w : World} {K : PySem.W.Frag} {mg : Str → Option Value} {base : Heap} {k : Nat} {f : Addr} {name qual : Str} {params : Arguments} {body : List Stmt} {scope : Scope} {dV kV doc pm cdv ct oc : Value} {an od : Option Addr}
    {osl : Array (Option Value)} {N ps : List Str} {sp : Sp} (lk : K.lookup f = some ⟨oc, od, .func (PySem.W.fnOf name qual params body scope dV kV doc pm an cdv ct), osl⟩) (hcd : PySem.W.codeIn K cdv qual = true) (S : FnScope N ps scope)
    (len : ∀ vs H Q E, sp vs H Q E → vs.length = ps.length)
    (hbody : ∀ (A : Around) (outer : List Env) (s : Shared) (H : Hp) (vs : List V) (Q : VK) (E : XK), Room k (A.deeper (envOfC qual scope s.heap.objs.size f cdv)) → sp vs H Q E →
      ∃ t, PSs (cxOf CX P w K mg base N qual scope f cdv A outer s H E) body t ∧ t { nx := fun _ H' => Q .non H', rt := Q } (start N vs) H) :
    FnOk P w K mg base CX (k + 1) f (PySem.W.fnOf name qual params body scope dV kV doc pm an cdv ct) ps sp := by
  refine ⟨len, fun A outer s H args us vs Q E hr e0 hb r hsp => ?_⟩
  have hl := len _ _ _ _ hsp
  have KX : K.In s.heap := e0.mod.kin.keeps fun b o e => (e0.bs b o e).1
  have lim : s.heap.NoLimit := e0.mod.nolimit.keeps fun b o e => (e0.bs b o e).1
  have hkind : ∀ y ∈ ps.zip us, scope.names.lookup y.1 = some .local ∨ (scope.names.lookup y.1 = some .cell ∧ ((cellsFrom (s.heap.objs.size + 1) scope.names []).lookup y.1).isSome = true) := fun ⟨n, v⟩ hy => by
    rcases S.par n (List.of_mem_zip hy).1 with q | q
    · exact .inl q
    · exact .inr ⟨q, PySem.W.cellsFrom_some _ _ _ (.inl q)⟩
  refine codeAny_call_function hr.depth (KX _ _ lk) rfl S.co S.gen rfl (PySem.W.codeRec_of KX hcd) (hb _ _ _ _ ?_)
  refine wpAny_newFunctionEnv_cells S.kind hkind fun env he s1 x => ?_
  subst he
  refine ⟨lim.keeps x.toInCall.keep, codeAny_func ?_⟩
  obtain ⟨t, ht, hq⟩ := hbody A outer s H vs Q E (hr.deeper _) hsp
  have I : Inv (cxOf CX P w K mg base N qual scope f cdv A outer s H E) [] (start N vs) H s1 := inv_start S hr.hd e0 hl r x
  refine wpAny_mono (ht [] s1 (start N vs) H _ I hq) (fun fl s' hs => ?_) fun e s' hs => hs
  have fin : ∀ {σ' : St} {H' : Hp} {v : V} {u : Value}, Inv (cxOf CX P w K mg base N qual scope f cdv A outer s H E) [] σ' H' s' → RelV v u → Q v H' → CE outer P w H s Q u s' :=
    fun {σ' H' v u} J rv q => ⟨v, H', J.os, J.bare, J.base, J.hok, rv, q⟩
  cases fl with
  | ret u =>
    obtain ⟨v, σ', H', J, rv, q⟩ := hs
    exact fin J rv q
  | next =>
    obtain ⟨σ', H', J, q⟩ := hs
    exact fin (v := V.non) (u := Value.none) J rfl q
  | brk =>
    obtain ⟨_, _, _, q⟩ := hs
    exact False.elim q
  | cont =>
    obtain ⟨_, _, _, q⟩ := hs
    exact False.elim q
end L2

namespace L2
open PySem PySem.Spec PyProof.Rows
section
variable {X : Cx} {x : Str} {p pos : Pos} {e : Expr} {es : List Expr} {t : TA} {id T : String} {r : List V → Hp → VK → Prop}

def tCB (r : List V → Hp → VK → Prop) (t : TA) : TE := fun σ H Q => t σ H fun vs H1 => r vs H1 Q
/-- f(e, ..), f a built-in function -/
theorem pe_callB (hc : CallR X (.builtin id) r) (hg : Gl X x) (hm : X.mg x = none) (hv : bootBuiltins x = some (.builtin id)) (ha : PA X (e :: es) t) (hn : x ≠ "__name__" := by decide) (hdb : (x == ("__debug__" : Str)) = false := by decide)
    (he : starEach (e :: es) X.env = (false, eval e X.env) :: starEach es X.env := by rfl) (hpl : (backTo pos (starEach es X.env)).any (·.1) = false := by rfl) : PE X (.Call (.Name x p) (e :: es) [] pos) (tCB r t) := by
  intro pins s σ H Q I h
  refine wpAny_Call_Name_kw (ld_blt I hg hm hv ?_ hn hdb)
  exact PyProof.Rows.callWith_builtin1 (thn (ha pos pins s σ H _ I h) fun us s1 ⟨vs, H1, I1, r1, q1⟩ => hc pins s1 σ H1 vs us Q I1 r1 q1) he hpl
/-- T(e, ..), T a built-in type -/
theorem pe_callTy (hc : CallR X (.type T) r) (hg : Gl X x) (hm : X.mg x = none) (hv : bootBuiltins x = some (.type T)) (ha : PA X (e :: es) t) (hn : x ≠ "__name__" := by decide) (hdb : (x == ("__debug__" : Str)) = false := by decide)
    (he : starEach (e :: es) X.env = (false, eval e X.env) :: starEach es X.env := by rfl) (hpl : (backTo pos (starEach es X.env)).any (·.1) = false := by rfl) : PE X (.Call (.Name x p) (e :: es) [] pos) (tCB r t) := by
  intro pins s σ H Q I h
  refine wpAny_Call_Name_kw (ld_blt I hg hm hv ?_ hn hdb)
  exact PyProof.Rows.callWith_type1 (thn (ha pos pins s σ H _ I h) fun us s1 ⟨vs, H1, I1, r1, q1⟩ => hc pins s1 σ H1 vs us Q I1 r1 q1) he hpl
/-- T() -/
theorem pe_callTy0 (hc : CallR X (.type T) r) (hg : Gl X x) (hm : X.mg x = none) (hv : bootBuiltins x = some (.type T)) (hn : x ≠ "__name__" := by decide) (hdb : (x == ("__debug__" : Str)) = false := by decide) :
    PE X (.Call (.Name x p) [] [] pos) (tCB r tNil) := by
  intro pins s σ H Q I h
  refine wpAny_Call_Name_kw (ld_blt I hg hm hv ?_ hn hdb)
  exact PyProof.Rows.callWith_type0 (hc pins s σ H [] [] Q I .nil h)
end
end L2

namespace HT
open PySem PyProof.Rows

/-- t < u of tuples of ints -/
def lexLt : List Int → List Int → Bool
  | [], [] => false
  | [], _ :: _ => true
  | _ :: _, [] => false
  | x :: xs, y :: ys => if x = y then lexLt xs ys else decide (x < y)
theorem lexLt_cons (x y : Int) (xs ys : List Int) : lexLt (x :: xs) (y :: ys) = if x = y then lexLt xs ys else decide (x < y) := rfl
theorem lexLt_nil_nil : lexLt [] [] = false := rfl
theorem lexLt_nil_cons (y : Int) (ys : List Int) : lexLt [] (y :: ys) = true := rfl
theorem lexLt_cons_nil (x : Int) (xs : List Int) : lexLt (x :: xs) [] = false := rfl

theorem eqAt_int (A : Around) (s : Shared) (a : Int) (t : Tok) (c : Int) (u : Tok) : ∃ e, SeqAt.EqAt A s (.int a t) (.int c u) e ∧ (e = true ↔ a = c) :=
  ⟨(a == c), SeqAt.EqAt.int_int a t c u, by simp⟩
theorem rcLt_int (A : Around) (s : Shared) (a : Int) (t : Tok) (c : Int) (u : Tok) (prog : Program) (w : World) (E : Value → Shared → Prop) (Q : Value → Shared → Prop) (h : Q (.bool (decide (a < c))) s) :
    wpAny (model prog w) A (richCompare .Lt (.int a t) (.int c u)) Q E s :=
  (PyProof.Rows.lt_int h : wpAny (model prog w) A (compareOp .Lt (.int a t) (.int c u)) Q E s)

section
open PySem.SeqAt
open PySem.AutoSeq1 (wpAny_loadPart')
open PySem.MeetsSeq PySem.MeetsSeq2 PySem.MeetsSeq3

theorem tuple_lt_ints (l b : Addr) (items items2 : Array Value) (n n2 : Nat) (dd dd2 : Option Addr) (sl sl2 : Array (Option Value)) (ns ms : List Int) (hi : IntsAre items.toList ns) (hj : IntsAre items2.toList ms) :
    Meets (Builtin.«tuple.__lt__» ⟨[.ref l, .ref b], []⟩)
      (fun _ R s => s.heap.get? l = some { cls := .type "tuple", dict := dd, data := .seq items n, slots := sl } ∧ s.heap.get? b = some { cls := .type "tuple", dict := dd2, data := .seq items2 n2, slots := sl2 } ∧
        R (.ok (.ret (.bool (lexLt ns ms)))) s) :=
  .of_wp fun prog w A R s h => by
    obtain ⟨hp, g, d, tk, os⟩ := s; obtain ⟨hl, hb, h⟩ := h
    have f2 := AutoSeq1.sub_tuple_tuple
    have z1 : items.size = ns.length := by rw [← hi.length]; simp
    have z2 : items2.size = ms.length := by rw [← hj.length]; simp
    wp_walk using wpAny_loadPart' hl, wpAny_loadPart' hb, wpAny_forIn_list _ (fun rest b s' => b.1 = none ∧ s' = ⟨hp, g, d, tk, os⟩ ∧ ∃ (vs ws : List Value) (ns' ms' : List Int), rest = vs.zip ws ∧
      IntsAre vs ns' ∧ IntsAre ws ms' ∧ ns'.length + items2.size = ms'.length + items.size ∧ R (.ok (.ret (.bool (lexLt ns' ms')))) ⟨hp, g, d, tk, os⟩) _
    case turn =>
      rintro ⟨y, x⟩ rest b s' ⟨hb', rfl, vs, ws, ns', ms', hz, hvi, hwi, hlen, hR⟩
      cases hvi with
      | nil => rw [List.zip_nil_left] at hz; cases hz
      | cons a t hvi' =>
        cases hwi with
        | nil => rw [List.zip_nil_right] at hz; cases hz
        | cons c u hwi' =>
          rw [List.zip_cons_cons] at hz
          injection hz with hyx hrest
          injection hyx with hy hx
          subst hy hx
          rw [lexLt_cons] at hR
          simp only [List.length_cons] at hlen
          obtain ⟨e, he, hiff⟩ := eqAt_int A.in1 ⟨hp, g, d, tk, os⟩ a t c u
          refine wpAny_bind (he prog w _ _ ?_)
          cases e with
          | true =>
            rw [if_pos (hiff.mp rfl)] at hR
            wp_walk
            exact ⟨rfl, rfl, _, _, _, _, hrest, hvi', hwi', by omega, hR⟩
          | false =>
            rw [if_neg (fun q => absurd (hiff.mpr q) Bool.false_ne_true)] at hR
            have hri := rcLt_int A.in1 ⟨hp, g, d, tk, os⟩ a t c u prog w
            wp_walk using hri
            exact ⟨_, rfl, by simpa using hR⟩
    case fin =>
      rintro ⟨b1, b2⟩ s' ⟨hb', rfl, vs, ws, ns', ms', hz, hvi, hwi, hlen, hR⟩
      simp only at hb'
      subst hb'
      have hv : lexLt ns' ms' = decide (items.size < items2.size) := by
        cases hvi with
        | nil =>
          cases hwi with
          | nil =>
            simp only [List.length_nil] at hlen
            rw [lexLt_nil_nil]
            exact (decide_eq_false (by omega)).symm
          | cons c u hw =>
            simp only [List.length_nil, List.length_cons] at hlen
            rw [lexLt_nil_cons]
            exact (decide_eq_true (by omega)).symm
        | cons a t hv =>
          cases hwi with
          | nil =>
            simp only [List.length_nil, List.length_cons] at hlen
            rw [lexLt_cons_nil]
            exact (decide_eq_false (by omega)).symm
          | cons c u hw =>
            rw [List.zip_cons_cons] at hz
            cases hz
      rw [hv] at hR
      wp_walk
      exact ⟨_, rfl, by simpa [Builtin.Tuple.tupleCompareSizes] using hR⟩
    case h =>
      exact ⟨rfl, rfl, items.toList, items2.toList, ns, ms, rfl, hi, hj, by omega, h⟩
end

section
variable {prog : Program} {w : World} {A : Around} {E : Value → Shared → Prop} {s : Shared}

theorem lt_tupInts {l b : Addr} {items items2 : Array Value} {ns ms : List Int} {Q : Value → Shared → Prop} (hl : IsTup s.heap l items) (hb : IsTup s.heap b items2) (hi : IntsAre items.toList ns) (hj : IntsAre items2.toList ms)
    (hu : A.units < cLine) (h : Q (.bool (lexLt ns ms)) s) : wpAny (model prog w) A (compareOp .Lt (.ref l) (.ref b)) Q E s := by
  obtain ⟨⟨cls, dd, data, sl⟩, ho, hc, n, hd⟩ := id hl
  obtain ⟨⟨cls2, dd2, data2, sl2⟩, ho2, hc2, n2, hd2⟩ := id hb
  simp only at hc hd hc2 hd2
  subst hc hd hc2 hd2
  exact richCompare_meets_room (op := .Lt) ⟨_, ho, rfl⟩ ⟨_, ho2, rfl⟩ PySem.F.slot_tuple_lt PySem.F.entry_tuple_lt (PySem.F.args_tuple_lt_2 _ _) (tuple_lt_ints l b items items2 n n2 dd dd2 sl sl2 ns ms hi hj)
    ⟨ho, ho2, show Value.bool (lexLt ns ms) ≠ Value.notImplemented ∧ Q (.bool (lexLt ns ms)) s from ⟨(fun x => nomatch x), h⟩⟩ hu

/-- t + u, t not empty -/
theorem cat_tup {t b : Addr} {vs ws : List Value} {Q : Value → Shared → Prop} (ht : IsTup s.heap t vs.toArray) (hb : IsTup s.heap b ws.toArray) (hv : vs ≠ [])
    (h1 : ws = [] → Q (.ref t) s) (h2 : ws ≠ [] → Q (.ref s.heap.objs.size) { s with heap := s.heap.push { cls := .type "tuple", data := .seq (vs ++ ws).toArray } })
    (hsz : vs.length + ws.length ≤ sizeLine) : wpAny (model prog w) A (binaryOp .Add (.ref t) (.ref b)) Q E s := by
  obtain ⟨⟨cls, dd, data, sl⟩, ho, hc, n, hd⟩ := id ht
  obtain ⟨⟨cls2, dd2, data2, sl2⟩, ho2, hc2, n2, hd2⟩ := id hb
  simp only at hc hd hc2 hd2
  subst hc hd hc2 hd2
  have e : vs.toArray ++ ws.toArray = (vs ++ ws).toArray := by simp
  by_cases hw : ws = []
  · exact concat_meets ⟨_, ho, rfl⟩ ⟨_, ho2, rfl⟩ noFill_tuple_add seq_tuple_add PySem.F.slot_tuple_add PySem.F.entry_tuple_add (PySem.F.args_tuple_add_2 _ _)
      (tuple_addW1 t b vs.toArray ws.toArray n n2 dd dd2 sl sl2 (by simpa using hv) (by simp [hw])) ⟨ho, ho2, h1 hw⟩
  · refine concat_meets ⟨_, ho, rfl⟩ ⟨_, ho2, rfl⟩ noFill_tuple_add seq_tuple_add PySem.F.slot_tuple_add PySem.F.entry_tuple_add (PySem.F.args_tuple_add_2 _ _)
      (tuple_addW2 t b vs.toArray ws.toArray n n2 dd dd2 sl sl2 (by simpa using hv) (by simpa using hw) (by rw [List.size_toArray, List.size_toArray]; exact hsz)) ⟨ho, ho2, ?_⟩
    rw [e]
    exact h2 hw

/-! ### t[a:b], not the whole -/
/-- a slice's bound as a place among n (d where it is left out) -/
def sIx (n d : Nat) : Option Int → Nat
  | none => d
  | some v => if v < 0 then (v + (n : Int)).toNat else min v.toNat n
theorem sIx_none (n d : Nat) : sIx n d none = d := rfl
theorem sIx_nat (n d k : Nat) : sIx n d (some (k : Int)) = min k n := by
  show (if (k : Int) < 0 then ((k : Int) + (n : Int)).toNat else min (k : Int).toNat n) = min k n
  rw [if_neg (by omega), Int.toNat_natCast]
theorem sIx_le (n d : Nat) (hd : d ≤ n) (o : Option Int) : sIx n d o ≤ n := by
  cases o with
  | none => exact hd
  | some v =>
    show (if v < 0 then (v + (n : Int)).toNat else min v.toNat n) ≤ n
    by_cases hv : v < 0
    · rw [if_pos hv]; omega
    · rw [if_neg hv]; exact Nat.min_le_right _ _
theorem clip_eq (v : Int) (n d : Nat) : (if v < 0 then max (v + (n : Int)) 0 else min v (n : Int)) = ((sIx n d (some v) : Nat) : Int) := by
  show (if v < 0 then max (v + (n : Int)) 0 else min v (n : Int)) = (((if v < 0 then (v + (n : Int)).toNat else min v.toNat n) : Nat) : Int)
  by_cases hv : v < 0
  · simp only [if_pos hv]; omega
  · simp only [if_neg hv]; omega
theorem adjust_gen (lo hi : Option Int) (n : Nat) : Builtin.Slice.sliceAdjust lo hi 1 (n : Int) = (((sIx n 0 lo : Nat) : Int), ((sIx n n hi : Nat) : Int)) := by
  have h1 : ¬ ((1 : Int) < 0) := by omega
  unfold Builtin.Slice.sliceAdjust
  simp only [h1, if_false]
  refine Prod.ext ?_ ?_
  · cases lo with
    | none => rfl
    | some v => exact clip_eq v n 0
  · cases hi with
    | none => rfl
    | some v => exact clip_eq v n n
theorem places_gen (i j : Nat) : Builtin.Slice.slicePlaces (i : Int) (j : Int) 1 = j - i := by
  unfold Builtin.Slice.slicePlaces
  have h1 : (1 : Int) > 0 := by omega
  simp only [h1, if_true, Int.ediv_one]
  split <;> omega
theorem slicePart_ {v : Value} {o : Option Int} {Q : Option Int → Shared → Prop} (p : IsPart v o) (h : Q o s) : wpAny (model prog w) A (Builtin.Slice.slicePartIndex v) Q E s := by
  cases p with
  | none => exact slicePart_none h
  | int i t => exact slicePart_int h
theorem sliceApplied_gen {sl : Addr} {vl vu : Value} {lo hi : Option Int} {n : Nat} {Q : Int × Int × Nat → Shared → Prop} (hs : s.heap.IsSliceOf sl vl vu .none) (pl : IsPart vl lo) (pu : IsPart vu hi)
    (h : Q (((sIx n 0 lo : Nat) : Int), 1, sIx n n hi - sIx n 0 lo) s) : wpAny (model prog w) A (Builtin.Slice.sliceApplied (.ref sl) (pure (n : Int))) Q E s := by
  obtain ⟨os, hos, hcs, hds⟩ := id hs
  unfold Builtin.Slice.sliceApplied Builtin.Slice.sliceFields
  refine wpAny_bind (wpAny_bind (wpAny_field hos hds (x := vl) rfl (wpAny_bind (wpAny_field hos hds (x := vu) rfl (wpAny_bind (wpAny_field hos hds (x := .none) rfl (wpAny_pure ?_)))))))
  refine wpAny_bind (slicePart_none ?_)
  show wpAny _ _ (if ((1 : Int) == 0) = true then _ else _) _ _ s
  rw [if_neg (by decide)]
  refine wpAny_bind (slicePart_ pl (wpAny_bind (slicePart_ pu (wpAny_bind (wpAny_pure ?_)))))
  show wpAny _ _ (match Builtin.Slice.sliceAdjust lo hi 1 (n : Int) with | (lo, hi) => pure (lo, (1 : Int), Builtin.Slice.slicePlaces lo hi 1)) _ _ s
  rw [adjust_gen lo hi n]
  show wpAny _ _ (pure (((sIx n 0 lo : Nat) : Int), (1 : Int), Builtin.Slice.slicePlaces ((sIx n 0 lo : Nat) : Int) ((sIx n n hi : Nat) : Int) 1)) _ _ s
  rw [places_gen]
  exact wpAny_pure h
theorem pick_gen (xs : Array Value) (i k : Nat) : ((List.range k).filterMap fun (m : Nat) => xs[((i : Int) + (m : Int) * 1).toNat]?).toArray = ((xs.toList.drop i).take k).toArray := by
  have e : (fun (m : Nat) => xs[((i : Int) + (m : Int) * 1).toNat]?) = fun m => xs[i + m]? := by
    funext m
    have : ((i : Int) + (m : Int) * 1).toNat = i + m := by omega
    rw [this]
  rw [e]
  have := pick_run xs i k
  rw [List.filterMap_map] at this
  have e2 : ((fun x => xs[x]?) ∘ fun x => i + x) = fun m => xs[i + m]? := rfl
  rw [e2] at this
  rw [this]

theorem getItem_tuple_cut {t sl : Addr} {items : Array Value} {vl vu : Value} {lo hi : Option Int} {Q : Value → Shared → Prop} (ht : IsTup s.heap t items) (hs : s.heap.IsSliceOf sl vl vu .none) (pl : IsPart vl lo) (pu : IsPart vu hi)
    (hw : ¬ (sIx items.size 0 lo = 0 ∧ sIx items.size items.size hi = items.size))
    (h : Q (.ref s.heap.objs.size) { s with heap := s.heap.push { cls := .type "tuple", data := .seq ((items.toList.drop (sIx items.size 0 lo)).take (sIx items.size items.size hi - sIx items.size 0 lo)).toArray } })
    (hsz : items.size ≤ sizeLine) : wpAny (model prog w) A (getItem (.ref t) (.ref sl)) Q E s := by
  have htake : sizeOk (.seq ((items.toList.drop (sIx items.size 0 lo)).take (sIx items.size items.size hi - sIx items.size 0 lo)).toArray) := by
    show ((items.toList.drop (sIx items.size 0 lo)).take (sIx items.size items.size hi - sIx items.size 0 lo)).toArray.size ≤ sizeLine
    rw [List.size_toArray, List.length_take, List.length_drop, Array.length_toList]
    omega
  have hj : sIx items.size items.size hi ≤ items.size := sIx_le _ _ (Nat.le_refl _) hi
  obtain ⟨os, hos, hcs, hds⟩ := id hs
  have hTs : s.TypeIs (.ref sl) "slice" := ⟨os, hos, hcs⟩
  unfold getItem
  try with_reducible refine wpAny_holding ?_
  first | refine wpAny_bind (wpAny_pure ?_) | skip
  refine wpAny_bind (wpAny_sequenceKey ht.typeIs (by decide) ?_)
  refine wpAny_bind (wpAny_callSpecial?_slot (name := Str.ofString "__getitem__") ht.typeIs PyProof.Rows.slot_tuple_getitem
    (wpAny_call_entry PyProof.Rows.slot_tuple_getitem ht.typeIs entry_tuple_getitem ?_ (args_tuple_getitem _ _)))
  show wpAny _ _ (Builtin.Tuple.tupleItemsOf (.ref t) >>= _) _ _ s
  refine wpAny_bind (tupleItemsOf_ ht ?_)
  refine wpAny_bind (wpAny_typeOf hTs ?_)
  rw [if_pos (by decide)]
  refine wpAny_bind (sliceApplied_gen hs pl pu ?_)
  have hno : ¬ ((((sIx items.size 0 lo : Nat) : Int) == 0 && (1 : Int) == 1 && (sIx items.size items.size hi - sIx items.size 0 lo) == items.size) = true) := by
    intro q
    rw [Bool.and_eq_true, Bool.and_eq_true] at q
    have q1 : ((sIx items.size 0 lo : Nat) : Int) = 0 := eq_of_beq q.1.1
    have q2 : sIx items.size items.size hi - sIx items.size 0 lo = items.size := eq_of_beq q.2
    exact hw ⟨by omega, by omega⟩
  show wpAny _ _ (if (((sIx items.size 0 lo : Nat) : Int) == 0 && (1 : Int) == 1 && (sIx items.size items.size hi - sIx items.size 0 lo) == items.size) = true then _ else _) _ _ s
  rw [if_neg hno, pick_gen]
  first
    | exact wpAny_bind (m := Builtin.Tuple.tupleExact _) (wpAny_newObj_type (wpAny_pure ⟨_, rfl, wpAny_pure h⟩) htake)
    | exact wpAny_bind (m := Builtin.Tuple.tupleExact _) (wpAny_newObj_type (wpAny_bind (wpAny_pure (wpAny_pure ⟨_, rfl, wpAny_pure h⟩))) htake)
    | exact wpAny_bind (wpAny_bind (m := Builtin.Tuple.tupleExact _) (wpAny_newObj_type (wpAny_pure (wpAny_pure ⟨_, rfl, wpAny_pure h⟩)) htake))
    | exact wpAny_bind (wpAny_bind (m := Builtin.Tuple.tupleExact _) (wpAny_newObj_type (wpAny_pure ⟨_, rfl, wpAny_pure h⟩) htake))
end
end HT

namespace L2
open PySem PySem.Spec PyProof.Rows

/-! ### the parts of a slice -/
abbrev TO := St → Hp → (Option Int → Hp → Prop) → Prop
/-- a slice's part (left out, or an int) -/
def PO (X : Cx) (e : Option Expr) (t : TO) : Prop :=
  ∀ (pins : List (Addr × Obj)) (s : Shared) (σ : St) (H : Hp) (Q : Option Int → Hp → Prop), Inv X pins σ H s → t σ H Q →
    wpAny (model X.prog X.w) X.A (evalPart e X.env) (fun u s' => ∃ o H', Inv X pins σ H' s' ∧ IsPart u o ∧ Q o H') X.xe s
def tNoPart : TO := fun _ H Q => Q none H
def tPart (t : TE) : TO := fun σ H Q => t σ H fun x H1 => ∃ i, x = .int i ∧ Q (some i) H1

theorem intsAre_of {ns : List Int} : ∀ {us : List Value}, Vals (ns.map V.int) us → IntsAre us ns := by
  induction ns with
  | nil => intro us r; rw [List.map_nil] at r; cases r; exact .nil
  | cons n ns ih =>
    intro us r
    rw [List.map_cons] at r
    cases r with
    | cons r1 r2 =>
      obtain ⟨t, e⟩ := r1
      subst e
      exact .cons n t (ih r2)

section
variable {X : Cx} {e : Expr} {te : TE} {lo hi : Option Expr} {tl th : TO} {pos p2 : Pos}

theorem po_none : PO X none tNoPart := by
  intro pins s σ H Q I h
  rw [evalPart_none]
  exact wpAny_pure ⟨none, H, I, .none, h⟩
theorem po_some (h : PE X e te) : PO X (some e) (tPart te) := by
  intro pins s σ H Q I hw
  rw [evalPart_some]
  refine thn (h pins s σ H _ I hw) fun u s1 ⟨x, H1, I1, r1, q1⟩ => ?_
  obtain ⟨i, rfl, q⟩ := q1
  obtain ⟨t, rfl⟩ := r1
  exact ⟨some i, H1, I1, .int i t, q⟩

/-- what a slice of a value is, by values: the slice object stands at sl -/
def SlR (X : Cx) (r : V → Option Int → Option Int → Hp → VK → Prop) : Prop :=
  ∀ (pins : List (Addr × Obj)) (s : Shared) (σ : St) (H : Hp) (x : V) (v vl vu : Value) (lo hi : Option Int) (sl : Addr) (Q : VK), Inv X pins σ H s → RelV x v → s.heap.IsSliceOf sl vl vu .none → IsPart vl lo → IsPart vu hi → r x lo hi H Q →
    ∃ T id, typeLookup (.type T) "__getitem__" = pure (some (.builtin id)) ∧ s.TypeIs v T ∧ wpAny (model X.prog X.w) X.A (getItem v (.ref sl)) (EP X pins σ Q) X.xe s
theorem SlR.or {r r' : V → Option Int → Option Int → Hp → VK → Prop} (h : SlR X r) (h' : SlR X r') : SlR X (fun x lo hi H Q => r x lo hi H Q ∨ r' x lo hi H Q) := by
  intro pins s σ H x v vl vu lo hi sl Q I rx hs pl pu q
  rcases q with q | q
  · exact h pins s σ H x v vl vu lo hi sl Q I rx hs pl pu q
  · exact h' pins s σ H x v vl vu lo hi sl Q I rx hs pl pu q
def tSl (r : V → Option Int → Option Int → Hp → VK → Prop) (te : TE) (tl th : TO) : TE := fun σ H Q => te σ H fun x H1 => tl σ H1 fun l H2 => th σ H2 fun u H3 => r x l u H3 Q
/-- a[lo:hi], any a -/
theorem pe_slice {r : V → Option Int → Option Int → Hp → VK → Prop} (hr : SlR X r) (he : PE X e te) (hl : PO X lo tl) (hu : PO X hi th) : PE X (.Subscript e (.Slice lo hi none p2) pos) (tSl r te tl th) := by
  intro pins s σ H Q I h
  refine Subscript_ (thn (he pins s σ H _ I h) fun v s1 ⟨x, H1, I1, r1, q1⟩ => ?_)
  refine wpAny_Slice (thn (hl pins s1 σ H1 _ I1 q1) fun vl s2 ⟨l, H2, I2, pl, q2⟩ => thn (hu pins s2 σ H2 _ I2 q2) fun vu s3 ⟨u, H3, I3, pu, q3⟩ => ?_)
  rw [evalPart_none]
  refine wpAny_pure ?_
  have I4 : Inv X pins σ H3 { s3 with heap := s3.heap.push { cls := .type "slice", data := .fields #[vl, vu, .none] } } := I3.kept (t' := s3.toks) fun b ob q => Heap.get?_push_of_some _ q
  obtain ⟨T, id, hT, ht, hg⟩ := hr pins { s3 with heap := s3.heap.push { cls := .type "slice", data := .fields #[vl, vu, .none] } } σ H3 x v vl vu l u s3.heap.objs.size Q I4 r1 (Heap.IsSliceOf.new ..) pl pu q3
  show wpAny (model X.prog X.w) X.A (subscriptTail e (.Slice lo hi none p2) v (.ref s3.heap.objs.size)) (EP X pins σ Q) X.xe { s3 with heap := s3.heap.push { cls := .type "slice", data := .fields #[vl, vu, .none] } }
  exact tail_any (ops := [.ref s3.heap.objs.size, v]) ht hT hg (by with_unfolding_all rfl)

/-- the items of xs[lo:hi] -/
def cutV (xs : List V) (lo hi : Option Int) : List V := (xs.drop (HT.sIx xs.length 0 lo)).take (HT.sIx xs.length xs.length hi - HT.sIx xs.length 0 lo)
theorem cutV_length (xs : List V) (lo hi : Option Int) : (cutV xs lo hi).length ≤ xs.length := by
  unfold cutV
  rw [List.length_take, List.length_drop]
  omega
/-- t[lo:hi], not the whole of it (the whole would be t itself) -/
def rSlT (K : PySem.W.Frag) : V → Option Int → Option Int → Hp → VK → Prop := fun x lo hi H Q => ∃ a xs, x = .ref a ∧ SqT K H a xs ∧
  ¬ (HT.sIx xs.length 0 lo = 0 ∧ HT.sIx xs.length xs.length hi = xs.length) ∧ ∀ p, H p = none → Q (.ref p) (upd H p (.tup (cutV xs lo hi)))
theorem sl_tup : SlR X (rSlT X.K) := by
  intro pins s σ H x v vl vu lo hi sl Q I rx hs pl pu h
  obtain ⟨a, xs, rfl, hx, hw, q⟩ := h
  cases rx
  obtain ⟨its, r, ht, hz⟩ := I.tuple hx
  have hlen : its.toArray.size = xs.length := by rw [List.size_toArray]; exact r.length.symm
  refine ⟨"tuple", _, PyProof.Rows.slot_tuple_getitem.lookup, ht.typeIs, ?_⟩
  refine HT.getItem_tuple_cut ht hs pl pu (by rw [hlen]; exact hw) ?_ (by rw [hlen]; exact hz)
  rw [hlen]
  refine ⟨.ref s.heap.objs.size, _, I.laid (t' := s.toks) (o := .tup (cutV xs lo hi)) (fun b ob q => Heap.get?_push_of_some _ q) (Nat.le_refl _) ?_, rfl, q _ (I.hok.fresh (Nat.le_refl _))⟩
  exact ⟨Nat.le_trans (cutV_length xs lo hi) hz, _, (r.drop (HT.sIx xs.length 0 lo)).take (HT.sIx xs.length xs.length hi - HT.sIx xs.length 0 lo), IsTup.new _ _⟩

/-! ### t < u, t + u -/
def rLtT (K : PySem.W.Frag) : R2 := fun x y H Q => ∃ a b ns ms, x = .ref a ∧ y = .ref b ∧ SqT K H a (ns.map V.int) ∧ SqT K H b (ms.map V.int) ∧ Q (.bl (HT.lexLt ns ms)) H
theorem op_ltT (hu : X.A.units < cLine) : OpR X (compareOp .Lt) (rLtT X.K) := by
  intro pins s σ H x y v u Q I rx ry h
  obtain ⟨a, b, ns, ms, rfl, rfl, ha, hb, q⟩ := h
  cases rx
  cases ry
  obtain ⟨its, r1, p1, _⟩ := I.tuple ha
  obtain ⟨its2, r2, p2, _⟩ := I.tuple hb
  have i1 : IntsAre its.toArray.toList ns := intsAre_of r1
  have i2 : IntsAre its2.toArray.toList ms := intsAre_of r2
  exact HT.lt_tupInts p1 p2 i1 i2 hu ⟨.bl (HT.lexLt ns ms), H, I, rfl, q⟩
/-- t + u, t not empty: u empty gives t itself -/
def rCatT (K : PySem.W.Frag) : R2 := fun x y H Q => ∃ a b xs ys, x = .ref a ∧ y = .ref b ∧ SqT K H a xs ∧ SqT K H b ys ∧ xs ≠ [] ∧ xs.length + ys.length ≤ sizeLine ∧
  (ys = [] → Q (.ref a) H) ∧ (ys ≠ [] → ∀ p, H p = none → Q (.ref p) (upd H p (.tup (xs ++ ys))))
theorem Vals.nil_iff {xs : List V} {us : List Value} (r : Vals xs us) : us = [] ↔ xs = [] := by
  cases r with
  | nil => simp
  | cons _ _ => simp
theorem op_catT : OpR X (binaryOp .Add) (rCatT X.K) := by
  intro pins s σ H x y v u Q I rx ry h
  obtain ⟨a, b, xs, ys, rfl, rfl, ha, hb, hx, hz, q1, q2⟩ := h
  cases rx
  cases ry
  obtain ⟨its, r1, p1, _⟩ := I.tuple ha
  obtain ⟨its2, r2, p2, _⟩ := I.tuple hb
  refine HT.cat_tup p1 p2 (fun z => hx (r1.nil_iff.mp z)) (fun z => ⟨.ref a, H, I, rfl, q1 (r2.nil_iff.mp z)⟩) (fun z => ?_) (by rw [← r1.length, ← r2.length]; exact hz)
  refine ⟨.ref s.heap.objs.size, _, I.laid (t' := s.toks) (o := .tup (xs ++ ys)) (fun b ob q => Heap.get?_push_of_some _ q) (Nat.le_refl _) ?_, rfl, q2 (fun w => z (r2.nil_iff.mpr w)) _ (I.hok.fresh (Nat.le_refl _))⟩
  exact ⟨by rw [List.length_append]; exact hz, _, r1.append r2, IsTup.new _ _⟩
/-- tuple(t) -/
theorem call_tupleT : CallR X (.type "tuple") (fun xs H Q => ∃ a ys, xs = [.ref a] ∧ SqT X.K H a ys ∧ Q (.ref a) H) := by
  intro pins s σ H xs us Q I r h
  obtain ⟨a, ys, rfl, ha, q⟩ := h
  obtain ⟨u, rfl, ru⟩ := vals1 r
  cases ru
  obtain ⟨its, _, p1, _⟩ := I.tuple ha
  exact call_tuple_same (items := its.toArray) p1 ⟨.ref a, H, I, rfl, q⟩
end
end L2

namespace L2
open PySem PySem.Spec PyProof.Rows

/-! ### places -/
/-- the place that an index of any sign means -/
def ixN (n : Nat) (i : Int) : Option Nat := if 0 ≤ i then (if i < n then some i.toNat else none) else if -(n : Int) ≤ i then some (i + n).toNat else none
def atI {α : Type} (xs : List α) (i : Int) : Option α := (ixN xs.length i).bind fun j => xs[j]?
theorem ixN_seq {n : Nat} {i : Int} {j : Nat} (h : ixN n i = some j) : seqIndex? i n = some j ∧ j < n ∧ -(n : Int) ≤ i ∧ i < n := by
  unfold ixN at h
  by_cases h0 : 0 ≤ i
  · rw [if_pos h0] at h
    by_cases h1 : i < n
    · rw [if_pos h1] at h
      have e : i.toNat = j := Option.some.inj h
      exact ⟨by rw [seqIndex_of h0 h1, e], by omega, by omega, h1⟩
    · rw [if_neg h1] at h; cases h
  · rw [if_neg h0] at h
    by_cases h1 : -(n : Int) ≤ i
    · rw [if_pos h1] at h
      have e : (i + n).toNat = j := Option.some.inj h
      exact ⟨by rw [seqIndex_neg (by omega) h1, e], by omega, h1, by omega⟩
    · rw [if_neg h1] at h; cases h
theorem atI_get {α : Type} {xs : List α} {i : Int} {v : α} (h : atI xs i = some v) : ∃ j, seqIndex? i xs.length = some j ∧ xs[j]? = some v ∧ j < xs.length ∧ -(xs.length : Int) ≤ i ∧ i < xs.length := by
  unfold atI at h
  cases e : ixN xs.length i with
  | none => rw [e] at h; cases h
  | some j =>
    rw [e] at h
    obtain ⟨h1, h2, h3, h4⟩ := ixN_seq e
    exact ⟨j, h1, h, h2, h3, h4⟩
theorem atI_nat {α : Type} {xs : List α} {j : Nat} {v : α} (h : xs[j]? = some v) : atI xs (j : Int) = some v := by
  have hj : j < xs.length := (List.getElem?_eq_some_iff.mp h).1
  have e : ixN xs.length (j : Int) = some j := by
    unfold ixN
    rw [if_pos (by omega), if_pos (by omega)]; simp
  unfold atI; rw [e]; exact h
theorem atI_last {α : Type} (xs : List α) (v : α) : atI (xs ++ [v]) (-1) = some v := by
  have hl : (xs ++ [v]).length = xs.length + 1 := by simp
  have e : ixN (xs ++ [v]).length (-1) = some xs.length := by
    unfold ixN
    rw [hl, if_neg (by decide), if_pos (by omega)]
    congr 1
    omega
  unfold atI
  rw [e]
  show (xs ++ [v])[xs.length]? = some v
  simp

/-! ### what may be subscripted -/
/-- what stands as an index of a plain subscript -/
def PlainIx (b : Expr) : Prop := ∀ o i, subscripted b false o i = operate [o, i] (getItem o i)
/-- a subscript by values -/
def IxR (X : Cx) (r : R2) : Prop :=
  ∀ (value slice : Expr) (pins : List (Addr × Obj)) (s : Shared) (σ : St) (H : Hp) (x y : V) (v u : Value) (Q : VK), Inv X pins σ H s → RelV x v → RelV y u → r x y H Q →
    subscripted slice false v u = operate [v, u] (getItem v u) → wpAny (model X.prog X.w) X.A (subscriptTail value slice v u) (EP X pins σ Q) X.xe s
/-- a call of a builtin's method by values: the receiver, the arguments -/
def MtR (X : Cx) (id : String) (r : V → List V → Hp → VK → Prop) : Prop :=
  ∀ (pins : List (Addr × Obj)) (s : Shared) (σ : St) (H : Hp) (x : V) (xs : List V) (v : Value) (us : List Value) (Q : VK), Inv X pins σ H s → RelV x v → Vals xs us → r x xs H Q →
    wpAny (model X.prog X.w) X.A (call (.builtin id) (v :: us)) (EP X pins σ Q) X.xe s
section
variable {X : Cx} {a b : Expr} {ta tb : TE} {pos : Pos}
theorem IxR.or {r r' : R2} (h : IxR X r) (h' : IxR X r') : IxR X (fun x y H Q => r x y H Q ∨ r' x y H Q) := by
  intro value slice pins s σ H x y v u Q I rx ry q hs
  rcases q with q | q
  · exact h value slice pins s σ H x y v u Q I rx ry q hs
  · exact h' value slice pins s σ H x y v u Q I rx ry q hs
theorem MtR.or {id : String} {r r' : V → List V → Hp → VK → Prop} (h : MtR X id r) (h' : MtR X id r') : MtR X id (fun x xs H Q => r x xs H Q ∨ r' x xs H Q) := by
  intro pins s σ H x xs v us Q I rx rs q
  rcases q with q | q
  · exact h pins s σ H x xs v us Q I rx rs q
  · exact h' pins s σ H x xs v us Q I rx rs q
/-- a[b] -/
theorem pe_ix {r : R2} (hr : IxR X r) (ha : PE X a ta) (hb : PE X b tb) (hs : PlainIx b) : PE X (.Subscript a b pos) (tOp r ta tb) := by
  intro pins s σ H Q I h
  exact Subscript_ (binT ha hb I h fun v u s2 x y H2 I2 rx ry q => hr a b pins s2 σ H2 x y v u Q I2 rx ry q (hs _ _))

def rIxL (K : PySem.W.Frag) : R2 := fun x y H Q => ∃ p xs i v, x = .ref p ∧ y = .int i ∧ SqL K H p xs ∧ atI xs i = some v ∧ Q v H
def rIxT (K : PySem.W.Frag) : R2 := fun x y H Q => ∃ p xs i v, x = .ref p ∧ y = .int i ∧ SqT K H p xs ∧ atI xs i = some v ∧ Q v H
def rIxS : R2 := fun x y H Q => ∃ z i c, x = .str z ∧ y = .int i ∧ z.length ≤ sizeLine ∧ atI z.cps.toList i = some c ∧ Q (.str ⟨#[c]⟩) H
theorem ix_list : IxR X (rIxL X.K) := by
  intro value slice pins s σ H x y v u Q I rx ry h hs
  obtain ⟨p, xs, i, z, rfl, rfl, hq, he, q⟩ := h
  cases rx
  obtain ⟨t, rfl⟩ := ry
  obtain ⟨its, r, pl, hz⟩ := I.list hq
  obtain ⟨j, h1, h2, h3, h4, h5⟩ := atI_get he
  obtain ⟨w, ew, rw'⟩ := r.get h2
  have hl := r.length
  have hn := line63
  have fin : EP X pins σ Q w s := ⟨z, H, I, rw', q⟩
  by_cases h0 : 0 ≤ i
  · have hj : i.toNat = j := by
      rw [seqIndex_of h0 h5] at h1
      exact Option.some.inj h1
    exact item_listR pl.isList h0 (by omega) (by rw [hj]; simpa using ew) fin hs
  · have hj : (i + (its.toArray.size : Int)).toNat = j := by
      rw [seqIndex_neg (by omega) h4] at h1
      rw [List.size_toArray, ← hl]
      exact Option.some.inj h1
    exact subscriptTail_builtinR (x := w) pl.isList.typeIs slot_list_getitem.lookup
      (wpAny_getItem_list_neg (Q := fun r s' => r = w ∧ EP X pins σ Q r s') pl.isList (by omega) (by rw [List.size_toArray] <;> omega) (by omega) (by rw [hj]; simpa using ew) ⟨rfl, fin⟩) hs
theorem ix_tup : IxR X (rIxT X.K) := by
  intro value slice pins s σ H x y v u Q I rx ry h hs
  obtain ⟨p, xs, i, z, rfl, rfl, hq, he, q⟩ := h
  cases rx
  obtain ⟨t, rfl⟩ := ry
  obtain ⟨its, r, pl, hz⟩ := I.tuple hq
  obtain ⟨j, h1, h2, h3, h4, h5⟩ := atI_get he
  obtain ⟨w, ew, rw'⟩ := r.get h2
  have hl := r.length
  have hn := line63
  have fin : EP X pins σ Q w s := ⟨z, H, I, rw', q⟩
  exact subscriptTail_builtinR (x := w) pl.typeIs slot_tuple_getitem.lookup
    (getItem_tuple (j := j) (Q := fun r s' => r = w ∧ EP X pins σ Q r s') pl (by omega) (by omega) (by rw [List.size_toArray, ← hl]; exact h1) (by simpa using ew) ⟨rfl, fin⟩) hs
theorem ix_str : IxR X rIxS := by
  intro value slice pins s σ H x y v u Q I rx ry h hs
  obtain ⟨z, i, c, rfl, rfl, hz, he, q⟩ := h
  obtain ⟨t, rfl⟩ := rx
  obtain ⟨t', rfl⟩ := ry
  obtain ⟨j, h1, h2, h3, h4, h5⟩ := atI_get he
  have hl : z.cps.toList.length = z.length := by simp [Str.length]
  rw [hl] at h1 h4 h5
  have hn := line63
  exact tail_any (typeIs_str s z t) slot_str_getitem.lookup (getItem_str (c := c) (by
    have e1 : decide (i < -(2 ^ 63 : Int)) = false := decide_eq_false (by omega)
    have e2 : decide (i ≥ 2 ^ 63) = false := decide_eq_false (by omega)
    rw [e1, e2, Bool.or_false]) (by rw [h1]; simpa using h2) ⟨.str ⟨#[c]⟩, H, I.tok _, ⟨_, rfl⟩, q⟩) hs
/-- list, tuple or str -/
def rIx (K : PySem.W.Frag) : R2 := fun x y H Q => rIxL K x y H Q ∨ rIxT K x y H Q ∨ rIxS x y H Q
theorem ix_seq : IxR X (rIx X.K) := ix_list.or (ix_tup.or ix_str)

/-! ### xs[i] = v, any sign -/
/-- the list's object behind a store -/
theorem mapSeq_set (its : List Value) (n j : Nat) (u : Value) : Obj.mapSeq (·.setIfInBounds j u) { cls := .type "list", data := .seq its.toArray n } = { cls := .type "list", data := .seq (its.set j u).toArray n } := by
  simp [Obj.mapSeq]
theorem Inv.lst {pins : List (Addr × Obj)} {σ : St} {H : Hp} {s : Shared} {p : Addr} {xs : List V} (I : Inv X pins σ H s) (h : H p = some (.lst xs)) :
    ∃ (its : List Value) (n : Nat), Vals xs its ∧ s.heap.get? p = some { cls := .type "list", data := .seq its.toArray n } ∧ xs.length ≤ sizeLine := by
  obtain ⟨z, its, n, r, e⟩ := I.hok p _ h
  exact ⟨its, n, r, e, z⟩
/-- the list at p is written by an update of its object -/
theorem Inv.lstUpd {pins : List (Addr × Obj)} {σ : St} {H : Hp} {s : Shared} {p : Addr} {xs ys : List V} {its its' : List Value} {n n' : Nat} {f : Obj → Obj} (I : Inv X pins σ H s) (h : H p = some (.lst xs))
    (ho : s.heap.get? p = some { cls := .type "list", data := .seq its.toArray n }) (hf : f { cls := .type "list", data := .seq its.toArray n } = { cls := .type "list", data := .seq its'.toArray n' }) (r : Vals ys its') (hz : ys.length ≤ sizeLine) (t : Nat) :
    Inv X pins σ (upd H p (.lst ys)) { s with heap := s.heap.update p f, toks := t } := by
  have e : (s.heap.update p f).get? p = some { cls := .type "list", data := .seq its'.toArray n' } := by
    rw [Heap.get?_update_self f ho (by rw [hf] <;> rfl), hf]
  refine I.write (x := p) (e := p) (by rw [h]; trivial) (.inl rfl) (fun b u hb q => (Heap.get?_update_other _ _ (Ne.symm hb)).trans q) ⟨_, e⟩ ?_
  exact ⟨hz, its', n', r, e⟩
def rSetL : V → V → V → Hp → (Hp → Prop) → Prop := fun o i v H Q => ∃ p xs k j, o = .ref p ∧ i = .int k ∧ H p = some (.lst xs) ∧ ixN xs.length k = some j ∧ Q (upd H p (.lst (xs.set j v)))
theorem set_list : PSet X rSetL := by
  intro pins s σ H o i v ov iv u Q I ro ri rv h
  obtain ⟨p, xs, k, j, rfl, rfl, hp, hj, q⟩ := h
  cases ro
  obtain ⟨t, rfl⟩ := ri
  obtain ⟨its, n, r, ho, hz⟩ := I.lst hp
  obtain ⟨h1, h2, h3, h4⟩ := ixN_seq hj
  have hl := r.length
  have hn := line63
  have I' : Inv X pins σ (upd H p (.lst (xs.set j v))) { s with heap := s.heap.update p (Obj.mapSeq (·.setIfInBounds j u)) } :=
    I.lstUpd hp ho (mapSeq_set its n j u) (r.set rv j) (by rw [List.length_set]; exact hz) s.toks
  by_cases h0 : 0 ≤ k
  · have hk : k.toNat = j := by
      rw [seqIndex_of h0 h4] at h1
      exact Option.some.inj h1
    exact PySem.W.ki_setAt ho h0 (by omega) (by rw [List.size_toArray, ← hl]; exact h4) (by rw [hk]; exact ⟨_, I', q⟩)
  · have hk : (k + (its.toArray.size : Int)).toNat = j := by
      rw [seqIndex_neg (by omega) h3] at h1
      rw [List.size_toArray, ← hl]
      exact Option.some.inj h1
    exact PySem.W.ki_setBack ho (by omega) (by rw [List.size_toArray, ← hl]; exact h3) (by omega) (by rw [hk]; exact ⟨_, I', q⟩)

/-! ### slices -/
theorem slice_bounds (lo hi : Option Int) (n : Nat) : (sliceBounds lo hi none n).1 = ((HT.sIx n 0 lo : Nat) : Int) ∧ (sliceBounds lo hi none n).2.1 = ((HT.sIx n n hi : Nat) : Int) ∧ (sliceBounds lo hi none n).2.2 = 1 := by
  refine ⟨?_, ?_, rfl⟩
  · cases lo with
    | none => simp [sliceBounds, HT.sIx]
    | some i =>
      simp only [sliceBounds, HT.sIx, Option.getD_none, show (1 : Int) > 0 by decide, if_true]
      by_cases h : i < 0
      · simp only [h, if_true] <;> omega
      · simp only [h, if_false] <;> omega
  · cases hi with
    | none => simp [sliceBounds, HT.sIx]
    | some i =>
      simp only [sliceBounds, HT.sIx, Option.getD_none, show (1 : Int) > 0 by decide, if_true]
      by_cases h : i < 0
      · simp only [h, if_true] <;> omega
      · simp only [h, if_false] <;> omega
theorem slicePick_cut (its : List Value) (lo hi : Option Int) : slicePick its.toArray lo hi none = ((its.drop (HT.sIx its.length 0 lo)).take (HT.sIx its.length its.length hi - HT.sIx its.length 0 lo)).toArray := by
  obtain ⟨h1, h2, h3⟩ := slice_bounds lo hi its.toArray.size
  unfold slicePick
  rw [h1, h2, h3]
  simp only [sliceRange_one, pick_run, List.size_toArray] <;> rfl
/-- xs[lo:hi] of a list: a new list -/
def rSlL (K : PySem.W.Frag) : V → Option Int → Option Int → Hp → VK → Prop := fun x lo hi H Q => ∃ a xs, x = .ref a ∧ SqL K H a xs ∧ ∀ p, H p = none → Q (.ref p) (upd H p (.lst (cutV xs lo hi)))
theorem sl_list : SlR X (rSlL X.K) := by
  intro pins s σ H x v vl vu lo hi sl Q I rx hs pl pu h
  obtain ⟨a, xs, rfl, hx, q⟩ := h
  cases rx
  obtain ⟨its, r, ht, hz⟩ := I.list hx
  have hlen := r.length
  refine ⟨"list", _, slot_list_getitem.lookup, ht.isList.typeIs, ?_⟩
  refine wpAny_getItem_list_slice ht.isList hs pl pu .none (by simp) ?_ (by rw [List.size_toArray] <;> omega)
  rw [slicePick_cut, ← hlen]
  refine ⟨.ref s.heap.objs.size, _, I.laid (t' := s.toks) (o := .lst (cutV xs lo hi)) (fun b ob q => Heap.get?_push_of_some _ q) (Nat.le_refl _) ?_, rfl, q _ (I.hok.fresh (Nat.le_refl _))⟩
  exact ⟨Nat.le_trans (cutV_length xs lo hi) hz, _, 0, (r.drop (HT.sIx xs.length 0 lo)).take (HT.sIx xs.length xs.length hi - HT.sIx xs.length 0 lo), Heap.get?_push_size _ rfl⟩

/-! ### in, not in: flat items -/
def flatV : V → Bool
  | .non => true
  | .bl _ => true
  | .int _ => true
  | .str _ => true
  | _ => false
/-- == of flat values -/
def eqV : V → V → Bool
  | .non, .non => true
  | .bl a, .bl b => a == b
  | .bl a, .int b => (if a then 1 else 0) == b
  | .int a, .bl b => a == (if b then 1 else 0)
  | .int a, .int b => a == b
  | .str a, .str b => a == b
  | _, _ => false
theorem eqAt_V {A : Around} {s : Shared} {y x : V} {u v : Value} (ry : RelV y u) (rx : RelV x v) (fy : flatV y = true) (fx : flatV x = true) : SeqAt.EqAt A s u v (eqV y x) := by
  cases y with
  | non =>
    cases ry
    cases x with
    | non => cases rx; exact SeqAt.EqAt.same _
    | bl b => cases rx; exact SeqAt.EqAt.none_bool b
    | int b => obtain ⟨t, rfl⟩ := rx; exact SeqAt.EqAt.none_int b t
    | str b => obtain ⟨t, rfl⟩ := rx; exact SeqAt.EqAt.none_str b t
    | _ => exact absurd (show false = true from fx) Bool.false_ne_true
  | bl a =>
    cases ry
    cases x with
    | non => cases rx; exact SeqAt.EqAt.bool_none a
    | bl b => cases rx; exact SeqAt.EqAt.bool_bool a b
    | int b => obtain ⟨t, rfl⟩ := rx; exact SeqAt.EqAt.bool_int a b t
    | str b => obtain ⟨t, rfl⟩ := rx; exact SeqAt.EqAt.bool_str a b t
    | _ => exact absurd (show false = true from fx) Bool.false_ne_true
  | int a =>
    obtain ⟨t', rfl⟩ := ry
    cases x with
    | non => cases rx; exact SeqAt.EqAt.int_none a t'
    | bl b => cases rx; exact SeqAt.EqAt.int_bool a t' b
    | int b => obtain ⟨t, rfl⟩ := rx; exact SeqAt.EqAt.int_int a t' b t
    | str b => obtain ⟨t, rfl⟩ := rx; exact SeqAt.EqAt.int_str a t' b t
    | _ => exact absurd (show false = true from fx) Bool.false_ne_true
  | str a =>
    obtain ⟨t', rfl⟩ := ry
    cases x with
    | non => cases rx; exact SeqAt.EqAt.str_none a t'
    | bl b => cases rx; exact SeqAt.EqAt.str_bool a t' b
    | int b => obtain ⟨t, rfl⟩ := rx; exact SeqAt.EqAt.str_int a t' b t
    | str b => obtain ⟨t, rfl⟩ := rx; exact SeqAt.EqAt.str_str a t' b t
    | _ => exact absurd (show false = true from fx) Bool.false_ne_true
  | _ => exact absurd (show false = true from fy) Bool.false_ne_true
/-- the items' answers, read off the values (a value's own answer does not lean on its token) -/
def eqU (x : V) (u : Value) : Bool := match u with
  | .none => eqV .non x
  | .bool b => eqV (.bl b) x
  | .int i _ => eqV (.int i) x
  | .str z _ => eqV (.str z) x
  | _ => false
theorem eqU_of {x y : V} {u : Value} (r : RelV y u) (f : flatV y = true) : eqU x u = eqV y x := by
  cases y with
  | non => cases r; rfl
  | bl b => cases r; rfl
  | int i => obtain ⟨t, rfl⟩ := r; rfl
  | str z => obtain ⟨t, rfl⟩ := r; rfl
  | _ => exact absurd (show false = true from f) Bool.false_ne_true
theorem any_eqU {x : V} : ∀ {xs : List V} {us : List Value}, Vals xs us → xs.all flatV = true → us.any (eqU x) = xs.any fun y => eqV y x
  | _, _, .nil, _ => rfl
  | y :: xs, u :: us, .cons r t, f => by
    rw [List.all_cons, Bool.and_eq_true] at f
    rw [List.any_cons, List.any_cons, eqU_of r f.1, any_eqU t f.2]
theorem mem_eqAt {A : Around} {s : Shared} {x : V} {v : Value} (rx : RelV x v) (fx : flatV x = true) : ∀ {xs : List V} {us : List Value}, Vals xs us → xs.all flatV = true → ∀ u ∈ us, SeqAt.EqAt A s u v (eqU x u)
  | _, _, .nil, _ => fun u hu => by cases hu
  | y :: xs, u :: us, .cons r t, f => fun u' hu => by
    rw [List.all_cons, Bool.and_eq_true] at f
    rcases List.mem_cons.mp hu with rfl | hu
    · rw [eqU_of r f.1]; exact eqAt_V r rx f.1 fx
    · exact mem_eqAt rx fx t f.2 u' hu
def inV (x : V) (xs : List V) : Bool := xs.any fun y => eqV y x
/-- x in a list or tuple of flat items -/
def rIn (K : PySem.W.Frag) (neg : Bool) : R2 := fun x y H Q => ∃ p xs, y = .ref p ∧ (SqL K H p xs ∨ SqT K H p xs) ∧ flatV x = true ∧ xs.all flatV = true ∧ Q (.bl (if neg then !inV x xs else inV x xs)) H
theorem op_in_seq : OpR X (compareOp .In) (rIn X.K false) := by
  intro pins s σ H x y v u Q I rx ry h
  obtain ⟨p, xs, rfl, hq, fx, fs, q⟩ := h
  cases ry
  rcases hq with hq | hq
  · obtain ⟨its, r, pl, hz⟩ := I.list hq
    refine SeqAt.in_listAt (eqU x) pl.isList (fun w hw => mem_eqAt rx fx r fs w (by simpa using hw)) ⟨.bl _, H, I, rfl, ?_⟩
    rw [show its.toArray.any (eqU x) = its.any (eqU x) by simp, any_eqU r fs]
    exact q
  · obtain ⟨its, r, pl, hz⟩ := I.tuple hq
    refine SeqAt.in_tupleAt (eqU x) pl (fun w hw => mem_eqAt rx fx r fs w (by simpa using hw)) ⟨.bl _, H, I, rfl, ?_⟩
    rw [show its.toArray.any (eqU x) = its.any (eqU x) by simp, any_eqU r fs]
    exact q
theorem op_notIn_seq : OpR X (compareOp .NotIn) (rIn X.K true) := by
  intro pins s σ H x y v u Q I rx ry h
  obtain ⟨p, xs, rfl, hq, fx, fs, q⟩ := h
  cases ry
  rcases hq with hq | hq
  · obtain ⟨its, r, pl, hz⟩ := I.list hq
    refine SeqAt.notIn_listAt (eqU x) pl.isList (fun w hw => mem_eqAt rx fx r fs w (by simpa using hw)) ⟨.bl _, H, I, rfl, ?_⟩
    rw [show its.toArray.any (eqU x) = its.any (eqU x) by simp, any_eqU r fs]
    exact q
  · obtain ⟨its, r, pl, hz⟩ := I.tuple hq
    refine SeqAt.notIn_tupleAt (eqU x) pl (fun w hw => mem_eqAt rx fx r fs w (by simpa using hw)) ⟨.bl _, H, I, rfl, ?_⟩
    rw [show its.toArray.any (eqU x) = its.any (eqU x) by simp, any_eqU r fs]
    exact q
theorem op_notIn_str : OpR X (compareOp .NotIn) (fun x y H Q => ∃ i j, x = .str i ∧ y = .str j ∧ Q (.bl (!(!(Builtin.Str.occurrences j i 0 j.length 1).isEmpty))) H) := by
  intro pins s σ H x y v u Q I rx ry h
  obtain ⟨i, j, rfl, rfl, q⟩ := h
  obtain ⟨t, rfl⟩ := rx
  obtain ⟨t', rfl⟩ := ry
  exact notIn_str ⟨.bl _, H, I, rfl, q⟩

/-! ### len, list(x), tuple(x) of any list or tuple that is read -/
theorem call_len_seq : CallR X (.builtin "len") (fun xs H Q => ∃ p ys, xs = [.ref p] ∧ (SqL X.K H p ys ∨ SqT X.K H p ys) ∧ Q (.int ys.length) H) := by
  intro pins s σ H xs us Q I r h
  obtain ⟨p, ys, rfl, hq, q⟩ := h
  obtain ⟨u, rfl, rx⟩ := vals1 r
  cases rx
  have hn := line63
  rcases hq with hq | hq
  · obtain ⟨its, r', pl, hz⟩ := I.list hq
    have hlen := r'.length
    exact Calls.call_len_list pl.isList (by simp only [List.size_toArray] <;> omega) ⟨.int ys.length, H, I.tok _, ⟨s.toks + 1, by rw [List.size_toArray, hlen]⟩, q⟩
  · obtain ⟨its, r', pl, hz⟩ := I.tuple hq
    have hlen := r'.length
    exact len_tuple pl (by simp only [List.size_toArray] <;> omega) ⟨.int ys.length, H, I.tok _, ⟨s.toks + 1, by rw [List.size_toArray, hlen]⟩, q⟩
theorem call_len_str : CallR X (.builtin "len") (fun xs H Q => ∃ z, xs = [.str z] ∧ z.length ≤ sizeLine ∧ Q (.int z.length) H) := by
  intro pins s σ H xs us Q I r h
  obtain ⟨z, rfl, hz, q⟩ := h
  obtain ⟨u, rfl, t, rfl⟩ := vals1 r
  have hn := line63
  exact len_str (by omega) ⟨.int z.length, H, I.tok _, ⟨_, rfl⟩, q⟩
theorem CallR.or {f : Value} {r r' : List V → Hp → VK → Prop} (h : CallR X f r) (h' : CallR X f r') : CallR X f (fun xs H Q => r xs H Q ∨ r' xs H Q) := by
  intro pins s σ H xs us Q I rs q
  rcases q with q | q
  · exact h pins s σ H xs us Q I rs q
  · exact h' pins s σ H xs us Q I rs q
theorem call_list_of : CallR X (.type "list") (fun xs H Q => ∃ p ys, xs = [.ref p] ∧ (SqL X.K H p ys ∨ SqT X.K H p ys) ∧ ∀ l, H l = none → Q (.ref l) (upd H l (.lst ys))) := by
  intro pins s σ H xs us Q I r h
  obtain ⟨p, ys, rfl, hq, q⟩ := h
  obtain ⟨u, rfl, rx⟩ := vals1 r
  cases rx
  have fin : ∀ (its : List Value), Vals ys its → ys.length ≤ sizeLine → ∀ (h' : Heap) (c' : Nat), (∀ b o', s.heap.get? b = some o' → h'.get? b = some o') →
      h'.get? s.heap.objs.size = some { cls := .type "list", dict := none, data := .seq its.toArray c', slots := #[] } → EP X pins σ Q (.ref s.heap.objs.size) { s with heap := h' } := fun its r' hz h' c' kp e =>
    ⟨.ref s.heap.objs.size, _, I.laid (t' := s.toks) kp (Nat.le_refl _) (show ObjOk X.prog X.w _ h' _ (.lst ys) from ⟨hz, its, c', r', e⟩), rfl, q _ (I.hok.fresh (Nat.le_refl _))⟩
  rcases hq with hq | hq
  · obtain ⟨its, r', pl, hz⟩ := I.list hq
    have hlen := r'.length
    obtain ⟨o, ho, hc, n, hd⟩ := pl.isList
    exact call_list_seq p (.inl rfl) ho hc hd (fun h' c' kp e => fin its r' hz h' c' kp e) (by simp only [List.size_toArray] <;> omega)
  · obtain ⟨its, r', pl, hz⟩ := I.tuple hq
    have hlen := r'.length
    obtain ⟨o, ho, hc, n, hd⟩ := pl
    exact call_list_seq p (.inr rfl) ho hc hd (fun h' c' kp e => fin its r' hz h' c' kp e) (by simp only [List.size_toArray] <;> omega)
theorem call_tuple_of : CallR X (.type "tuple") (fun xs H Q => ∃ p ys, xs = [.ref p] ∧ ((SqL X.K H p ys ∧ ∀ l, H l = none → Q (.ref l) (upd H l (.tup ys))) ∨ (SqT X.K H p ys ∧ Q (.ref p) H))) := by
  intro pins s σ H xs us Q I r h
  obtain ⟨p, ys, rfl, h⟩ := h
  obtain ⟨u, rfl, rx⟩ := vals1 r
  cases rx
  rcases h with ⟨hq, q⟩ | ⟨hq, q⟩
  · obtain ⟨its, r', pl, hz⟩ := I.list hq
    have hlen := r'.length
    refine call_tuple_list pl.isList (fun h' kp => ?_) (by simp only [List.size_toArray] <;> omega)
    have I1 : Inv X pins σ H { s with heap := h' } := I.kept (t' := s.toks) kp
    have I2 : Inv X pins σ (upd H h'.objs.size (.tup ys)) { s with heap := h'.push { cls := .type "tuple", data := .seq its.toArray } } :=
      I1.laid (t' := s.toks) (fun b o e => Heap.get?_push_of_some _ e) (Nat.le_refl _) (show ObjOk X.prog X.w _ _ _ (.tup ys) from ⟨hz, its, r', IsTup.new _ _⟩)
    exact ⟨.ref h'.objs.size, _, I2, rfl, q _ (I1.hok.fresh (Nat.le_refl _))⟩
  · obtain ⟨its, r', pl, hz⟩ := I.tuple hq
    exact call_tuple_same pl ⟨.ref p, H, I, rfl, q⟩

/-! ### the call of a builtin's method: o.m(..) -/
/-- the value is of that builtin type -/
def tyV (K : PySem.W.Frag) (T : String) (x : V) (H : Hp) : Prop := match x with
  | .str _ => T = "str"
  | .int _ => T = "int"
  | .ref p => (T = "list" ∧ ∃ xs, SqL K H p xs) ∨ (T = "tuple" ∧ ∃ o, K.lookup p = some o ∧ o.cls = .type "tuple" ∧ o.dict = none) ∨
      (T = "dict" ∧ ((∃ kvs, H p = some (.dK kvs)) ∨ ∃ kvs, H p = some (.dT kvs))) ∨ (T = "set" ∧ ∃ S n, H p = some (.set S n))
  | _ => False
theorem tyV_is {pins : List (Addr × Obj)} {σ : St} {H : Hp} {s : Shared} {T : String} {x : V} {v : Value} (I : Inv X pins σ H s) (r : RelV x v) (ty : tyV X.K T x H) :
    s.TypeIs v T ∧ ∀ a, v = .ref a → ∃ ob, s.heap.get? a = some ob ∧ ob.dict = none := by
  cases x with
  | str z =>
    obtain ⟨t, rfl⟩ := r
    cases (show T = "str" from ty)
    exact ⟨typeIs_str s z t, fun _ e => nomatch e⟩
  | int i =>
    obtain ⟨t, rfl⟩ := r
    cases (show T = "int" from ty)
    exact ⟨typeIs_int s i t, fun _ e => nomatch e⟩
  | ref p =>
    cases r
    rcases ty with ⟨rfl, xs, hq⟩ | ⟨rfl, o, hk, hc, hd⟩ | ⟨rfl, hk⟩ | ⟨rfl, S, n, hk⟩
    · obtain ⟨its, _, pl, _⟩ := I.list hq
      refine ⟨pl.isList.typeIs, fun a e => ?_⟩
      cases e
      obtain ⟨o, n, e, c, hd, _⟩ := pl
      exact ⟨o, e, hd⟩
    · refine ⟨⟨o, I.kIn p o hk, hc⟩, fun a e => ?_⟩
      cases e
      exact ⟨o, I.kIn _ o hk, hd⟩
    · have z : ∃ o, s.heap.get? p = some o ∧ o.ExactDict := by
        rcases hk with ⟨kvs, hk⟩ | ⟨kvs, hk⟩
        · obtain ⟨_, _, _, _, o, _, _, e, ex, _⟩ := I.hok p _ hk
          exact ⟨o, e, ex⟩
        · obtain ⟨_, _, _, _, o, _, _, e, ex, _⟩ := I.hok p _ hk
          exact ⟨o, e, ex⟩
      obtain ⟨o, e, ex⟩ := z
      refine ⟨⟨o, e, ex.1⟩, fun a e2 => ?_⟩
      cases e2
      exact ⟨o, e, ex.2.1⟩
    · obtain ⟨o, _, _, _, e, ex, _⟩ := I.hok p _ hk
      refine ⟨⟨o, e, ex.1⟩, fun a e2 => ?_⟩
      cases e2
      exact ⟨o, e, ex.2.1⟩
  | _ => exact False.elim ty
def tBM0 (K : PySem.W.Frag) (T : String) (r : V → List V → Hp → VK → Prop) (to : TE) : TE := fun σ H Q => to σ H fun x H1 => tyV K T x H1 ∧ r x [] H1 Q
def tBM (K : PySem.W.Frag) (T : String) (r : V → List V → Hp → VK → Prop) (to : TE) (t : TA) : TE := fun σ H Q => to σ H fun x H1 => tyV K T x H1 ∧ t σ H1 fun xs H2 => r x xs H2 Q
variable {o e : Expr} {es : List Expr} {to : TE} {t : TA} {name : Str} {apos cpos : Pos} {T id : String} {r : V → List V → Hp → VK → Prop}
theorem pe_bm0 (pa : PlainAttrs T) (slot : Slot T name id) (hty : typeOf (.builtin id) = pure (.type "method_descriptor")) (hm : MtR X id r) (ho : PE X o to)
    (hbase : attributeBase o name X.env (eval o X.env) = eval o X.env := by rfl) (hline : (apos.endLine == cpos.line) = true := by rfl) : PE X (.Call (.Attribute o name apos) [] [] cpos) (tBM0 X.K T r to) := by
  intro pins s σ H Q I h
  refine wpAny_Call_method0_late hbase hline (thn (ho pins s σ H _ I h) fun v s1 ⟨x, H1, I1, r1, ty, q1⟩ => ?_)
  obtain ⟨h1, h2⟩ := tyV_is I1 r1 ty
  exact ⟨T, id, pa, slot, hty, h1, h2, Calls.callWith_builtin rfl (PySem.evalArgs_none (hm pins s1 σ H1 x [] v [] Q I1 r1 .nil q1))⟩
theorem pe_bm (pa : PlainAttrs T) (slot : Slot T name id) (hty : typeOf (.builtin id) = pure (.type "method_descriptor")) (hm : MtR X id r) (ho : PE X o to) (ha : PA X (e :: es) t)
    (hbase : attributeBase o name X.env (eval o X.env) = eval o X.env := by rfl)
    (hfew : ((backTo cpos (starEach (e :: es) X.env)).all (fun x => !x.1) && (backToKw cpos (keywordEach [] X.env)).all (fun x => x.1.isSome)
      && decide ((e :: es).length + ([] : List Keyword).length + (if ([] : List Keyword).isEmpty then 0 else 1) < 30)) = true := by rfl)
    (hline : (apos.endLine == cpos.line) = true := by rfl) (hs : starEach (e :: es) X.env = (false, eval e X.env) :: starEach es X.env := by rfl) (hplain : (backTo cpos (starEach es X.env)).any (·.1) = false := by rfl) :
    PE X (.Call (.Attribute o name apos) (e :: es) [] cpos) (tBM X.K T r to t) := by
  intro pins s σ H Q I h
  refine wpAny_Call_method_late hbase hfew hline rfl (thn (ho pins s σ H _ I h) fun v s1 ⟨x, H1, I1, r1, ty, q1⟩ => ?_)
  obtain ⟨h1, h2⟩ := tyV_is I1 r1 ty
  refine ⟨T, id, pa, slot, hty, h1, h2, ?_⟩
  have hA := ha cpos pins s1 σ H1 _ I1 q1
  rw [hs] at hA ⊢
  refine Calls.callWith_builtin (by show (false || (backTo cpos (starEach es X.env)).any (·.1)) = false; rw [hplain] <;> rfl) (Calls.evalArgs_plain ?_)
  exact thn hA fun us s2 ⟨vs, H2, I2, r2, q2⟩ => hm pins s2 σ H2 x vs v us Q I2 r1 r2 q2
/- xs.append(e), list.index on a module's tuple .. are MtR facts of 06m -/
end
end L2

namespace L2
open PySem PySem.Spec PyProof.Rows

def MtM (X : Cx) (id : String) (r : V → List V → Hp → VK → Prop) : Prop :=
  ∀ (pins : List (Addr × Obj)) (s : Shared) (σ : St) (H : Hp) (x : V) (xs : List V) (v : Value) (us : List Value) (Q : VK), Inv X pins σ H s → RelV x v → Vals xs us → r x xs H Q →
    wpAny (model X.prog X.w) X.A (call (.builtin id) (v :: us)) (EP X pins σ Q) X.xe s

/-! ### lists of values -/
theorem Vals.one : ∀ {x : V} {us : List Value}, Vals [x] us → ∃ u, us = [u] ∧ RelV x u
  | _, _, .cons r .nil => ⟨_, rfl, r⟩
theorem Vals.two : ∀ {x y : V} {us : List Value}, Vals [x, y] us → ∃ u v, us = [u, v] ∧ RelV x u ∧ RelV y v
  | _, _, _, .cons r (.cons q .nil) => ⟨_, _, rfl, r, q⟩
theorem Vals.zero : ∀ {us : List Value}, Vals [] us → us = []
  | _, .nil => rfl
theorem Vals.dropLast {xs : List V} {us : List Value} (h : Vals xs us) : Vals xs.dropLast us.dropLast := by
  induction h with
  | nil => exact .nil
  | cons r t ih =>
    cases t with
    | nil => exact .nil
    | cons q t' => exact .cons r ih
theorem Vals.eraseIdx : ∀ {xs : List V} {us : List Value} (i : Nat), Vals xs us → Vals (xs.eraseIdx i) (us.eraseIdx i)
  | _, _, _, .nil => .nil
  | _, _, 0, .cons _ t => t
  | _, _, i + 1, .cons r t => .cons r (Vals.eraseIdx i t)
theorem Vals.reverse {xs : List V} {us : List Value} (h : Vals xs us) : Vals xs.reverse us.reverse := by
  induction h with
  | nil => exact .nil
  | cons r t ih => rw [List.reverse_cons, List.reverse_cons]; exact Vals.append ih (.cons r .nil)
theorem Vals.rep {xs : List V} {us : List Value} (h : Vals xs us) : ∀ k : Nat, Vals (List.replicate k xs).flatten (List.replicate k us).flatten
  | 0 => .nil
  | k + 1 => by
    rw [List.replicate_succ, List.replicate_succ, List.flatten_cons, List.flatten_cons]
    exact Vals.append h (Vals.rep h k)
theorem erase_last {α : Type} (l : List α) : l.eraseIdx (l.length - 1) = l.dropLast := by
  induction l with
  | nil => rfl
  | cons a r ih =>
    cases r with
    | nil => rfl
    | cons b r =>
      have e : (a :: b :: r).length - 1 = ((b :: r).length - 1) + 1 := by
        have h1 : (a :: b :: r).length = r.length + 2 := rfl
        have h2 : (b :: r).length = r.length + 1 := rfl
        omega
      rw [e, List.eraseIdx_cons_succ, ih]
      all_goals rfl
theorem len_erase {α : Type} : ∀ (l : List α) (i : Nat), (l.eraseIdx i).length ≤ l.length
  | [], _ => Nat.le_refl _
  | _ :: _, 0 => Nat.le_succ _
  | _ :: r, i + 1 => Nat.succ_le_succ (len_erase r i)
theorem foldl_rep (its : List Value) : ∀ (k : Nat) (acc : List Value),
    List.foldl (fun x1 x2 => x1 ++ x2) acc.toArray (List.replicate k its.toArray) = (acc ++ (List.replicate k its).flatten).toArray
  | 0, acc => by simp
  | k + 1, acc => by
    have e : acc.toArray ++ its.toArray = (acc ++ its).toArray := by simp
    have e2 : (acc ++ its) ++ (List.replicate k its).flatten = acc ++ (List.replicate (k + 1) its).flatten := by
      rw [List.replicate_succ, List.flatten_cons, List.append_assoc]
    rw [← e2, ← foldl_rep its k (acc ++ its), ← e, List.replicate_succ, List.foldl_cons]

section
variable {X : Cx} {pins : List (Addr × Obj)} {σ : St} {H : Hp} {s : Shared} {l b : Addr} {xs ys zs : List V}

/-! ### the two steps: a tracked list is rewritten, a new list is laid -/
theorem Inv.lset {its its' : List Value} {n : Nat} {f : Array Value → Array Value} {t' : Nat} (I : Inv X pins σ H s) (hH : H l = some (.lst xs))
    (e : s.heap.get? l = some { cls := .type "list", data := .seq its.toArray n }) (hf : f its.toArray = its'.toArray) (hv : Vals ys its') (hz : ys.length ≤ sizeLine) :
    Inv X pins σ (upd H l (.lst ys)) { s with heap := s.heap.update l (Obj.mapSeq f), toks := t' } := by
  have q := PySem.IsL.update e f
  rw [hf] at q
  refine I.write (x := l) (e := l) (by rw [hH]; exact trivial) (.inl rfl) (fun b' u hb hu => (Heap.get?_update_other s.heap (Obj.mapSeq f) (Ne.symm hb)).trans hu) ⟨_, q⟩ ?_
  exact ⟨hz, its', _, hv, q⟩
theorem Inv.lnew {its : List Value} {t' : Nat} (I : Inv X pins σ H s) (hv : Vals ys its) (hz : ys.length ≤ sizeLine) :
    Inv X pins σ (upd H s.heap.objs.size (.lst ys)) { s with heap := s.heap.push { cls := .type "list", data := .seq its.toArray }, toks := t' } :=
  I.laid (fun _ _ q => Heap.get?_push_of_some _ q) (Nat.le_refl _) ⟨hz, its, 0, hv, Heap.get?_push_size _ rfl⟩
theorem Inv.fresh (I : Inv X pins σ H s) : H s.heap.objs.size = none := I.hok.fresh (Nat.le_refl _)
theorem Inv.lstM (I : Inv X pins σ H s) (hH : H l = some (.lst xs)) : xs.length ≤ sizeLine ∧ ∃ (its : List Value) (n : Nat), Vals xs its ∧ xs.length = its.length ∧ s.heap.get? l = some { cls := .type "list", data := .seq its.toArray n } := by
  obtain ⟨z, its, n, r, e⟩ := I.hok l _ hH
  exact ⟨z, its, n, r, r.length, e⟩

theorem notLongL {n : Nat} (h : n ≤ sizeLine) : Builtin.List.listTooLong n = false := by
  unfold Builtin.List.listTooLong
  exact decide_eq_false (by omega)
end

section
variable {X : Cx}

/-! ### methods -/
def rAppend : V → List V → Hp → VK → Prop := fun x vs H Q => ∃ l xs y, x = .ref l ∧ vs = [y] ∧ H l = some (.lst xs) ∧ xs.length < sizeLine ∧ Q .non (upd H l (.lst (xs ++ [y])))
theorem mt_append : MtM X "list.append" rAppend := by
  intro pins s σ H x vs v us Q I rx rv h
  obtain ⟨l, xs, y, rfl, rfl, hH, hz, q⟩ := h
  cases rx
  obtain ⟨u, rfl, ru⟩ := rv.one
  obtain ⟨z, its, n, r, hl, e⟩ := I.lstM hH
  refine call_meets F.slot_list_append ⟨_, e, rfl⟩ F.entry_list_append (F.args_list_append_2 _ _) (PySem.list_append l its.toArray n u (by rw [List.size_toArray]; omega)) ⟨e, ?_⟩
  refine ⟨.non, _, I.lset (its' := its ++ [u]) hH e (by simp) (r.append (.cons ru .nil)) ?_, rfl, q⟩
  rw [List.length_append, List.length_singleton]
  omega

def rExtend : V → List V → Hp → VK → Prop := fun x vs H Q => ∃ l b xs zs, x = .ref l ∧ vs = [.ref b] ∧ H l = some (.lst xs) ∧ H b = some (.lst zs) ∧ xs.length + zs.length ≤ sizeLine ∧ Q .non (upd H l (.lst (xs ++ zs)))
theorem mt_extend : MtM X "list.extend" rExtend := by
  intro pins s σ H x vs v us Q I rx rv h
  obtain ⟨l, b, xs, zs, rfl, rfl, hH, hB, hz, q⟩ := h
  cases rx
  obtain ⟨u, rfl, ru⟩ := rv.one
  cases ru
  obtain ⟨z, its, n, r, hl, e⟩ := I.lstM hH
  obtain ⟨z2, its2, n2, r2, hl2, e2⟩ := I.lstM hB
  have hsz : its.toArray.size + its2.toArray.size ≤ sizeLine := by rw [List.size_toArray, List.size_toArray]; omega
  have hlong : ¬ (!its.toArray.isEmpty && Builtin.List.listTooLong (its.toArray.size + its2.toArray.size)) = true := by
    rw [notLongL hsz, Bool.and_false]
    exact Bool.false_ne_true
  refine call_meets F.slot_list_extend ⟨_, e, rfl⟩ F.entry_list_extend (F.args_list_extend_2 _ _)
    (AutoSeq1.list_extend_list_list_0 l its.toArray n b its2.toArray n2 hlong (by rw [List.size_toArray]; omega) (by omega)) ⟨e, e2, ?_⟩
  refine ⟨.non, _, I.lset (its' := its ++ its2) hH e (by simp) (r.append r2) ?_, rfl, q⟩
  rw [List.length_append]
  omega

def rPop : V → List V → Hp → VK → Prop := fun x vs H Q => ∃ l xs y, x = .ref l ∧ vs = [] ∧ H l = some (.lst xs) ∧ xs[xs.length - 1]? = some y ∧ Q y (upd H l (.lst xs.dropLast))
theorem mt_pop : MtM X "list.pop" rPop := by
  intro pins s σ H x vs v us Q I rx rv h
  obtain ⟨l, xs, y, rfl, rfl, hH, hy, q⟩ := h
  cases rx
  have hus := rv.zero
  subst hus
  obtain ⟨z, its, n, r, hl, e⟩ := I.lstM hH
  obtain ⟨u, hu, ru⟩ := r.get hy
  have hy' : its.toArray[its.toArray.size - 1]? = some u := by
    show its.toArray[its.length - 1]? = some u
    rw [← Array.getElem?_toList, ← hl]
    exact hu
  refine call_meets F.slot_list_pop ⟨_, e, rfl⟩ F.entry_list_pop (F.args_list_pop_1 _) (MeetsSeq.list_pop_last l its.toArray n u hy' (by rw [List.size_toArray]; omega)) ⟨e, ?_⟩
  refine ⟨y, _, I.lset (its' := its.dropLast) hH e ?_ r.dropLast ?_, ru, q⟩
  · show its.toArray.eraseIdxIfInBounds (its.toArray.size - 1) = its.dropLast.toArray
    rw [List.size_toArray, List.eraseIdxIfInBounds_toArray, erase_last]
  · rw [List.length_dropLast]
    omega

def rPopAt : V → List V → Hp → VK → Prop := fun x vs H Q => ∃ l xs i k y, x = .ref l ∧ vs = [.int i] ∧ H l = some (.lst xs) ∧ -(2 ^ 63) ≤ i ∧ i < 2 ^ 63 ∧ seqIndex? i xs.length = some k ∧ xs[k]? = some y ∧ Q y (upd H l (.lst (xs.eraseIdx k)))
theorem mt_popAt : MtM X "list.pop" rPopAt := by
  intro pins s σ H x vs v us Q I rx rv h
  obtain ⟨l, xs, i, k, y, rfl, rfl, hH, h1, h2, hk, hy, q⟩ := h
  cases rx
  obtain ⟨u, rfl, ru⟩ := rv.one
  obtain ⟨t, rfl⟩ := ru
  obtain ⟨z, its, n, r, hl, e⟩ := I.lstM hH
  obtain ⟨w, hw, rw'⟩ := r.get hy
  refine call_meets F.slot_list_pop ⟨_, e, rfl⟩ F.entry_list_pop (F.args_list_pop_2 _ _)
    (MeetsSeq.list_pop_at l its.toArray n i t k w (fitsIndex_both h1 h2) (by rw [List.size_toArray, ← hl]; exact hk) (by rw [← Array.getElem?_toList]; exact hw) (by rw [List.size_toArray]; omega)) ⟨e, ?_⟩
  refine ⟨y, _, I.lset (its' := its.eraseIdx k) hH e ?_ (r.eraseIdx k) ?_, rw', q⟩
  · show its.toArray.eraseIdxIfInBounds k = (its.eraseIdx k).toArray
    rw [List.eraseIdxIfInBounds_toArray]
  · have := len_erase xs k
    omega

def rReverse : V → List V → Hp → VK → Prop := fun x vs H Q => ∃ l xs, x = .ref l ∧ vs = [] ∧ H l = some (.lst xs) ∧ Q .non (upd H l (.lst xs.reverse))
theorem mt_reverse : MtM X "list.reverse" rReverse := by
  intro pins s σ H x vs v us Q I rx rv h
  obtain ⟨l, xs, rfl, rfl, hH, q⟩ := h
  cases rx
  have hus := rv.zero
  subst hus
  obtain ⟨z, its, n, r, hl, e⟩ := I.lstM hH
  refine call_meets F.slot_list_reverse ⟨_, e, rfl⟩ F.entry_list_reverse (F.args_list_reverse_1 _) (AutoSeq1.list_reverse_list_0 l its.toArray n (by rw [List.size_toArray]; omega)) ⟨e, ?_⟩
  refine ⟨.non, _, I.lset (its' := its.reverse) hH e (by simp) r.reverse ?_, rfl, q⟩
  rw [List.length_reverse]
  omega

def rClear : V → List V → Hp → VK → Prop := fun x vs H Q => ∃ l xs, x = .ref l ∧ vs = [] ∧ H l = some (.lst xs) ∧ Q .non (upd H l (.lst []))
theorem mt_clear : MtM X "list.clear" rClear := by
  intro pins s σ H x vs v us Q I rx rv h
  obtain ⟨l, xs, rfl, rfl, hH, q⟩ := h
  cases rx
  have hus := rv.zero
  subst hus
  obtain ⟨z, its, n, r, hl, e⟩ := I.lstM hH
  refine call_meets F.slot_list_clear ⟨_, e, rfl⟩ F.entry_list_clear (F.args_list_clear_1 _) (AutoSeq1.list_clear_list_0 l its.toArray n (by rw [List.size_toArray]; omega)) ⟨e, ?_⟩
  exact ⟨.non, _, I.lset (its' := []) (ys := []) hH e rfl .nil (Nat.zero_le _), rfl, q⟩

/-! ### list + list, list += list, list * int -/
def rCat : R2 := fun x y H Q => ∃ l b xs zs, x = .ref l ∧ y = .ref b ∧ H l = some (.lst xs) ∧ H b = some (.lst zs) ∧ xs.length + zs.length ≤ sizeLine ∧ ∀ p, H p = none → Q (.ref p) (upd H p (.lst (xs ++ zs)))
theorem op_cat : OpR X (binaryOp .Add) rCat := by
  intro pins s σ H x y v u Q I rx ry h
  obtain ⟨l, b, xs, zs, rfl, rfl, hH, hB, hz, q⟩ := h
  cases rx
  cases ry
  obtain ⟨z, its, n, r, hl, e⟩ := I.lstM hH
  obtain ⟨z2, its2, n2, r2, hl2, e2⟩ := I.lstM hB
  refine PySem.P.add_list e e2 ?_ (by rw [List.size_toArray, List.size_toArray]; omega)
  have ea : its.toArray ++ its2.toArray = (its ++ its2).toArray := by simp
  rw [ea]
  exact ⟨.ref _, _, I.lnew (t' := s.toks) (r.append r2) (by rw [List.length_append]; omega), rfl, q _ I.fresh⟩
/-- a list times an int (a negative one is nothing) -/
def rRep : R2 := fun x y H Q => ∃ l k xs, x = .ref l ∧ y = .int k ∧ H l = some (.lst xs) ∧ -(2 ^ 63) ≤ k ∧ k < 2 ^ 63 ∧ xs.length * k.toNat ≤ sizeLine ∧
  ∀ p, H p = none → Q (.ref p) (upd H p (.lst (List.replicate k.toNat xs).flatten))
theorem len_rep {α : Type} (xs : List α) (k : Nat) : (List.replicate k xs).flatten.length = k * xs.length := by
  induction k with
  | zero => simp
  | succ k ih => rw [List.replicate_succ, List.flatten_cons, List.length_append, ih, Nat.succ_mul, Nat.add_comm]
theorem op_rep : OpR X (binaryOp .Mult) rRep := by
  intro pins s σ H x y v u Q I rx ry h
  obtain ⟨l, k, xs, rfl, rfl, hH, h1, h2, hz, q⟩ := h
  cases rx
  obtain ⟨t, rfl⟩ := ry
  obtain ⟨z, its, n, r, hl, e⟩ := I.lstM hH
  have hlen : its.toArray.size * k.toNat ≤ sizeLine := by rw [List.size_toArray, ← hl]; exact hz
  have hcap : ¬ its.toArray.size * k.toNat > (2 ^ 63 - 1) / 8 := by
    have : (sizeLine : Nat) ≤ (2 ^ 63 - 1) / 8 := by decide
    omega
  have hfit : ¬ (!Builtin.List.listFitsIndex k) = true := by
    rw [fitsIndex_both h1 h2]
    exact Bool.false_ne_true
  have hlong : ¬ Builtin.List.listTooLong (its.toArray.size * k.toNat) = true := by
    rw [notLongL hlen]
    exact Bool.false_ne_true
  have hnew : List.foldl (fun x1 x2 => x1 ++ x2) #[] (List.replicate (if its.toArray.isEmpty = true then 0 else k.toNat) its.toArray) = (List.replicate k.toNat its).flatten.toArray := by
    have f0 : ∀ m : Nat, List.foldl (fun x1 x2 => x1 ++ x2) #[] (List.replicate m its.toArray) = (List.replicate m its).flatten.toArray := fun m => by
      have := foldl_rep its m []
      rw [List.nil_append] at this
      exact this
    rw [f0]
    cases its with
    | nil => simp
    | cons a r' => rw [if_neg (by simp)]
  refine wpAny_binaryOp_repeat_ref (T := "list") (U := "int") (by decide) ⟨_, e, rfl⟩ (fun s' => typeIs_int s' k t) noFill_list_mul F.fills_int_mul F.slot_int_rmul repeat_list F.slot_int_index.lookup
    (call_meets F.slot_int_rmul (typeIs_int s k t) F.entry_int_rmul (F.args_int_rmul_2 _ _) (int___rmul___int_list k t l its.toArray n)
      ⟨e, rfl, ⟨_, e, rfl⟩, call_meets F.slot_list_mul ⟨_, e, rfl⟩ F.entry_list_mul (F.args_list_mul_2 _ _) (AutoListH.list___mul___list_int_3 l its.toArray n k t hfit hcap hlong) ⟨e, ?_⟩⟩)
  rw [hnew]
  exact ⟨.ref _, _, I.lnew (t' := s.toks) (r.rep k.toNat) (by rw [len_rep, Nat.mul_comm]; exact hz), rfl, q _ I.fresh⟩

/-! ### del xs[i] -/
theorem del_list {pins : List (Addr × Obj)} {s : Shared} {σ : St} {H : Hp} {l : Addr} {xs : List V} {i : Int} {t : Tok} {k : Nat} {Q : Unit → Shared → Prop} (I : Inv X pins σ H s) (hH : H l = some (.lst xs))
    (h1 : -(2 ^ 63) ≤ i) (h2 : i < 2 ^ 63) (hk : seqIndex? i xs.length = some k) (h : ∀ s', Inv X pins σ (upd H l (.lst (xs.eraseIdx k))) s' → Q () s') :
    wpAny (model X.prog X.w) X.A (delItem (.ref l) (.int i t)) Q X.xe s := by
  obtain ⟨z, its, n, r, hl, e⟩ := I.lstM hH
  refine PySem.P.delItem_list (k := k) e (fitsIndex_both h1 h2) (by rw [List.size_toArray, ← hl]; exact hk) (h _ ?_) (by rw [List.size_toArray]; omega)
  refine I.lset (its' := its.eraseIdx k) (t' := s.toks) hH e ?_ (r.eraseIdx k) ?_
  · show its.toArray.eraseIdxIfInBounds k = (its.eraseIdx k).toArray
    rw [List.eraseIdxIfInBounds_toArray]
  · have := len_erase xs k
    omega
end

/-! ### xs[a:b] = ys -/
section
variable {prog : Program} {w : World} {A : Around} {E : Value → Shared → Prop} {s : Shared}
theorem splice_eq (its its2 : List Value) (a c : Nat) : its.toArray.extract 0 a ++ its2.toArray ++ its.toArray.extract c its.toArray.size = (its.take a ++ its2 ++ its.drop c).toArray := by
  apply Array.toList_inj.mp
  first
    | (simp
       exact List.take_of_length_le (by simp))
    | simp [List.take_of_length_le]
    | simp
theorem bounds_run {a c n : Nat} (hac : a ≤ c) (hc : c ≤ n) : sliceBounds (some (a : Int)) (some (c : Int)) none n = ((a : Int), (c : Int), 1) := by
  simp only [sliceBounds, Option.getD_none]
  have h1 : ¬ ((a : Int) < 0) := by omega
  have h2 : ¬ ((c : Int) < 0) := by omega
  simp only [h1, h2, if_false, show (1 : Int) > 0 by decide, if_true]
  congr 1
  · omega
  · congr 1; omega
set_option maxRecDepth 100000 in
/-- list.__setitem__ with a slice of step one and another list -/
theorem setItem_slice {l b sl : Addr} {items new : Array Value} {n n2 : Nat} {vl vu : Value} {a c : Nat} {Q : Unit → Shared → Prop}
    (e : s.heap.get? l = some { cls := .type "list", data := .seq items n }) (e2 : s.heap.get? b = some { cls := .type "list", data := .seq new n2 }) (hne : l ≠ b)
    (hs : s.heap.IsSliceOf sl vl vu .none) (pl : IsPart vl (some (a : Int))) (pu : IsPart vu (some (c : Int))) (hac : a ≤ c) (hc : c ≤ items.size)
    (hsz : items.size + new.size ≤ sizeLine) (h : Q () { s with heap := s.heap.update l (Obj.mapSeq fun xs => xs.extract 0 a ++ new ++ xs.extract c xs.size) }) :
    wpAny (model prog w) A (setItem (.ref l) (.ref sl) (.ref b)) Q E s := by
  have hl : s.heap.IsList l items := PySem.IsL.isList e
  have hb : s.heap.IsList b new := PySem.IsL.isList e2
  obtain ⟨os, hos, hcs, hds⟩ := id hs
  have hTs : s.TypeIs (.ref sl) "slice" := ⟨os, hos, hcs⟩
  have hstep : ¬ ((rawPart none == rawInt 0) = true) := Bool.false_ne_true
  have hsame : Builtin.List.listSameRef (.ref l) (.ref b) = false := by
    unfold Builtin.List.listSameRef
    exact beq_eq_false_iff_ne.mpr hne
  have hmax : (max (a : Int) (c : Int)).toNat = c := by omega
  have hz' : ((fun xs : Array Value => xs.extract 0 a ++ new ++ xs.extract c xs.size) items).size ≤ sizeLine + 1 := by
    simp only [Array.size_append, Array.size_extract]
    omega
  unfold setItem
  try with_reducible refine wpAny_holding ?_
  first | refine wpAny_bind (wpAny_pure ?_) | skip
  refine wpAny_bind (wpAny_sequenceKey hl.typeIs (by decide) ?_)
  refine wpAny_bind (wpAny_callSpecial?_slot (name := Str.ofString "__setitem__") hl.typeIs slot_list_setitem
    (wpAny_call_entry slot_list_setitem hl.typeIs entry_list_setitem ?_ (args_list_setitem _ _ _)))
  show wpAny _ _ (Builtin.List.listSubscript? (.ref sl) >>= _) _ _ s
  refine wpAny_bind ?_
  unfold Builtin.List.listSubscript?
  refine wpAny_bind (wpAny_specialOf hTs slice_no_index ?_)
  simp only [Option.isNone_none, if_true]
  refine wpAny_pure ?_
  show wpAny _ _ (typeOf (.ref sl) >>= _) _ _ s
  refine wpAny_bind (wpAny_typeOf hTs ?_)
  first
    | rw [if_neg (by decide)]
    | refine PySem.W.KFB.if_not (by decide) ?_
  rw [listSliceParts_eq]
  refine wpAny_bind (wpAny_bind (wpAny_field hos hds (x := .none) rfl (wpAny_bind (wpAny_listPart .none ?_))))
  rw [if_neg hstep]
  refine wpAny_bind (wpAny_field hos hds (x := vl) rfl (wpAny_bind (wpAny_listPart pl ?_)))
  refine wpAny_bind (wpAny_field hos hds (x := vu) rfl (wpAny_bind (wpAny_listPart pu (wpAny_pure ?_))))
  first
    | simp only [hsame, Bool.false_eq_true, if_false]
    | refine PySem.W.KFB.if_not hsame ?_
    | (dsimp only
       rw [if_neg (by rw [hsame]; exact Bool.false_ne_true)])
  refine wpAny_bind (m := Builtin.List.listAllItems (.ref b) "must assign iterable to extended slice") ?_
  unfold Builtin.List.listAllItems
  refine wpAny_bind (wpAny_typeOf hb.typeIs ?_)
  first
    | refine PySem.W.KFB.if_so (by decide) ?_
    | rw [if_pos (by decide)]
    | simp only [beq_self_eq_true, Bool.true_or, if_true]
  unfold Builtin.List.listItems
  refine wpAny_bind (wpAny_seqItems e2 rfl (wpAny_pure ?_))
  refine wpAny_bind (wpAny_bind (wpAny_seqItems e rfl (wpAny_pure ?_)))
  refine wpAny_bind (wpAny_of_eq ((sliceIndices_raw (some (a : Int)) (some (c : Int)) none items.size (by simp)).trans (congrArg (pure : Int × Int × Int → Sem (Int × Int × Int)) (bounds_run hac hc))) ?_)
  show wpAny _ _ (if ((1 : Int) == 1) = true then _ else _) _ _ s
  rw [if_pos (by decide)]
  refine wpAny_bind (wpAny_rule ?_)
  first
    | simp only [notLongL hsz, Bool.false_eq_true, if_false]
    | refine PySem.W.KFB.if_not (notLongL hsz) ?_
  first | refine wpAny_bind (wpAny_pure ?_) | skip
  show wpAny _ _ (updateSeq l (fun xs => xs.extract 0 ((a : Int)).toNat ++ new ++ xs.extract (max (a : Int) (c : Int)).toNat xs.size) >>= _) _ _ s
  rw [hmax, Int.toNat_natCast]
  refine wpAny_bind (wpAny_updateSeq (hz := Nat.le_trans (Nat.le_add_right _ _) hsz) (_hz' := hz') e rfl ?_)
  refine wpAny_bind (wpAny_letGo ?_)
  first
    | exact wpAny_bind (wpAny_pure (wpAny_pure ⟨.none, rfl, wpAny_pure h⟩))
    | exact wpAny_pure ⟨.none, rfl, wpAny_pure h⟩
end

section
variable {X : Cx}
/-- xs[a:c] = ys of another list, at the value level: sl is the slice object that was just made -/
theorem set_slice {pins : List (Addr × Obj)} {s : Shared} {σ : St} {H : Hp} {l b sl : Addr} {xs ys : List V} {a c : Int} {vl vu : Value} {Q : Unit → Shared → Prop} (I : Inv X pins σ H s)
    (hH : H l = some (.lst xs)) (hB : H b = some (.lst ys)) (hne : l ≠ b) (hs : s.heap.IsSliceOf sl vl vu .none) (ra : RelV (.int a) vl) (rc : RelV (.int c) vu) (h0 : 0 ≤ a) (hac : a ≤ c) (hc : c ≤ xs.length)
    (hz : xs.length + ys.length ≤ sizeLine) (h : ∀ s', Inv X pins σ (upd H l (.lst (xs.take a.toNat ++ ys ++ xs.drop c.toNat))) s' → Q () s') :
    wpAny (model X.prog X.w) X.A (setItem (.ref l) (.ref sl) (.ref b)) Q X.xe s := by
  obtain ⟨ta, rfl⟩ := ra
  obtain ⟨tc, rfl⟩ := rc
  obtain ⟨z, its, n, r, hl, e⟩ := I.lstM hH
  obtain ⟨z2, its2, n2, r2, hl2, e2⟩ := I.lstM hB
  obtain ⟨a', rfl⟩ := Int.eq_ofNat_of_zero_le h0
  obtain ⟨c', rfl⟩ := Int.eq_ofNat_of_zero_le (Int.le_trans h0 hac)
  simp only [Int.toNat_natCast] at h
  refine setItem_slice (a := a') (c := c') e e2 hne hs (.int _ _) (.int _ _) (by omega) (by rw [List.size_toArray]; omega) (by rw [List.size_toArray, List.size_toArray]; omega) (h _ ?_)
  refine I.lset (its' := its.take a' ++ its2 ++ its.drop c') (t' := s.toks) hH e ?_ (Vals.append (Vals.append (r.take _) r2) (r.drop _)) ?_
  · exact splice_eq its its2 a' c'
  · rw [List.length_append, List.length_append, List.length_take, List.length_drop]
    omega
end
end L2

namespace Att
open PySem PySem.W PySem.Calls PyProof.Rows

/-! ### the script -/
theorem ints_of_wellAll {P : Params} {h : Heap} : ∀ (ns : List Int) (vs : List Value), WellAll P h vs (ns.map WData.int) → IntsAre vs ns := by
  intro ns
  induction ns with
  | nil =>
    intro vs w
    rw [List.map_nil] at w
    cases w
    exact .nil
  | cons n ns ih =>
    intro vs w
    rw [List.map_cons] at w
    cases w with
    | cons a b =>
      cases a
      exact .cons _ _ (ih _ b)

theorem script_of {l : OpenLaw} {n : Nat} (hn : l.most = some n) {P : Params} {h : Heap} {args : List WData} {vals : List Value}
    (hpre : l.row.toRowW.claim.pre args = true) (hwl : WellAll P h vals args) :
    ∃ a vs ns, vals = [Value.ref a] ∧ args = [WData.list (ns.map WData.int)] ∧ h.get? a = some { cls := .type "list", data := .seq vs.toArray } ∧ IntsAre vs ns ∧ ns.length ≤ n := by
  have hsh : WShape.hasAll [] args [.list .int] = true := (pre_splitW hpre).1
  have hc : l.pre.holds [] { args := args } = true := (pre_splitW hpre).2
  obtain ⟨d, r, rfl, h1, h2⟩ := hasAllW_cons hsh
  obtain rfl := hasAllW_nil h2
  obtain ⟨xs, rfl, h3⟩ := hasW_list h1
  obtain ⟨ns, rfl⟩ := items_int h3
  have hlen : ns.length ≤ n := by
    unfold OpenLaw.pre at hc
    have h4 : (WTm.not (.lt (.lit (.int (n : Int))) (.len (.arg 0)))).holds [] { args := [.list (ns.map .int)] } = true := by
      have h4 := (holds_andW hc).1
      rw [hn] at h4
      exact h4
    have h5 := condW_of h4 (w_not (w_lt w_lit (w_len_list (w_arg rfl))))
    rw [List.length_map] at h5
    refine Nat.le_of_not_lt fun q => ?_
    have q' : (n : Int) < ((ns.length : Nat) : Int) := by omega
    first
      | (rw [decide_eq_true q'] at h5; exact absurd h5 (by decide))
      | (simp at h5; omega)
  cases hwl with
  | cons w1 w2 =>
    cases w2
    cases w1 with
    | list ho hall => exact ⟨_, _, ns, rfl, rfl, ho, ints_of_wellAll ns _ hall, hlen⟩

theorem post_true (l : OpenLaw) (args : List WData) : l.row.toRowW.claim.post args (.bool true) args = true :=
  postW_of (r := l.row.toRowW) (X := (true == true))
    (show WShape.has [] (.bool true) .bool = true by first | rfl | decide | simp [WShape.has, WShape.arms, WShape.armsAll])
    (show (WTm.eq .res (.lit (.bool true))).value [] { args := args, res := some (.bool true), after := args } = some (.bool (true == true)) from w_eq_bool (w_res rfl) w_lit) rfl

/-! ### the attachment: holds_open's last premise (the goal 'hc' behind k_head) from a wpAny of the law's body -/
theorem attach {l : OpenLaw} {n : Nat} {q : Program} {loose : List Str} {XP : (Str → Option Value) → Heap → Prop} {YP : World → Heap → Prop} {d : DefRec} {x : Str}
    (hn : l.most = some n) (hdf : d.params.defaults = [])
    (hbind : ∀ pm cd doc v : Value, bindArgs (docDef d.name d.params d.body d.scope pm cd doc) ⟨[v], []⟩ = pure [(x, v)])
    (hx : d.scope.names.lookup x = some .local ∨ d.scope.names.lookup x = some .cell)
    (hk : d.scope.kind = .function) (hco : d.scope.isCoroutine = false) (hgen : d.scope.isGenerator = false)
    (body : ∀ (w : World) (s₀ s₁ s : Shared) (mg mb : Str → Option Value) (fa : Addr) (o : Obj) (pm cd doc : Value) (a : Addr) (vs : List Value) (ns : List Int),
      Ground q loose [] XP w s₀ mg mb s₁.heap → YP w s₁.heap →
      s₁.heap.get? fa = some o → o.data = .func (docDef d.name d.params d.body d.scope pm cd doc) → s₁.heap.CodeRec cd d.name → mg d.name = some (.ref fa) →
      s₁.heap.get? a = some { cls := .type "list", data := .seq vs.toArray } → IntsAre vs ns → ns.length ≤ n →
      s.gens = #[] → s.os = s₁.os →
      Fr s₁.heap s₁.heap.objs.size s.heap (bindL (envOfC d.name d.scope s₁.heap.objs.size fa cd).kindOf [(x, .ref a)] fun _ => none) →
      Cl s₁.heap.objs.size (cellsFrom (s₁.heap.objs.size + 1) d.scope.names []) s.heap (bindC (envOfC d.name d.scope s₁.heap.objs.size fa cd).kindOf [(x, .ref a)] fun _ => none) →
      wpAny (model l.prog w) (callerA.deeper (envOfC d.name d.scope s₁.heap.objs.size fa cd)) (execs d.body (envOfC d.name d.scope s₁.heap.objs.size fa cd))
        (fun f s' => f = .ret (.bool true) ∧ OldK s₁.heap s'.heap ∧ s'.os = s₁.os ∧ AllBare s'.gens) (fun _ _ => False) s) :
    WalkO q loose XP YP l.row.toRowW d [] (fun f vs => PySem.call f vs) := by
  intro w s₀ s₁ mg mb G Y fa o pm cd doc dV kV ho hd hcd hD hmg hg args vals as hpre hlay hrd hwl hlo
  obtain rfl : dV = .none := Dflts.none hD hdf
  obtain rfl : kV = .none := Dflts.noKw hD
  obtain ⟨a, vs, ns, rfl, rfl, hobj, hints, hlen⟩ := script_of hn hpre hwl
  refine enter_call ?_
  refine call_cells_ret (o := o) (by rw [depth_caller]; decide) ho (fd_plain hd) G.T.nolimit hcd (hbind pm cd doc (.ref a)) (fun y hy => ?_) (fun h₁ tk F X => ?_) hco hgen hk
  · obtain rfl : y = (x, Value.ref a) := List.mem_singleton.mp hy
    rcases hx with e | e
    · exact .inl e
    · exact .inr ⟨e, cellsFrom_some _ _ _ (.inl e)⟩
  · refine wpAny_mono (body w s₀ s₁ { s₁ with heap := h₁, toks := tk } mg mb fa o pm cd doc a vs ns G Y ho (fd_plain hd) hcd hmg hobj hints hlen hg rfl F X) (fun f s' hq => ?_) (fun _ _ hq => hq)
    obtain ⟨rfl, h2, h3, h4⟩ := hq
    exact ⟨.inl ⟨.bool true, .bool true, [], rfl, fun _ => rfl, .bool true, post_true l _, fun _ => ⟨List.Pairwise.nil, fun _ hm => (nomatch hm)⟩⟩, h2, h3, h4⟩

/-- the same from a codeAny of the CALL (for a layer whose function contracts speak of calls) -/
theorem attach_call {l : OpenLaw} {n : Nat} {q : Program} {loose : List Str} {XP : (Str → Option Value) → Heap → Prop} {YP : World → Heap → Prop} {d : DefRec}
    (hn : l.most = some n) (hdf : d.params.defaults = [])
    (call : ∀ (w : World) (s₀ s₁ : Shared) (mg mb : Str → Option Value) (fa : Addr) (o : Obj) (pm cd doc : Value) (a : Addr) (vs : List Value) (ns : List Int),
      Ground q loose [] XP w s₀ mg mb s₁.heap → YP w s₁.heap →
      s₁.heap.get? fa = some o → o.data = .func (docDef d.name d.params d.body d.scope pm cd doc) → s₁.heap.CodeRec cd d.name → mg d.name = some (.ref fa) →
      s₁.heap.get? a = some { cls := .type "list", data := .seq vs.toArray } → IntsAre vs ns → ns.length ≤ n → s₁.gens = #[] →
      codeAny (model l.prog w) callerA (.call (.ref fa) ⟨[.ref a], []⟩) (fun r s' => r = .ok (.ret (.bool true)) ∧ OldK s₁.heap s'.heap ∧ s'.os = s₁.os ∧ AllBare s'.gens) s₁) :
    WalkO q loose XP YP l.row.toRowW d [] (fun f vs => PySem.call f vs) := by
  intro w s₀ s₁ mg mb G Y fa o pm cd doc dV kV ho hd hcd hD hmg hg args vals as hpre hlay hrd hwl hlo
  obtain rfl : dV = .none := Dflts.none hD hdf
  obtain rfl : kV = .none := Dflts.noKw hD
  obtain ⟨a, vs, ns, rfl, rfl, hobj, hints, hlen⟩ := script_of hn hpre hwl
  refine enter_call (codeAny_mono (call w s₀ s₁ mg mb fa o pm cd doc a vs ns G Y ho (fd_plain hd) hcd hmg hobj hints hlen hg) fun r s' hq => ?_)
  obtain ⟨rfl, h2, h3, h4⟩ := hq
  exact ⟨.inl ⟨.bool true, .bool true, [], rfl, fun _ => rfl, .bool true, post_true l _, fun _ => ⟨List.Pairwise.nil, fun _ hm => (nomatch hm)⟩⟩, h2, h3, h4⟩

/-- the same where the top left finished generators (o_head chose holds_openN): nothing may have changed at all and no generator may be left -/
theorem attachN {l : OpenLaw} {n : Nat} {q : Program} {loose : List Str} {XP : (Str → Option Value) → Heap → Prop} {YP : World → Heap → Prop} {d : DefRec} {x : Str}
    (hn : l.most = some n) (hdf : d.params.defaults = [])
    (hbind : ∀ pm cd doc v : Value, bindArgs (docDef d.name d.params d.body d.scope pm cd doc) ⟨[v], []⟩ = pure [(x, v)])
    (hx : d.scope.names.lookup x = some .local ∨ d.scope.names.lookup x = some .cell)
    (hk : d.scope.kind = .function) (hco : d.scope.isCoroutine = false) (hgen : d.scope.isGenerator = false)
    (body : ∀ (w : World) (s₀ s₁ s : Shared) (mg mb : Str → Option Value) (fa : Addr) (o : Obj) (pm cd doc : Value) (a : Addr) (vs : List Value) (ns : List Int),
      Ground q loose [] XP w s₀ mg mb s₁.heap → YP w s₁.heap →
      s₁.heap.get? fa = some o → o.data = .func (docDef d.name d.params d.body d.scope pm cd doc) → s₁.heap.CodeRec cd d.name → mg d.name = some (.ref fa) →
      s₁.heap.get? a = some { cls := .type "list", data := .seq vs.toArray } → IntsAre vs ns → ns.length ≤ n →
      s.gens = #[] → s.os = s₁.os →
      Fr s₁.heap s₁.heap.objs.size s.heap (bindL (envOfC d.name d.scope s₁.heap.objs.size fa cd).kindOf [(x, .ref a)] fun _ => none) →
      Cl s₁.heap.objs.size (cellsFrom (s₁.heap.objs.size + 1) d.scope.names []) s.heap (bindC (envOfC d.name d.scope s₁.heap.objs.size fa cd).kindOf [(x, .ref a)] fun _ => none) →
      wpAny (model l.prog w) (callerA.deeper (envOfC d.name d.scope s₁.heap.objs.size fa cd)) (execs d.body (envOfC d.name d.scope s₁.heap.objs.size fa cd))
        (fun f s' => f = .ret (.bool true) ∧ (∀ b o, s₁.heap.get? b = some o → s'.heap.get? b = some o) ∧ s'.os = s₁.os ∧ s'.gens = #[]) (fun _ _ => False) s) :
    WalkN q loose XP YP l.row.toRowW d [] (fun f vs => PySem.call f vs) := by
  intro w s₀ s₁ mg mb G Y fa o pm cd doc dV kV ho hd hcd hD hmg hg args vals as hpre hlay hrd hwl hlo
  obtain rfl : dV = .none := Dflts.none hD hdf
  obtain rfl : kV = .none := Dflts.noKw hD
  obtain ⟨a, vs, ns, rfl, rfl, hobj, hints, hlen⟩ := script_of hn hpre hwl
  refine enter_callW ?_
  refine call_cells_ret (o := o) (by rw [depth_caller]; decide) ho (fd_plain hd) G.T.nolimit hcd (hbind pm cd doc (.ref a)) (fun y hy => ?_) (fun h₁ tk F X => ?_) hco hgen hk
  · obtain rfl : y = (x, Value.ref a) := List.mem_singleton.mp hy
    rcases hx with e | e
    · exact .inl e
    · exact .inr ⟨e, cellsFrom_some _ _ _ (.inl e)⟩
  · refine wpAny_mono (body w s₀ s₁ { s₁ with heap := h₁, toks := tk } mg mb fa o pm cd doc a vs ns G Y ho (fd_plain hd) hcd hmg hobj hints hlen hg rfl F X) (fun f s' hq => ?_) (fun _ _ hq => hq)
    obtain ⟨rfl, h2, h3, h4⟩ := hq
    exact ⟨.inl ⟨.bool true, .bool true, [], rfl, fun _ => rfl, .bool true, post_true l _, fun _ => ⟨List.Pairwise.nil, fun _ hm => (nomatch hm)⟩⟩, h2, h3, h4⟩

/-! ### rules over ANY heap (no ledger) from facts about the written part K: the library's own take a ledger (News) for what they write -/
section
variable {prog : Program} {w : World} {A : Around} {E : Value → Shared → Prop} {s : Shared} {K : Frag}

/-- a def of the module, or a method (qual 'C.m'), entered: the frame is the next address; cells behind it -/
theorem call_fn {R : Result → Shared → Prop} {name qual : Str} {params : Arguments} {body : List Stmt} {scope : Scope} {dV kV doc pm cdv ct oc : Value} {an od : Option Addr} {osl : Array (Option Value)} {f : Addr} {args : Args} {binds : List (Str × Value)}
    (X : K.In s.heap) (hlim : s.heap.NoLimit) (ho : K.lookup f = some ⟨oc, od, .func (fnOf name qual params body scope dV kV doc pm an cdv ct), osl⟩) (hcd : codeIn K cdv qual = true) (hroom : A.depth < recursionLimit)
    (hbind : BindsTo s (fnOf name qual params body scope dV kV doc pm an cdv ct) args binds)
    (hkind : (binds.all fun y => scope.names.lookup y.1 == some .local || scope.names.lookup y.1 == some .cell) = true)
    (h : ∀ s₁, InCallC s s.heap.objs.size (bindL (envOfC qual scope s.heap.objs.size f cdv).kindOf binds fun _ => none) (cellsFrom (s.heap.objs.size + 1) scope.names [])
        (bindC (envOfC qual scope s.heap.objs.size f cdv).kindOf binds fun _ => none) s₁ →
      wpAny (model prog w) (A.deeper (envOfC qual scope s.heap.objs.size f cdv)) (execs body (envOfC qual scope s.heap.objs.size f cdv))
        (fun fl s' => R (.ok (.ret (match fl with | .ret v => v | _ => .none))) s')
        (fun e s' => wpAny (model prog w) (A.deeper (envOfC qual scope s.heap.objs.size f cdv)) (leaving (envOfC qual scope s.heap.objs.size f cdv) e) (fun _ s'' => R (.error e) s'') (fun e' s'' => R (.error e') s'') s') s₁)
    (hco : scope.isCoroutine = false) (hgen : scope.isGenerator = false) (hk : scope.kind = .function) : codeAny (model prog w) A (.call (.ref f) args) R s := by
  refine codeAny_call_function hroom (X _ _ ho) rfl hco hgen rfl (codeRec_of X hcd) (hbind _ _ _ _ ?_)
  refine wpAny_newFunctionEnv_cells hk (kindsX hkind _) fun env he s₁ x => ?_
  subst he
  exact ⟨hlim.keeps x.toInCall.keep, codeAny_func (h s₁ x)⟩

/-- C(..): dict at size, instance at size + 1, then __init__ -/
theorem make_obj {R : Result → Shared → Prop} {C fI : Addr} {rest : List Value} {kw : List (Str × Value)}
    (X : K.In s.heap) (hm : makesIn K C = true) (hi : findIn K (.ref C) "__init__" = some (some (.ref fI))) (hf : isFn K (.ref fI) = true)
    (h : codeAny (model prog w) (A.under (.builtin "type.__call__" ⟨.ref C :: rest, kw⟩)) (.call (.ref fI) ⟨.ref (s.heap.objs.size + 1) :: rest, kw⟩) (InitBack (s.heap.objs.size + 1) R)
      { s with heap := (s.heap.push emptyDict).push (instObj C s.heap.objs.size) }) : codeAny (model prog w) A (.call (.ref C) ⟨rest, kw⟩) R s := by
  obtain ⟨hh, g, d, t, os⟩ := s
  exact make_core (makes_of X hm) (looks_findIn X hi) (fun self => bind_fn X self (beq_iff_eq.mp hf)) (.inl rfl) h

/-- x.name where the instance's dict holds the name and the class does not -/
theorem get_field {x C : Addr} {ox : Obj} {es : List DictEntry} {n : Nat} {name : Str} {expr : Bool} {v : Value} {Q : Value → Shared → Prop}
    (X : K.In s.heap) (I : PySem.W.InstAt s.heap x ox C (some (dictOf es n))) (hg : plainGet K C name = true) (hh : hasDictIn K C = true) (ha : findIn K (.ref C) name = some none)
    (hl : getL name es = some (some v)) (hv : handedIn v = true) (h : Q v { s with toks := s.toks + 1 }) : wpAny (model prog w) A (getAttr (.ref x) name expr) Q E s :=
  get_value X I (plainGet_of hg).1 (findObj_own hh ha rfl hl) hv h

/-- x.m(..): the method found in the class -/
theorem get_method {x C f : Addr} {ox : Obj} {es : List DictEntry} {n : Nat} {name : Str} {pl : Sem Bool} {Q : Value × List Value → Shared → Prop}
    (X : K.In s.heap) (I : PySem.W.InstAt s.heap x ox C (some (dictOf es n))) (hg : plainGet K C name = true) (hf : findIn K (.ref C) name = some (some (.ref f))) (ht : isFn K (.ref f) = true)
    (hl : getL name es = some none) (h : Q (.ref f, [.ref x]) s) : wpAny (model prog w) A (getMethod (.ref x) name pl) Q E s :=
  method_fn X I (plainGet_of hg).1 (plainGet_of hg).2 hf (beq_iff_eq.mp ht) (by show (lookIn name (dictOf es n)).map _ = _; rw [lookIn_dict, hl]; rfl) h

/-! the whole heap as the ledger: makes every rule that writes through a ledger a rule over any heap -/
def noObjs (h : Heap) : Heap := { h with objs := #[] }
theorem noObjs_get (h : Heap) (b : Addr) : (noObjs h).get? b = none := by
  cases e : (noObjs h).get? b with
  | none => rfl
  | some o => exact absurd (Heap.lt_size e) (Nat.not_lt_zero _)
def ledger (h : Heap) (L d : Addr) : List (Addr × Obj) := (List.range h.objs.size).filterMap fun a => if a = L ∨ a = d then none else (h.get? a).map fun o => (a, o)
theorem mem_ledger {h : Heap} {L d a : Addr} {o : Obj} : (a, o) ∈ ledger h L d ↔ a ≠ L ∧ a ≠ d ∧ h.get? a = some o := by
  unfold ledger
  rw [List.mem_filterMap]
  constructor
  · rintro ⟨b, _, e⟩
    split at e
    · cases e
    · rename_i hb
      obtain ⟨o', ho, e'⟩ := Option.map_eq_some_iff.mp e
      cases e'
      exact ⟨fun q => hb (.inl q), fun q => hb (.inr q), ho⟩
  · rintro ⟨n1, n2, ho⟩
    refine ⟨a, List.mem_range.mpr (Heap.lt_size ho), ?_⟩
    rw [if_neg (show ¬ (a = L ∨ a = d) from fun q => q.elim n1 n2), ho] <;> rfl
theorem news_ledger {h : Heap} {L d : Addr} {od : Obj} (hne : d ≠ L) (ho : h.get? d = some od) : News (noObjs h) L h ([] ++ (d, od) :: ledger h L d) := by
  rintro ⟨a, o⟩ hp
  rcases List.mem_cons.mp hp with e | hp
  · cases e
    exact ⟨ho, hne, noObjs_get _ _⟩
  · obtain ⟨n1, n2, e⟩ := mem_ledger.mp hp
    exact ⟨e, n1, noObjs_get _ _⟩
theorem fr_all {h : Heap} {L : Addr} {m : Str → Option Value} (n : h.Ns L m) : Fr (noObjs h) L h m :=
  ⟨n, fun b o e => (by rw [noObjs_get] at e; cases e), Nat.zero_le _⟩
/-- Upd of the head entry (for append_K, setItem_K ..) -/
theorem upd_ledger {h : Heap} {L d : Addr} {o o' : Obj} : Upd d o o' ((d, o) :: ledger h L d) ((d, o') :: ledger h L d) :=
  .head fun ⟨_, _⟩ hp => (mem_ledger.mp hp).2.1

/-- x.name = v over any heap: L is any namespace of the heap (the frame's, say): its map stays, its object is not told; all else but the dict stays -/
theorem set_field {x C dx L : Addr} {ox : Obj} {m : Str → Option Value} {es es' : List DictEntry} {n n' : Nat} {name : Str} {v : Value} {Q : Unit → Shared → Prop}
    (X : K.In s.heap) (I : PySem.W.InstAt s.heap x ox C (some (dictOf es n))) (hd : ox.dict = some dx) (hL : s.heap.Ns L m) (hne : dx ≠ L)
    (hs : findIn K (.ref C) "__setattr__" = some (some (.builtin "object.__setattr__"))) (hp : plainOver K C = true) (ht : takerIn K C name = some none) (hh : hasDictIn K C = true) (hl : (getL name es).isSome = true)
    (e : (putL name (PyData.keyHash w.params name) (.str name (s.toks + 1)) v es, putN name es n) = (es', n')) (hz : es'.length ≤ 1000)
    (h : ∀ h' : Heap, h'.Ns L m → h'.get? dx = some (dictOf es' n') → (∀ b o, b ≠ dx → b ≠ L → s.heap.get? b = some o → h'.get? b = some o) → Q () { s with heap := h', toks := s.toks + 2 }) :
    wpAny (model prog w) A (setAttr (.ref x) name v) Q E s := by
  obtain ⟨e1, e2⟩ := Prod.mk.inj e
  have hdx : s.heap.get? dx = some (dictOf es n) := by
    have := I.dict
    rw [hd] at this
    exact this
  refine set_plain X I hs (osa_dict (s := { s with toks := s.toks + 1 }) (h₀ := noObjs s.heap) (L := L) (m := m) (od := dictOf es n) (od' := dictOf es' n') (es := es') (n := n') (pre := []) (post := ledger s.heap L dx)
    (fr_all hL) (news_ledger hne hdx) X I hd hp ht hh hl (fun _ q => nomatch q) (fun ⟨_, _⟩ q => (mem_ledger.mp q).2.1) (by rw [putName_dict, e1, e2]) rfl hz fun h' F' N' => ?_)
  exact h h' F'.ns (N'.get (List.Mem.head _)) fun b o n1 n2 ho => N'.get (List.Mem.tail _ (mem_ledger.mpr ⟨n2, n1, ho⟩))
end
end Att

namespace L2
open PySem PySem.Spec PyProof.Rows

theorem vals_ints : ∀ {vs : List Value} {ns : List Int}, IntsAre vs ns → Vals (ns.map V.int) vs
  | _, _, .nil => .nil
  | _, _, .cons n t h => .cons ⟨t, rfl⟩ (vals_ints h)

/-- nothing is tracked but the script, known to the object (or it is an object of the module) -/
def Only (H : Hp) : Prop := ∀ b, H b = none ∨ ∃ o xs, H b = some (.frz o (.lst xs))

/-- THE HEAD: the law's promise, at the heap behind the top. F, the promise of the law's def, may use that base is part of the heap (so K.In base, base.Ns mainGlobals mg stand in Mod) -/
theorem law_call {P : Program} {w : World} {K : PySem.W.Frag} {mg mb : Str → Option Value} {CX : CXT} {k : Nat} {fa a : Addr} {fd : FuncData} {x : Str} {sp : Sp} {s₁ : Shared} {vs : List Value} {ns : List Int}
    (KX : K.In s₁.heap) (hns : s₁.heap.Ns mainGlobals mg) (hb : s₁.heap.Ns builtinsNs mb) (hbb : ∀ x : Str, x ≠ "__name__" → mb x = bootBuiltins x) (hlim : s₁.heap.NoLimit) (hg : s₁.gens = #[])
    (ha : s₁.heap.get? a = some { cls := .type "list", data := .seq vs.toArray }) (hi : IntsAre vs ns) (hl : ns.length ≤ sizeLine) (hr : Room k callerA)
    (F : ∀ base : Heap, K.In base → base.Ns mainGlobals mg → FnOk P w K mg base CX k fa fd [x] sp) (hbind : ∀ (s : Shared) (u : Value), BindsTo s fd ⟨[u], []⟩ [(x, u)])
    (hsp : ∀ H : Hp, Only H → SqL K H a (ns.map V.int) → sp [.ref a] H (fun v _ => v = .bl true) fun _ _ _ => False)
    (hCX : ∀ H e s', CX [] H s₁ (fun _ _ _ => False) e s' → False) :
    codeAny (model P w) callerA (.call (.ref fa) ⟨[.ref a], []⟩) (fun r s' => r = .ok (.ret (.bool true)) ∧ OldK s₁.heap s'.heap ∧ s'.os = s₁.os ∧ AllBare s'.gens) s₁ := by
  have rv := vals_ints hi
  have lenV := hi.length
  -- from an abstract heap in which nothing but the script may be tracked
  have core : ∀ H : Hp, Only H → SqL K H a (ns.map V.int) → HOk P w H s₁.heap → (∀ b, H b ≠ none → b = a) → (H a ≠ none → K.lookup a = none) →
      codeAny (model P w) callerA (.call (.ref fa) ⟨[.ref a], []⟩) (fun r s' => r = .ok (.ret (.bool true)) ∧ OldK s₁.heap s'.heap ∧ s'.os = s₁.os ∧ AllBare s'.gens) s₁ := by
    intro H hO hS hok hA hK
    have base_of : ∀ {b : Addr} {o : Obj}, s₁.heap.get? b = some o → H b = none → (hidT s₁.heap H).get? b = some o := fun e n => hidT_get e n
    have noA : ∀ {b : Addr} {o : Obj} {es : Array DictEntry} {ep : Nat}, s₁.heap.get? b = some o → o.data = .dict es ep → H b = none := fun {b o es ep} e d => by
      cases q : H b with
      | none => rfl
      | some u =>
        have e' : b = a := hA b (by rw [q]; simp)
        subst e'
        rw [ha] at e; cases e
        have d' : Data.seq vs.toArray _ = Data.dict es ep := d
        cases d'
    have nsK : ∀ {b : Addr} {m : Str → Option Value}, s₁.heap.Ns b m → (hidT s₁.heap H).Ns b m := fun {b m} ⟨o, es, ep, e, d, r⟩ => ⟨o, es, ep, base_of e (noA e d), d, r⟩
    have hKb : K.In (hidT s₁.heap H) := fun b o e => base_of (KX b o e) (by
      cases q : H b with
      | none => rfl
      | some u =>
        have e' : b = a := hA b (by rw [q]; simp)
        subst e'
        rw [hK (by rw [q]; simp)] at e; cases e)
    have hM : Mod K mg (hidT s₁.heap H) := ⟨hKb, nsK hns, ⟨mb, nsK hb, hbb⟩, let ⟨mc, h1, h2⟩ := hlim; ⟨mc, nsK h1, h2⟩⟩
    have e0 : Env0 P w K mg (hidT s₁.heap H) callerA [] s₁ H := ⟨rfl, hM, fun b o e => of_hidT e, Nat.le_of_eq (hidT_size _ _), trivial, fun b hb => absurd (show b ∈ ([] : List Addr) from hb) (by simp), hok, .of_eq hg⟩
    refine codeAny_mono ((F _ hKb (nsK hns)).run callerA [] s₁ H ⟨[.ref a], []⟩ [.ref a] [.ref a] _ _ hr e0 (hbind s₁ (.ref a)) (.cons rfl .nil) (hsp H hO hS)) fun r s' h => ?_
    cases r with
    | error e => exact (hCX H e s' h).elim
    | ok fl =>
      cases fl with
      | next => exact False.elim h
      | brk => exact False.elim h
      | cont => exact False.elim h
      | ret u =>
        obtain ⟨v, H', os, bare, un, hok', r', q⟩ := h
        have q' : v = .bl true := q
        subst q'
        obtain rfl : u = Value.bool true := r'
        refine ⟨rfl, OldK.of_keep fun b o e => ?_, os, bare⟩
        cases q : H b with
        | none => exact un.keep b o e q (by intro z; exact absurd (show b ∈ ([] : List Addr) from z) (by simp)) (by simp)
        | some u =>
          rcases hO b with z | ⟨ob, xs, z⟩
          · rw [q] at z; cases z
          · have z2 := un.frzs b ob _ z
            obtain ⟨e1, _⟩ := hok b _ z
            obtain ⟨e2, _⟩ := hok' b _ z2
            rw [e] at e1; cases e1
            exact e2
  cases hk : K.lookup a with
  | some o =>
    -- the script is one of the module's own objects
    have e := KX a o hk
    rw [ha] at e
    cases e
    refine core (fun _ => none) (fun _ => .inl rfl) (.inr ⟨_, vs.toArray, _, hk, rfl, rfl, rfl, by rw [List.size_toArray, lenV]; exact hl, by simpa using rv⟩) (fun b u z => by have z' : (none : Option HO) = some u := z; cases z') (fun b z => absurd rfl z) fun z => absurd rfl z
  | none =>
    refine core (fun b => if b = a then some (.frz { cls := .type "list", data := .seq vs.toArray } (.lst (ns.map V.int))) else none) (fun b => ?_) (.inl (.inr ⟨{ cls := .type "list", data := .seq vs.toArray }, if_pos rfl⟩)) (fun b u z => ?_) (fun b z => ?_) fun _ => hk
    · by_cases hb : b = a
      · exact .inr ⟨_, _, if_pos hb⟩
      · exact .inl (if_neg hb)
    · by_cases hb : b = a
      · have z' := (if_pos hb).symm.trans z
        cases z'
        subst hb
        exact ⟨ha, by rw [List.length_map]; exact hl, vs, _, rv, ha⟩
      · have z' := (if_neg hb).symm.trans z
        cases z'
    · by_cases hb : b = a
      · exact hb
      · exact absurd (if_neg hb) z
end L2

namespace L2
open PySem PySem.Spec PyProof.Rows

abbrev KOf {K : PySem.W.Frag} {h : Heap} (_ : K.In h) : PySem.W.Frag := K

/-- the goal that k_head leaves (case hc), from the law's promise. F gives the function object fd (K's own) once, then the promise over every base -/
theorem walk_of {l : PySem.W.OpenLaw} {n k : Nat} {q : Program} {loose : List Str} {XP : (Str → Option Value) → Heap → Prop} {YP : World → Heap → Prop} {d : DefRec} {K : Params → PySem.W.Frag} {CX : World → CXT} {sp : World → Sp} {x : Str}
    (hn : l.most = some n) (hn2 : n ≤ sizeLine) (hdf : d.params.defaults = []) (hr : Room k callerA)
    (hY : ∀ (w : World) (h : Heap), YP w h → (K w.params).In h)
    (F : ∀ (w : World) (mg : Str → Option Value) (fa : Addr) (h : Heap), (K w.params).In h → h.Ns mainGlobals mg → mg d.name = some (.ref fa) →
      ∃ fd : FuncData, (∀ (s : Shared) (u : Value), BindsTo s fd ⟨[u], []⟩ [(x, u)]) ∧
        ∀ base : Heap, (K w.params).In base → base.Ns mainGlobals mg → FnOk l.prog w (K w.params) mg base (CX w) k fa fd [x] (sp w))
    (hsp : ∀ (w : World) (H : Hp) (a : Addr) (ns : List Int), ns.length ≤ n → Only H → SqL (K w.params) H a (ns.map V.int) → sp w [.ref a] H (fun v _ => v = .bl true) fun _ _ _ => False)
    (hCX : ∀ (w : World) (H : Hp) (s : Shared) (e : Value) (s' : Shared), CX w [] H s (fun _ _ _ => False) e s' → False) :
    PySem.W.WalkO q loose XP YP l.row.toRowW d [] (fun f vs => PySem.call f vs) := by
  refine Att.attach_call hn hdf fun w s₀ s₁ mg mb fa o pm cd doc a vs ns G Y ho hd hcd hmg hobj hints hlen hg => ?_
  have KX := hY w _ Y
  obtain ⟨fd, hb, hF⟩ := F w mg fa _ KX G.T.g hmg
  exact law_call KX G.T.g G.T.b G.T.builtins G.T.nolimit hg hobj hints (Nat.le_trans hlen hn2) hr hF hb (fun H hO hS => hsp w H a ns hlen hO hS) fun H e s' => hCX w H s₁ e s'
/-- the same where the promise hangs on the written part alone: (sp := My.sp_law), no hole under a binder -/
theorem walk_ofK {l : PySem.W.OpenLaw} {n k : Nat} {q : Program} {loose : List Str} {XP : (Str → Option Value) → Heap → Prop} {YP : World → Heap → Prop} {d : DefRec} {K : Params → PySem.W.Frag} {CX : CXT} {sp : PySem.W.Frag → Sp} {x : Str}
    (hn : l.most = some n) (hn2 : n ≤ sizeLine) (hdf : d.params.defaults = []) (hr : Room k callerA)
    (hY : ∀ (w : World) (h : Heap), YP w h → (K w.params).In h)
    (F : ∀ (w : World) (mg : Str → Option Value) (fa : Addr) (h : Heap), (K w.params).In h → h.Ns mainGlobals mg → mg d.name = some (.ref fa) →
      ∃ fd : FuncData, (∀ (s : Shared) (u : Value), BindsTo s fd ⟨[u], []⟩ [(x, u)]) ∧
        ∀ base : Heap, (K w.params).In base → base.Ns mainGlobals mg → FnOk l.prog w (K w.params) mg base CX k fa fd [x] (sp (K w.params)))
    (hsp : ∀ (K : PySem.W.Frag) (H : Hp) (a : Addr) (ns : List Int), ns.length ≤ n → Only H → SqL K H a (ns.map V.int) → sp K [.ref a] H (fun v _ => v = .bl true) fun _ _ _ => False)
    (hCX : ∀ (H : Hp) (s : Shared) (e : Value) (s' : Shared), CX [] H s (fun _ _ _ => False) e s' → False) :
    PySem.W.WalkO q loose XP YP l.row.toRowW d [] (fun f vs => PySem.call f vs) :=
  walk_of (K := K) (CX := fun _ => CX) (sp := fun w => sp (K w.params)) hn hn2 hdf hr hY F (fun w H a ns h1 h2 h3 => hsp (K w.params) H a ns h1 h2 h3) fun _ H s e s' => hCX H s e s'
end L2

/- THE LAST THEOREM (shape; LID, My.* are yours):
   My.Adr: a structure of the addresses that your layer names (classes, functions); My.Txt K t: a structure (Prop) of the equations over K;
   My.txt_mk : {K} {implicit addresses ..} (e1 : nsIn K mainGlobals "law" = some (some (.ref f))) (e2 : K.lookup f = some ⟨oc, od, .func (fnOf "law" "law" params body scope dV kV doc pm an cdv ct), sl⟩) (e3 : codeIn K cdv "law" = true) .. : ∃ t, My.Txt K t

set_option maxRecDepth 100000 in
set_option maxHeartbeats 0 in
theorem PySem.Challenge.cw_LID_holds : PySem.Challenge.rw_LID.Holds := by
  w_on; o_law; k_head; (case hw => w_witness2)
  k_fill
  refine L2.walk_of (l := PySem.Challenge.rw_LID) (n := 63) (k := 40) (x := "script") (CX := fun w => ..) (sp := fun _ => My.sp_law) rfl (by decide) rfl ⟨rfl, by decide, by decide⟩ (fun w h Y => PySem.W.kIn_of Y) ?F ?S ?C
  case F =>
    intro w mg fa h KX G hmg
    have T : ∃ t, My.Txt (L2.KOf KX) t := by
      dsimp only [L2.KOf]                          -- K must stand as «<heap const> w.params» for k_is
      refine' My.txt_mk ?e1 ?e2 ?e3 ..
      (case e1 => PySem.W.k_is)                    -- in the order: a name -> its address -> its object -> its parts
      (case e2 => PySem.W.k_is)
      ..
    obtain ⟨t, T⟩ := T
    have e0 := hmg.symm.trans (PySem.W.mg_of KX G T.law)
    cases e0                                       -- fa is the law's own address
    exact ⟨_, fun s u => .of_eq rfl, fun base kb nb => My.law_fn T kb nb⟩     -- if «.of_eq rfl» comes too early: refine' ⟨_, ?b, fun base kb nb => My.law_fn T kb nb⟩; exact fun s u => .of_eq rfl
  case S => exact fun w H a ns hl hO hS => ..
  case C => exact ..
(the tactic k_is has no namespace: write k_is) -/

/-! SHORT WORDS over the layer: a def of the text, its body, what a loop and a test want. -/
namespace L2
open PySem PySem.Spec PyProof.Rows

/-! ### the text by places -/
/-- the j-th statement of a class's body -/
def inClass (s : Stmt) (j : Nat) : Stmt := match s with
  | .ClassDef _ _ _ body _ _ _ _ _ _ _ => body.getD j (.Pass ⟨0, 0, 0, 0⟩)
  | _ => .Pass ⟨0, 0, 0, 0⟩
def defArgs (s : Stmt) : Arguments := match s with
  | .FunctionDef _ a _ _ _ _ _ _ _ _ => a
  | _ => { posonlyargs := [], args := [], vararg := none, kwonlyargs := [], kw_defaults := [], kwarg := none, defaults := [] }
def defBody (s : Stmt) : List Stmt := match s with
  | .FunctionDef _ _ b _ _ _ _ _ _ _ => b
  | _ => []
def defScope (s : Stmt) : Scope := match s with
  | .FunctionDef _ _ _ _ _ _ sc _ _ _ => sc
  | _ => { kind := .function, names := [], isGenerator := false, isCoroutine := false }

/-! ### no exception leaves a def -/
abbrev CX0 : CXT := fun _ _ _ _ _ _ => False
abbrev E0 : XK := fun _ _ _ => False
theorem pass0 {X : Cx} : Passes CX0 X E0 := fun _ _ _ _ _ _ _ h => h.elim

/-! ### a def (or method) of the text as it stands behind the top -/
structure Fun (K : PySem.W.Frag) (x qual : Str) (st : Stmt) (f : Addr) (fd : FuncData) : Prop where
  ex : ∃ (oc : Value) (od : Option Addr) (kV doc pm : Value) (an : Option Addr) (cdv ct : Value) (osl : Array (Option Value)),
    fd = PySem.W.fnOf x qual (defArgs st) (defBody st) (defScope st) .none kV doc pm an cdv ct ∧ K.lookup f = some ⟨oc, od, .func fd, osl⟩ ∧ PySem.W.codeIn K cdv qual = true
  kp : PySem.W.keepIn K (.ref f) = true
section
variable {P : Program} {w : World} {K : PySem.W.Frag} {mg : Str → Option Value} {base : Heap}
/-- THE RULE for a def: its body as a term of rules, and the reading of that term -/
theorem Fun.ok {x qual : Str} {st : Stmt} {f : Addr} {fd : FuncData} {N ps : List Str} {k : Nat} {sp : Sp} (F : Fun K x qual st f fd) (S : FnScope N ps (defScope st)) (len : ∀ vs H Q E, sp vs H Q E → vs.length = ps.length)
    (hbody : ∀ (cdv : Value) (A : Around) (outer : List Env) (s : Shared) (H : Hp) (vs : List V) (Q : VK) (E : XK), Room k (A.deeper (envOfC qual (defScope st) s.heap.objs.size f cdv)) → sp vs H Q E →
      ∃ t, PSs (cxOf CX0 P w K mg base N qual (defScope st) f cdv A outer s H E).nox (defBody st) t ∧ t { nx := fun _ H' => Q .non H', rt := Q } (start N vs) H) : FnOk P w K mg base CX0 (k + 1) f fd ps sp := by
  obtain ⟨oc, od, kV, doc, pm, an, cdv, ct, osl, rfl, lk, hcd⟩ := F.ex
  refine fn_of lk hcd S len fun A outer s H vs Q E hr hsp => ?_
  obtain ⟨t, h, q⟩ := hbody cdv A outer s H vs Q E hr hsp
  exact ⟨t, h.nox, q⟩
/-- how its arguments bind (no defaults): h is «fun _ _ _ _ _ _ us hl => match us, hl with | [_, _], _ => rfl», one _ a parameter -/
theorem Fun.binds {x qual : Str} {st : Stmt} {f : Addr} {fd : FuncData} {ps : List Str} (F : Fun K x qual st f fd)
    (h : ∀ (kV doc pm : Value) (an : Option Addr) (cdv ct : Value) (us : List Value), us.length = ps.length → bindArgs (PySem.W.fnOf x qual (defArgs st) (defBody st) (defScope st) .none kV doc pm an cdv ct) ⟨us, []⟩ = pure (ps.zip us)) : Binds K fd ps [] := by
  obtain ⟨oc, od, kV, doc, pm, an, cdv, ct, osl, rfl, lk, hcd⟩ := F.ex
  exact .all (h kV doc pm an cdv ct)
theorem fun_mk {x qual : Str} {st : Stmt} {f : Addr} {oc : Value} {od an : Option Addr} {osl : Array (Option Value)} {kV doc pm cdv ct : Value} (l : K.lookup f = some ⟨oc, od, .func (PySem.W.fnOf x qual (defArgs st) (defBody st) (defScope st) .none kV doc pm an cdv ct), osl⟩)
    (c : PySem.W.codeIn K cdv qual = true) (k : PySem.W.keepIn K (.ref f) = true) : Fun K x qual st f (PySem.W.fnOf x qual (defArgs st) (defBody st) (defScope st) .none kV doc pm an cdv ct) := ⟨⟨oc, od, kV, doc, pm, an, cdv, ct, osl, rfl, l, c⟩, k⟩
end
theorem hu_of {A : Around} {k : Nat} (hr : Room k A) : A.units + 1 < cLine := Nat.lt_of_le_of_lt (Nat.add_le_add_left (by decide : 1 ≤ 64) _) hr.units
theorem small1000 {n : Nat} (h : n ≤ 1000) : n < sizeLine := Nat.lt_of_le_of_lt h (by decide)

/-! ### expressions in short: the name that stands in the i-th slot -/
section
variable {X : Cx}
theorem pv (i : Nat) {x : Str} {pos : Pos} (hN : X.N[i]? = some x := by rfl) (hv : Vis X.env.scope x := by first | exact Or.inl rfl | exact Or.inr (Or.inl rfl) | exact Or.inr (Or.inr rfl)) (hd : (x == ("__debug__" : Str)) = false := by decide)
    (hcd : (x == ("__classdict__" : Str)) = false := by decide) : PE X (.Name x pos) (tVar i) := pe_var hN hv hd hcd
end

/-! ### tests -/
theorem iteF {A B : Prop} (h : B) : if false = true then A else B := by
  rw [if_neg Bool.false_ne_true]
  exact h
theorem iteT {A B : Prop} (h : A) : if true = true then A else B := by
  rw [if_pos rfl]
  exact h
theorem ite2 {c A B : Prop} [Decidable c] (h1 : c → A) (h2 : ¬ c → B) : if c then A else B := by
  by_cases h : c
  · rw [if_pos h]
    exact h1 h
  · rw [if_neg h]
    exact h2 h
theorem iteNS {c A B : Prop} [Decidable c] (hc : c) (h : B) : if (!decide c) = true then A else B := by
  rw [decide_eq_true hc]
  exact iteF h

/-! ### heaps -/
/-- all that was tracked is as it was -/
def Same (H H' : Hp) : Prop := ∀ b o, H b = some o → H' b = some o
theorem Same.refl (H : Hp) : Same H H := fun _ _ h => h
theorem Same.trans {H H1 H2 : Hp} (a : Same H H1) (b : Same H1 H2) : Same H H2 := fun c o h => b c o (a c o h)
theorem Same.free {H H' : Hp} (e : Same H H') {l : Addr} (h : H' l = Option.none) : H l = Option.none := by
  cases q : H l with
  | none => rfl
  | some o =>
    rw [e l o q] at h
    cases h
theorem Same.seq {K : PySem.W.Frag} {H H' : Hp} {a : Addr} {xs : List V} (e : Same H H') (h : SqL K H a xs) : SqL K H' a xs := by
  rcases h with (h | ⟨o, h⟩) | h
  · exact .inl (.inl (e _ _ h))
  · exact .inl (.inr ⟨o, e _ _ h⟩)
  · exact .inr h

end L2

set_option maxHeartbeats 8000000

namespace L2
open PySem PySem.Spec PyProof.Rows

/-! ## a comprehension's block -/
/-- the free names of a block all have cells -/
theorem clos_go {env : Env} : ∀ (ns : List (Str × NameKind)) (acc : List (Str × Addr)), (∀ y ∈ ns, y.2 = .free → ∃ c, env.cells.lookup y.1 = some c) → (∀ x c, acc.lookup x = some c → env.cells.lookup x = some c) →
    ∃ cl, (forIn ns acc fun (y : Str × NameKind) cs => (if (y.2 == .free) = true then (do let c ← cellOf env y.1; pure (ForInStep.yield ((y.1, c) :: cs))) else pure (ForInStep.yield cs) : Sem (ForInStep (List (Str × Addr))))) = pure cl ∧
      (∀ x c, cl.lookup x = some c → env.cells.lookup x = some c) ∧ (∀ y ∈ ns, y.2 = .free → ∃ c, cl.lookup y.1 = some c) ∧ ∀ x c, acc.lookup x = some c → ∃ c', cl.lookup x = some c'
  | [], acc, _, ha => ⟨acc, rfl, ha, (fun _ h => nomatch h), fun x c e => ⟨c, e⟩⟩
  | (n, k) :: r, acc, hf, ha => by
    rw [List.forIn_cons]
    by_cases hk : k = .free
    · subst hk
      obtain ⟨c, hc⟩ := hf (n, .free) List.mem_cons_self rfl
      have hcell : cellOf env n = pure c := by unfold cellOf; rw [hc]
      have ha' : ∀ x c', List.lookup x ((n, c) :: acc) = some c' → env.cells.lookup x = some c' := fun x c' e => by
        rw [List.lookup_cons] at e
        cases hx : x == n with
        | true => rw [hx] at e; simp at e; subst e; rw [eq_of_beq hx]; exact hc
        | false => rw [hx] at e; exact ha x c' e
      obtain ⟨cl, e1, e2, e3, e4⟩ := clos_go r ((n, c) :: acc) (fun y hy => hf y (List.mem_cons_of_mem _ hy)) ha'
      refine ⟨cl, ?_, e2, fun y hy hyf => ?_, fun x c' e => ?_⟩
      · simp only [beq_self_eq_true, if_true, hcell, pure_bind]
        exact e1
      · rcases List.mem_cons.mp hy with rfl | hy
        · exact e4 n c (by simp [List.lookup_cons])
        · exact e3 y hy hyf
      · cases hx : x == n with
        | true => rw [eq_of_beq hx]; exact e4 n c (by simp [List.lookup_cons])
        | false => exact e4 x c' (by rw [List.lookup_cons, hx]; exact e)
    · have hb : (k == NameKind.free) = false := by simpa using hk
      obtain ⟨cl, e1, e2, e3, e4⟩ := clos_go r acc (fun y hy => hf y (List.mem_cons_of_mem _ hy)) ha
      refine ⟨cl, ?_, e2, fun y hy hyf => ?_, e4⟩
      · simp only [hb, Bool.false_eq_true, if_false, pure_bind]
        exact e1
      · rcases List.mem_cons.mp hy with rfl | hy
        · exact absurd hyf hk
        · exact e3 y hy hyf
theorem clos_ex {scope : Scope} {env : Env} (h : ∀ y ∈ scope.names, y.2 = .free → ∃ c, env.cells.lookup y.1 = some c) :
    ∃ cl, closureFor scope env = pure cl ∧ (∀ x c, cl.lookup x = some c → env.cells.lookup x = some c) ∧ ∀ y ∈ scope.names, y.2 = .free → ∃ c, cl.lookup y.1 = some c := by
  obtain ⟨cl, e1, e2, e3, _⟩ := clos_go (env := env) scope.names [] h (fun x c e => nomatch e)
  refine ⟨cl, ?_, e2, e3⟩
  have e : closureFor scope env = (forIn scope.names ([] : List (Str × Addr)) fun (y : Str × NameKind) cs => (if (y.2 == .free) = true then (do let c ← cellOf env y.1; pure (ForInStep.yield ((y.1, c) :: cs))) else pure (ForInStep.yield cs) : Sem (ForInStep (List (Str × Addr))))) >>= pure := by
    rfl
  rw [e, e1, pure_bind]

/-- the block's own context -/
def cxIn (X : Cx) (own : List Str) (sel : List Nat) (scope : Scope) (cl : List (Str × Addr)) (C : Addr) (s2 : Shared) (H2 : Hp) (fp : List Addr) : Cx where
  prog := X.prog
  w := X.w
  K := X.K
  mg := X.mg
  base := X.base
  A := X.A
  N := own ++ sel.map fun j => X.N.getD j Str.empty
  s₀ := s2
  H₀ := H2
  env := compEnvC scope cl C X.env
  outer := X.stack
  stack := X.stack
  ex := fp
  fn := fun _ => false
  calm := X.calm
  pn := []
  xe := fun _ _ => False
def inSt (own : List Str) (sel : List Nat) (σ : St) : St := own.map (fun _ => none) ++ sel.map fun j => σ.getD j none

/-- what is asked of the block's scope (osc, N: of the code around it) -/
structure CompOk (osc : Scope) (N : List Str) (own : List Str) (sel : List Nat) (scope : Scope) : Prop where
  kind : scope.kind = .function
  cell : ∀ y ∈ scope.names, y.2 ≠ .cell
  names : ∀ y ∈ scope.names, y.2 = .local → scope.names.lookup y.1 = some .local
  free : ∀ y ∈ scope.names, y.2 = .free → osc.names.lookup y.1 = some .cell ∨ osc.names.lookup y.1 = some .free
  seln : ∀ j ∈ sel, j < N.length ∧ scope.names.lookup (N.getD j Str.empty) = some .free ∧ (osc.names.lookup (N.getD j Str.empty) = some .cell ∨ osc.names.lookup (N.getD j Str.empty) = some .free)

/-- the tests of a block -/
def PIf (Y : Cx) (ifs : List Expr) (t : TT) : Prop :=
  ∀ (pins : List (Addr × Obj)) (s : Shared) (σ : St) (H : Hp) (Q : Bool → Hp → Prop), Inv Y pins σ H s → t σ H Q →
    wpAny (model Y.prog Y.w) Y.A (forIn ifs true fun c r => if r = true then do let ok ← isTrue c Y.env (eval c Y.env); pure (ForInStep.yield ok) else pure (ForInStep.yield r)) (TP Y pins σ Q) Y.xe s
def tYes : TT := fun _ H Q => Q true H
theorem pif_nil {Y : Cx} : PIf Y [] tYes := fun pins s σ H Q I h => wpAny_tests_nil ⟨H, I, h⟩
theorem pif_one {Y : Cx} {c : Expr} {t : TT} (h : PT Y c t) : PIf Y [c] t := fun pins s σ H Q I hw => wpAny_tests_one (h pins s σ H Q I hw)

/-- a target stores into the first n slots alone -/
def GK (n : Nat) (g : TG) : Prop := ∀ v σ H Q, g v σ H Q → g v σ H fun σ' H' => Q σ' H' ∧ σ'.length = σ.length ∧ ∀ i, n ≤ i → σ'[i]? = σ[i]?
def GKs (n : Nat) (g : TGs) : Prop := ∀ vs σ H Q, g vs σ H Q → g vs σ H fun σ' H' => Q σ' H' ∧ σ'.length = σ.length ∧ ∀ i, n ≤ i → σ'[i]? = σ[i]?
theorem gk_name {n i : Nat} (h : i < n) : GK n (gName i) := fun v σ H Q q => ⟨q, by simp, fun j hj => by rw [List.getElem?_set_ne (by omega)]⟩
theorem gk_nil {n : Nat} : GKs n gNil := fun vs σ H Q q => ⟨q.1, q.2, rfl, fun _ _ => rfl⟩
/-- the wish of a target may be weakened -/
def GM (g : TG) : Prop := ∀ v σ H Q Q', (∀ σ' H', Q σ' H' → Q' σ' H') → g v σ H Q → g v σ H Q'
def GMs (g : TGs) : Prop := ∀ vs σ H Q Q', (∀ σ' H', Q σ' H' → Q' σ' H') → g vs σ H Q → g vs σ H Q'
theorem gm_name {i : Nat} : GM (gName i) := fun _ _ _ _ _ h q => h _ _ q
theorem gm_nil : GMs gNil := fun _ _ _ _ _ h q => ⟨q.1, h _ _ q.2⟩
theorem gm_cons {t : TG} {u : TGs} (h1 : GM t) (h2 : GMs u) : GMs (gCons t u) := fun vs σ H Q Q' h ⟨v, r, e, q⟩ => ⟨v, r, e, h1 _ _ _ _ _ (fun σ' H' z => h2 _ _ _ _ _ h z) q⟩
theorem gk_cons {n : Nat} {t : TG} {u : TGs} (m1 : GM t) (m2 : GMs u) (h1 : GK n t) (h2 : GKs n u) : GKs n (gCons t u) := fun vs σ H Q ⟨v, r, e, q⟩ => by
  refine ⟨v, r, e, m1 _ _ _ _ _ (fun σ' H' z => ?_) (h1 _ _ _ _ q)⟩
  obtain ⟨q', l, k⟩ := z
  exact m2 _ _ _ _ _ (fun σ2 H2 ⟨a, b, c⟩ => ⟨a, b.trans l, fun i hi => (c i hi).trans (k i hi)⟩) (h2 _ _ _ _ q')
theorem gk_tup {K : PySem.W.Frag} {n m : Nat} {t : TGs} (h : GKs n t) : GK n (gTup K m t) := fun v σ H Q ⟨a, xs, e1, e2, e3, q⟩ => ⟨a, xs, e1, e2, e3, h _ _ _ _ q⟩

def tComp (own : List Str) (sel : List Nat) (wi : TI) (g : TG) (tt : TT) (te : TE) : TE := fun σ H Q => wi σ H fun J H1 => ∀ D, H1 D = none →
  ∃ W : Nat → Nat → Hp → Prop, (∃ m, W 0 m (upd H1 D (.lst []))) ∧ ∀ i m H2, W i m H2 →
    (J.stop i H2 ∧ Q (.ref D) H2) ∨ (J.go i H2 ∧ ∀ x H3, J.yld i H2 x H3 → g x (inSt own sel σ) H3 fun σ4 H4 => tt σ4 H4 fun b H5 =>
      if b = true then te σ4 H5 fun v H6 => ∃ ys, H6 D = some (.lst ys) ∧ ys.length < sizeLine ∧ ∃ m', m' < m ∧ W (i + 1) m' (upd H6 D (.lst (ys ++ [v])))
      else ∃ m', m' < m ∧ W (i + 1) m' H5)

section
variable {prog : Program} {w : World} {A : Around} {R : Result → Shared → Prop} {s : Shared}
/-- the loop of a block: one clause, any target -/
theorem comp_turns {elt target iter : Expr} {ifs : List Expr} {scope : Scope} {pos : Pos} {it acc : Value} {env : Env} (I : Nat → Shared → Prop)
    (turn : ∀ n s, I n s → wpAny (model prog w) A (pyNext it) (fun r s1 => match r with
      | none => R (.ok .next) s1
      | some v => wpAny (model prog w) A (letOwnedTupleGo target it v) (fun _ s0 => wpAny (model prog w) A (assign target env v) (fun _ s2 =>
          wpAny (model prog w) A (forIn ifs true fun c r => if r = true then do let ok ← isTrue c env (eval c env); pure (ForInStep.yield ok) else pure (ForInStep.yield r)) (fun ok s3 =>
            if ok = true then wpAny (model prog w) A (eval elt env) (fun x s4 => wpAny (model prog w) A (call (.builtin "list.append") [acc, x]) (fun _ s5 => ∃ m, m < n ∧ I m s5) (fun _ _ => False) s4) (fun _ _ => False) s3
            else ∃ m, m < n ∧ I m s3) (fun _ _ => False) s2) (fun _ _ => False) s0) (fun _ _ => False) s1) (fun _ _ => False) s)
    (n : Nat) (h : I n s) :
    codeAny (model prog w) A (.compLoop (.ListComp elt [⟨target, iter, ifs, 0⟩] scope pos) 0 it acc env) R s := by
  refine codeAny_loop rfl I (fun n s hI => ?_) n h
  show wpAny _ A ((compTurn (.ListComp elt [⟨target, iter, ifs, 0⟩] scope pos) 0 it acc env).onRaise (fun x => do noteFrame x env; theTreesLotGoes x)) _ _ s
  refine wpAny_noted ?_
  rw [compTurn_list]
  refine wpAny_bind (wpAny_standAt (wpAny_bind (wpAny_mono (turn n s hI) (fun r s1 h1 => ?_) fun _ _ z => z.elim)))
  cases r with
  | none => exact wpAny_pure h1
  | some v =>
    refine wpAny_bind (wpAny_mono h1 (fun _ s0 h0 => wpAny_bind (wpAny_mono h0 (fun _ s2 h2 => wpAny_bind (wpAny_mono h2 (fun ok s3 h3 => ?_) fun _ _ z => z.elim)) fun _ _ z => z.elim)) fun _ _ z => z.elim)
    cases ok with
    | false => exact wpAny_pure ⟨rfl, h3⟩
    | true =>
      exact wpAny_bind (wpAny_bind (wpAny_mono h3 (fun x s4 h4 => wpAny_bind (wpAny_mono h4 (fun _ s5 h5 => wpAny_pure (wpAny_pure ⟨rfl, h5⟩)) fun _ _ z => z.elim)) fun _ _ z => z.elim))
end

section
variable {X : Cx}
theorem relabel_lookup {env : Env} : ∀ {names : List (Str × NameKind)} {x : Str} {k : NameKind},
    (names.map fun (n, k) => if (k == NameKind.free && env.scope.kind == .function && env.kindOf n == some .cell) then (n, NameKind.cell) else (n, k)).lookup x = some k →
    names.lookup x = some k ∨ names.lookup x = some .free
  | [], _, _, h => by simp at h
  | (n, k') :: r, x, k, h => by
    have ih := @relabel_lookup env r x k
    have h' : List.lookup x ((if (k' == NameKind.free && env.scope.kind == .function && env.kindOf n == some .cell) = true then (n, NameKind.cell) else (n, k')) :: r.map fun (n, k) => if (k == NameKind.free && env.scope.kind == .function && env.kindOf n == some .cell) then (n, NameKind.cell) else (n, k)) = some k := h
    cases hx : x == n with
    | true =>
      rw [List.lookup_cons, hx]
      by_cases hc : (k' == NameKind.free && env.scope.kind == .function && env.kindOf n == some .cell) = true
      · have : k' = .free := by simp only [Bool.and_eq_true, beq_iff_eq] at hc; exact hc.1.1
        subst this
        exact .inr rfl
      · rw [if_neg hc, List.lookup_cons, hx] at h'
        exact .inl h'
    | false =>
      rw [List.lookup_cons, hx]
      by_cases hc : (k' == NameKind.free && env.scope.kind == .function && env.kindOf n == some .cell) = true
      · rw [if_pos hc, List.lookup_cons, hx] at h'; exact ih h'
      · rw [if_neg hc, List.lookup_cons, hx] at h'; exact ih h'

theorem relabel_free {env : Env} (hk : env.scope.kind = .function) : ∀ {names : List (Str × NameKind)} {x : Str}, names.lookup x = some .free → 
    (names.map fun (n, k) => if (k == NameKind.free && env.scope.kind == .function && env.kindOf n == some .cell) then (n, NameKind.cell) else (n, k)).lookup x = some .cell ∨
    (names.map fun (n, k) => if (k == NameKind.free && env.scope.kind == .function && env.kindOf n == some .cell) then (n, NameKind.cell) else (n, k)).lookup x = some .free
  | [], _, h => by simp at h
  | (n, k') :: r, x, h => by
    have ih := @relabel_free env hk r x
    show List.lookup x ((if (k' == NameKind.free && env.scope.kind == .function && env.kindOf n == some .cell) = true then (n, NameKind.cell) else (n, k')) :: _) = _ ∨ List.lookup x ((if (k' == NameKind.free && env.scope.kind == .function && env.kindOf n == some .cell) = true then (n, NameKind.cell) else (n, k')) :: _) = _
    cases hx : x == n with
    | true =>
      rw [List.lookup_cons, hx] at h
      by_cases hc : (k' == NameKind.free && env.scope.kind == .function && env.kindOf n == some .cell) = true
      · rw [if_pos hc, List.lookup_cons, hx]; exact .inl rfl
      · rw [if_neg hc, List.lookup_cons, hx]; exact .inr h
    | false =>
      rw [List.lookup_cons, hx] at h
      by_cases hc : (k' == NameKind.free && env.scope.kind == .function && env.kindOf n == some .cell) = true
      · rw [if_pos hc, List.lookup_cons, hx]; exact ih h
      · rw [if_neg hc, List.lookup_cons, hx]; exact ih h
end
end L2

namespace L2
open PySem PySem.Spec PyProof.Rows
section
variable {X : Cx}

theorem inSt_own {own : List Str} {sel : List Nat} {σ : St} {i : Nat} (h : i < own.length) : (inSt own sel σ)[i]? = some none := by
  unfold inSt
  rw [List.getElem?_append_left (by simpa using h), List.getElem?_map, List.getElem?_eq_getElem h]
  rfl
theorem inSt_sel {own : List Str} {sel : List Nat} {σ : St} {i : Nat} {v : V} (h : (inSt own sel σ)[i]? = some (some v)) : ∃ k j, i = own.length + k ∧ sel[k]? = some j ∧ σ[j]? = some (some v) := by
  by_cases hi : i < own.length
  · rw [inSt_own hi] at h; cases h
  · unfold inSt at h
    rw [List.getElem?_append_right (by simpa using hi), List.getElem?_map] at h
    rw [List.length_map] at h
    cases e : sel[i - own.length]? with
    | none => rw [e] at h; cases h
    | some j =>
      rw [e] at h
      simp only [Option.map_some, Option.some.injEq] at h
      refine ⟨i - own.length, j, by omega, e, ?_⟩
      rw [List.getD_eq_getElem?_getD] at h
      cases q : σ[j]? with
      | none => rw [q] at h; cases h
      | some u => rw [q] at h; simp at h; rw [h]
theorem inSt_len {own : List Str} {sel : List Nat} {σ : St} : (inSt own sel σ).length = own.length + sel.length := by
  unfold inSt; simp

/-- the block's frame, seen from the code around it -/
structure Far (X : Cx) (pins : List (Addr × Obj)) (H : Hp) (C : Addr) : Prop where
  nt : H C = none
  nl : C ≠ X.env.locals
  up : X.s₀.heap.objs.size ≤ C
  nc : ∀ x c, X.env.cells.lookup x = some c → c ≠ C
  np : ∀ p ∈ X.pn ++ pins, p.1 ≠ C
theorem Inv.far {pins : List (Addr × Obj)} {σ : St} {H : Hp} {s : Shared} {h' : Heap} {C : Addr} (I : Inv X pins σ H s) (f : Far X pins H C) (k : Heap.SameBut C s.heap h') : Inv X pins σ H { s with heap := h' } :=
  I.turned (t' := s.toks) (fun b o hb e => (k.2 b hb).trans e) f.nt f.nl (.inr f.up) f.nc f.np

theorem comp_core {elt tg iter : Expr} {ifs : List Expr} {scope : Scope} {pos : Pos} {own : List Str} {sel : List Nat} {wi : TI} {g : TG} {tt : TT} {te : TE} {use : Option (Value → Sem Unit)} {Qo : Value → Shared → Prop}
    (S : CompOk X.env.scope X.N own sel scope) (hc : X.calm = true) (hi : PI X tg iter wi)
    (hg : ∀ cl C s2 H2 fp, PG (cxIn X own sel scope cl C s2 H2 fp) tg g) (hk : GK own.length g)
    (ht : ∀ cl C s2 H2 fp, PIf (cxIn X own sel scope cl C s2 H2 fp) ifs tt) (he : ∀ cl C s2 H2 fp, PE (cxIn X own sel scope cl C s2 H2 fp) elt te)
    (hs : ∀ x, foldedSetIterable iter X.env x = pure x) {pins : List (Addr × Obj)} {s : Shared} {σ : St} {H : Hp} {Q : VK} {ps : Pos} (I0 : Inv X pins σ H s) (h : tComp own sel wi g tt te σ H Q)
    (fin : ∀ (D C : Addr) (H' : Hp) (s' : Shared) (m : Str → Option Value), Inv X pins σ H' s' → s'.heap.Ns C m → Far X pins H' C → Q (.ref D) H' → compPost (model X.prog X.w) X.A X.xe use Qo (.ref D) C (.ok .next) s') :
    wpAny (model X.prog X.w) X.A (comprehension (.ListComp elt [⟨tg, iter, ifs, 0⟩] scope pos) scope X.env ps (newList []) false (eval iter X.env) use) Qo X.xe s := by
  obtain ⟨cl, hclos, hcl, hfree⟩ := clos_ex (scope := scope) (env := X.env) fun y hy e => I0.ok.has y.1 (S.free y hy e)
  refine wpAny_comprehension_free (use := use) rfl hs hclos S.kind S.names (thn (hi pins s σ H _ I0 h) fun v s1 h1 => thn h1 fun itv s2 h2 => ?_)
  obtain ⟨it, fp, tn, J, H2, e, I, T, st2, f2, h3⟩ := h2
  subst e
  clear h h1 I0
  refine wpAny_newObj_type (wpAny_newFunctionEnv S.cell (by intro y hy; simp at hy) (fun h1 hns1 hsb1 => ?_) S.kind)
  dsimp only at hns1 hsb1 ⊢
  generalize hP : s2.heap.push { cls := .type "list", dict := none, data := .seq ([] : List Value).toArray } = P1 at hns1 hsb1 ⊢
  generalize hD : s2.heap.objs.size = D at hns1 hsb1 ⊢
  generalize hC : P1.objs.size = C at hns1 hsb1 ⊢
  have hCD : C = D + 1 := by rw [← hC, ← hP, Heap.size_push, hD]
  have hlt : D < C := by rw [hCD]; exact Nat.lt_succ_self D
  have hDC : D ≠ C := Nat.ne_of_lt hlt
  have neC : ∀ b : Addr, b < D → b ≠ C := fun b hb => Nat.ne_of_lt (Nat.lt_trans hb hlt)
  have neD : ∀ b : Addr, b < D → b ≠ D := fun b hb => Nat.ne_of_lt hb
  have hsD : s2.heap.objs.size ≤ D := Nat.le_of_eq hD
  have hsC : s2.heap.objs.size ≤ C := Nat.le_trans hsD (Nat.le_of_lt hlt)
  have fresh : ∀ a, D ≤ a → H2 a = none := fun a ha => I.hok.fresh (by rw [hD]; exact ha)
  have hnD : H2 D = none := fresh D (Nat.le_refl _)
  have hnC : H2 C = none := fresh C (Nat.le_of_lt hlt)
  have below : ∀ b o, s2.heap.get? b = some o → b < D := fun b o e => by rw [← hD]; exact Heap.lt_size e
  have keep1 : ∀ b o, s2.heap.get? b = some o → h1.get? b = some o := fun b o e =>
    hsb1.extBut b o (neC b (below b o e)) (Heap.get?_push_of_some _ (hP ▸ Heap.get?_push_of_some _ e))
  have gD : h1.get? D = some { cls := .type "list", dict := none, data := .seq ([] : List Value).toArray } := by
    refine hsb1.extBut _ _ hDC (Heap.get?_push_of_some _ ?_)
    rw [← hP, ← hD]
    exact Heap.get?_push_size _ rfl
  obtain ⟨W, ⟨m0, w0⟩, turn⟩ := h3 D hnD
  have fpb : ∀ b ∈ fp, b < D := fun b hb => by obtain ⟨o, e, _⟩ := T.obj _ _ st2 b hb; exact below b o e
  -- the block's context
  generalize hY : cxIn X own sel scope cl C s2 H2 fp = Y
  have hg := hg cl C s2 H2 fp
  have ht := ht cl C s2 H2 fp
  have he := he cl C s2 H2 fp
  rw [hY] at hg ht he
  have okY : Y.Ok := by
    subst hY
    refine ⟨I.ok.mod, S.kind, I.ok.glob, I.ok.blt, ?_, fun x y c a b => I.ok.inj x y c (hcl _ _ a) (hcl _ _ b), fun x hx => ?_, (fun _ _ z => nomatch z), fun z => I.ok.hd z, I.ok.frames, .inl rfl, fun b hb => ⟨?_, fun x c e => (f2 b hb).2.2.2.2.1 x c (hcl _ _ e)⟩, I.bs,
      Nat.le_trans I.ok.bsz I.sz, fun b o e hb => ?_, fun b hb z => ?_, I.stack, I.stkFree⟩
    · exact hsC
    · have hx' : (relabel scope X.env).names.lookup x = some .cell ∨ (relabel scope X.env).names.lookup x = some .free := hx
      have hf : scope.names.lookup x = some .free := by
        rcases hx' with z | z
        · rcases relabel_lookup z with q | q
          · exact absurd rfl (S.cell _ (PySem.mem_of_lookup q))
          · exact q
        · rcases relabel_lookup z with q | q <;> exact q
      exact hfree _ (PySem.mem_of_lookup hf) rfl
    · exact neC b (fpb b hb)
    · rcases (f2 b hb).2.2.2.1 with z | z
      · exact I.ok.noex b o e z
      · exact absurd (Nat.lt_of_lt_of_le (Heap.lt_size e) (Nat.le_trans I.ok.bsz z)) (Nat.lt_irrefl _)
    · rcases List.mem_cons.mp (I.stkSub b z) with q | q
      · exact (f2 b hb).2.1 q
      · exact (f2 b hb).2.2.1 q
  -- the state ahead of the first turn
  have eo : ObjOk X.prog X.w (upd H2 D (.lst [])) h1 D (.lst []) := ⟨by decide, [], _, .nil, gD⟩
  have I1 : Inv Y [] (inSt own sel σ) (upd H2 D (.lst [])) { s2 with heap := h1, toks := s2.toks + ([] : List (Str × Value)).length } := by
    subst hY
    refine ⟨okY, rfl, I.bare, Un.laid keep1 hsD hnD, ⟨_, hns1, fun i x v e1 e2 e3 => ?_⟩, fun x c e => ?_, ?_, fun x c e => ?_, fun p hp => absurd (show p ∈ ([] : List (Addr × Obj)) from hp) (by simp), I.hok.laid keep1 hsD eo, ?_⟩
    · obtain ⟨k, j, ei, ej, es⟩ := inSt_sel e2
      subst ei
      have e1' : (own ++ sel.map fun j => X.N.getD j Str.empty)[own.length + k]? = some x := e1
      rw [List.getElem?_append_right (by omega), List.getElem?_map, show own.length + k - own.length = k by omega, ej] at e1'
      simp only [Option.map_some, Option.some.injEq] at e1'
      obtain ⟨hj, hfx, hkd⟩ := S.seln j (List.mem_of_getElem? ej)
      have hN : X.N[j]? = some x := by rw [← e1', List.getD_eq_getElem?_getD, List.getElem?_eq_getElem hj]; rfl
      rw [e1'] at hkd hfx
      obtain ⟨m, _, hl⟩ := I.loc
      obtain ⟨u, r, lk⟩ := hl j x v hN es (.inr hkd)
      refine ⟨u, r, .inr ⟨relabel_free I.ok.kind hfx, ?_⟩⟩
      rcases lk with ⟨z1, _⟩ | ⟨_, c, hc1, hc2⟩
      · have z1' : X.env.scope.names.lookup x = some .local := z1
        rcases hkd with q | q <;> (rw [z1'] at q; cases q)
      · obtain ⟨c', q⟩ := hfree _ (PySem.mem_of_lookup hfx) rfl
        have q2 := hcl _ _ q
        rw [hc1] at q2
        cases q2
        exact ⟨c, q, hc2.keeps keep1⟩
    · obtain ⟨u, z⟩ := I.cell x c (hcl _ _ e)
      exact ⟨u, z.keeps keep1⟩
    · show upd H2 D (.lst []) C = none
      rw [upd_ne (Ne.symm hDC)]; exact hnC
    · have q := I.freeC x c (hcl _ _ e)
      obtain ⟨u, o, z, _⟩ := I.cell x c (hcl _ _ e)
      rw [upd_ne (neD c (below c o z))]
      exact q
    · show (inSt own sel σ).length = (own ++ sel.map fun j => X.N.getD j Str.empty).length
      rw [inSt_len]; simp
  -- its end
  have fin : ∀ (σ' : St) (H' : Hp) (s' : Shared), Inv Y [] σ' H' s' → Q (.ref D) H' → compPost (model X.prog X.w) X.A X.xe use Qo (.ref D) C (.ok .next) s' := by
    intro σ' H' s' I' q
    subst hY
    obtain ⟨m, hn, _⟩ := I'.loc
    have J' : Inv X pins σ H' s' := I.call' I'.os I'.base I'.hok I'.bare fun b hb => ⟨(f2 b hb).2.2.2.1, (f2 b hb).2.1, (f2 b hb).2.2.2.2.1, (f2 b hb).2.2.2.2.2⟩
    refine fin D C H' s' m J' hn ⟨I'.free, Ne.symm (neC _ (by rw [← hD]; exact I.lt)), Nat.le_trans I.sz hsC, fun x c e => ?_, fun p hp => ?_⟩ q
    · obtain ⟨u, o, z, _⟩ := I.cell x c e
      exact neC c (below c o z)
    · exact neC p.1 (below p.1 p.2 (I.pin p hp).1)
  -- what stays true of the iterator's objects
  have stat : ∀ {H' : Hp}, (∀ b ∈ fp, H' b = none) → ∀ b ∈ fp, FpOk Y [] H' b := fun {H'} hn b hb => by
    subst hY
    refine ⟨hn b hb, neC b (fpb b hb), fun z => ?_, .inl hb, fun x c e => (f2 b hb).2.2.2.2.1 x c (hcl _ _ e), fun p hp => absurd (show p ∈ ([] : List (Addr × Obj)) from hp) (by simp)⟩
    rcases List.mem_cons.mp (I.stkSub b z) with q | q
    · exact (f2 b hb).2.1 q
    · exact (f2 b hb).2.2.1 q
  have loop : ∀ s3 : Shared, s3 = { s2 with heap := h1, toks := s2.toks + ([] : List (Str × Value)).length } →
      codeAny (model X.prog X.w) X.A (.compLoop (.ListComp elt [⟨tg, iter, ifs, 0⟩] scope pos) 0 (.ref it) (.ref D) (compEnvC scope cl C X.env)) (compPost (model X.prog X.w) X.A X.xe use Qo (.ref D) C) s3 := by
    rintro s3 rfl
    have eP : Y.prog = X.prog := by subst hY; rfl
    have eW : Y.w = X.w := by subst hY; rfl
    have eA : Y.A = X.A := by subst hY; rfl
    have eK : Y.K = X.K := by subst hY; rfl
    have eE : Y.env = compEnvC scope cl C X.env := by subst hY; rfl
    have eX : Y.xe = fun _ _ => False := by subst hY; rfl
    have eC : Y.calm = true := by subst hY; exact hc
    refine comp_turns (fun n s' => ∃ i H', Inv Y [] (inSt own sel σ) H' s' ∧ tn i s'.heap ∧ (∀ b ∈ fp, H' b = none) ∧ W i n H') ?_ m0
      ⟨0, _, I1, T.keep _ _ _ st2 fun b _ o e => keep1 b o e, fun b hb => by rw [upd_ne (neD b (fpb b hb))]; exact (f2 b hb).1, w0⟩
    rintro n s4 ⟨i, H4, I4, st4, fr4, w4⟩
    rcases turn i n H4 w4 with ⟨stop, q⟩ | ⟨go, step⟩
    · have dn := T.done Y eP eW eK eC i [] s4 _ H4 (fun _ _ => False) I4 (stat fr4) st4 stop
      rw [eA] at dn
      refine thn dn fun r s5 ⟨hr, I5⟩ => ?_
      subst hr
      exact fin _ _ _ I5 q
    · have im := T.item Y eP eW eK eC i [] s4 _ H4 (fun _ _ => False) I4 (stat fr4) st4 go
      rw [eA] at im
      refine thn im fun r s5 ⟨u, hr, h5⟩ => ?_
      subst hr
      refine thn h5 fun _ s6 ⟨x, H6, I6, r6, y6, st6, fr6⟩ => ?_
      have I6' := I6.pinned (stat fr6) (T.obj _ _ st6)
      have back : ∀ {σ7 : St} {H7 : Hp} {s7 : Shared} {k : Nat}, Inv Y ([] ++ pinsAt fp s6.heap) σ7 H7 s7 → σ7.length = (inSt own sel σ).length → (∀ j, own.length ≤ j → σ7[j]? = (inSt own sel σ)[j]?) → (∃ m', m' < n ∧ W (i + 1) m' H7) →
          ∃ m', m' < n ∧ ∃ i H', Inv Y [] (inSt own sel σ) H' s7 ∧ tn i s7.heap ∧ (∀ b ∈ fp, H' b = none) ∧ W i m' H' := fun {σ7 H7 s7 k} I7 l7 k7 w7 => by
        obtain ⟨m', hm, w7⟩ := w7
        refine ⟨m', hm, i + 1, H7, I7.unpinned.weak l7.symm fun j v e => ?_, T.keep _ _ _ st6 fun b hb o e => (I7.pin (b, o) (List.mem_append_right _ (List.mem_append_right _ (mem_pinsAt hb e)))).1, fun b hb => ?_, w7⟩
        · by_cases hj : j < own.length
          · rw [inSt_own hj] at e; cases e
          · rw [k7 j (Nat.le_of_not_lt hj)]; exact e
        · obtain ⟨o, e, d⟩ := T.obj _ _ st6 b hb
          exact (I7.pin (b, o) (List.mem_append_right _ (List.mem_append_right _ (mem_pinsAt hb e)))).2.1
      have ga := hg _ s6 _ H6 x u _ I6' r6 (hk _ _ _ _ (step x H6 y6))
      rw [eP, eW, eA, eE, eX] at ga
      refine thn ga fun _ s7 ⟨σ7, H7, I7, q7, l7, k7⟩ => ?_
      have ta := ht _ s7 σ7 H7 _ I7 q7
      rw [eP, eW, eA, eE, eX] at ta
      refine thn ta fun b s8 ⟨H8, I8, q8⟩ => ?_
      cases b with
      | false =>
        rw [if_neg Bool.false_ne_true] at q8 ⊢
        exact back (k := 0) I8 l7 k7 q8
      | true =>
        rw [if_pos rfl] at q8 ⊢
        have ea := he _ s8 σ7 H8 _ I8 q8
        rw [eP, eW, eA, eE, eX] at ea
        refine thn ea fun v s9 ⟨x9, H9, I9, r9, ys, hD9, hz9, q9⟩ => ?_
        have aa := mt_append (X := Y) _ s9 σ7 H9 (.ref D) [x9] (.ref D) [v] (fun _ H' => ∃ m', m' < n ∧ W (i + 1) m' H') I9 rfl (.cons r9 .nil) ⟨D, ys, x9, rfl, rfl, hD9, hz9, q9⟩
        rw [eP, eW, eA, eX] at aa
        exact thn aa fun _ s10 ⟨_, H10, I10, _, q10⟩ => back (k := 0) I10 l7 k7 q10
  exact codeAny_compStart_list (loop _ rfl) (T.self X.A 0 _ _ _ (T.keep _ _ _ st2 fun b _ o e => keep1 b o e) (loop _ rfl))
/-- [elt for tg in iter if ..] -/
theorem pe_comp {elt tg iter : Expr} {ifs : List Expr} {scope : Scope} {pos : Pos} {own : List Str} {sel : List Nat} {wi : TI} {g : TG} {tt : TT} {te : TE}
    (S : CompOk X.env.scope X.N own sel scope) (hc : X.calm = true) (hi : PI X tg iter wi)
    (hg : ∀ cl C s2 H2 fp, PG (cxIn X own sel scope cl C s2 H2 fp) tg g) (hk : GK own.length g)
    (ht : ∀ cl C s2 H2 fp, PIf (cxIn X own sel scope cl C s2 H2 fp) ifs tt) (he : ∀ cl C s2 H2 fp, PE (cxIn X own sel scope cl C s2 H2 fp) elt te)
    (hs : ∀ x, foldedSetIterable iter X.env x = pure x := by intro _; rfl) :
    PE X (.ListComp elt [⟨tg, iter, ifs, 0⟩] scope pos) (tComp own sel wi g tt te) := by
  intro pins s σ H Q I h
  rw [eval_ListComp]
  refine comp_core (use := none) S hc hi hg hk ht he hs I h fun D C H' s' m I' hn f q => ?_
  exact ⟨m, hn, fun h' k => ⟨.ref D, H', I'.far f k, rfl, q⟩⟩
/-- x = [elt for tg in iter if ..] -/
theorem ps_setComp {i : Nat} {x : Str} {pos' spos : Pos} {elt tg iter : Expr} {ifs : List Expr} {scope : Scope} {pos : Pos} {own : List Str} {sel : List Nat} {wi : TI} {g : TG} {tt : TT} {te : TE}
    (hN : X.N.Nodup) (hix : X.N[i]? = some x) (hx : Loc X.env.scope x)
    (S : CompOk X.env.scope X.N own sel scope) (hc : X.calm = true) (hi : PI X tg iter wi)
    (hg : ∀ cl C s2 H2 fp, PG (cxIn X own sel scope cl C s2 H2 fp) tg g) (hk : GK own.length g)
    (ht : ∀ cl C s2 H2 fp, PIf (cxIn X own sel scope cl C s2 H2 fp) ifs tt) (he : ∀ cl C s2 H2 fp, PE (cxIn X own sel scope cl C s2 H2 fp) elt te)
    (hs : ∀ x, foldedSetIterable iter X.env x = pure x := by intro _; rfl)
    (hsw : swapsWith (.ListComp elt [⟨tg, iter, ifs, 0⟩] scope pos) (some (.Name x pos')) spos.line X.env = pure true := by rfl)
    (hf : X.fn x = true ∨ X.env.scope.names.lookup x = some .local := by first | exact .inl rfl | exact .inr rfl | assumption) :
    PS X (.Assign [.Name x pos'] (.ListComp elt [⟨tg, iter, ifs, 0⟩] scope pos) spos) (tAsg (tComp own sel wi g tt te) (gName i)) := by
  intro pins s σ H D0 I h
  rw [exec_Assign_Name_used _ _ _ _ hsw]
  refine wpAny_bind (wpAny_standAt (wpAny_bind ?_))
  show wpAny _ X.A (do let _ ← comprehension (.ListComp elt [⟨tg, iter, ifs, 0⟩] scope pos) scope X.env _ (newList []) false (eval iter X.env) (some (assign (.Name x pos') X.env))) _ _ s
  refine wpAny_bind (wpAny_mono (comp_core (use := some (assign (.Name x pos') X.env)) (Qo := fun _ s' => SP X pins D0 .next s') S hc hi hg hk ht he hs I h fun D C H' s' m I' hn f q => ?_) (fun _ s' hq => wpAny_pure (wpAny_pure hq)) fun _ _ e => e)
  show wpAny _ X.A (assign (.Name x pos') X.env (.ref D)) _ _ _
  refine wpAny_assign_Name (store_ok2 (v := V.ref D) I' hN hix hx rfl (fun s2 I2 ⟨a, k, ha⟩ => ?_) hf)
  have haC : C ≠ a := by
    rcases ha with rfl | ha
    · exact f.nl
    · exact Ne.symm (f.nc x a ha)
  exact ⟨m, hn.sameBut k haC, fun h' k' => ⟨_, H', I2.far f k', q⟩⟩
end
end L2

namespace L2
open PySem PySem.Spec PyProof.Rows
section
variable {X : Cx} {pins : List (Addr × Obj)} {σ : St} {H : Hp} {s : Shared} {h' : Heap}
/-- the records at ch have turned, a new object is laid and tracked -/
theorem Inv.turnedLaid {a : Addr} {o : HO} {t' : Nat} {ch : List Addr} (I : Inv X pins σ H s) (hf : ∀ b ∈ ch, FpOk X pins H b) (k : ∀ b u, b ∉ ch → s.heap.get? b = some u → h'.get? b = some u) (hp : s.heap.objs.size ≤ a)
    (new : ObjOk X.prog X.w (upd H a o) h' a o) : Inv X pins σ (upd H a o) { s with heap := h', toks := t' } := by
  have hn : H a = none := I.hok.fresh hp
  have ne : ∀ b u, s.heap.get? b = some u → b ≠ a := fun b u e => Nat.ne_of_lt (Nat.lt_of_lt_of_le (Heap.lt_size e) hp)
  have nt : ∀ b u, H b = some u → b ∉ ch := fun b u e z => by rw [(hf b z).1] at e; cases e
  refine I.step (g' := s.gens) (d' := s.drawn) (ch := ch) (fun b hb => ⟨(hf b hb).2.2.2.1, (hf b hb).2.1, (hf b hb).2.2.2.2.1, (hf b hb).2.2.2.2.2⟩) (fun b u _ _ hc e _ => k b u hc e) (fun b u _ _ hc e _ => ⟨u.slots, k b u hc e⟩)
    (fun b u _ e n => by rw [upd_ne (ne b u e)]; exact n) (fun b u hc e => ⟨u, k b u hc e⟩) (fun b xs e => by rw [upd_ne (ne_of_none e hn)]; exact e) (fun b u xs e => by rw [upd_ne (ne_of_none e hn)]; exact e)
    (fun b ps e => ⟨#[], by rw [upd_ne (ne_of_none e hn), e]; simp⟩) (fun m hm => ?_) (fun b u e => ?_) I.bare
  · obtain ⟨ob, es, ep, ho, r⟩ := hm
    exact ⟨ob, es, ep, k _ ob (fun z => (hf _ z).2.1 rfl) ho, r⟩
  · by_cases hb : b = a
    · subst hb; rw [upd_same] at e; cases e; exact new
    · rw [upd_ne hb] at e
      refine (I.hok b u e).stay (fun c v hc q => k c v ?_ q) (fun c q => by rw [upd_ne (ne_of_none q hn)]; exact q) fun c xs q => by rw [upd_ne (ne_of_none q hn)]; exact q
      rcases hc with z | z
      · rw [z]; exact nt b u e
      · exact nt c _ z
theorem Inv.turnedAll {t' : Nat} {ch : List Addr} (I : Inv X pins σ H s) (hf : ∀ b ∈ ch, FpOk X pins H b) (k : ∀ b u, b ∉ ch → s.heap.get? b = some u → h'.get? b = some u) : Inv X pins σ H { s with heap := h', toks := t' } := by
  have nt : ∀ b u, H b = some u → b ∉ ch := fun b u e z => by rw [(hf b z).1] at e; cases e
  refine I.step (g' := s.gens) (d' := s.drawn) (ch := ch) (fun b hb => ⟨(hf b hb).2.2.2.1, (hf b hb).2.1, (hf b hb).2.2.2.2.1, (hf b hb).2.2.2.2.2⟩) (fun b u _ _ hc e _ => k b u hc e) (fun b u _ _ hc e _ => ⟨u.slots, k b u hc e⟩)
    (fun b u _ e n => n) (fun b u hc e => ⟨u, k b u hc e⟩) (fun b xs e => e) (fun b u xs e => e) (fun b ps e => ⟨#[], by rw [e]; simp⟩) (fun m hm => ?_) (fun b u e => ?_) I.bare
  · obtain ⟨ob, es, ep, ho, r⟩ := hm
    exact ⟨ob, es, ep, k _ ob (fun z => (hf _ z).2.1 rfl) ho, r⟩
  · refine (I.hok b u e).stay (fun c v hc q => k c v ?_ q) (fun c q => q) fun c xs q => q
    rcases hc with z | z
    · rw [z]; exact nt b u e
    · exact nt c _ z
end

/-! ## signs of a text -/
def Its (x : Str) : It := ⟨fun i _ => i < x.cps.size, fun i H v H' => H' = H ∧ ∃ c, x.cps[i]? = some c ∧ v = .str ⟨#[c]⟩, fun i _ => i = x.cps.size⟩
section
variable {P : Program} {w : World} {K : PySem.W.Frag} {tg : Expr}
theorem turn_str {x : Str} {t : Tok} {T : String} {it : Addr} (hT : T = "str_ascii_iterator" ∨ T = "str_iterator")
    (W : ∀ A : Around, A.handled = none → Walks P w A it [it] [it] x.cps.size (SignAt x) (fun i h => h.IsStrIter it T x t i))
    (sf : ∀ (A : Around) (i : Nat) (s : Shared) (Q : Value → Shared → Prop) (E : Value → Shared → Prop), s.heap.IsStrIter it T x t i → Q (.ref it) s → wpAny (model P w) A (pyIter (.ref it)) Q E s) :
    Turn P w K tg (Its x) [it] it (fun i h => h.IsStrIter it T x t i) where
  mem := by simp
  obj := fun i h st b hb => by
    obtain ⟨o, ho, _, hd⟩ := st
    have e : b = it := by simpa using hb
    subst e
    exact ⟨o, ho, fun v z => by rw [hd] at z; cases z⟩
  keep := fun i h h' st k => by
    obtain ⟨o, ho, r⟩ := st
    exact ⟨o, k it (by simp) o ho, r⟩
  item := by
    intro X hP hw hK hc i pins s σ H E I hf st hg
    subst hP hw hK
    refine (W X.A (I.ok.hd hc)).item i s _ _ hg st fun v h' tk hv st' kk => ?_
    obtain ⟨c, u, hx, rfl⟩ := hv
    obtain ⟨o, ho, hcl, hd⟩ := id st'
    have I1 : Inv X pins σ H { s with heap := h', toks := tk } := I.turnedAll hf kk
    refine ⟨_, rfl, go_of (s := { s with heap := h', toks := tk }) (n := T) ho hcl hd (by rcases hT with rfl | rfl <;> decide) ⟨.str ⟨#[c]⟩, H, I1, ⟨u, rfl⟩, ⟨rfl, c, hx, rfl⟩, st', fun b hb => (hf b hb).1⟩⟩
  done := by
    intro X hP hw hK hc i pins s σ H E I hf st hg
    subst hP hw hK
    have e : i = x.cps.size := hg
    subst e
    exact (W X.A (I.ok.hd hc)).done s _ _ st fun h' tk kk => ⟨rfl, I.turnedAll hf kk⟩
  self := fun A i s Q E st h => sf A i s Q E st h
end
def iStr (tl : TE) : TI := fun σ H R => tl σ H fun x H1 => ∃ z, x = .str z ∧ R (Its z) H1
theorem pi_str {X : Cx} {tg l : Expr} {tl : TE} (hl : PE X l tl) : PI X tg l (iStr tl) := by
  intro pins s σ H R I h
  refine thn (hl pins s σ H _ I h) fun v s1 ⟨x, H1, I1, r1, q1⟩ => ?_
  obtain ⟨z, rfl, q⟩ := q1
  obtain ⟨t, rfl⟩ := r1
  have side : ∀ b ∈ [s1.heap.objs.size], FpOk X pins H1 b := fun b hb => by
    have e : b = s1.heap.objs.size := by simpa using hb
    subst e
    exact I1.fpOk (Nat.le_refl _) (I1.hok.fresh (Nat.le_refl _))
  cases ha : z.cps.all (· < 128)
  · refine wpAny_pyIter_wide ha ⟨s1.heap.objs.size, [s1.heap.objs.size], _, _, H1, rfl, I1.kept (t' := s1.toks) fun b o e => Heap.get?_push_of_some _ e, turn_str (t := t) (T := "str_iterator") (.inr rfl) (fun A hh => Walks.strWide hh _ z t) (fun A i s Q E st h => wpAny_pyIter_striter_wide st h), ⟨_, Heap.get?_push_size _ rfl, rfl, rfl⟩, side, q⟩
  · refine wpAny_pyIter_ascii ha ⟨s1.heap.objs.size, [s1.heap.objs.size], _, _, H1, rfl, I1.kept (t' := s1.toks) fun b o e => Heap.get?_push_of_some _ e, turn_str (t := t) (T := "str_ascii_iterator") (.inl rfl) (fun A hh => Walks.strAscii hh _ z t) (fun A i s Q E st h => wpAny_pyIter_striter_ascii st h), ⟨_, Heap.get?_push_size _ rfl, rfl, rfl⟩, side, q⟩

/-! ## enumerate -/
def IteS (x : Str) : It := ⟨fun i _ => i < x.cps.size, fun i H v H' => ∃ T c, H T = none ∧ x.cps[i]? = some c ∧ v = .ref T ∧ H' = upd H T (.tup [.int i, .str ⟨#[c]⟩]), fun i _ => i = x.cps.size⟩
def IteL (K : PySem.W.Frag) (a : Addr) : It := ⟨fun i H => ∃ xs x, SqL K H a xs ∧ xs[i]? = some x, fun i H v H' => ∃ T x, H T = none ∧ (∀ xs, SqL K H a xs → xs[i]? = some x) ∧ v = .ref T ∧ H' = upd H T (.tup [.int i, x]),
  fun i H => ∃ xs, SqL K H a xs ∧ i = xs.length⟩
section
variable {P : Program} {w : World} {K : PySem.W.Frag} {elts : List Expr} {k : Nat} {tpos : Pos}
/-- one step of an enumerate over what draws -/
theorem enum_item {X : Cx} {pins : List (Addr × Obj)} {σ : St} {H : Hp} {s : Shared} {E : Value → Shared → Prop} {e it : Addr} {fp : List Addr} {n i : Nat} {Pr : Nat → Value → Prop} {St : Nat → Heap → Prop} {old : Value} {Qx : Value → Hp → V → Prop} {tn : Heap → Prop}
    (D : Draws X.prog X.w X.A.in1 it fp n Pr St) (I : Inv X pins σ H s) (hf : ∀ b ∈ [e, it], FpOk X pins H b) (he : IsEnum s.heap e it i old) (hst : St i s.heap) (hlt : i < n) (hne : e ≠ it) (hef : e ∉ fp)
    (tnk : ∀ h' o, IsEnum h' e it ((i : Int) + 1) o → St (i + 1) h' → tn h') (y : ∀ v, Pr i v → ∃ z, RelV z v ∧ Qx v H z) :
    wpAny (model X.prog X.w) X.A (pyNext (.ref e)) (fun r s1 => ∃ u, r = some u ∧ wpAny (model X.prog X.w) X.A (letOwnedTupleGo (.Tuple elts k tpos) (.ref e) u) (fun _ s2 => ∃ x H', Inv X pins σ H' s2 ∧ RelV x u ∧
      (∃ T z v, H T = none ∧ Pr i v ∧ RelV z v ∧ Qx v H z ∧ x = .ref T ∧ H' = upd H T (.tup [.int i, z])) ∧ tn s2.heap ∧ ∀ b ∈ [e, it], H' b = none) E s1) E s := by
  refine wpAny_pyNext_enum_itemD D he hst hlt hne hef fun v h1 tk hP ho hs' hT hsz hk => ⟨_, rfl, wpAny_letOwnedTupleGo_enum ho fun h2 he2 hs2 => ?_⟩
  obtain ⟨z, rz, qz⟩ := y v hP
  have hel : e < s.heap.objs.size := Heap.lt_size he
  have hil : it < s.heap.objs.size := by obtain ⟨_, q⟩ := D.live _ _ hst; exact Heap.lt_size q
  have hT2 : h2.get? s.heap.objs.size = some { cls := .type "tuple", data := .seq #[.int i tk, v] } := (hs2.2 _ (Nat.ne_of_gt hel)).trans hT
  have ob : ObjOk X.prog X.w (upd H s.heap.objs.size (.tup [.int i, z])) h2 s.heap.objs.size (.tup [.int i, z]) := ⟨(by show 2 ≤ sizeLine; decide), [.int i tk, v], .cons ⟨tk, rfl⟩ (.cons rz .nil), ⟨_, hT2, rfl, _, rfl⟩⟩
  have I2 : Inv X pins σ (upd H s.heap.objs.size (.tup [.int i, z])) { s with heap := h2, toks := tk + 1 } := I.turnedLaid hf (fun b u hb q => (hs2.2 b (fun z => hb (by simp [z]))).trans (hk b u (fun z => hb (by simp [z])) (fun z => hb (by simp [z])) q)) (Nat.le_refl _) ob
  refine ⟨.ref s.heap.objs.size, _, I2, rfl, ⟨s.heap.objs.size, z, v, I.hok.fresh (Nat.le_refl _), hP, rz, qz, rfl, rfl⟩, tnk h2 _ he2 (D.frame _ _ _ hs' fun b hb o q => (hs2.2 b fun z => hef (z ▸ hb)).trans q), fun b hb => ?_⟩
  have hb' : b ≠ s.heap.objs.size := by
    rcases List.mem_cons.mp hb with z | hb
    · rw [z]; exact Nat.ne_of_lt hel
    · rw [List.mem_singleton.mp hb]; exact Nat.ne_of_lt hil
  rw [upd_ne hb']
  exact (hf b hb).1
theorem turn_enumS {x : Str} {t : Tok} {T : String} {e it : Addr} (hne : e ≠ it)
    (W : ∀ A : Around, A.handled = none → Draws P w A it [it] x.cps.size (fun i v => ∃ c u, x.cps[i]? = some c ∧ v = .str ⟨#[c]⟩ u) (fun i h => h.IsStrIter it T x t i)) :
    Turn P w K (.Tuple elts k tpos) (IteS x) [e, it] e (fun i h => (∃ old, IsEnum h e it i old) ∧ h.IsStrIter it T x t i) where
  mem := by simp
  obj := fun i h st b hb => by
    obtain ⟨⟨old, he⟩, o, ho, _, hd⟩ := st
    rcases List.mem_cons.mp hb with z | hb
    · subst z; exact ⟨_, he, fun v z => by cases z⟩
    · rw [List.mem_singleton.mp hb]; exact ⟨o, ho, fun v z => by rw [hd] at z; cases z⟩
  keep := fun i h h' st k => by
    obtain ⟨⟨old, he⟩, o, ho, r⟩ := st
    exact ⟨⟨old, k e (by simp) _ he⟩, o, k it (by simp) o ho, r⟩
  item := by
    intro X hP hw hK hc i pins s σ H E I hf st hg
    subst hP hw hK
    obtain ⟨⟨old, he⟩, st⟩ := st
    refine thn (enum_item (elts := elts) (k := k) (tpos := tpos) (Qx := fun v H z => ∃ c, x.cps[i]? = some c ∧ z = .str ⟨#[c]⟩) (tn := fun h => (∃ old, IsEnum h e it ((i + 1 : Nat) : Int) old) ∧ h.IsStrIter it T x t (i + 1)) (W X.A.in1 (I.ok.hd hc)) I hf he st hg hne (fun z => hne (List.mem_singleton.mp z)) (fun h' o a b => ⟨⟨o, by simpa using a⟩, b⟩) ?_) ?_
    · rintro v ⟨c, u, hx, rfl⟩
      exact ⟨.str ⟨#[c]⟩, ⟨u, rfl⟩, c, hx, rfl⟩
    · rintro r s1 ⟨u, hr, h1⟩
      refine ⟨u, hr, thn h1 ?_⟩
      rintro _ s2 ⟨xv, H', I2, rx, ⟨Ta, z, v, hT, hv, rz, ⟨c, hx, rfl⟩, ex, eH⟩, tn2, fr⟩
      exact ⟨xv, H', I2, rx, ⟨Ta, c, hT, hx, ex, eH⟩, tn2, fr⟩
  done := by
    intro X hP hw hK hc i pins s σ H E I hf st hg
    subst hP hw hK
    obtain ⟨⟨old, he⟩, st⟩ := st
    have ei : i = x.cps.size := hg
    subst ei
    exact wpAny_pyNext_enum_endD (W X.A.in1 (I.ok.hd hc)) he st fun h' hx => ⟨rfl, I.turnedAll (t' := s.toks) hf fun b o hb q => hx b o (fun z => hb (by simp [z])) q⟩
  self := fun A i s Q E st h => by
    obtain ⟨⟨old, he⟩, _⟩ := st
    exact wpAny_pyIter_enum he h
theorem turn_enumL {a e it : Addr} (hne : e ≠ it) (hai : a ≠ it) (hae : a ≠ e) :
    Turn P w K (.Tuple elts k tpos) (IteL K a) [e, it] e (fun i h => (∃ old, IsEnum h e it i old) ∧ h.IsListIter it a i) where
  mem := by simp
  obj := fun i h st b hb => by
    obtain ⟨⟨old, he⟩, o, ho, _, hd⟩ := st
    rcases List.mem_cons.mp hb with z | hb
    · subst z; exact ⟨_, he, fun v z => by cases z⟩
    · rw [List.mem_singleton.mp hb]; exact ⟨o, ho, fun v z => by rw [hd] at z; cases z⟩
  keep := fun i h h' st k => by
    obtain ⟨⟨old, he⟩, o, ho, r⟩ := st
    exact ⟨⟨old, k e (by simp) _ he⟩, o, k it (by simp) o ho, r⟩
  item := by
    intro X hP hw hK hc i pins s σ H E I hf st hg
    subst hP hw hK
    obtain ⟨⟨old, he⟩, st⟩ := st
    obtain ⟨xs, x, hq, hx⟩ := hg
    obtain ⟨its, rv, pl, hz⟩ := I.list hq
    have hl := rv.length
    have hil : i < xs.length := (List.getElem?_eq_some_iff.mp hx).1
    have D : Draws X.prog X.w X.A.in1 it [it, a] its.toArray.size (fun i v => its.toArray[i]? = some v) (fun i h => h.IsListIter it a i ∧ h.IsList a its.toArray) := Draws.list (A := X.A.in1) (I.ok.hd hc) it a hai its.toArray
    refine thn (enum_item (elts := elts) (k := k) (tpos := tpos) (Qx := fun v H z => z = x) (tn := fun h => (∃ old, IsEnum h e it ((i + 1 : Nat) : Int) old) ∧ h.IsListIter it a (i + 1)) D I hf he ⟨st, pl.isList⟩ (by rw [List.size_toArray, ← hl]; exact hil) hne (fun z => ?_) (fun h' o a b => ⟨⟨o, by simpa using a⟩, b.1⟩) ?_) ?_
    · rcases List.mem_cons.mp z with z | z
      · exact hne z
      · exact hae (List.mem_singleton.mp z).symm
    · intro v hv
      obtain ⟨u, eu, ru⟩ := rv.get hx
      have : v = u := by
        have hv' : its[i]? = some v := by simpa using hv
        rw [eu] at hv'
        exact (Option.some.inj hv').symm
      subst this
      exact ⟨x, ru, rfl⟩
    · rintro r s1 ⟨u, hr, h1⟩
      refine ⟨u, hr, thn h1 ?_⟩
      rintro _ s2 ⟨xv, H', I2, rx, ⟨Ta, z, v, hT, hv, rz, rfl, ex, eH⟩, tn2, fr⟩
      refine ⟨xv, H', I2, rx, ⟨Ta, z, hT, fun ys hys => ?_, ex, eH⟩, tn2, fr⟩
      rw [I.list_inj hys hq]
      exact hx
  done := by
    intro X hP hw hK hc i pins s σ H E I hf st hg
    subst hP hw hK
    obtain ⟨⟨old, he⟩, st⟩ := st
    obtain ⟨xs, hq, ei⟩ := hg
    obtain ⟨its, rv, pl, hz⟩ := I.list hq
    have hl := rv.length
    have D : Draws X.prog X.w X.A.in1 it [it, a] its.toArray.size (fun i v => its.toArray[i]? = some v) (fun i h => h.IsListIter it a i ∧ h.IsList a its.toArray) := Draws.list (A := X.A.in1) (I.ok.hd hc) it a hai its.toArray
    have es : i = its.toArray.size := by rw [List.size_toArray, ← hl]; exact ei
    exact wpAny_pyNext_enum_endD D he ⟨es ▸ st, pl.isList⟩ fun h' hx => ⟨rfl, I.turnedAll (t' := s.toks) hf fun b o hb q => hx b o (fun z => hb (by simp [z])) q⟩
  self := fun A i s Q E st h => by
    obtain ⟨⟨old, he⟩, _⟩ := st
    exact wpAny_pyIter_enum he h
end
def iEnS (ta : TA) : TI := fun σ H R => ta σ H fun vs H1 => ∃ z, vs = [.str z] ∧ R (IteS z) H1
def iEnL (K : PySem.W.Frag) (ta : TA) : TI := fun σ H R => ta σ H fun vs H1 => ∃ a, vs = [.ref a] ∧ (∃ xs, SqL K H1 a xs) ∧ R (IteL K a) H1
section
variable {X : Cx} {a : Expr} {ta : TA} {p pos : Pos} {elts : List Expr} {k : Nat} {tpos : Pos}
theorem fresh2 {pins : List (Addr × Obj)} {σ : St} {H : Hp} {s : Shared} (I : Inv X pins σ H s) : ∀ b ∈ [s.heap.objs.size + 1, s.heap.objs.size], FpOk X pins H b := fun b hb => by
  rcases List.mem_cons.mp hb with z | hb
  · subst z; exact I.fpOk (Nat.le_succ _) (I.hok.fresh (Nat.le_succ _))
  · rw [List.mem_singleton.mp hb]; exact I.fpOk (Nat.le_refl _) (I.hok.fresh (Nat.le_refl _))
theorem pi_enumS (hg : Gl X "enumerate") (hm : X.mg "enumerate" = none) (ha : PA X [a] ta) (hs : starEach [a] X.env = [(false, eval a X.env)] := by rfl) : PI X (.Tuple elts k tpos) (.Call (.Name "enumerate" p) [a] [] pos) (iEnS ta) := by
  intro pins s σ H R I h
  refine Call_ (ld_blt I hg hm boot_enumerate (PyProof.Rows.callWith_type1 (thn (ha pos pins s σ H _ I h) fun us s1 ⟨vs, H1, I1, r1, q1⟩ => ?_) hs rfl))
  obtain ⟨z, e, q⟩ := q1
  subst e
  cases r1 with
  | cons r rr =>
    cases rr
    obtain ⟨t, rfl⟩ := r
    refine call_enumerate_str fun h' he hit hsz hk => wpAny_pyIter_enum he ?_
    cases hall : z.cps.all (· < 128)
    · have hit' : h'.IsStrIter s1.heap.objs.size "str_iterator" z t 0 := by simpa [strIterType, hall] using hit
      exact ⟨s1.heap.objs.size + 1, [s1.heap.objs.size + 1, s1.heap.objs.size], _, _, H1, rfl, I1.kept (t' := s1.toks) hk, turn_enumS (t := t) (T := "str_iterator") (Nat.succ_ne_self _) (fun A hh => Draws.strWide hh _ z t), ⟨⟨_, he⟩, hit'⟩, fresh2 I1, q⟩
    · have hit' : h'.IsStrIter s1.heap.objs.size "str_ascii_iterator" z t 0 := by simpa [strIterType, hall] using hit
      exact ⟨s1.heap.objs.size + 1, [s1.heap.objs.size + 1, s1.heap.objs.size], _, _, H1, rfl, I1.kept (t' := s1.toks) hk, turn_enumS (t := t) (T := "str_ascii_iterator") (Nat.succ_ne_self _) (fun A hh => Draws.strAscii hh _ z t), ⟨⟨_, he⟩, hit'⟩, fresh2 I1, q⟩
theorem pi_enumL (hg : Gl X "enumerate") (hm : X.mg "enumerate" = none) (ha : PA X [a] ta) (hs : starEach [a] X.env = [(false, eval a X.env)] := by rfl) : PI X (.Tuple elts k tpos) (.Call (.Name "enumerate" p) [a] [] pos) (iEnL X.K ta) := by
  intro pins s σ H R I h
  refine Call_ (ld_blt I hg hm boot_enumerate (PyProof.Rows.callWith_type1 (thn (ha pos pins s σ H _ I h) fun us s1 ⟨vs, H1, I1, r1, q1⟩ => ?_) hs rfl))
  obtain ⟨l, e, ⟨xs, hq⟩, q⟩ := q1
  subst e
  cases r1 with
  | cons r rr =>
    cases rr
    cases r
    obtain ⟨its, rv, pl, hz⟩ := I1.list hq
    obtain ⟨ol, hol, _⟩ := id pl.isList
    have hl : l < s1.heap.objs.size := Heap.lt_size hol
    refine call_enumerate_list pl.isList fun h' he hit hsz hk => wpAny_pyIter_enum he ?_
    exact ⟨s1.heap.objs.size + 1, [s1.heap.objs.size + 1, s1.heap.objs.size], _, _, H1, rfl, I1.kept (t' := s1.toks) hk, turn_enumL (Nat.succ_ne_self _) (Nat.ne_of_lt hl) (Nat.ne_of_lt (Nat.lt_succ_of_lt hl)), ⟨⟨_, he⟩, hit⟩, fresh2 I1, q⟩
end
end L2

namespace L2
open PySem PySem.Spec PyProof.Rows

/-! ## texts as lists of codes -/
def tx (l : List Nat) : V := .str ⟨l.toArray⟩
theorem tx_inj {a b : List Nat} : tx a = tx b ↔ a = b := by
  unfold tx
  constructor
  · intro h
    injection h with h
    injection h with h
    simpa using congrArg Array.toList h
  · rintro rfl; rfl
theorem tx_eta (x : Str) : V.str x = tx x.cps.toList := by
  unfold tx
  rfl
theorem tx_len (a : List Nat) : (⟨a.toArray⟩ : Str).length = a.length := by simp [Str.length]
theorem flat_tx (a : List Nat) : flatV (tx a) = true := rfl
theorem eqV_tx (a b : List Nat) : eqV (tx a) (tx b) = decide (a = b) := by
  have e : eqV (tx a) (tx b) = ((⟨a.toArray⟩ : Str) == ⟨b.toArray⟩) := rfl
  rw [e]
  by_cases h : a = b
  · subst h; simp
  · rw [decide_eq_false h, beq_eq_false_iff_ne]
    intro q
    exact h (tx_inj.mp (congrArg V.str q))
theorem scal_tx (a b : List Nat) : scal (tx a) (tx b) = true := rfl
theorem dec_tx (a b : List Nat) : decide (tx a = tx b) = decide (a = b) := by
  by_cases h : a = b
  · subst h; simp
  · rw [decide_eq_false h, decide_eq_false (fun q => h (tx_inj.mp q))]

section
variable {X : Cx}
theorem pe_tx {x : Str} {l : List Nat} {j pos} (h : x = ⟨l.toArray⟩) : PE X (.Constant (.str x) j pos) (tC (tx l)) := by
  subst h
  exact pe_str
theorem op_addT : OpR X (binaryOp .Add) (fun x y H Q => ∃ a b, x = tx a ∧ y = tx b ∧ a.length + b.length ≤ sizeLine ∧ Q (tx (a ++ b)) H) := by
  intro pins s σ H x y v u Q I rx ry ⟨a, b, e1, e2, hz, q⟩
  subst e1 e2
  refine op_add_str pins s σ H _ _ v u Q I rx ry ⟨_, _, rfl, rfl, by rw [tx_len, tx_len]; exact hz, ?_⟩
  have e : (V.str ((⟨a.toArray⟩ : Str) ++ ⟨b.toArray⟩)) = tx (a ++ b) := by
    unfold tx
    congr 1
    show (⟨a.toArray ++ b.toArray⟩ : Str) = _
    simp
  rw [e]; exact q
def rIxT' : R2 := fun x y H Q => ∃ a i c, x = tx a ∧ y = .int i ∧ a.length ≤ sizeLine ∧ atI a i = some c ∧ Q (tx [c]) H
theorem ix_T : IxR X rIxT' := by
  intro value slice pins s σ H x y v u Q I rx ry ⟨a, i, c, e1, e2, hz, he, q⟩ hs
  subst e1 e2
  exact ix_str value slice pins s σ H _ _ v u Q I rx ry ⟨_, i, c, rfl, rfl, by rw [tx_len]; exact hz, by simpa using he, q⟩ hs
theorem call_lenT : CallR X (.builtin "len") (fun xs H Q => ∃ a, xs = [tx a] ∧ a.length ≤ sizeLine ∧ Q (.int a.length) H) := by
  intro pins s σ H xs us Q I r ⟨a, e, hz, q⟩
  subst e
  refine call_len_str pins s σ H _ us Q I r ⟨_, rfl, by rw [tx_len]; exact hz, ?_⟩
  rw [tx_len]; exact q
theorem op_inT : OpR X (compareOp .In) (fun x y H Q => ∃ c l, x = tx [c] ∧ y = tx l ∧ Q (.bl (decide (c ∈ l))) H) := by
  intro pins s σ H x y v u Q I rx ry ⟨c, l, e1, e2, q⟩
  subst e1 e2
  refine op_in_str pins s σ H _ _ v u Q I rx ry ⟨_, _, rfl, rfl, ?_⟩
  have e := PySem.StrLaws.found_one (⟨l.toArray⟩ : Str) c
  simp only at e
  rw [show (⟨[c].toArray⟩ : Str) = ⟨#[c]⟩ from rfl, e]
  exact q
theorem op_notinT : OpR X (compareOp .NotIn) (fun x y H Q => ∃ c l, x = tx [c] ∧ y = tx l ∧ Q (.bl (!decide (c ∈ l))) H) := by
  intro pins s σ H x y v u Q I rx ry ⟨c, l, e1, e2, q⟩
  subst e1 e2
  refine op_notin_str pins s σ H _ _ v u Q I rx ry ⟨_, _, rfl, rfl, ?_⟩
  have e := PySem.StrLaws.found_one (⟨l.toArray⟩ : Str) c
  simp only at e
  rw [show (⟨[c].toArray⟩ : Str) = ⟨#[c]⟩ from rfl, e]
  exact q
/-- == and != of texts -/
theorem op_eqT : OpR X (compareOp .Eq) (fun x y H Q => ∃ a b, x = tx a ∧ y = tx b ∧ Q (.bl (decide (a = b))) H) := by
  intro pins s σ H x y v u Q I rx ry ⟨a, b, e1, e2, q⟩
  subst e1 e2
  exact op_eq pins s σ H _ _ v u Q I rx ry ⟨rfl, by rw [dec_tx]; exact q⟩
theorem op_neT : OpR X (compareOp .NotEq) (fun x y H Q => ∃ a b, x = tx a ∧ y = tx b ∧ Q (.bl (!decide (a = b))) H) := by
  intro pins s σ H x y v u Q I rx ry ⟨a, b, e1, e2, q⟩
  subst e1 e2
  exact op_ne pins s σ H _ _ v u Q I rx ry ⟨rfl, by rw [dec_tx]; exact q⟩

/-! ### a text several times -/
theorem rep_fold (a : List Nat) : ∀ (n : Nat) (acc : Array Nat), ((List.replicate n a.toArray).foldl (· ++ ·) acc) = (acc.toList ++ (List.replicate n a).flatten).toArray
  | 0, acc => by simp
  | n + 1, acc => by
    rw [List.replicate_succ, List.foldl_cons, rep_fold a n, List.replicate_succ, List.flatten_cons]
    simp
theorem op_mulT : OpR X (binaryOp .Mult) (fun x y H Q => ∃ a k, x = tx a ∧ y = .int k ∧ 0 ≤ k ∧ k ≤ 1000 ∧ a.length ≤ 1000 ∧ Q (tx (List.replicate k.toNat a).flatten) H) := by
  intro pins s σ H x y v u Q I rx ry ⟨a, k, e1, e2, h0, h1, hl, q⟩
  subst e1 e2
  obtain ⟨t, rfl⟩ := rx
  obtain ⟨t', rfl⟩ := ry
  have e : Txt.mul ⟨a.toArray⟩ k = ⟨((List.replicate k.toNat a).flatten).toArray⟩ := by
    unfold Txt.mul
    by_cases hk : k < 1
    · have : k = 0 := by omega
      subst this
      rfl
    · rw [if_neg hk]
      split
      · rename_i hc
        rw [tx_len] at hc
        simp only [Bool.or_eq_true, beq_iff_eq] at hc
        rcases hc with hc | hc
        · subst hc; simp
        · have : a = [] := List.length_eq_zero_iff.mp hc
          subst this
          simp
      · simp only
        rw [rep_fold]
        simp
  refine SB.mul ⟨by simp; omega, fun h2 _ => ?_, fun h2 _ => ?_⟩ fun t2 tk => ⟨tx (List.replicate k.toNat a).flatten, H, I.tok tk, ⟨t2, by rw [e]⟩, q⟩
  · rw [tx_len]
    have : (1000 : Int) ≤ (2 ^ 63 - 1) / k := by
      refine Int.le_ediv_of_mul_le (by omega) ?_
      omega
    omega
  · rw [tx_len]
    unfold Builtin.Str.tooLong
    have hs : sizeLine = 16777216 := sizeLine_eq
    have : a.length * k.toNat ≤ 1000 * 1000 := Nat.mul_le_mul hl (by omega)
    simp; omega

/-! ### a[lo:hi] of a text -/
def cutL {α : Type} (xs : List α) (lo hi : Option Int) : List α := (xs.drop (HT.sIx xs.length 0 lo)).take (HT.sIx xs.length xs.length hi - HT.sIx xs.length 0 lo)
theorem clipS (v : Option Int) (n d : Nat) (hd : d ≤ n) : (match v with | none => (d : Int) | some i => max 0 (min (if i < 0 then i + (n : Int) else i) (n : Int))) = ((HT.sIx n d v : Nat) : Int) := by
  cases v with
  | none => rfl
  | some i =>
    show max 0 (min (if i < 0 then i + (n : Int) else i) (n : Int)) = (((if i < 0 then (i + (n : Int)).toNat else min i.toNat n) : Nat) : Int)
    by_cases hv : i < 0
    · simp only [if_pos hv]; omega
    · simp only [if_neg hv]; omega
theorem idx_run (lo hi : Option Int) (n : Nat) : Builtin.Str.strSliceIndices lo hi 1 n = (List.range (HT.sIx n n hi - HT.sIx n 0 lo)).map fun k => HT.sIx n 0 lo + k := by
  have h1 : (1 : Int) > 0 := by omega
  have key : Builtin.Str.strSliceIndices lo hi 1 n = sliceRange ((HT.sIx n 0 lo : Nat) : Int) ((HT.sIx n n hi : Nat) : Int) 1 := by
    unfold Builtin.Str.strSliceIndices
    simp only [h1, if_true]
    congr 1
    · cases lo with
      | none => rfl
      | some i => exact clipS (some i) n 0 (Nat.zero_le _)
    · cases hi with
      | none => rfl
      | some i => exact clipS (some i) n n (Nat.le_refl _)
  rw [key]
  unfold sliceRange
  simp only [h1, if_true]
  have e3 : (if ((HT.sIx n 0 lo : Nat) : Int) < ((HT.sIx n n hi : Nat) : Int) then (((HT.sIx n n hi : Nat) : Int) - ((HT.sIx n 0 lo : Nat) : Int) + 1 - 1) / 1 else 0).toNat = HT.sIx n n hi - HT.sIx n 0 lo := by
    split <;> omega
  rw [e3]
  refine List.map_congr_left fun k _ => ?_
  omega
theorem pick_cut (a : List Nat) (i k : Nat) : ((List.range k).map fun m => i + m).filterMap (fun j => a.toArray[j]?) = (a.drop i).take k := by
  rw [List.filterMap_map]
  induction k generalizing i with
  | zero => simp
  | succ k ih =>
    rw [List.range_succ, List.filterMap_append, ih i, List.take_add_one]
    congr 1
    simp only [List.filterMap_cons, List.filterMap_nil, Function.comp]
    rw [List.getElem?_drop]
    simp only [List.getElem?_toArray]
    cases a[i + k]? <;> rfl
theorem cut_le {α : Type} (a : List α) (lo hi : Option Int) : (cutL a lo hi).length ≤ a.length := by
  unfold cutL; rw [List.length_take, List.length_drop]; omega
def rSlS : V → Option Int → Option Int → Hp → VK → Prop := fun x lo hi H Q => ∃ a, x = tx a ∧ a.length ≤ sizeLine ∧ Q (tx (cutL a lo hi)) H
theorem sl_T : SlR X rSlS := by
  intro pins s σ H x v vl vu lo hi sl Q I rx hs pl pu ⟨a, e, hz, q⟩
  subst e
  obtain ⟨t, rfl⟩ := rx
  refine ⟨"str", _, F.slot_str_getitem.lookup, typeIs_str _ _ _, ?_⟩
  obtain ⟨l, el, ml⟩ : ∃ l : Option (Int × Tok), vl = partValue l ∧ l.map (·.1) = lo := by
    cases pl with
    | none => exact ⟨none, rfl, rfl⟩
    | int i t => exact ⟨some (i, t), rfl, rfl⟩
  obtain ⟨u, eu, mu⟩ : ∃ u : Option (Int × Tok), vu = partValue u ∧ u.map (·.1) = hi := by
    cases pu with
    | none => exact ⟨none, rfl, rfl⟩
    | int i t => exact ⟨some (i, t), rfl, rfl⟩
  subst el eu
  refine wpAny_getItem_str_slice (l := l) (u := u) (st := none) hs rfl ?_
  have hle := cut_le a lo hi
  have ep : slicePicked ⟨a.toArray⟩ l u none = (List.range (HT.sIx a.length a.length hi - HT.sIx a.length 0 lo)).map fun k => HT.sIx a.length 0 lo + k := by
    unfold slicePicked
    rw [ml, mu, tx_len]
    exact idx_run lo hi a.length
  have ec : ((slicePicked ⟨a.toArray⟩ l u none).filterMap (a.toArray[·]?)) = cutL a lo hi := by
    rw [ep]; exact pick_cut a _ _
  unfold sliceMade
  refine post_val_or_str ?_
  have fin : (if ((Option.map (fun x => x.1) (none : Option (Int × Tok))).getD 1 == 1 && (slicePicked ⟨a.toArray⟩ l u none).length == (⟨a.toArray⟩ : Str).length) = true then (⟨a.toArray⟩ : Str) else ⟨((slicePicked ⟨a.toArray⟩ l u none).filterMap (a.toArray[·]?)).toArray⟩) = ⟨(cutL a lo hi).toArray⟩ := by
    rw [ec]
    split
    · rename_i hc
      rw [ep, tx_len] at hc
      simp only [Option.map_none, Option.getD_none, beq_self_eq_true, Bool.true_and, List.length_map, List.length_range, beq_iff_eq] at hc
      have hl : HT.sIx a.length a.length hi ≤ a.length := HT.sIx_le _ _ (Nat.le_refl _) _
      have h0 : HT.sIx a.length 0 lo = 0 ∨ a.length = 0 := by omega
      unfold cutL
      rw [hc]
      rcases h0 with h0 | h0
      · rw [h0, List.drop_zero, List.take_length]
      · have : a = [] := List.length_eq_zero_iff.mp h0
        subst this
        simp
    · rfl
  have fin' := fin
  simp only at fin' ⊢
  rw [fin']
  refine ⟨by rw [tx_len]; omega, fun t' k => ⟨tx (cutL a lo hi), H, I.tok k, ⟨t', rfl⟩, q⟩⟩

/-! ### isinstance -/
theorem call_isi : CallR X (.builtin "isinstance") (fun xs H Q => ∃ x T t b, xs = [x, .ty T] ∧ TyOf X.K H x t ∧ PySem.W.kitOne X.K t (.type T) = some b ∧ Q (.bl b) H) := by
  intro pins s σ H xs us Q I r ⟨x, T, t, b, e, ty, hk, q⟩
  subst e
  obtain ⟨u, w', rfl, ru, rw'⟩ := vals2 r
  cases rw'
  exact isinst_ok I ru ty hk fun tk => ⟨.bl b, H, I.tok tk, rfl, q⟩

/-! ### all of a list of truths -/
theorem call_allL : CallR X (.builtin "all") (fun xs H Q => X.calm = true ∧ ∃ (a : Addr) (bs : List Bool), xs = [.ref a] ∧ SqL X.K H a (bs.map V.bl) ∧ Q (.bl (bs.all id)) H) := by
  intro pins s σ H xs us Q I r ⟨hc, a, bs, e, hq, q⟩
  subst e
  obtain ⟨u, rfl, ru⟩ := vals1 r
  cases ru
  obtain ⟨its, rv, pl, hz⟩ := I.list hq
  obtain ⟨ol, hol, _⟩ := id pl.isList
  have hl : a < s.heap.objs.size := Heap.lt_size hol
  have hlen := rv.length
  rw [List.length_map] at hlen
  refine call_all_walk (wpAny_pyIter_list pl.isList ⟨s.heap.objs.size, _, _, _, _, _, fun i => bs.getD i false, rfl, Walks.list (A := X.A.in1) (I.ok.hd hc) s.heap.objs.size a (Nat.ne_of_lt hl) its.toArray, ⟨⟨_, Heap.get?_push_size _ rfl, rfl, rfl⟩, pl.isList.at fun o e => Heap.get?_push_of_some _ e⟩, ?_, fun h' tk kk => ?_⟩)
  · intro i v s' Q' E' hv hQ'
    have hv' : its[i]? = some v := by simpa using hv
    have hi : i < bs.length := by rw [hlen]; exact (List.getElem?_eq_some_iff.mp hv').1
    obtain ⟨w', e1, e2⟩ := rv.get (i := i) (x := V.bl bs[i]) (by simp [hi])
    rw [hv'] at e1
    cases e1
    cases e2
    have : bs.getD i false = bs[i] := by simp [List.getD_eq_getElem?_getD, hi]
    simp only [this] at hQ'
    exact wpAny_truthy_bool hQ'
  · have e : (List.range its.toArray.size).all (fun i => bs.getD i false) = bs.all id := by
      rw [List.size_toArray, ← hlen]
      rw [Bool.eq_iff_iff]
      simp only [List.all_eq_true, List.mem_range, id]
      constructor
      · intro h b hb
        obtain ⟨i, hi, rfl⟩ := List.mem_iff_getElem.mp hb
        have := h i hi
        simpa [List.getD_eq_getElem?_getD, hi] using this
      · intro h i hi
        have := h bs[i] (List.getElem_mem hi)
        simpa [List.getD_eq_getElem?_getD, hi] using this
    rw [e]
    have I1 : Inv X pins σ H { s with heap := s.heap.push { cls := .type "list_iterator", data := .fields #[.ref a, .int 0 0] } } := I.kept (t' := s.toks) fun b o z => Heap.get?_push_of_some _ z
    refine ⟨.bl (bs.all id), H, I.kept (t' := tk) fun b o z => kk b o (fun y => ?_) (Heap.get?_push_of_some _ z), rfl, q⟩
    exact absurd (Heap.lt_size z) (by rw [List.mem_singleton.mp y]; exact Nat.lt_irrefl _)

/-! ### == and != of lists of flat things -/
def eqVs : List V → List V → Bool
  | [], [] => true
  | x :: xs, y :: ys => eqV x y && eqVs xs ys
  | _, _ => false
theorem eqVs_len : ∀ {xs ys : List V}, xs.length ≠ ys.length → eqVs xs ys = false
  | [], [], h => absurd rfl h
  | [], _ :: _, _ => rfl
  | _ :: _, [], _ => rfl
  | x :: xs, y :: ys, h => by
    have : eqVs xs ys = false := eqVs_len (by simpa using h)
    show (eqV x y && eqVs xs ys) = false
    rw [this, Bool.and_false]
theorem eqVs_range : ∀ (xs ys : List V), xs.length = ys.length → (List.range xs.length).all (fun i => eqV (xs.getD i .non) (ys.getD i .non)) = eqVs xs ys
  | [], [], _ => rfl
  | x :: xs, y :: ys, h => by
    have ih := eqVs_range xs ys (by simpa using h)
    rw [List.length_cons, List.range_succ_eq_map, List.all_cons, List.all_map]
    show (eqV x y && _) = (eqV x y && eqVs xs ys)
    rw [← ih]
    rfl
  | [], _ :: _, h => by simp at h
  | _ :: _, [], h => by simp at h
theorem eqVs_at {A : Around} {s : Shared} {xs ys : List V} {us ws : List Value} (r1 : Vals xs us) (r2 : Vals ys ws) (f1 : xs.all flatV = true) (f2 : ys.all flatV = true) :
    ∀ j (h1 : j < us.toArray.size) (h2 : j < ws.toArray.size), SeqAt.EqAt A s us.toArray[j] ws.toArray[j] (eqV (xs.getD j .non) (ys.getD j .non)) := by
  intro j h1 h2
  have l1 := r1.length
  have l2 := r2.length
  rw [List.size_toArray] at h1 h2
  have k1 : j < xs.length := by omega
  have k2 : j < ys.length := by omega
  obtain ⟨u, e1, q1⟩ := r1.get (i := j) (x := xs[j]) (by simp [k1])
  obtain ⟨w', e2, q2⟩ := r2.get (i := j) (x := ys[j]) (by simp [k2])
  have eu : us.toArray[j] = u := by
    have := List.getElem?_eq_getElem (l := us) (i := j) h1
    rw [e1] at this
    simpa using (Option.some.inj this).symm
  have ew : ws.toArray[j] = w' := by
    have := List.getElem?_eq_getElem (l := ws) (i := j) h2
    rw [e2] at this
    simpa using (Option.some.inj this).symm
  rw [eu, ew]
  have g1 : xs.getD j .non = xs[j] := by simp [List.getD_eq_getElem?_getD, k1]
  have g2 : ys.getD j .non = ys[j] := by simp [List.getD_eq_getElem?_getD, k2]
  rw [g1, g2]
  exact eqAt_V q1 q2 (List.all_eq_true.mp f1 _ (List.getElem_mem k1)) (List.all_eq_true.mp f2 _ (List.getElem_mem k2))
def rEqL (K : PySem.W.Frag) (neg : Bool) : R2 := fun x y H Q => ∃ a b xs ys, x = .ref a ∧ y = .ref b ∧ SqL K H a xs ∧ SqL K H b ys ∧ xs.all flatV = true ∧ ys.all flatV = true ∧ Q (.bl (if neg then !eqVs xs ys else eqVs xs ys)) H
theorem op_eqL (hu : X.A.units < cLine) : OpR X (compareOp .Eq) (rEqL X.K false) := by
  intro pins s σ H x y v u Q I rx ry ⟨a, b, xs, ys, e1, e2, q1, q2, f1, f2, q⟩
  subst e1 e2
  cases rx
  cases ry
  obtain ⟨us, r1, p1, z1⟩ := I.list q1
  obtain ⟨ws, r2, p2, z2⟩ := I.list q2
  have l1 := r1.length
  have l2 := r2.length
  by_cases hl : xs.length = ys.length
  · refine SeqAt.eq_listAt p1.isList p2.isList (by simp; omega) hu (eqVs_at r1 r2 f1 f2) ⟨.bl _, H, I, rfl, ?_⟩
    rw [List.size_toArray, ← l1, eqVs_range xs ys hl]
    exact q
  · refine SeqAt.eq_list_lengthsAt p1.isList p2.isList (by simp; omega) hu ⟨.bl _, H, I, rfl, ?_⟩
    rw [← eqVs_len hl]
    exact q
theorem op_neL (hu : X.A.units < cLine) : OpR X (compareOp .NotEq) (rEqL X.K true) := by
  intro pins s σ H x y v u Q I rx ry ⟨a, b, xs, ys, e1, e2, q1, q2, f1, f2, q⟩
  subst e1 e2
  cases rx
  cases ry
  obtain ⟨us, r1, p1, z1⟩ := I.list q1
  obtain ⟨ws, r2, p2, z2⟩ := I.list q2
  have l1 := r1.length
  have l2 := r2.length
  by_cases hl : xs.length = ys.length
  · refine SeqAt.RcNeAt.lists p1.isList p2.isList (by simp; omega) hu (eqVs_at r1 r2 f1 f2) _ _ _ _ ⟨.bl _, H, I, rfl, ?_⟩
    rw [List.size_toArray, ← l1, eqVs_range xs ys hl]
    exact q
  · refine SeqAt.RcNeAt.lists_lengths p1.isList p2.isList (by simp; omega) hu _ _ _ _ ⟨.bl _, H, I, rfl, ?_⟩
    have : eqVs xs ys = false := eqVs_len hl
    rw [if_pos rfl, this] at q
    exact q
/-- is, is not of truths and of none -/
def litV : V → Bool
  | .non => true
  | .bl _ => true
  | _ => false
theorem op_isB : OpR X (compareOp .Is) (fun x y H Q => litV y = true ∧ Q (.bl (decide (x = y))) H) := by
  intro pins s σ H x y v u Q I rx ry ⟨hl, q⟩
  refine wpAny_is_plain ?_ ⟨.bl _, H, I, ?_, q⟩
  · cases y <;> first
      | (exact absurd hl Bool.false_ne_true)
      | (cases ry; cases x <;> first | (cases rx; rfl) | (obtain ⟨t, rfl⟩ := rx; rfl))
  · cases y <;> first
      | (exact absurd hl Bool.false_ne_true)
      | (cases ry; cases x <;> first | (cases rx; rfl) | (obtain ⟨t, rfl⟩ := rx; rfl) | (cases rx; rename_i b1 _ b2; cases b1 <;> cases b2 <;> rfl) | (cases rx; rename_i b1 b2; cases b1 <;> cases b2 <;> rfl) | (cases rx; rename_i b1 _ b2 _; cases b1 <;> cases b2 <;> rfl))
theorem op_isNotB : OpR X (compareOp .IsNot) (fun x y H Q => litV y = true ∧ Q (.bl (!decide (x = y))) H) := by
  intro pins s σ H x y v u Q I rx ry ⟨hl, q⟩
  refine wpAny_isNot_plain ?_ ⟨.bl _, H, I, ?_, q⟩
  · cases y <;> first
      | (exact absurd hl Bool.false_ne_true)
      | (cases ry; cases x <;> first | (cases rx; rfl) | (obtain ⟨t, rfl⟩ := rx; rfl))
  · cases y <;> first
      | (exact absurd hl Bool.false_ne_true)
      | (cases ry; cases x <;> first | (cases rx; rfl) | (obtain ⟨t, rfl⟩ := rx; rfl) | (cases rx; rename_i b1 _ b2; cases b1 <;> cases b2 <;> rfl) | (cases rx; rename_i b1 b2; cases b1 <;> cases b2 <;> rfl) | (cases rx; rename_i b1 _ b2 _; cases b1 <;> cases b2 <;> rfl))
end
end L2

namespace L2
open PySem PySem.Spec PyProof.Rows
section
variable {X : Cx}
/-! ## the operations, whatever kinds stand there -/
def rPlus : R2 := fun x y H Q => (∃ i j, x = .int i ∧ y = .int j ∧ Q (.int (i + j)) H) ∨ (∃ a b, x = tx a ∧ y = tx b ∧ a.length + b.length ≤ sizeLine ∧ Q (tx (a ++ b)) H) ∨ rCat x y H Q
theorem op_plus : OpR X (binaryOp .Add) rPlus := op_add.or (op_addT.or op_cat)
def rMulT : R2 := fun x y H Q => ∃ a k, x = tx a ∧ y = .int k ∧ 0 ≤ k ∧ k ≤ 1000 ∧ a.length ≤ 1000 ∧ Q (tx (List.replicate k.toNat a).flatten) H
def rTimes : R2 := fun x y H Q => (∃ i j, x = .int i ∧ y = .int j ∧ CMul i j ∧ Q (.int (i * j)) H) ∨ rRep x y H Q ∨ rMulT x y H Q
theorem op_times : OpR X (binaryOp .Mult) rTimes := op_mul.or (op_rep.or op_mulT)
def rEqA (K : PySem.W.Frag) : R2 := fun x y H Q => rEq x y H Q ∨ rEqL K false x y H Q
theorem op_eqA (K : PySem.W.Frag) (hu : X.A.units < cLine) (hK : X.K = K := by rfl) : OpR X (compareOp .Eq) (rEqA K) := by subst hK; exact op_eq.or (op_eqL hu)
def rNeA (K : PySem.W.Frag) : R2 := fun x y H Q => rNe x y H Q ∨ rEqL K true x y H Q
theorem op_neA (K : PySem.W.Frag) (hu : X.A.units < cLine) (hK : X.K = K := by rfl) : OpR X (compareOp .NotEq) (rNeA K) := by subst hK; exact op_ne.or (op_neL hu)
def rInA (K : PySem.W.Frag) : R2 := fun x y H Q => (∃ c l, x = tx [c] ∧ y = tx l ∧ Q (.bl (decide (c ∈ l))) H) ∨ rIn K false x y H Q
theorem op_inA (K : PySem.W.Frag) (hK : X.K = K := by rfl) : OpR X (compareOp .In) (rInA K) := by subst hK; exact op_inT.or op_in_seq
def rNotInA (K : PySem.W.Frag) : R2 := fun x y H Q => (∃ c l, x = tx [c] ∧ y = tx l ∧ Q (.bl (!decide (c ∈ l))) H) ∨ rIn K true x y H Q
theorem op_notinA (K : PySem.W.Frag) (hK : X.K = K := by rfl) : OpR X (compareOp .NotIn) (rNotInA K) := by subst hK; exact op_notinT.or op_notIn_seq
def rIsA : R2 := fun x y H Q => litV y = true ∧ Q (.bl (decide (x = y))) H
theorem op_isA : OpR X (compareOp .Is) rIsA := op_isB
def rIsNotA : R2 := fun x y H Q => litV y = true ∧ Q (.bl (!decide (x = y))) H
theorem op_isnotA : OpR X (compareOp .IsNot) rIsNotA := op_isNotB
def rIxA (K : PySem.W.Frag) : R2 := fun x y H Q => rIxT' x y H Q ∨ rIxL K x y H Q ∨ rIxT K x y H Q
theorem ix_A (K : PySem.W.Frag) (hK : X.K = K := by rfl) : IxR X (rIxA K) := by subst hK; exact ix_T.or (ix_list.or ix_tup)
def rSlA (K : PySem.W.Frag) : V → Option Int → Option Int → Hp → VK → Prop := fun x lo hi H Q => rSlS x lo hi H Q ∨ rSlL K x lo hi H Q
theorem sl_A (K : PySem.W.Frag) (hK : X.K = K := by rfl) : SlR X (rSlA K) := by subst hK; exact sl_T.or sl_list
def rLen (K : PySem.W.Frag) : List V → Hp → VK → Prop := fun xs H Q => (∃ a, xs = [tx a] ∧ a.length ≤ sizeLine ∧ Q (.int a.length) H) ∨ ∃ p ys, xs = [.ref p] ∧ (SqL K H p ys ∨ SqT K H p ys) ∧ Q (.int ys.length) H
theorem call_lenA (K : PySem.W.Frag) (hK : X.K = K := by rfl) : CallR X (.builtin "len") (rLen K) := by subst hK; exact call_lenT.or call_len_seq
def rAll (K : PySem.W.Frag) : List V → Hp → VK → Prop := fun xs H Q => ∃ (a : Addr) (bs : List Bool), xs = [.ref a] ∧ SqL K H a (bs.map V.bl) ∧ Q (.bl (bs.all id)) H
theorem call_allA (K : PySem.W.Frag) (hc : X.calm = true) (hK : X.K = K := by rfl) : CallR X (.builtin "all") (rAll K) := by subst hK; exact fun pins s σ H xs us Q I r h => call_allL pins s σ H xs us Q I r ⟨hc, h⟩
def rIsi (K : PySem.W.Frag) : List V → Hp → VK → Prop := fun xs H Q => ∃ x T t b, xs = [x, .ty T] ∧ TyOf K H x t ∧ PySem.W.kitOne K t (.type T) = some b ∧ Q (.bl b) H
theorem call_isiA (K : PySem.W.Frag) (hK : X.K = K := by rfl) : CallR X (.builtin "isinstance") (rIsi K) := by subst hK; exact call_isi
def rMax : List V → Hp → VK → Prop := fun xs H Q => ∃ i j, xs = [.int i, .int j] ∧ Q (.int (if j > i then j else i)) H
def rMin : List V → Hp → VK → Prop := fun xs H Q => ∃ i j, xs = [.int i, .int j] ∧ Q (.int (if j < i then j else i)) H
theorem call_maxA (hc : X.calm = true) : CallR X (.builtin "max") rMax := call_max2 hc
theorem call_minA (hc : X.calm = true) : CallR X (.builtin "min") rMin := call_min2 hc
def rInt : List V → Hp → VK → Prop := fun xs H Q => (∃ i, xs = [.int i] ∧ Q (.int i) H) ∨ ∃ k, xs = [.bl k] ∧ Q (.int (if k then 1 else 0)) H
theorem call_intA : CallR X (.type "int") rInt := call_int1
def tTru (K : PySem.W.Frag) (ta : TE) : TT := fun σ H Q => ta σ H fun x H' => ∃ k, TruV K x H' k ∧ Q k H'
theorem pt_tru (K : PySem.W.Frag) {a : Expr} {ta : TE} (ha : PE X a ta) (he : ∀ whole, isTrue a X.env whole = (do let v ← whole; standAt a.pos; holding [v] (truthy v)) := by intro _; rfl) (hK : X.K = K := by rfl) : PT X a (tTru K ta) := by subst hK; exact pt_truth ha he

theorem pi_listK (K : PySem.W.Frag) {tg l : Expr} {tl : TE} (hl : PE X l tl) (hK : X.K = K := by rfl) : PI X tg l (iList K tl) := by subst hK; exact pi_list hl
theorem pi_tupK (K : PySem.W.Frag) {tg l : Expr} {tl : TE} (hl : PE X l tl) (hK : X.K = K := by rfl) : PI X tg l (iTup K tl) := by subst hK; exact pi_tup hl
theorem pi_enumLK (K : PySem.W.Frag) {a : Expr} {ta : TA} {p pos : Pos} {elts : List Expr} {k : Nat} {tpos : Pos} (hg : Gl X "enumerate") (hm : X.mg "enumerate" = none) (ha : PA X [a] ta) (hs : starEach [a] X.env = [(false, eval a X.env)] := by rfl) (hK : X.K = K := by rfl) : PI X (.Tuple elts k tpos) (.Call (.Name "enumerate" p) [a] [] pos) (iEnL K ta) := by subst hK; exact pi_enumL hg hm ha hs
theorem pg_tupK (K : PySem.W.Frag) {es : List Expr} {k : Nat} {t : TGs} {n : Nat} {pos : Pos} (hc : X.calm = true) (h : PGs X es t)
    (hn : (assignEach es X.env).length = n := by rfl) (hst : (assignEach es X.env).findIdx? (·.1) = none := by rfl) (hK : X.K = K := by rfl) : PG X (.Tuple es k pos) (gTup K n t) := by subst hK; exact pg_tup hc h hn hst
theorem pe_bm0K (K : PySem.W.Frag) {o : Expr} {to : TE} {name : Str} {apos cpos : Pos} {T id : String} {r : V → List V → Hp → VK → Prop} (pa : PlainAttrs T) (slot : Slot T name id) (hty : typeOf (.builtin id) = pure (.type "method_descriptor")) (hm : MtR X id r) (ho : PE X o to)
    (hbase : attributeBase o name X.env (eval o X.env) = eval o X.env := by rfl) (hline : (apos.endLine == cpos.line) = true := by rfl) (hK : X.K = K := by rfl) : PE X (.Call (.Attribute o name apos) [] [] cpos) (tBM0 K T r to) := by subst hK; exact pe_bm0 pa slot hty hm ho hbase hline
theorem pe_bmK (K : PySem.W.Frag) {o e : Expr} {es : List Expr} {to : TE} {t : TA} {name : Str} {apos cpos : Pos} {T id : String} {r : V → List V → Hp → VK → Prop} (pa : PlainAttrs T) (slot : Slot T name id) (hty : typeOf (.builtin id) = pure (.type "method_descriptor")) (hm : MtR X id r) (ho : PE X o to) (ha : PA X (e :: es) t)
    (hbase : attributeBase o name X.env (eval o X.env) = eval o X.env := by rfl)
    (hfew : ((backTo cpos (starEach (e :: es) X.env)).all (fun x => !x.1) && (backToKw cpos (keywordEach [] X.env)).all (fun x => x.1.isSome)
      && decide ((e :: es).length + ([] : List Keyword).length + (if ([] : List Keyword).isEmpty then 0 else 1) < 30)) = true := by rfl)
    (hline : (apos.endLine == cpos.line) = true := by rfl) (hs : starEach (e :: es) X.env = (false, eval e X.env) :: starEach es X.env := by rfl) (hplain : (backTo cpos (starEach es X.env)).any (·.1) = false := by rfl) (hK : X.K = K := by rfl) :
    PE X (.Call (.Attribute o name apos) (e :: es) [] cpos) (tBM K T r to t) := by subst hK; exact pe_bm pa slot hty hm ho ha hbase hfew hline hs hplain

/-! ## names of the module -/
theorem pe_gl {x : Str} {v : V} {pos : Pos} (h : ∃ u, X.mg x = some u ∧ RelV v u) (hg : Gl X x := by rfl) (hd : (x == ("__debug__" : Str)) = false := by decide) : PE X (.Name x pos) (tC v) := by
  obtain ⟨u, hm, r⟩ := h
  exact pe_glob hg hm r hd
theorem pe_ty {x : Str} {T : String} {pos : Pos} (hm : X.mg x = none) (hv : bootBuiltins x = some (.type T)) (hg : Gl X x := by rfl) (hn : x ≠ "__name__" := by decide) (hd : (x == ("__debug__" : Str)) = false := by decide) : PE X (.Name x pos) (tC (.ty T)) :=
  pe_bltn hg hm hv rfl hn hd

/-- a def of the text, by its promise -/
structure FnU (P : Program) (w : World) (K : PySem.W.Frag) (mg : Str → Option Value) (base : Heap) (k : Nat) (x : Str) (ps : List Str) (sp : Sp) : Prop where
  ex : ∃ f fd, FnOk P w K mg base CX0 k f fd ps sp ∧ mg x = some (.ref f) ∧ PySem.W.keepIn K (.ref f) = true ∧ Binds K fd ps []
theorem FnU.mono {P : Program} {w : World} {K : PySem.W.Frag} {mg : Str → Option Value} {base : Heap} {j k : Nat} {x : Str} {ps : List Str} {sp : Sp} (U : FnU P w K mg base j x ps sp) (h : j ≤ k) : FnU P w K mg base k x ps sp := by
  obtain ⟨f, fd, F, a, b, c⟩ := U.ex
  exact ⟨f, fd, F.mono h, a, b, c⟩
theorem pe_fn {k : Nat} {x : Str} {ps : List Str} {sp : Sp} {e : Expr} {es : List Expr} {t : TA} {p pos : Pos} (U : FnU X.prog X.w X.K X.mg X.base k x ps sp) (hr : Room k X.A) (ha : PA X (e :: es) t) (hg : Gl X x := by rfl)
    (hdb : (x == ("__debug__" : Str)) = false := by decide) (he : starEach (e :: es) X.env = (false, eval e X.env) :: starEach es X.env := by rfl) (hpl : (backTo pos (starEach es X.env)).any (·.1) = false := by rfl) :
    PE X (.Call (.Name x p) (e :: es) [] pos) (tCall sp [] E0 t) := by
  obtain ⟨f, fd, F, hm, hk, hb⟩ := U.ex
  exact pe_call F hr hg hm hk hb .nil pass0 ha hdb he hpl
theorem pe_fn0 {k : Nat} {x : Str} {ps : List Str} {sp : Sp} {p pos : Pos} (U : FnU X.prog X.w X.K X.mg X.base k x ps sp) (hr : Room k X.A) (hg : Gl X x := by rfl)
    (hdb : (x == ("__debug__" : Str)) = false := by decide) : PE X (.Call (.Name x p) [] [] pos) (tCall sp [] E0 tNil) := by
  obtain ⟨f, fd, F, hm, hk, hb⟩ := U.ex
  exact pe_call0 F hr hg hm hk hb .nil pass0 hdb
end

/-! ## steps of a reading -/
section
variable {σ : St} {H : Hp} {Q : VK} {D : Ends} {K : PySem.W.Frag}
theorem s_seq {t u : TS} (h : t { D with nx := u D } σ H) : tSeq t u D σ H := h
theorem s_if {c : TT} {t u : TS} (h : c σ H fun b H1 => if b = true then t D σ H1 else u D σ H1) : tIfS c t u D σ H := h
theorem s_asg {te : TE} {g : TG} (h : te σ H fun x H1 => g x σ H1 D.nx) : tAsg te g D σ H := h
theorem s_aug {i : Nat} {te : TE} {ti : TIp} {x : V} (e : σ[i]? = some (some x)) (h : te σ H fun y H1 => ti x y H1 fun z H2 => D.nx (σ.set i (some z)) H2) : tAug i te ti D σ H := ⟨x, e, h⟩
theorem s_ipI {f : Int → Int → Int} {i j : Int} (h : Q (.int (f i j)) H) : ipI f (.int i) (.int j) H Q := ⟨i, j, rfl, rfl, h⟩
theorem s_ret {te : TE} (h : te σ H D.rt) : tRet te D σ H := h
theorem s_drop {te : TE} (h : te σ H fun _ H1 => D.nx σ H1) : tDrop te D σ H := h
theorem s_next (h : D.nx σ H) : tNext D σ H := h
theorem s_cont (h : D.ct σ H) : tCont D σ H := h
theorem s_break (h : D.bk σ H) : tBreak D σ H := h
theorem s_name {i : Nat} {v : V} {R : St → Hp → Prop} (h : R (σ.set i (some v)) H) : gName i v σ H R := h
theorem s_gnil {R : St → Hp → Prop} (h : R σ H) : gNil [] σ H R := ⟨rfl, h⟩
theorem s_gcons {t : TG} {u : TGs} {v : V} {r : List V} {R : St → Hp → Prop} (h : t v σ H fun σ' H' => u r σ' H' R) : gCons t u (v :: r) σ H R := ⟨v, r, rfl, h⟩
theorem s_gtup {n : Nat} {t : TGs} {a : Addr} {xs : List V} {R : St → Hp → Prop} (hq : SqT K H a xs) (hl : xs.length = n) (h : t xs σ H R) : gTup K n t (.ref a) σ H R := ⟨a, xs, rfl, hq, hl, h⟩
theorem s_gsub {to ti : TE} {t : TSet} {v : V} {R : St → Hp → Prop} (h : to σ H fun o H1 => ti σ H1 fun i H2 => t o i v H2 fun H3 => R σ H3) : gSub to ti t v σ H R := h
theorem s_var {i : Nat} {v : V} (e : σ[i]? = some (some v)) (q : Q v H) : tVar i σ H Q := ⟨v, e, q⟩
theorem s_c {v : V} (q : Q v H) : tC v σ H Q := q
theorem s_op {r : R2} {ta tb : TE} (h : ta σ H fun x H1 => tb σ H1 fun y H2 => r x y H2 Q) : tOp r ta tb σ H Q := h
theorem s_un {r : V → Hp → VK → Prop} {ta : TE} (h : ta σ H fun x H1 => r x H1 Q) : tUn r ta σ H Q := h
theorem s_neg {i : Int} {g : Int → V} (h : Q (g i) H) : rU g (.int i) H Q := ⟨i, rfl, h⟩
theorem s_call {sp : Sp} {dvs : List V} {E : XK} {t : TA} (h : t σ H fun vs H1 => sp (vs ++ dvs) H1 Q E) : tCall sp dvs E t σ H Q := h
theorem s_cons {ta : TE} {tr : TA} {R : List V → Hp → Prop} (h : ta σ H fun x H1 => tr σ H1 fun xs H2 => R (x :: xs) H2) : tCons ta tr σ H R := h
theorem s_nil {R : List V → Hp → Prop} (h : R [] H) : tNil σ H R := h
theorem s_cb {r : List V → Hp → VK → Prop} {t : TA} (h : t σ H fun vs H1 => r vs H1 Q) : tCB r t σ H Q := h
theorem s_lst {t : TA} (h : t σ H fun xs H1 => xs.length ≤ sizeLine ∧ ∀ p, H1 p = none → Q (.ref p) (upd H1 p (.lst xs))) : tLst t σ H Q := h
theorem s_tup {t : TA} (h : t σ H fun xs H1 => xs.length ≤ sizeLine ∧ ∀ p, H1 p = none → Q (.ref p) (upd H1 p (.tup xs))) : tTup t σ H Q := h
theorem s_ifE {t : TT} {ta tb : TE} (h : t σ H fun c H1 => if c = true then ta σ H1 Q else tb σ H1 Q) : tIf t ta tb σ H Q := h
theorem s_and {t u : TT} {R : Bool → Hp → Prop} (h : t σ H fun c H1 => if c = true then u σ H1 R else R false H1) : tAnd t u σ H R := h
theorem s_or {t u : TT} {R : Bool → Hp → Prop} (h : t σ H fun c H1 => if c = true then R true H1 else u σ H1 R) : tOr t u σ H R := h
theorem s_not {t : TT} {R : Bool → Hp → Prop} (h : t σ H fun c H1 => R (!c) H1) : tNot t σ H R := h
theorem s_andV {ta tb : TE} (h : ta σ H fun x H1 => ∃ c, x = .bl c ∧ if c = true then tb σ H1 Q else Q (.bl false) H1) : tAndV ta tb σ H Q := h
theorem s_orV {ta tb : TE} (h : ta σ H fun x H1 => ∃ c, x = .bl c ∧ if c = true then Q (.bl true) H1 else tb σ H1 Q) : tOrV ta tb σ H Q := h
theorem s_notV {ta : TE} (h : ta σ H fun x H1 => ∃ c, x = .bl c ∧ Q (.bl (!c)) H1) : tNotV ta σ H Q := h
theorem s_test {t : TE} {R : Bool → Hp → Prop} (h : t σ H fun x H' => ∃ k, x = .bl k ∧ R k H') : tTest t σ H R := h
theorem s_tru {ta : TE} {R : Bool → Hp → Prop} (h : ta σ H fun x H' => ∃ k, TruV K x H' k ∧ R k H') : tTru K ta σ H R := h
theorem s_chain {r r' : R2} {ta tb tc : TE} (h : ta σ H fun x H1 => tb σ H1 fun y H2 => r x y H2 fun z H3 => ∃ k, z = .bl k ∧ (if k = true then tc σ H3 fun w' H4 => r' y w' H4 Q else Q (.bl false) H3)) : tChain r r' ta tb tc σ H Q := h
theorem s_bl {c : Bool} {R : Bool → Prop} (h : R c) : ∃ k, V.bl c = V.bl k ∧ R k := ⟨c, rfl, h⟩
theorem s_truB {c : Bool} {R : Bool → Prop} (h : R c) : ∃ k, TruV K (.bl c) H k ∧ R k := ⟨c, rfl, h⟩
theorem s_truN {R : Bool → Prop} (h : R false) : ∃ k, TruV K .non H k ∧ R k := ⟨false, rfl, h⟩
theorem s_truI {i : Int} {R : Bool → Prop} (h : R (i != 0)) : ∃ k, TruV K (.int i) H k ∧ R k := ⟨_, rfl, h⟩
theorem s_truT {a : List Nat} {R : Bool → Prop} (hz : a.length ≤ sizeLine) (h : R (!decide (a = []))) : ∃ k, TruV K (tx a) H k ∧ R k := by
  refine ⟨!decide (a = []), ⟨by rw [tx_len]; exact hz, ?_⟩, h⟩
  rw [tx_len]
  cases a with
  | nil => rfl
  | cons c r =>
    have : ((c :: r).length : Int) ≠ 0 := by simp; omega
    rw [decide_eq_false (by simp)]
    exact (bne_iff_ne.mpr this).symm
theorem s_truL {a : Addr} {xs : List V} {R : Bool → Prop} (hq : SqL K H a xs) (h : R (!xs.isEmpty)) : ∃ k, TruV K (.ref a) H k ∧ R k := ⟨_, .inl ⟨xs, hq, rfl⟩, h⟩
theorem s_addI {i j : Int} (h : Q (.int (i + j)) H) : rPlus (.int i) (.int j) H Q := .inl ⟨i, j, rfl, rfl, h⟩
theorem s_addT {a b : List Nat} (hz : a.length + b.length ≤ sizeLine) (h : Q (tx (a ++ b)) H) : rPlus (tx a) (tx b) H Q := .inr (.inl ⟨a, b, rfl, rfl, hz, h⟩)
theorem s_addL {a b : Addr} {xs ys : List V} (h1 : H a = some (.lst xs)) (h2 : H b = some (.lst ys)) (hz : xs.length + ys.length ≤ sizeLine) (h : ∀ p, H p = none → Q (.ref p) (upd H p (.lst (xs ++ ys)))) : rPlus (.ref a) (.ref b) H Q := .inr (.inr ⟨a, b, xs, ys, rfl, rfl, h1, h2, hz, h⟩)
theorem s_subI {g : Int → Int → V} {i j : Int} (h : Q (g i j) H) : rI0 g (.int i) (.int j) H Q := ⟨i, j, rfl, rfl, h⟩
theorem s_rI {C : Int → Int → Prop} {g : Int → Int → V} {i j : Int} (hc : C i j) (h : Q (g i j) H) : rI C g (.int i) (.int j) H Q := ⟨i, j, rfl, rfl, hc, h⟩
theorem s_mulI {i j : Int} (hc : CMul i j) (h : Q (.int (i * j)) H) : rTimes (.int i) (.int j) H Q := .inl ⟨i, j, rfl, rfl, hc, h⟩
theorem s_rep {a : Addr} {k : Int} {xs : List V} (h1 : H a = some (.lst xs)) (h2 : -(2 ^ 63) ≤ k) (h3 : k < 2 ^ 63) (hz : xs.length * k.toNat ≤ sizeLine) (h : ∀ p, H p = none → Q (.ref p) (upd H p (.lst (List.replicate k.toNat xs).flatten))) : rTimes (.ref a) (.int k) H Q := .inr (.inl ⟨a, k, xs, rfl, rfl, h1, h2, h3, hz, h⟩)
theorem s_mulT {a : List Nat} {k : Int} (h0 : 0 ≤ k) (h1 : k ≤ 1000) (hl : a.length ≤ 1000) (h : Q (tx (List.replicate k.toNat a).flatten) H) : rTimes (tx a) (.int k) H Q := .inr (.inr ⟨a, k, rfl, rfl, h0, h1, hl, h⟩)
theorem s_eqS {x y : V} (hs : scal x y = true) (h : Q (.bl (decide (x = y))) H) : rEqA K x y H Q := .inl ⟨hs, h⟩
theorem s_eqI {i j : Int} (h : Q (.bl (decide (i = j))) H) : rEqA K (.int i) (.int j) H Q := .inl ⟨rfl, by rw [show decide (V.int i = V.int j) = decide (i = j) from by rw [dec_int]; exact (Bool.beq_eq_decide_eq i j)]; exact h⟩
theorem s_eqB {i j : Bool} (h : Q (.bl (decide (i = j))) H) : rEqA K (.bl i) (.bl j) H Q := .inl ⟨rfl, by rw [show decide (V.bl i = V.bl j) = decide (i = j) from by rw [dec_bl]; exact (Bool.beq_eq_decide_eq i j)]; exact h⟩
theorem s_eqT {a b : List Nat} (h : Q (.bl (decide (a = b))) H) : rEqA K (tx a) (tx b) H Q := .inl ⟨rfl, by rw [dec_tx]; exact h⟩
theorem s_eqL {a b : Addr} {xs ys : List V} (h1 : SqL K H a xs) (h2 : SqL K H b ys) (f1 : xs.all flatV = true) (f2 : ys.all flatV = true) (h : Q (.bl (eqVs xs ys)) H) : rEqA K (.ref a) (.ref b) H Q := .inr ⟨a, b, xs, ys, rfl, rfl, h1, h2, f1, f2, h⟩
theorem s_neI {i j : Int} (h : Q (.bl (!decide (i = j))) H) : rNeA K (.int i) (.int j) H Q := .inl ⟨rfl, by rw [show decide (V.int i = V.int j) = decide (i = j) from by rw [dec_int]; exact (Bool.beq_eq_decide_eq i j)]; exact h⟩
theorem s_neB {i j : Bool} (h : Q (.bl (!decide (i = j))) H) : rNeA K (.bl i) (.bl j) H Q := .inl ⟨rfl, by rw [show decide (V.bl i = V.bl j) = decide (i = j) from by rw [dec_bl]; exact (Bool.beq_eq_decide_eq i j)]; exact h⟩
theorem s_neT {a b : List Nat} (h : Q (.bl (!decide (a = b))) H) : rNeA K (tx a) (tx b) H Q := .inl ⟨rfl, by rw [dec_tx]; exact h⟩
theorem s_neL {a b : Addr} {xs ys : List V} (h1 : SqL K H a xs) (h2 : SqL K H b ys) (f1 : xs.all flatV = true) (f2 : ys.all flatV = true) (h : Q (.bl (!eqVs xs ys)) H) : rNeA K (.ref a) (.ref b) H Q := .inr ⟨a, b, xs, ys, rfl, rfl, h1, h2, f1, f2, h⟩
theorem s_inT {c : Nat} {l : List Nat} (h : Q (.bl (decide (c ∈ l))) H) : rInA K (tx [c]) (tx l) H Q := .inl ⟨c, l, rfl, rfl, h⟩
theorem s_notinT {c : Nat} {l : List Nat} (h : Q (.bl (!decide (c ∈ l))) H) : rNotInA K (tx [c]) (tx l) H Q := .inl ⟨c, l, rfl, rfl, h⟩
theorem s_inS {x : V} {a : Addr} {xs : List V} (h1 : SqL K H a xs ∨ SqT K H a xs) (f1 : flatV x = true) (f2 : xs.all flatV = true) (h : Q (.bl (inV x xs)) H) : rInA K x (.ref a) H Q := .inr ⟨a, xs, rfl, h1, f1, f2, h⟩
theorem s_notinS {x : V} {a : Addr} {xs : List V} (h1 : SqL K H a xs ∨ SqT K H a xs) (f1 : flatV x = true) (f2 : xs.all flatV = true) (h : Q (.bl (!inV x xs)) H) : rNotInA K x (.ref a) H Q := .inr ⟨a, xs, rfl, h1, f1, f2, h⟩
theorem s_is {x y : V} (hl : litV y = true) (h : Q (.bl (decide (x = y))) H) : rIsA x y H Q := ⟨hl, h⟩
theorem s_ixT {a : List Nat} {i : Int} {c : Nat} (hz : a.length ≤ sizeLine) (he : atI a i = some c) (h : Q (tx [c]) H) : rIxA K (tx a) (.int i) H Q := .inl ⟨a, i, c, rfl, rfl, hz, he, h⟩
theorem s_ixL {p : Addr} {xs : List V} {i : Int} {v : V} (hq : SqL K H p xs) (he : atI xs i = some v) (h : Q v H) : rIxA K (.ref p) (.int i) H Q := .inr (.inl ⟨p, xs, i, v, rfl, rfl, hq, he, h⟩)
theorem s_ixU {p : Addr} {xs : List V} {i : Int} {v : V} (hq : SqT K H p xs) (he : atI xs i = some v) (h : Q v H) : rIxA K (.ref p) (.int i) H Q := .inr (.inr ⟨p, xs, i, v, rfl, rfl, hq, he, h⟩)
theorem s_sl {r : V → Option Int → Option Int → Hp → VK → Prop} {te : TE} {tl th : TO} (h : te σ H fun x H1 => tl σ H1 fun l H2 => th σ H2 fun u H3 => r x l u H3 Q) : tSl r te tl th σ H Q := h
theorem s_nopart {R : Option Int → Hp → Prop} (h : R none H) : tNoPart σ H R := h
theorem s_part {t : TE} {R : Option Int → Hp → Prop} (h : t σ H fun x H1 => ∃ i, x = .int i ∧ R (some i) H1) : tPart t σ H R := h
theorem s_partI {i : Int} {R : Int → Prop} (h : R i) : ∃ j, V.int i = V.int j ∧ R j := ⟨i, rfl, h⟩
theorem s_slT {a : List Nat} {lo hi : Option Int} (hz : a.length ≤ sizeLine) (h : Q (tx (cutL a lo hi)) H) : rSlA K (tx a) lo hi H Q := .inl ⟨a, rfl, hz, h⟩
theorem s_slL {p : Addr} {xs : List V} {lo hi : Option Int} (hq : SqL K H p xs) (h : ∀ r, H r = none → Q (.ref r) (upd H r (.lst (cutV xs lo hi)))) : rSlA K (.ref p) lo hi H Q := .inr ⟨p, xs, rfl, hq, h⟩
theorem s_lenT {a : List Nat} (hz : a.length ≤ sizeLine) (h : Q (.int a.length) H) : rLen K [tx a] H Q := .inl ⟨a, rfl, hz, h⟩
theorem s_lenL {p : Addr} {ys : List V} (hq : SqL K H p ys ∨ SqT K H p ys) (h : Q (.int ys.length) H) : rLen K [.ref p] H Q := .inr ⟨p, ys, rfl, hq, h⟩
theorem s_all {a : Addr} {bs : List Bool} (hq : SqL K H a (bs.map V.bl)) (h : Q (.bl (bs.all id)) H) : rAll K [.ref a] H Q := ⟨a, bs, rfl, hq, h⟩
theorem s_isi {x : V} {T : String} {t : Value} {b : Bool} (ty : TyOf K H x t) (e : PySem.W.kitOne K t (.type T) = some b) (h : Q (.bl b) H) : rIsi K [x, .ty T] H Q := ⟨x, T, t, b, rfl, ty, e, h⟩
theorem s_max {i j : Int} (h : Q (.int (if j > i then j else i)) H) : rMax [.int i, .int j] H Q := ⟨i, j, rfl, h⟩
theorem s_min {i j : Int} (h : Q (.int (if j < i then j else i)) H) : rMin [.int i, .int j] H Q := ⟨i, j, rfl, h⟩
theorem s_intB {k : Bool} (h : Q (.int (if k then 1 else 0)) H) : rInt [.bl k] H Q := .inr ⟨k, rfl, h⟩
theorem s_intI {k : Int} (h : Q (.int k) H) : rInt [.int k] H Q := .inl ⟨k, rfl, h⟩
theorem s_bm {T : String} {r : V → List V → Hp → VK → Prop} {to : TE} {t : TA} (h : to σ H fun x H1 => tyV K T x H1 ∧ t σ H1 fun xs H2 => r x xs H2 Q) : tBM K T r to t σ H Q := h
theorem s_bm0 {T : String} {r : V → List V → Hp → VK → Prop} {to : TE} (h : to σ H fun x H1 => tyV K T x H1 ∧ r x [] H1 Q) : tBM0 K T r to σ H Q := h
end

/-! ## loops -/
section
variable {g : TG} {tb : TS} {D : Ends} {σ : St} {H : Hp}
/-- what tFor wants of an iterator J -/
def ForW (J : It) (g : TG) (tb : TS) (D : Ends) (σ : St) (H : Hp) : Prop := ∃ W : Nat → Nat → St → Hp → Prop, (∃ m, W 0 m σ H) ∧ ∀ i m σ H, W i m σ H →
  (J.stop i H ∧ D.nx σ H) ∨ (J.go i H ∧ ∃ N : St → Hp → Prop, (∀ σ' H', N σ' H' → ∃ m', m' < m ∧ W (i + 1) m' σ' H') ∧ ∀ x H', J.yld i H x H' → g x σ H' fun σ2 H2 => tb { D with nx := N, ct := N, bk := D.nx } σ2 H2)
theorem s_for {wi : TI} (h : wi σ H fun J H1 => ForW J g tb D σ H1) : tFor wi g tb D σ H := h
theorem s_irng1 {ta : TA} {R : It → Hp → Prop} (h : ta σ H fun vs H1 => ∃ j : Int, vs = [.int j] ∧ -(2 ^ 62) ≤ j ∧ j < 2 ^ 62 ∧ R (Itr 0 j.toNat) H1) : iRng1 ta σ H R := h
theorem s_irng2 {ta : TA} {R : It → Hp → Prop} (h : ta σ H fun vs H1 => ∃ i j : Int, vs = [.int i, .int j] ∧ (-(2 ^ 62) ≤ i ∧ i < 2 ^ 62 ∧ -(2 ^ 62) ≤ j ∧ j < 2 ^ 62) ∧ R (Itr i (j - i).toNat) H1) : iRng2 ta σ H R := h
theorem s_ilist {K : PySem.W.Frag} {tl : TE} {R : It → Hp → Prop} (h : tl σ H fun x H1 => ∃ a, x = .ref a ∧ (∃ xs, SqL K H1 a xs) ∧ R (Itl K a) H1) : iList K tl σ H R := h
theorem s_istr {tl : TE} {R : It → Hp → Prop} (h : tl σ H fun x H1 => ∃ z, x = .str z ∧ R (Its z) H1) : iStr tl σ H R := h
theorem s_istrT {a : List Nat} {R : Str → Prop} (h : R ⟨a.toArray⟩) : ∃ z, tx a = .str z ∧ R z := ⟨_, rfl, h⟩
theorem s_ienS {ta : TA} {R : It → Hp → Prop} (h : ta σ H fun vs H1 => ∃ z, vs = [.str z] ∧ R (IteS z) H1) : iEnS ta σ H R := h
theorem s_ienST {a : List Nat} {R : Str → Prop} (h : R ⟨a.toArray⟩) : ∃ z, [tx a] = [.str z] ∧ R z := ⟨_, rfl, h⟩
theorem s_ienL {K : PySem.W.Frag} {ta : TA} {R : It → Hp → Prop} (h : ta σ H fun vs H1 => ∃ a, vs = [.ref a] ∧ (∃ xs, SqL K H1 a xs) ∧ R (IteL K a) H1) : iEnL K ta σ H R := h
theorem for_rng {lo : Int} {n : Nat} (Pv : Nat → St → Hp → Prop) (h0 : Pv 0 σ H)
    (hs : ∀ i σ H, i < n → Pv i σ H → g (.int (lo + i)) σ H fun σ2 H2 => tb { D with nx := Pv (i + 1), ct := Pv (i + 1), bk := D.nx } σ2 H2) (hd : ∀ σ H, Pv n σ H → D.nx σ H) : ForW (Itr lo n) g tb D σ H := for_range Pv h0 hs hd
theorem for_lst {K : PySem.W.Frag} {a : Addr} {xs : List V} (Pv : Nat → St → Hp → Prop) (h0 : Pv 0 σ H) (hl : ∀ i σ H, i ≤ xs.length → Pv i σ H → SqL K H a xs)
    (hs : ∀ i x σ H, xs[i]? = some x → Pv i σ H → g x σ H fun σ2 H2 => tb { D with nx := Pv (i + 1), ct := Pv (i + 1), bk := D.nx } σ2 H2) (hd : ∀ σ H, Pv xs.length σ H → D.nx σ H) : ForW (Itl K a) g tb D σ H := for_list Pv h0 hl hs hd
theorem for_of {J : It} {n : Nat} (Pv : Nat → St → Hp → Prop) (h0 : Pv 0 σ H) (hgo : ∀ i σ H, i < n → Pv i σ H → J.go i H) (hst : ∀ σ H, Pv n σ H → J.stop n H)
    (hs : ∀ i x σ H H', i < n → Pv i σ H → J.yld i H x H' → g x σ H' fun σ2 H2 => tb { D with nx := Pv (i + 1), ct := Pv (i + 1), bk := D.nx } σ2 H2) (hd : ∀ σ H, Pv n σ H → D.nx σ H) : ForW J g tb D σ H := by
  refine ⟨fun i m σ H => m = n - i ∧ i ≤ n ∧ Pv i σ H, ⟨n, by simp, Nat.zero_le _, h0⟩, ?_⟩
  rintro i m σ H ⟨rfl, hi, p⟩
  by_cases hlt : i < n
  · exact .inr ⟨hgo i σ H hlt p, Pv (i + 1), fun σ' H' p' => ⟨n - (i + 1), by omega, rfl, hlt, p'⟩, fun x H' y => hs i x σ H H' hlt p y⟩
  · have e : i = n := by omega
    subst e
    exact .inl ⟨hst σ H p, hd σ H p⟩
theorem for_str {a : List Nat} (Pv : Nat → St → Hp → Prop) (h0 : Pv 0 σ H)
    (hs : ∀ i c σ H, a[i]? = some c → Pv i σ H → g (tx [c]) σ H fun σ2 H2 => tb { D with nx := Pv (i + 1), ct := Pv (i + 1), bk := D.nx } σ2 H2) (hd : ∀ σ H, Pv a.length σ H → D.nx σ H) : ForW (Its ⟨a.toArray⟩) g tb D σ H := by
  refine for_of (n := a.length) Pv h0 (fun i σ H hi _ => by simpa [Its] using hi) (fun σ H _ => by simp [Its]) (fun i x σ H H' hi p y => ?_) hd
  obtain ⟨rfl, c, e, rfl⟩ := y
  exact hs i c σ H' (by simpa using e) p
theorem for_enS {a : List Nat} (Pv : Nat → St → Hp → Prop) (h0 : Pv 0 σ H)
    (hs : ∀ i c σ H T, a[i]? = some c → H T = none → Pv i σ H → g (.ref T) σ (upd H T (.tup [.int i, tx [c]])) fun σ2 H2 => tb { D with nx := Pv (i + 1), ct := Pv (i + 1), bk := D.nx } σ2 H2) (hd : ∀ σ H, Pv a.length σ H → D.nx σ H) : ForW (IteS ⟨a.toArray⟩) g tb D σ H := by
  refine for_of (n := a.length) Pv h0 (fun i σ H hi _ => by simpa [IteS] using hi) (fun σ H _ => by simp [IteS]) (fun i x σ H H' hi p y => ?_) hd
  obtain ⟨T, c, hT, e, rfl, rfl⟩ := y
  exact hs i c σ H T (by simpa using e) hT p
theorem for_enL {K : PySem.W.Frag} {a : Addr} {xs : List V} (Pv : Nat → St → Hp → Prop) (h0 : Pv 0 σ H) (hl : ∀ i σ H, i ≤ xs.length → Pv i σ H → SqL K H a xs)
    (hs : ∀ i x σ H T, xs[i]? = some x → H T = none → Pv i σ H → g (.ref T) σ (upd H T (.tup [.int i, x])) fun σ2 H2 => tb { D with nx := Pv (i + 1), ct := Pv (i + 1), bk := D.nx } σ2 H2) (hd : ∀ σ H, Pv xs.length σ H → D.nx σ H) : ForW (IteL K a) g tb D σ H := by
  refine for_of (n := xs.length) Pv h0 (fun i σ H hi p => ⟨xs, xs[i], hl i σ H (Nat.le_of_lt hi) p, by simp [hi]⟩) (fun σ H p => ⟨xs, hl _ σ H (Nat.le_refl _) p, rfl⟩) (fun i x σ H H' hi p y => ?_) hd
  obtain ⟨T, z, hT, e, rfl, rfl⟩ := y
  exact hs i z σ H T (e xs (hl i σ H (Nat.le_of_lt hi) p)) hT p

/-- a comprehension's turns: what was made so far stands at D -/
def CW (D : Addr) (n : Nat) (Pv : Nat → List V → Hp → Prop) (i m : Nat) (H : Hp) : Prop := m = n - i ∧ i ≤ n ∧ ∃ ys, H D = some (.lst ys) ∧ ys.length ≤ i ∧ Pv i ys H
def CompW (J : It) (own : List Str) (sel : List Nat) (σ : St) (g : TG) (tt : TT) (te : TE) (Q : VK) (H1 : Hp) : Prop := ∀ D, H1 D = none →
  ∃ W : Nat → Nat → Hp → Prop, (∃ m, W 0 m (upd H1 D (.lst []))) ∧ ∀ i m H2, W i m H2 →
    (J.stop i H2 ∧ Q (.ref D) H2) ∨ (J.go i H2 ∧ ∀ x H3, J.yld i H2 x H3 → g x (inSt own sel σ) H3 fun σ4 H4 => tt σ4 H4 fun b H5 =>
      if b = true then te σ4 H5 fun v H6 => ∃ ys, H6 D = some (.lst ys) ∧ ys.length < sizeLine ∧ ∃ m', m' < m ∧ W (i + 1) m' (upd H6 D (.lst (ys ++ [v])))
      else ∃ m', m' < m ∧ W (i + 1) m' H5)
theorem s_comp {own : List Str} {sel : List Nat} {wi : TI} {tt : TT} {te : TE} {Q : VK} (h : wi σ H fun J H1 => CompW J own sel σ g tt te Q H1) : tComp own sel wi g tt te σ H Q := h
theorem comp_of {J : It} {n : Nat} {own : List Str} {sel : List Nat} {tt : TT} {te : TE} {Q : VK} {H1 : Hp} (Pv : Addr → Nat → List V → Hp → Prop) (h0 : ∀ D, H1 D = none → Pv D 0 [] (upd H1 D (.lst [])))
    (hgo : ∀ D i ys H, H1 D = none → i < n → H D = some (.lst ys) → Pv D i ys H → J.go i H) (hst : ∀ D ys H, H1 D = none → H D = some (.lst ys) → ys.length ≤ n → Pv D n ys H → J.stop n H ∧ Q (.ref D) H)
    (hs : ∀ D i ys H x H3, H1 D = none → i < n → H D = some (.lst ys) → ys.length ≤ i → Pv D i ys H → J.yld i H x H3 → g x (inSt own sel σ) H3 fun σ4 H4 => tt σ4 H4 fun b H5 =>
      if b = true then te σ4 H5 fun v H6 => ∃ ys, H6 D = some (.lst ys) ∧ ys.length < sizeLine ∧ ∃ m', m' < n - i ∧ CW D n (Pv D) (i + 1) m' (upd H6 D (.lst (ys ++ [v])))
      else ∃ m', m' < n - i ∧ CW D n (Pv D) (i + 1) m' H5) : CompW J own sel σ g tt te Q H1 := by
  intro D hD
  refine ⟨CW D n (Pv D), ⟨n, by simp, Nat.zero_le _, [], upd_same, Nat.le_refl _, h0 D hD⟩, ?_⟩
  rintro i m H2 ⟨rfl, hi, ys, hy, hl, p⟩
  by_cases hlt : i < n
  · exact .inr ⟨hgo D i ys H2 hD hlt hy p, fun x H3 y => hs D i ys H2 x H3 hD hlt hy hl p y⟩
  · have e : i = n := by omega
    subst e
    exact .inl (hst D ys H2 hD hy hl p)
theorem comp_next {D : Addr} {n i : Nat} {Pv : Nat → List V → Hp → Prop} {ys : List V} {v : V} {H : Hp} (hi : i < n) (hn : n ≤ sizeLine) (hD : H D = some (.lst ys)) (hl : ys.length ≤ i) (p : Pv (i + 1) (ys ++ [v]) (upd H D (.lst (ys ++ [v])))) :
    ∃ ys, H D = some (.lst ys) ∧ ys.length < sizeLine ∧ ∃ m', m' < n - i ∧ CW D n Pv (i + 1) m' (upd H D (.lst (ys ++ [v]))) :=
  ⟨ys, hD, by omega, n - (i + 1), by omega, rfl, hi, ys ++ [v], upd_same, by simp; omega, p⟩
theorem comp_skip {D : Addr} {n i : Nat} {Pv : Nat → List V → Hp → Prop} {ys : List V} {H : Hp} (hi : i < n) (hD : H D = some (.lst ys)) (hl : ys.length ≤ i) (p : Pv (i + 1) ys H) :
    ∃ m', m' < n - i ∧ CW D n Pv (i + 1) m' H := ⟨n - (i + 1), by omega, rfl, hi, ys, hD, by omega, p⟩
theorem s_yes {R : Bool → Hp → Prop} (h : R true H) : tYes σ H R := h
end

/-! ## a def's facts -/
theorem small {n : Nat} (h : n ≤ 1000) : n ≤ sizeLine := Nat.le_of_lt (small1000 h)
theorem same_new {H : Hp} {p : Addr} (h : H p = none) (o : HO) : Same H (upd H p o) := fun b u q => by rw [upd_ne (ne_of_none q h)]; exact q
/-- all that was tracked but p -/
def SameBut1 (p : Addr) (H H' : Hp) : Prop := ∀ b o, H b = some o → b ≠ p → H' b = some o
theorem SameBut1.refl (p : Addr) (H : Hp) : SameBut1 p H H := fun _ _ h _ => h
theorem SameBut1.trans {p : Addr} {H H1 H2 : Hp} (a : SameBut1 p H H1) (b : SameBut1 p H1 H2) : SameBut1 p H H2 := fun c o h n => b c o (a c o h n) n
theorem SameBut1.of {p : Addr} {H H' : Hp} (a : Same H H') : SameBut1 p H H' := fun c o h _ => a c o h
theorem SameBut1.upd {p : Addr} {H : Hp} {o : HO} : SameBut1 p H (upd H p o) := fun c u h n => by rw [upd_ne n]; exact h
end L2

namespace L2
open PySem PySem.Spec PyProof.Rows
/-! ## scopes of blocks, checked by the kernel -/
def compOkB (osc : Scope) (N : List Str) (own : List Str) (sel : List Nat) (scope : Scope) : Bool :=
  (scope.kind == .function) && scope.names.all (fun y => y.2 != .cell) && scope.names.all (fun y => y.2 != .local || scope.names.lookup y.1 == some .local) &&
  scope.names.all (fun y => y.2 != .free || osc.names.lookup y.1 == some .cell || osc.names.lookup y.1 == some .free) &&
  sel.all (fun j => decide (j < N.length) && scope.names.lookup (N.getD j Str.empty) == some .free && (osc.names.lookup (N.getD j Str.empty) == some .cell || osc.names.lookup (N.getD j Str.empty) == some .free))
theorem compOk_of {osc : Scope} {N : List Str} {own : List Str} {sel : List Nat} {scope : Scope} (h : compOkB osc N own sel scope = true) : CompOk osc N own sel scope := by
  unfold compOkB at h
  simp only [Bool.and_eq_true, List.all_eq_true] at h
  obtain ⟨⟨⟨⟨h1, h2⟩, h3⟩, h4⟩, h5⟩ := h
  refine ⟨by simpa using h1, fun y hy => by simpa using h2 y hy, fun y hy e => ?_, fun y hy e => ?_, fun j hj => ?_⟩
  · have := h3 y hy
    simp only [Bool.or_eq_true, bne_iff_ne, beq_iff_eq] at this
    rcases this with q | q
    · exact absurd e q
    · exact q
  · have := h4 y hy
    simp only [Bool.or_eq_true, bne_iff_ne, beq_iff_eq] at this
    rcases this with (q | q) | q
    · exact absurd e q
    · exact .inl q
    · exact .inr q
  · have := h5 j hj
    simp only [Bool.or_eq_true, beq_iff_eq, decide_eq_true_eq] at this
    exact ⟨this.1.1, this.1.2, this.2⟩

/-- a def that stands at the top -/
structure DefAt (K : PySem.W.Frag) (mg : Str → Option Value) (x : Str) (st : Stmt) (ps : List Str) (f : Addr) (fd : FuncData) : Prop where
  F : Fun K x x st f fd
  m : mg x = some (.ref f)
  b : Binds K fd ps []
theorem DefAt.fnU {P : Program} {w : World} {K : PySem.W.Frag} {mg : Str → Option Value} {base : Heap} {x : Str} {st : Stmt} {ps : List Str} {f : Addr} {fd : FuncData} {k : Nat} {sp : Sp} (d : DefAt K mg x st ps f fd) (ok : FnOk P w K mg base CX0 k f fd ps sp) : FnU P w K mg base k x ps sp :=
  ⟨f, fd, ok, d.m, d.F.kp, d.b⟩

/-! ## the pool of draws -/
def PoolAt (H : Hp) (p : Addr) (n : Nat) : Prop := ∃ a b c : Int, H p = some (.lst [.int a, .int b, .int c]) ∧ 0 ≤ c ∧ c ≤ n
theorem PoolAt.mono {H : Hp} {p : Addr} {n m : Nat} (h : PoolAt H p n) (hm : n ≤ m) : PoolAt H p m := by
  obtain ⟨a, b, c, e, h1, h2⟩ := h
  exact ⟨a, b, c, e, h1, by omega⟩
theorem PoolAt.same {H H' : Hp} {p : Addr} {n : Nat} (h : PoolAt H p n) (s : Same H H') : PoolAt H' p n := by
  obtain ⟨a, b, c, e, h1, h2⟩ := h
  exact ⟨a, b, c, s _ _ e, h1, h2⟩
theorem PoolAt.ne {H : Hp} {p q : Addr} {n : Nat} (h : PoolAt H p n) (hq : H q = none) : q ≠ p := by
  obtain ⟨a, b, c, e, _⟩ := h
  exact (ne_of_none e hq).symm
def spTake : Sp := fun vs H Q _ => ∃ p n m, vs = [.ref p, .int m] ∧ PoolAt H p n ∧ n ≤ 1000000 ∧ 0 < m ∧ m ≤ 1000000 ∧ ∀ r H', 0 ≤ r → r < m → PoolAt H' p (n + 1) → SameBut1 p H H' → Q (.int r) H'
def spPool (K : PySem.W.Frag) : Sp := fun vs H Q _ => ∃ (a : Addr) (ns : List Int) (k : Int), vs = [.ref a, .int k] ∧ SqL K H a (ns.map V.int) ∧ ns.length ≤ 63 ∧ 0 ≤ k ∧ k ≤ 63 ∧ ∀ p H', H p = none → Same H H' → PoolAt H' p 4599 → Q (.ref p) H'
theorem atI_0 {α : Type} (x : α) (r : List α) : atI (x :: r) 0 = some x := by simp [atI, ixN]
theorem ix3_0 {α : Type} (x y z : α) : atI [x, y, z] 0 = some x := rfl
theorem ix3_1 {α : Type} (x y z : α) : atI [x, y, z] 1 = some y := rfl
theorem ix3_2 {α : Type} (x y z : α) : atI [x, y, z] 2 = some z := rfl
theorem s_setL {p : Addr} {xs : List V} {k : Int} {j : Nat} {v : V} {H : Hp} {R : Hp → Prop} (h : H p = some (.lst xs)) (e : ixN xs.length k = some j) (q : R (upd H p (.lst (xs.set j v)))) : rSetL (.ref p) (.int k) v H R := ⟨p, xs, k, j, rfl, rfl, h, e, q⟩
/-- while, by a word and a measure -/
def WN (Pv : St → Hp → Prop) (μ : St → Hp → Nat) (m : Nat) : St → Hp → Prop := fun σ' H' => Pv σ' H' ∧ μ σ' H' < m
theorem while_of {c : TT} {tb : TS} {D : Ends} {σ : St} {H : Hp} (Pv : St → Hp → Prop) (μ : St → Hp → Nat) (h0 : Pv σ H)
    (hs : ∀ σ H, Pv σ H → c σ H fun b H1 => if b = true then ∃ N : St → Hp → Prop, (∀ σ' H', N σ' H' → ∃ m', m' < μ σ H ∧ (m' = μ σ' H' ∧ Pv σ' H')) ∧ tb { D with nx := N, ct := N, bk := D.nx } σ H1 else D.nx σ H1) : tWhile c tb D σ H :=
  ⟨fun m σ H => m = μ σ H ∧ Pv σ H, ⟨_, rfl, h0⟩, fun m σ H ⟨e, p⟩ => by subst e; exact hs σ H p⟩
theorem wh_body {tb : TS} {D : Ends} {σ : St} {H1 : Hp} {Pv : St → Hp → Prop} {μ : St → Hp → Nat} {m : Nat} (h : tb { D with nx := WN Pv μ m, ct := WN Pv μ m, bk := D.nx } σ H1) :
    ∃ N : St → Hp → Prop, (∀ σ' H', N σ' H' → ∃ m', m' < m ∧ (m' = μ σ' H' ∧ Pv σ' H')) ∧ tb { D with nx := N, ct := N, bk := D.nx } σ H1 :=
  ⟨WN Pv μ m, fun σ' H' ⟨p, l⟩ => ⟨_, l, rfl, p⟩, h⟩
theorem or_tests {t u : TT} {σ : St} {H : Hp} {R : Bool → Hp → Prop} {c d : Bool} (ht : ∀ R : Bool → Hp → Prop, R c H → t σ H R) (hu : ∀ R : Bool → Hp → Prop, R d H → u σ H R) (h : R (c || d) H) : tOr t u σ H R := by
  refine ht _ ?_
  cases c with
  | true => rw [if_pos rfl]; exact h
  | false => rw [if_neg Bool.false_ne_true]; exact hu _ h
theorem and_tests {t u : TT} {σ : St} {H : Hp} {R : Bool → Hp → Prop} {c d : Bool} (ht : ∀ R : Bool → Hp → Prop, R c H → t σ H R) (hu : ∀ R : Bool → Hp → Prop, R d H → u σ H R) (h : R (c && d) H) : tAnd t u σ H R := by
  refine ht _ ?_
  cases c with
  | true => rw [if_pos rfl]; exact hu _ h
  | false => rw [if_neg Bool.false_ne_true]; exact h
/-! ## a written tuple of the module -/
theorem rel_of_abs {u : Value} {x : V} (h : absV u = some x) : RelV x u := by
  cases u <;> first
    | (cases h; rfl)
    | (cases h; exact ⟨_, rfl⟩)
    | (exact absurd h (by intro z; cases z))
def tupIs (its : Array Value) (xs : List V) : Bool := decide (its.toList.map absV = xs.map some)
theorem vals_of_abs : ∀ {xs : List V} {us : List Value}, us.map absV = xs.map some → Vals xs us
  | [], [], _ => .nil
  | x :: xs, u :: us, h => by
    rw [List.map_cons, List.map_cons] at h
    injection h with h1 h2
    exact .cons (rel_of_abs h1) (vals_of_abs h2)
  | [], _ :: _, h => by cases h
  | _ :: _, [], h => by cases h
theorem tupIs_vals {its : Array Value} {xs : List V} (h : tupIs its xs = true) : Vals xs its.toList := vals_of_abs (of_decide_eq_true h)
theorem tupIs_size {its : Array Value} {xs : List V} (h : tupIs its xs = true) (hx : xs.length ≤ 1000) : its.size ≤ sizeLine := by
  have e := (tupIs_vals h).length
  have e2 : its.toList.length = its.size := by simp
  exact Nat.le_of_lt (small1000 (by omega))
theorem s_isnot {x y : V} {H : Hp} {Q : VK} (hl : litV y = true) (h : Q (.bl (!decide (x = y))) H) : rIsNotA x y H Q := ⟨hl, h⟩
theorem ifd {c A B : Prop} [Decidable c] (h1 : c → A) (h2 : ¬ c → B) : if decide c = true then A else B := by
  by_cases h : c
  · rw [if_pos (decide_eq_true h)]; exact h1 h
  · rw [if_neg (by rw [decide_eq_false h]; exact Bool.false_ne_true)]; exact h2 h
theorem ifn {c A B : Prop} [Decidable c] (h1 : ¬ c → A) (h2 : c → B) : if (!decide c) = true then A else B := by
  by_cases h : c
  · rw [if_neg (by rw [decide_eq_true h]; exact Bool.false_ne_true)]; exact h2 h
  · rw [if_pos (by rw [decide_eq_false h]; rfl)]; exact h1 h
theorem ifp {c : Bool} {A B : Prop} (hc : c = true) (h : A) : if c = true then A else B := by rw [if_pos hc]; exact h
theorem ifq {c : Bool} {A B : Prop} (hc : c = false) (h : B) : if c = true then A else B := by rw [if_neg (by rw [hc]; exact Bool.false_ne_true)]; exact h
theorem atI_ints {ns : List Int} {k : Int} (h0 : 0 ≤ k) (h : k < (ns.length : Int)) : ∃ v : Int, atI (ns.map V.int) k = some (.int v) := by
  have hk : k.toNat < ns.length := by omega
  have ek : k = ((k.toNat : Nat) : Int) := by omega
  have q : atI (ns.map V.int) ((k.toNat : Nat) : Int) = some (.int ns[k.toNat]) := atI_nat (by rw [List.getElem?_map, List.getElem?_eq_getElem hk]; rfl)
  rw [← ek] at q
  exact ⟨_, q⟩
theorem pool_new {H : Hp} {p : Addr} {a b c : Int} {n : Nat} (h0 : 0 ≤ c) (h : c ≤ n) : PoolAt (upd H p (.lst [.int a, .int b, .int c])) p n := ⟨a, b, c, upd_same, h0, h⟩
end L2

namespace BrM
open L2
/-! ## rows of brackets as lists of codes -/
def opn : List Nat := [40, 91, 123, 60]
def cls : List Nat := [41, 93, 125, 62]
def clo (c : Nat) : Nat := if c = 40 then 41 else if c = 91 then 93 else if c = 123 then 125 else 62
def stp (st : List Nat) (c : Nat) : Option (List Nat) :=
  if c ∈ opn then some (clo c :: st) else match st with
    | d :: r => if c = d then some r else none
    | [] => none
def run : List Nat → List Nat → Option (List Nat)
  | st, [] => some st
  | st, c :: r => (stp st c).bind fun s => run s r
theorem run_append (st a b : List Nat) : run st (a ++ b) = (run st a).bind fun s => run s b := by
  induction a generalizing st with
  | nil => rfl
  | cons c r ih =>
    show (stp st c).bind _ = ((stp st c).bind _).bind _
    cases stp st c with
    | none => rfl
    | some s => exact ih s
theorem run_snoc {st a s : List Nat} (h : run st a = some s) (c : Nat) : run st (a ++ [c]) = stp s c := by
  rw [run_append, h]
  show (stp s c).bind (fun s => some s) = stp s c
  cases stp s c <;> rfl
theorem stp_open {c : Nat} (h : c ∈ opn) (st : List Nat) : stp st c = some (clo c :: st) := by unfold stp; rw [if_pos h]
theorem stp_close {d : Nat} (h : d ∉ opn) (r : List Nat) : stp (d :: r) d = some r := by unfold stp; rw [if_neg h]; simp
/-- a right row -/
def Rt (row : List Nat) : Prop := run [] row = some []
/-- the signs of k kinds -/
def kin (k : Int) (c : Nat) : Prop := c ∈ opn.take k.toNat ∨ c ∈ cls.take k.toNat
theorem opn_at {i : Int} {k : Int} (h0 : 0 ≤ i) (h1 : i < k) (hk : k ≤ 4) : ∃ c, atI [40, 91, 123, 60] i = some c ∧ c ∈ opn ∧ c ∈ opn.take k.toNat ∧ atI [41, 93, 125, 62] i = some (clo c) ∧ clo c ∈ cls.take k.toNat ∧ clo c ∉ opn := by
  have : i = 0 ∨ i = 1 ∨ i = 2 ∨ i = 3 := by omega
  have hk' : k = 1 ∨ k = 2 ∨ k = 3 ∨ k = 4 := by omega
  rcases hk' with rfl | rfl | rfl | rfl <;> rcases this with rfl | rfl | rfl | rfl <;> first
    | omega
    | exact ⟨40, by decide⟩
    | exact ⟨91, by decide⟩
    | exact ⟨123, by decide⟩
    | exact ⟨60, by decide⟩
theorem take_use {H : Hp} {p : PySem.Addr} {n : Nat} {m : Int} {Q : VK} {E : XK} (hp : PoolAt H p n) (hn : n ≤ 1000000) (h0 : 0 < m) (h1 : m ≤ 1000000) (q : ∀ r H', 0 ≤ r → r < m → PoolAt H' p (n + 1) → SameBut1 p H H' → Q (.int r) H') :
    spTake ([.ref p, .int m] ++ []) H Q E := ⟨p, n, m, rfl, hp, hn, h0, h1, q⟩
theorem at3 {α : Type} (x y z : α) {i : Int} (h0 : 0 ≤ i) (h1 : i < 3) : ∃ v, atI [x, y, z] i = some v ∧ (v = x ∨ v = y ∨ v = z) := by
  have : i = 0 ∨ i = 1 ∨ i = 2 := by omega
  rcases this with rfl | rfl | rfl
  · exact ⟨x, rfl, .inl rfl⟩
  · exact ⟨y, rfl, .inr (.inl rfl)⟩
  · exact ⟨z, rfl, .inr (.inr rfl)⟩
theorem at4b (x y z u : Bool) {i : Int} (h0 : 0 ≤ i) (h1 : i < 4) : ∃ b, atI [V.bl x, V.bl y, V.bl z, V.bl u] i = some (.bl b) := by
  have : i = 0 ∨ i = 1 ∨ i = 2 ∨ i = 3 := by omega
  rcases this with rfl | rfl | rfl | rfl
  · exact ⟨x, rfl⟩
  · exact ⟨y, rfl⟩
  · exact ⟨z, rfl⟩
  · exact ⟨u, rfl⟩
theorem cut_tail {α : Type} (c : α) (r : List α) : cutL (c :: r) (some 1) none = r := by
  unfold cutL
  have e1 : HT.sIx (c :: r).length 0 (some 1) = 1 := by
    show HT.sIx (r.length + 1) 0 (some ((1 : Nat) : Int)) = 1
    rw [HT.sIx_nat]; omega
  have e2 : HT.sIx (c :: r).length (c :: r).length none = r.length + 1 := rfl
  rw [e1, e2]
  simp
/-- _law_right_row -/
def spRightRow : Sp := fun vs H Q _ => ∃ p n k most, vs = [.ref p, .int k, .int most] ∧ PoolAt H p n ∧ n ≤ 900000 ∧ 1 ≤ k ∧ k ≤ 4 ∧ 0 ≤ most ∧ most ≤ 40 ∧
  ∀ row H', Rt row → (row.length : Int) ≤ most → (∀ c ∈ row, kin k c) → PoolAt H' p (n + 200) → SameBut1 p H H' → Q (tx row) H'
theorem right_use {H : Hp} {p : PySem.Addr} {n : Nat} {k most : Int} {Q : VK} {E : XK} (hp : PoolAt H p n) (hn : n ≤ 900000) (h1 : 1 ≤ k) (h2 : k ≤ 4) (h3 : 0 ≤ most) (h4 : most ≤ 40)
    (q : ∀ row H', Rt row → (row.length : Int) ≤ most → (∀ c ∈ row, kin k c) → PoolAt H' p (n + 200) → SameBut1 p H H' → Q (tx row) H') : spRightRow ([.ref p, .int k, .int most] ++ []) H Q E := ⟨p, n, k, most, rfl, hp, hn, h1, h2, h3, h4, q⟩
end BrM

namespace BrM
open L2
/-! ## heights -/
def sg (c : Nat) : Int := if c ∈ opn then 1 else -1
def hg : List Nat → Int
  | [] => 0
  | c :: r => sg c + hg r
theorem hg_append (a b : List Nat) : hg (a ++ b) = hg a + hg b := by
  induction a with
  | nil => simp [hg]
  | cons c r ih => rw [List.cons_append, hg, hg, ih]; omega
def ht (a : List Nat) (i : Nat) : Int := hg (a.take i)
theorem ht_zero (a : List Nat) : ht a 0 = 0 := rfl
theorem ht_succ {a : List Nat} {i c : Nat} (h : a[i]? = some c) : ht a (i + 1) = ht a i + sg c := by
  unfold ht
  rw [List.take_add_one, h, hg_append]
  show _ = hg _ + sg c
  simp [hg]
theorem stp_len {st s : List Nat} {c : Nat} (h : stp st c = some s) : (s.length : Int) = st.length + sg c := by
  unfold stp at h
  unfold sg
  by_cases hc : c ∈ opn
  · rw [if_pos hc] at h ⊢
    cases h
    simp
  · rw [if_neg hc] at h ⊢
    cases st with
    | nil => cases h
    | cons d r =>
      simp only at h
      split at h
      · cases h; simp; omega
      · cases h
theorem run_len {st a s : List Nat} (h : run st a = some s) : (s.length : Int) = st.length + hg a := by
  induction a generalizing st with
  | nil => cases h; simp [hg]
  | cons c r ih =>
    have h' : (stp st c).bind (fun s => run s r) = some s := h
    cases e : stp st c with
    | none => rw [e] at h'; cases h'
    | some s1 =>
      rw [e] at h'
      have := ih h'
      have := stp_len e
      rw [hg]; omega
theorem run_take {a s : List Nat} (h : run [] a = some s) (i : Nat) : ∃ st, run [] (a.take i) = some st := by
  have e : a = a.take i ++ a.drop i := (List.take_append_drop i a).symm
  rw [e, run_append] at h
  cases q : run [] (a.take i) with
  | none => rw [q] at h; cases h
  | some st => exact ⟨st, rfl⟩
theorem ht_of {a st : List Nat} {i : Nat} (h : run [] (a.take i) = some st) : ht a i = st.length := by
  have := run_len h
  unfold ht; simp at this; omega
theorem ht_nonneg {a : List Nat} (h : Rt a) (i : Nat) : 0 ≤ ht a i := by
  obtain ⟨st, e⟩ := run_take h i
  rw [ht_of e]; omega
theorem ht_end {a : List Nat} (h : Rt a) : ht a a.length = 0 := by
  have : run [] (a.take a.length) = some [] := by rw [List.take_length]; exact h
  rw [ht_of this]; rfl
/-! ## partners -/
/-- the bracket at x is closed by the one at y -/
def Pr (a : List Nat) (x y : Nat) : Prop := x < y ∧ y < a.length ∧ ht a (y + 1) = ht a x ∧ ∀ m, x < m → m ≤ y → ht a x < ht a m
def IsPart (a : List Nat) (xs : List V) : Prop := xs.length = a.length ∧ ∀ k, k < a.length → ∃ p : Nat, xs[k]? = some (.int p) ∧ (Pr a k p ∨ Pr a p k)
theorem pr_fun {a : List Nat} {k p q : Nat} (h : Pr a k p) (h' : Pr a k q) : p = q := by
  obtain ⟨h1, h2, h3, h4⟩ := h
  obtain ⟨g1, g2, g3, g4⟩ := h'
  rcases Nat.lt_trichotomy p q with z | z | z
  · have := g4 (p + 1) (by omega) (by omega); omega
  · exact z
  · have := h4 (q + 1) (by omega) (by omega); omega
theorem pr_inj {a : List Nat} {k p q : Nat} (h : Pr a p k) (h' : Pr a q k) : p = q := by
  obtain ⟨h1, h2, h3, h4⟩ := h
  obtain ⟨g1, g2, g3, g4⟩ := h'
  rcases Nat.lt_trichotomy p q with z | z | z
  · have := h4 q z (by omega); omega
  · exact z
  · have := g4 p z (by omega); omega
theorem pr_not {a : List Nat} {k p q : Nat} (h : Pr a k p) (h' : Pr a q k) : False := by
  obtain ⟨h1, h2, h3, h4⟩ := h
  obtain ⟨g1, g2, g3, g4⟩ := h'
  have := h4 (k + 1) (by omega) (by omega)
  have := g4 k g1 (by omega)
  omega
theorem pr_open {a : List Nat} {k p c : Nat} (h : Pr a k p) (hc : a[k]? = some c) : c ∈ opn := by
  obtain ⟨h1, h2, h3, h4⟩ := h
  have h5 := h4 (k + 1) (by omega) (by omega)
  rw [ht_succ hc] at h5
  unfold sg at h5
  split at h5
  · assumption
  · omega
theorem pr_close {a : List Nat} {k p c : Nat} (h : Pr a p k) (hc : a[k]? = some c) : c ∉ opn := by
  obtain ⟨h1, h2, h3, h4⟩ := h
  have h5 := h4 k h1 (by omega)
  rw [ht_succ hc] at h3
  unfold sg at h3
  intro z
  rw [if_pos z] at h3
  omega
theorem part_uniq {a : List Nat} {xs ys : List V} (h : IsPart a xs) (h' : IsPart a ys) : xs = ys := by
  apply List.ext_getElem?
  intro k
  by_cases hk : k < a.length
  · obtain ⟨p, e, r⟩ := h.2 k hk
    obtain ⟨q, e', r'⟩ := h'.2 k hk
    rw [e, e']
    rcases r with r | r <;> rcases r' with r' | r'
    · rw [pr_fun r r']
    · exact (pr_not r r').elim
    · exact (pr_not r' r).elim
    · rw [pr_inj r r']
  · rw [List.getElem?_eq_none (by have := h.1; omega), List.getElem?_eq_none (by have := h'.1; omega)]
/-! ## the stack of places -/
inductive WS (a : List Nat) (i : Nat) : List Nat → List Nat → Prop where
  | nil : WS a i [] []
  | cons {w c : Nat} {ws st : List Nat} : w < i → a[w]? = some c → c ∈ opn → ht a w = ws.length → (∀ m, w < m → m ≤ i → ht a w < ht a m) → WS a i ws st → WS a i (w :: ws) (clo c :: st)
theorem WS.len {a ws st : List Nat} {i : Nat} (h : WS a i ws st) : ws.length = st.length := by
  induction h with
  | nil => rfl
  | cons _ _ _ _ _ _ ih => simp [ih]
theorem WS.lt {a ws st : List Nat} {i : Nat} (h : WS a i ws st) : ∀ w ∈ ws, w < i := by
  induction h with
  | nil => intro w z; cases z
  | cons h1 _ _ _ _ _ ih =>
    intro w z
    rcases List.mem_cons.mp z with rfl | z
    · exact h1
    · exact ih w z
theorem WS.ext {a ws st : List Nat} {i : Nat} (h : WS a i ws st) (hh : (ws.length : Int) ≤ ht a (i + 1)) : WS a (i + 1) ws st := by
  induction h with
  | nil => exact .nil
  | cons h1 h2 h3 h4 h5 _ ih =>
    simp only [List.length_cons] at hh
    refine .cons (by omega) h2 h3 h4 (fun m hm1 hm2 => ?_) (ih (by omega))
    by_cases e : m = i + 1
    · subst e; omega
    · exact h5 m hm1 (by omega)
structure MI (a : List Nat) (i : Nat) (st ws : List Nat) (xs : List V) : Prop where
  rn : run [] (a.take i) = some st
  wk : WS a i ws st
  len : xs.length = a.length
  don : ∀ k, k < i → k ∈ ws ∨ ∃ p : Nat, xs[k]? = some (.int p) ∧ (Pr a k p ∨ Pr a p k)
theorem MI.start (a : List Nat) {xs : List V} (h : xs.length = a.length) : MI a 0 [] [] xs := ⟨rfl, .nil, h, fun k z => by omega⟩
theorem run_next {a st : List Nat} {i c : Nat} (h : run [] (a.take i) = some st) (hc : a[i]? = some c) : run [] (a.take (i + 1)) = stp st c := by
  rw [List.take_add_one, hc]
  exact run_snoc h c
theorem MI.opens {a st ws : List Nat} {xs : List V} {i c : Nat} (m : MI a i st ws xs) (hc : a[i]? = some c) (ho : c ∈ opn) : MI a (i + 1) (clo c :: st) (i :: ws) xs := by
  have e1 : ht a (i + 1) = ht a i + 1 := by rw [ht_succ hc]; unfold sg; rw [if_pos ho]
  have e2 := ht_of m.rn
  have e3 := m.wk.len
  refine ⟨by rw [run_next m.rn hc, stp_open ho], .cons (by omega) hc ho (by omega) (fun k h1 h2 => ?_) (m.wk.ext (by omega)), m.len, fun k hk => ?_⟩
  · have : k = i + 1 := by omega
    subst this; omega
  · by_cases e : k = i
    · subst e; exact .inl List.mem_cons_self
    · rcases m.don k (by omega) with z | z
      · exact .inl (List.mem_cons_of_mem _ z)
      · exact .inr z
theorem MI.top {a st : List Nat} {w : Nat} {ws : List Nat} {xs : List V} {i : Nat} (m : MI a i st (w :: ws) xs) : ∃ c r, a[w]? = some c ∧ c ∈ opn ∧ st = clo c :: r ∧ w < i := by
  have h := m.wk
  cases h with
  | cons h1 h2 h3 h4 h5 h6 => exact ⟨_, _, h2, h3, rfl, h1⟩
theorem MI.closes {a r : List Nat} {w : Nat} {ws : List Nat} {xs : List V} {i c : Nat} (m : MI a i (c :: r) (w :: ws) xs) (hc : a[i]? = some c) (ho : c ∉ opn) : MI a (i + 1) r ws ((xs.set w (.int i)).set i (.int w)) := by
  have e1 : ht a (i + 1) = ht a i - 1 := by rw [ht_succ hc]; unfold sg; rw [if_neg ho]; omega
  have e2 := ht_of m.rn
  have e3 := m.wk.len
  have hn : i < a.length := (List.getElem?_eq_some_iff.mp hc).1
  have h := m.wk
  cases h with
  | cons h1 h2 h3 h4 h5 h6 =>
    simp only [List.length_cons] at e2 e3
    have hp : Pr a w i := ⟨h1, hn, by omega, h5⟩
    have hlen := m.len
    refine ⟨?_, h6.ext (by omega), by simp [m.len], fun k hk => ?_⟩
    · rw [run_next m.rn hc]
      exact stp_close ho r
    · by_cases ek : k = i
      · subst ek
        exact .inr ⟨w, by simp [hlen, hn], .inr hp⟩
      · by_cases ew : k = w
        · subst ew
          refine .inr ⟨i, ?_, .inl hp⟩
          rw [List.getElem?_set_ne (by omega), List.getElem?_set_self (by omega)]
        · rcases m.don k (by omega) with z | ⟨p, z, q⟩
          · rcases List.mem_cons.mp z with z | z
            · exact absurd z ew
            · exact .inl z
          · exact .inr ⟨p, by rw [List.getElem?_set_ne (by omega), List.getElem?_set_ne (by omega)]; exact z, q⟩
theorem MI.fin {a : List Nat} {ws : List Nat} {xs : List V} (m : MI a a.length [] ws xs) : IsPart a xs := by
  have h := m.wk
  cases h
  refine ⟨m.len, fun k hk => ?_⟩
  rcases m.don k hk with z | z
  · cases z
  · exact z
theorem part_ex {a : List Nat} (h : Rt a) : ∃ xs, IsPart a xs := by
  have go : ∀ i, i ≤ a.length → ∃ st ws xs, MI a i st ws xs := by
    intro i
    induction i with
    | zero => intro _; exact ⟨[], [], List.replicate a.length .non, MI.start a (by simp)⟩
    | succ i ih =>
      intro hi
      obtain ⟨st, ws, xs, m⟩ := ih (by omega)
      have hc : a[i]? = some a[i] := by simp
      by_cases ho : a[i] ∈ opn
      · exact ⟨_, _, _, m.opens hc ho⟩
      · obtain ⟨s', e⟩ := run_take h (i + 1)
        rw [run_next m.rn hc] at e
        unfold stp at e
        rw [if_neg ho] at e
        cases st with
        | nil => cases e
        | cons d r =>
          simp only at e
          split at e
          · rename_i hd
            cases ws with
            | nil => have := m.wk.len; simp at this
            | cons w ws => exact ⟨_, _, _, MI.closes (c := a[i]) (by rw [hd]; exact m) hc ho⟩
          · cases e
  obtain ⟨st, ws, xs, m⟩ := go a.length (Nat.le_refl _)
  have e : st = [] := by
    have := m.rn
    rw [List.take_length] at this
    have h' : run [] a = some [] := h
    rw [h'] at this
    exact (Option.some.inj this).symm
  subst e
  exact ⟨xs, m.fin⟩
theorem part_flat {a : List Nat} {xs : List V} (h : IsPart a xs) : xs.all flatV = true := by
  rw [List.all_eq_true]
  intro x hx
  obtain ⟨k, hk, rfl⟩ := List.mem_iff_getElem.mp hx
  obtain ⟨p, e, _⟩ := h.2 k (by have := h.1; omega)
  rw [List.getElem?_eq_getElem hk] at e
  rw [Option.some.inj e]
  rfl
theorem eqVs_refl : ∀ {xs : List V}, xs.all flatV = true → eqVs xs xs = true
  | [], _ => rfl
  | x :: xs, h => by
    rw [List.all_cons, Bool.and_eq_true] at h
    show (eqV x x && eqVs xs xs) = true
    rw [eqVs_refl h.2, Bool.and_true]
    cases x <;> first | rfl | (exact absurd h.1 Bool.false_ne_true) | exact beq_self_eq_true _
end BrM

namespace BrM
open L2 PySem
/-! ## the promises of bracketrows.lines -/
def plainTy : List String := ["NoneType", "bool", "int", "str", "list", "tuple", "dict"]
def spWhole (K : PySem.W.Frag) : Sp := fun vs H Q _ => ∃ x T, vs = [x] ∧ TyOf K H x (.type T) ∧ T ∈ plainTy ∧ Q (.bl (decide (T = "int"))) H
theorem whole_int {K : PySem.W.Frag} {H : Hp} {i : Int} {Q : VK} {E : XK} (q : Q (.bl true) H) : spWhole K ([.int i] ++ []) H Q E := ⟨.int i, "int", rfl, .int i, by decide, q⟩
def spKinds : Sp := fun vs H Q _ => ∃ k, vs = [.int k] ∧ 1 ≤ k ∧ k ≤ 4 ∧ Q .non H
theorem kinds_use {H : Hp} {k : Int} {Q : VK} {E : XK} (h1 : 1 ≤ k) (h2 : k ≤ 4) (q : Q .non H) : spKinds ([.int k] ++ []) H Q E := ⟨k, rfl, h1, h2, q⟩
def sgn (k : Int) : List Nat := opn.take k.toNat ++ cls.take k.toNat ++ [63]
def isRow (k : Int) (a : List Nat) : Bool := decide (a.length ≤ 40) && a.all fun c => decide (c ∈ sgn k)
def spLine (K : PySem.W.Frag) : Sp := fun vs H Q _ => ∃ k x, vs = [.int k, x] ∧ 1 ≤ k ∧ k ≤ 4 ∧
  ((∃ a, x = tx a ∧ a.length ≤ 1000 ∧ ∀ H', Same H H' → Q (.bl (isRow k a)) H') ∨ (∃ T, TyOf K H x (.type T) ∧ T ∈ plainTy ∧ T ≠ "str" ∧ Q (.bl false) H))
theorem line_use {K : PySem.W.Frag} {H : Hp} {k : Int} {a : List Nat} {Q : VK} {E : XK} (h1 : 1 ≤ k) (h2 : k ≤ 4) (ha : a.length ≤ 1000) (q : ∀ H', Same H H' → Q (.bl (isRow k a)) H') : spLine K ([.int k, tx a] ++ []) H Q E := ⟨k, _, rfl, h1, h2, .inl ⟨a, rfl, ha, q⟩⟩
def spCheckLine : Sp := fun vs H Q _ => ∃ k a, vs = [.int k, tx a] ∧ 1 ≤ k ∧ k ≤ 4 ∧ isRow k a = true ∧ ∀ H', Same H H' → Q .non H'
theorem checkLine_use {H : Hp} {k : Int} {a : List Nat} {Q : VK} {E : XK} (h1 : 1 ≤ k) (h2 : k ≤ 4) (ha : isRow k a = true) (q : ∀ H', Same H H' → Q .non H') : spCheckLine ([.int k, tx a] ++ []) H Q E := ⟨k, a, rfl, h1, h2, ha, q⟩
instance (a : List Nat) : Decidable (Rt a) := by unfold Rt; infer_instance
def spMatched : Sp := fun vs H Q _ => ∃ a, vs = [tx a] ∧ a.length ≤ 40 ∧ (Rt a → ∀ r xs H', H r = none → Same H H' → H' r = some (.lst xs) → IsPart a xs → Q (.ref r) H') ∧ (¬ Rt a → ∀ H', Same H H' → Q .non H')
theorem matched_use {H : Hp} {a : List Nat} {Q : VK} {E : XK} (ha : a.length ≤ 40) (q : Rt a → ∀ r xs H', H r = none → Same H H' → H' r = some (.lst xs) → IsPart a xs → Q (.ref r) H') (q' : ¬ Rt a → ∀ H', Same H H' → Q .non H') : spMatched ([tx a] ++ []) H Q E := ⟨a, rfl, ha, q, q'⟩
def spPartners : Sp := fun vs H Q _ => ∃ k a, vs = [.int k, tx a] ∧ 1 ≤ k ∧ k ≤ 4 ∧ isRow k a = true ∧ Rt a ∧ ∀ r xs H', H r = none → Same H H' → H' r = some (.lst xs) → IsPart a xs → Q (.ref r) H'
theorem partners_use {H : Hp} {k : Int} {a : List Nat} {Q : VK} {E : XK} (h1 : 1 ≤ k) (h2 : k ≤ 4) (ha : isRow k a = true) (hr : Rt a) (q : ∀ r xs H', H r = none → Same H H' → H' r = some (.lst xs) → IsPart a xs → Q (.ref r) H') : spPartners ([.int k, tx a] ++ []) H Q E := ⟨k, a, rfl, h1, h2, ha, hr, q⟩
def spRightP : Sp := fun vs H Q _ => ∃ k a, vs = [.int k, tx a] ∧ 1 ≤ k ∧ k ≤ 4 ∧ isRow k a = true ∧ ∀ H', Same H H' → Q (.bl (decide (Rt a))) H'
theorem rightP_use {H : Hp} {k : Int} {a : List Nat} {Q : VK} {E : XK} (h1 : 1 ≤ k) (h2 : k ≤ 4) (ha : isRow k a = true) (q : ∀ H', Same H H' → Q (.bl (decide (Rt a))) H') : spRightP ([.int k, tx a] ++ []) H Q E := ⟨k, a, rfl, h1, h2, ha, q⟩
def spLaw (K : PySem.W.Frag) : Sp := fun vs H Q _ => ∃ (a : Addr) (ns : List Int), vs = [.ref a] ∧ SqL K H a (ns.map V.int) ∧ ns.length ≤ 63 ∧ ∀ H', Q (.bl true) H'
theorem isRow_len {k : Int} {a : List Nat} (h : isRow k a = true) : a.length ≤ 40 := by
  unfold isRow at h
  simp only [Bool.and_eq_true, decide_eq_true_eq] at h
  exact h.1
theorem mem_take_mono {α : Type} {l : List α} {i j : Nat} (h : i ≤ j) {x : α} (hx : x ∈ l.take i) : x ∈ l.take j := by
  have e : l.take i = (l.take j).take i := by rw [List.take_take, Nat.min_eq_left h]
  rw [e] at hx
  exact List.mem_of_mem_take hx
theorem isRow_of {k kk : Int} {a : List Nat} (hk : kk ≤ k) (hl : a.length ≤ 40) (h : ∀ c ∈ a, kin kk c) : isRow k a = true := by
  unfold isRow
  rw [Bool.and_eq_true]
  refine ⟨decide_eq_true hl, ?_⟩
  rw [List.all_eq_true]
  intro c hc
  refine decide_eq_true ?_
  unfold sgn
  have hn : kk.toNat ≤ k.toNat := by omega
  rcases h c hc with z | z
  · exact List.mem_append_left _ (List.mem_append_left _ (mem_take_mono hn z))
  · exact List.mem_append_left _ (List.mem_append_right _ (mem_take_mono hn z))
theorem cut_to {α : Type} (xs : List α) {k : Int} (h : 0 ≤ k) : cutL xs none (some k) = xs.take k.toNat := by
  unfold cutL
  obtain ⟨n, rfl⟩ : ∃ n : Nat, k = n := ⟨k.toNat, by omega⟩
  rw [HT.sIx_nat, HT.sIx_none, List.drop_zero, Nat.sub_zero, Int.toNat_natCast]
  rcases Nat.le_total n xs.length with z | z
  · rw [Nat.min_eq_left z]
  · rw [Nat.min_eq_right z, List.take_length, List.take_of_length_le z]
theorem kinds_in {c d : Nat} (ho : c ∈ opn) : inV (tx [c, d]) [tx [40, 41], tx [91, 93], tx [123, 125], tx [60, 62]] = decide (d = clo c) := by
  have e : inV (tx [c, d]) [tx [40, 41], tx [91, 93], tx [123, 125], tx [60, 62]] = (decide ([40, 41] = [c, d]) || (decide ([91, 93] = [c, d]) || (decide ([123, 125] = [c, d]) || (decide ([60, 62] = [c, d]) || false)))) := by
    unfold inV
    simp only [List.any_cons, List.any_nil, eqV_tx]
  rw [e]
  have ho' : c = 40 ∨ c = 91 ∨ c = 123 ∨ c = 60 := by simpa [opn] using ho
  rcases ho' with rfl | rfl | rfl | rfl <;> simp [clo, eq_comm]
/-! ## partners as the law finds them -/
def spDue03 : Sp := fun vs H Q _ => ∃ a, vs = [tx a] ∧ Rt a ∧ a.length ≤ 40 ∧ ∀ r xs H', H r = none → Same H H' → H' r = some (.lst xs) → IsPart a xs → Q (.ref r) H'
theorem due03_use {H : Hp} {a : List Nat} {Q : VK} {E : XK} (hr : Rt a) (ha : a.length ≤ 40) (q : ∀ r xs H', H r = none → Same H H' → H' r = some (.lst xs) → IsPart a xs → Q (.ref r) H') : spDue03 ([tx a] ++ []) H Q E := ⟨a, rfl, hr, ha, q⟩
/-- the openings below i, and their partners, stand in xs -/
def DI (a : List Nat) (i : Nat) (xs : List V) : Prop := xs.length = a.length ∧ ∀ x y, x < i → Pr a x y → xs[x]? = some (.int y) ∧ xs[y]? = some (.int x)
theorem DI.start (a : List Nat) {xs : List V} (h : xs.length = a.length) : DI a 0 xs := ⟨h, fun x y z => by omega⟩
theorem DI.skip {a : List Nat} {i c : Nat} {xs : List V} (m : DI a i xs) (hc : a[i]? = some c) (ho : c ∉ opn) : DI a (i + 1) xs := ⟨m.1, fun x y hx h => by
  by_cases e : x = i
  · subst e; exact absurd (pr_open h hc) ho
  · exact m.2 x y (by omega) h⟩
theorem DI.sets {a : List Nat} {i en : Nat} {xs : List V} (m : DI a i xs) (h : Pr a i en) : DI a (i + 1) ((xs.set i (.int en)).set en (.int i)) := by
  have hl := m.1
  have h0 := h
  obtain ⟨h1, h2, _, _⟩ := h0
  refine ⟨by simp [hl], fun x y hx hp => ?_⟩
  by_cases e : x = i
  · subst e
    have : y = en := pr_fun hp h
    subst this
    refine ⟨?_, by rw [List.getElem?_set_self (by simp; omega)]⟩
    rw [List.getElem?_set_ne (by omega), List.getElem?_set_self (by omega)]
  · have ⟨a1, a2⟩ := m.2 x y (by omega) hp
    have n1 : en ≠ x := fun z => by subst z; exact pr_not hp h
    have n2 : en ≠ y := fun z => by subst z; exact e (pr_inj hp h)
    have n3 : i ≠ y := fun z => by subst z; exact pr_not h hp
    constructor
    · rw [List.getElem?_set_ne n1, List.getElem?_set_ne (by omega)]; exact a1
    · rw [List.getElem?_set_ne n2, List.getElem?_set_ne n3]; exact a2
theorem DI.fin {a : List Nat} {xs : List V} (m : DI a a.length xs) (hR : Rt a) : IsPart a xs := by
  obtain ⟨ys, h⟩ := part_ex hR
  refine ⟨m.1, fun k hk => ?_⟩
  obtain ⟨p, _, r⟩ := h.2 k hk
  rcases r with r | r
  · exact ⟨p, (m.2 k p hk r).1, .inl r⟩
  · exact ⟨p, (m.2 p k (by have := r.1; omega) r).2, .inr r⟩
theorem sg_at (c : Nat) : atI [V.int (-1), V.int 1] (if decide (c ∈ [40, 91, 123, 60]) = true then 1 else 0) = some (.int (sg c)) := by
  by_cases z : c ∈ [40, 91, 123, 60]
  · have e : sg c = 1 := if_pos z
    rw [decide_eq_true z, e]; rfl
  · have e : sg c = -1 := if_neg z
    rw [decide_eq_false z, e]; rfl
theorem flat1 {α : Type} (x : α) (n : Nat) : (List.replicate n [x]).flatten = List.replicate n x := by
  induction n with
  | zero => rfl
  | succ n ih => rw [List.replicate_succ, List.flatten_cons, ih]; rfl
/-! ## written rows -/
def prB (a : List Nat) (x y : Nat) : Bool := decide (x < y) && decide (y < a.length) && decide (ht a (y + 1) = ht a x) && (List.range (y + 1)).all fun m => decide (m ≤ x) || decide (ht a x < ht a m)
theorem prB_of {a : List Nat} {x y : Nat} (h : prB a x y = true) : Pr a x y := by
  unfold prB at h
  simp only [Bool.and_eq_true, decide_eq_true_eq, List.all_eq_true, List.mem_range, Bool.or_eq_true] at h
  obtain ⟨⟨⟨h1, h2⟩, h3⟩, h4⟩ := h
  exact ⟨h1, h2, h3, fun m a b => (h4 m (by omega)).resolve_left (by omega)⟩
def partB (a ps : List Nat) : Bool := decide (ps.length = a.length) && (List.range a.length).all fun k => prB a k (ps.getD k 0) || prB a (ps.getD k 0) k
theorem partB_of {a ps : List Nat} (h : partB a ps = true) : IsPart a (ps.map fun (p : Nat) => V.int p) := by
  unfold partB at h
  simp only [Bool.and_eq_true, decide_eq_true_eq, List.all_eq_true, List.mem_range, Bool.or_eq_true] at h
  obtain ⟨h1, h2⟩ := h
  refine ⟨by simp [h1], fun k hk => ⟨ps.getD k 0, ?_, ?_⟩⟩
  · have hk' : k < ps.length := by omega
    rw [List.getElem?_map, List.getElem?_eq_getElem hk', List.getD_eq_getElem?_getD, List.getElem?_eq_getElem hk']
    rfl
  · rcases h2 k hk with z | z
    · exact .inl (prB_of z)
    · exact .inr (prB_of z)
theorem Same.but {H H1 H2 : Hp} {p : Addr} (a : Same H H1) (b : SameBut1 p H1 H2) (h : H p = none) : Same H H2 := fun c o z => b c o (a c o z) (ne_of_none z h)
theorem SameBut1.at {H H1 : Hp} {p b : Addr} {o : HO} (s : SameBut1 p H H1) (h : H b = some o) (n : b ≠ p) : H1 b = some o := s b o h n
theorem same_drop {H H1 : Hp} {a : Addr} {o : HO} (hn : H a = none) (h : Same (upd H a o) H1) : Same H H1 := fun b u q => h b u (by rw [upd_ne (ne_of_none q hn)]; exact q)
end BrM

namespace BrM
open L2 PySem
/-! ## depth and parts -/
def mx (a : List Nat) : Nat → Int
  | 0 => 0
  | i + 1 => if ht a (i + 1) > mx a i then ht a (i + 1) else mx a i
def deep (a : List Nat) : Int := mx a a.length
/-- row[b:e] -/
def piece (a : List Nat) (b e : Nat) : List Nat := cutL a (some (b : Int)) (some (e : Int))
def ct (a : List Nat) : Nat → List (List Nat) × Nat
  | 0 => ([], 0)
  | i + 1 => if ht a (i + 1) = 0 then ((ct a i).1 ++ [piece a (ct a i).2 (i + 1)], i + 1) else ct a i
def pts (a : List Nat) : List (List Nat) := (ct a a.length).1
theorem ct_run {a : List Nat} {s : Nat} : ∀ {e : Nat}, s ≤ e → (∀ m, s < m → m ≤ e → ht a m ≠ 0) → ct a e = ct a s
  | 0, hs, _ => by
    have : s = 0 := by omega
    subst this; rfl
  | e + 1, hs, h => by
    by_cases z : s = e + 1
    · subst z; rfl
    · have := ct_run (e := e) (by omega) fun m a b => h m a (by omega)
      rw [ct, if_neg (h (e + 1) (by omega) (Nat.le_refl _)), this]
theorem ct_next {a : List Nat} {s e : Nat} (hp : Pr a s e) (h0 : ht a s = 0) (hb : (ct a s).2 = s) : ct a (e + 1) = ((ct a s).1 ++ [piece a s (e + 1)], e + 1) := by
  obtain ⟨h1, h2, h3, h4⟩ := hp
  have : ct a e = ct a s := ct_run (by omega) fun m x y => by have := h4 m x y; omega
  rw [ct, if_pos (by omega), this, hb]
theorem ct_le (a : List Nat) : ∀ i, (ct a i).1.length ≤ i
  | 0 => by simp [ct]
  | i + 1 => by
    have := ct_le a i
    rw [ct]; split
    · simp; omega
    · omega
theorem cut_len {α : Type} (a : List α) (lo hi : Option Int) : (cutL a lo hi).length ≤ a.length := cut_le a lo hi
def spDepth : Sp := fun vs H Q _ => ∃ k a, vs = [.int k, tx a] ∧ 1 ≤ k ∧ k ≤ 4 ∧ isRow k a = true ∧ Rt a ∧ ∀ H', Same H H' → Q (.int (deep a)) H'
theorem depth_use {H : Hp} {k : Int} {a : List Nat} {Q : VK} {E : XK} (h1 : 1 ≤ k) (h2 : k ≤ 4) (ha : isRow k a = true) (hr : Rt a) (q : ∀ H', Same H H' → Q (.int (deep a)) H') : spDepth ([.int k, tx a] ++ []) H Q E := ⟨k, a, rfl, h1, h2, ha, hr, q⟩
def spParts : Sp := fun vs H Q _ => ∃ k a, vs = [.int k, tx a] ∧ 1 ≤ k ∧ k ≤ 4 ∧ isRow k a = true ∧ Rt a ∧ ∀ r H', H r = none → Same H H' → H' r = some (.lst ((pts a).map tx)) → Q (.ref r) H'
theorem parts_use {H : Hp} {k : Int} {a : List Nat} {Q : VK} {E : XK} (h1 : 1 ≤ k) (h2 : k ≤ 4) (ha : isRow k a = true) (hr : Rt a) (q : ∀ r H', H r = none → Same H H' → H' r = some (.lst ((pts a).map tx)) → Q (.ref r) H') : spParts ([.int k, tx a] ++ []) H Q E := ⟨k, a, rfl, h1, h2, ha, hr, q⟩
def spDue06 : Sp := fun vs H Q _ => ∃ a, vs = [tx a] ∧ a.length ≤ 40 ∧ ∀ t r H', H t = none → H r = none → Same H H' → H' t = some (.tup [.int (deep a), .ref r]) → H' r = some (.lst ((pts a).map tx)) → Q (.ref t) H'
theorem due06_use {H : Hp} {a : List Nat} {Q : VK} {E : XK} (ha : a.length ≤ 40) (q : ∀ t r H', H t = none → H r = none → Same H H' → H' t = some (.tup [.int (deep a), .ref r]) → H' r = some (.lst ((pts a).map tx)) → Q (.ref t) H') : spDue06 ([tx a] ++ []) H Q E := ⟨a, rfl, ha, q⟩
theorem flat_txs (l : List (List Nat)) : (l.map tx).all flatV = true := by
  rw [List.all_map, List.all_eq_true]; intro _ _; rfl
theorem part_sg {a : List Nat} {xs : List V} (h : IsPart a xs) {i : Nat} (hi : i < a.length) : ∃ p : Nat, xs[i]? = some (.int p) ∧ ht a (i + 1) = ht a i + (if (p : Int) > (i : Int) then 1 else -1) := by
  obtain ⟨p, e, r⟩ := h.2 i hi
  refine ⟨p, e, ?_⟩
  have hc : a[i]? = some a[i] := by simp
  rw [ht_succ hc]
  rcases r with r | r
  · have := r.1
    rw [if_pos (by omega)]
    unfold sg
    rw [if_pos (pr_open r hc)]
  · have := r.1
    rw [if_neg (by omega)]
    unfold sg
    rw [if_neg (pr_close r hc)]
end BrM

namespace BrM
open L2 PySem
/-! ## right rows put together -/
theorem stp_ext {s u : List Nat} {c : Nat} (v : List Nat) (h : stp s c = some u) : stp (s ++ v) c = some (u ++ v) := by
  unfold stp at h ⊢
  by_cases hc : c ∈ opn
  · rw [if_pos hc] at h ⊢
    cases h; rfl
  · rw [if_neg hc] at h ⊢
    cases s with
    | nil => cases h
    | cons d r =>
      simp only [List.cons_append] at h ⊢
      split at h
      · rename_i hd; rw [if_pos hd]; cases h; rfl
      · cases h
theorem run_ext {s t : List Nat} (v : List Nat) : ∀ {M : List Nat}, run s M = some t → run (s ++ v) M = some (t ++ v) := by
  intro M
  induction M generalizing s with
  | nil => intro h; cases h; rfl
  | cons c r ih =>
    intro h
    have h' : (stp s c).bind (fun s => run s r) = some t := h
    show (stp (s ++ v) c).bind (fun s => run s r) = some (t ++ v)
    cases e : stp s c with
    | none => rw [e] at h'; cases h'
    | some u =>
      rw [e] at h'
      rw [stp_ext v e]
      exact ih h'
theorem run_right {M : List Nat} (h : Rt M) (st : List Nat) : run st M = some st := run_ext st h
theorem rt_cat {a b : List Nat} (h1 : Rt a) (h2 : Rt b) : Rt (a ++ b) := by
  unfold Rt; rw [run_append, h1]; exact h2
theorem rt_mid {A O B : List Nat} (h : Rt (A ++ B)) (ho : Rt O) : Rt (A ++ O ++ B) := by
  unfold Rt at h ⊢
  rw [run_append] at h
  rw [run_append, run_append]
  cases e : run [] A with
  | none => rw [e] at h; cases h
  | some st =>
    rw [e] at h
    show ((run st O).bind fun s => run s B) = some []
    rw [run_right ho]
    exact h
theorem rt_pair {o : Nat} {M : List Nat} (ho : o ∈ opn) (hcl : clo o ∉ opn) (h : Rt M) : Rt ([o] ++ M ++ [clo o]) := by
  have : Rt ([o] ++ [clo o]) := by
    unfold Rt
    show (stp [] o).bind _ = _
    rw [stp_open ho]
    show (stp [clo o] (clo o)).bind _ = _
    rw [stp_close hcl]; rfl
  exact rt_mid this h
theorem clo_not {o : Nat} (ho : o ∈ opn) : clo o ∉ opn := by
  have : o = 40 ∨ o = 91 ∨ o = 123 ∨ o = 60 := by simpa [opn] using ho
  rcases this with rfl | rfl | rfl | rfl <;> decide
theorem clo_inj {o p : Nat} (ho : o ∈ opn) (hp : p ∈ opn) (h : clo o = clo p) : o = p := by
  have h1 : o = 40 ∨ o = 91 ∨ o = 123 ∨ o = 60 := by simpa [opn] using ho
  have h2 : p = 40 ∨ p = 91 ∨ p = 123 ∨ p = 60 := by simpa [opn] using hp
  rcases h1 with rfl | rfl | rfl | rfl <;> rcases h2 with rfl | rfl | rfl | rfl <;> first | rfl | (exact absurd h (by decide))
/-! ## what stands between partners -/
theorem run_frame {u : List Nat} : ∀ {M p s' : List Nat}, run (p ++ u) M = some s' → (∀ i, i ≤ M.length → 0 ≤ (p.length : Int) + hg (M.take i)) → ∃ t, run p M = some t ∧ s' = t ++ u
  | [], p, s', h, _ => by cases h; exact ⟨p, rfl, rfl⟩
  | c :: r, p, s', h, hh => by
    have h' : (stp (p ++ u) c).bind (fun s => run s r) = some s' := h
    by_cases hc : c ∈ opn
    · rw [stp_open hc] at h'
      have h2 : run ((clo c :: p) ++ u) r = some s' := h'
      obtain ⟨t, e1, e2⟩ := run_frame h2 fun i hi => by
        have := hh (i + 1) (by simp; omega)
        rw [List.take_succ_cons, hg] at this
        unfold sg at this
        rw [if_pos hc] at this
        simp only [List.length_cons]; omega
      refine ⟨t, ?_, e2⟩
      show (stp p c).bind _ = _
      rw [stp_open hc]; exact e1
    · have h0 := hh 1 (by simp)
      rw [List.take_succ_cons, hg] at h0
      unfold sg at h0
      rw [if_neg hc] at h0
      simp only [List.take_zero, hg] at h0
      cases p with
      | nil => simp at h0
      | cons d p =>
        unfold stp at h'
        rw [if_neg hc] at h'
        simp only [List.cons_append] at h'
        split at h'
        · rename_i hd
          have h2 : run (p ++ u) r = some s' := h'
          obtain ⟨t, e1, e2⟩ := run_frame h2 fun i hi => by
            have := hh (i + 1) (by simp; omega)
            rw [List.take_succ_cons, hg] at this
            unfold sg at this
            rw [if_neg hc] at this
            simp only [List.length_cons] at this; omega
          refine ⟨t, ?_, e2⟩
          show (stp (d :: p) c).bind _ = _
          rw [hd, stp_close (by rw [← hd]; exact hc)]; exact e1
        · cases h'
theorem ht_mid (A O B : List Nat) {i : Nat} (hi : i ≤ O.length) : ht (A ++ O ++ B) (A.length + i) = hg A + ht O i := by
  unfold ht
  rw [List.append_assoc, List.take_append, List.take_of_length_le (by omega), show A.length + i - A.length = i by omega, hg_append, List.take_append, show i - O.length = 0 by omega, List.take_zero, List.append_nil]
/-- the row split at two partners -/
theorem pr_split {a : List Nat} (hR : Rt a) {x y : Nat} (h : Pr a x y) : ∃ A M B o, a = A ++ ([o] ++ M ++ [clo o]) ++ B ∧ A.length = x ∧ M.length = y - x - 1 ∧ o ∈ opn ∧ Rt M ∧ Rt (A ++ B) := by
  obtain ⟨h1, h2, h3, h4⟩ := id h
  have hox : a[x]? = some (a[x]'(by omega)) := by simp
  have hoy : a[y]? = some a[y] := by simp
  have ho := pr_open h hox
  have hc := pr_close h hoy
  obtain ⟨st, e0⟩ := run_take hR x
  have e1 := run_next e0 hox
  rw [stp_open ho] at e1
  -- the stretch within
  have eM : a.take y = a.take (x + 1) ++ (a.drop (x + 1)).take (y - x - 1) := by
    rw [show y = (x + 1) + (y - x - 1) by omega, List.take_add]
    congr 2; omega
  obtain ⟨sy, e2⟩ := run_take hR y
  have e3 := e2
  rw [eM, run_append, e1] at e3
  have e4 : run ([clo (a[x]'(by omega))] ++ st) ((a.drop (x + 1)).take (y - x - 1)) = some sy := e3
  have hM : ((a.drop (x + 1)).take (y - x - 1)).length = y - x - 1 := by rw [List.length_take, List.length_drop]; omega
  have htk : ∀ i, i ≤ y - x - 1 → ht a (x + 1 + i) = ht a (x + 1) + hg (((a.drop (x + 1)).take (y - x - 1)).take i) := fun i hi => by
    unfold ht
    rw [List.take_take, Nat.min_eq_left hi, List.take_add, hg_append]
  have hx1 : ht a (x + 1) = ht a x + 1 := by rw [ht_succ hox]; unfold sg; rw [if_pos ho]
  have e5 : run ([] ++ (clo (a[x]'(by omega)) :: st)) ((a.drop (x + 1)).take (y - x - 1)) = some sy := e4
  obtain ⟨t, f1, f2⟩ := run_frame (p := []) e5 fun i hi => by
    rw [hM] at hi
    have := htk i hi
    have := h4 (x + 1 + i) (by omega) (by omega)
    simp; omega
  have hy1 : ht a (y + 1) = ht a y - 1 := by rw [ht_succ hoy]; unfold sg; rw [if_neg hc]; omega
  have e6 := htk (y - x - 1) (Nat.le_refl _)
  rw [show x + 1 + (y - x - 1) = y by omega, List.take_of_length_le (by omega)] at e6
  have ht0 : t = [] := by
    have := run_len f1
    have : (t.length : Int) = 0 := by simp at this; omega
    exact List.length_eq_zero_iff.mp (by omega)
  subst ht0
  have e7 := run_next e2 hoy
  rw [f2] at e7
  obtain ⟨s9, e9⟩ := run_take hR (y + 1)
  rw [e7] at e9
  have hcy : a[y] = clo (a[x]'(by omega)) ∧ s9 = st := by
    unfold stp at e9
    rw [if_neg hc] at e9
    simp only [List.nil_append] at e9
    split at e9
    · rename_i hd; cases e9; exact ⟨hd, rfl⟩
    · cases e9
  refine ⟨a.take x, (a.drop (x + 1)).take (y - x - 1), a.drop (y + 1), a[x]'(by omega), ?_, by rw [List.length_take]; omega, hM, ho, f1, ?_⟩
  · have q1 : a.take (y + 1) = a.take x ++ ([a[x]'(by omega)] ++ (a.drop (x + 1)).take (y - x - 1) ++ [clo (a[x]'(by omega))]) := by
      have q0 : a.take (x + 1) = a.take x ++ [a[x]'(by omega)] := by rw [List.take_add_one, hox]; rfl
      rw [List.take_add_one, hoy, eM, q0, ← hcy.1]
      simp only [Option.toList_some, List.append_assoc, List.cons_append, List.nil_append]
    rw [← q1, List.take_append_drop]
  · unfold Rt
    rw [run_append, e0]
    show run st (a.drop (y + 1)) = some []
    have hR' : run [] a = some [] := hR
    rw [← List.take_append_drop (y + 1) a, run_append, e7] at hR'
    have e10 : stp ([] ++ clo (a[x]'(by omega)) :: st) a[y] = some st := by rw [e9, hcy.2]
    rw [e10] at hR'
    exact hR'
theorem pr_mid {A O B : List Nat} {x y : Nat} (h : Pr O x y) : Pr (A ++ O ++ B) (A.length + x) (A.length + y) := by
  obtain ⟨h1, h2, h3, h4⟩ := h
  refine ⟨by omega, by simp; omega, ?_, fun m hm1 hm2 => ?_⟩
  · rw [show A.length + y + 1 = A.length + (y + 1) by omega, ht_mid A O B (by omega), ht_mid A O B (by omega), h3]
  · obtain ⟨j, rfl⟩ : ∃ j, m = A.length + j := ⟨m - A.length, by omega⟩
    rw [ht_mid A O B (by omega), ht_mid A O B (by omega)]
    have := h4 j (by omega) (by omega)
    omega
theorem pr_in {a : List Nat} {x y m q : Nat} (h : Pr a x y) (h1 : x < m) (h2 : m < y) (hq : Pr a m q ∨ Pr a q m) : x < q ∧ q < y := by
  obtain ⟨g1, g2, g3, g4⟩ := h
  have gm := g4 m h1 (by omega)
  have gm1 := g4 (m + 1) (by omega) (by omega)
  rcases hq with ⟨k1, k2, k3, k4⟩ | ⟨k1, k2, k3, k4⟩
  · refine ⟨by omega, ?_⟩
    rcases Nat.lt_trichotomy q y with z | z | z
    · exact z
    · subst z; omega
    · have := k4 (y + 1) (by omega) (by omega); omega
  · refine ⟨?_, by omega⟩
    rcases Nat.lt_trichotomy x q with z | z | z
    · exact z
    · subst z; omega
    · have := k4 x z (by omega); omega
/-! ## spoilt rows -/
theorem hg_par : ∀ a : List Nat, (hg a + a.length) % 2 = 0
  | [] => rfl
  | c :: r => by
    have := hg_par r
    rw [hg, List.length_cons]; unfold sg; split <;> omega
theorem rt_even {a : List Nat} (h : Rt a) : a.length % 2 = 0 := by
  have h1 := hg_par a
  have h2 := run_len (show run [] a = some [] from h)
  simp at h2; omega
theorem run_inj {t : List Nat} : ∀ {B s u : List Nat}, run s B = some t → run u B = some t → s = u
  | [], s, u, h1, h2 => by cases h1; cases h2; rfl
  | c :: r, s, u, h1, h2 => by
    have h1' : (stp s c).bind (fun s => run s r) = some t := h1
    have h2' : (stp u c).bind (fun s => run s r) = some t := h2
    cases e1 : stp s c with
    | none => rw [e1] at h1'; cases h1'
    | some s1 =>
      cases e2 : stp u c with
      | none => rw [e2] at h2'; cases h2'
      | some u1 =>
        rw [e1] at h1'; rw [e2] at h2'
        have e : s1 = u1 := run_inj (B := r) h1' h2'
        subst e
        unfold stp at e1 e2
        by_cases hc : c ∈ opn
        · rw [if_pos hc] at e1 e2
          cases e1; injection e2 with e2; injection e2 with _ e2; exact e2.symm
        · rw [if_neg hc] at e1 e2
          cases s with
          | nil => cases e1
          | cons d s =>
            cases u with
            | nil => cases e2
            | cons d' u =>
              simp only at e1 e2
              split at e1
              · split at e2
                · rename_i z1 z2; cases e1; cases e2; rw [← z1, ← z2]
                · cases e2
              · cases e1
theorem rt_change {A B : List Nat} {c c' : Nat} (h : Rt (A ++ [c] ++ B)) (h' : Rt (A ++ [c'] ++ B)) : c = c' := by
  unfold Rt at h h'
  rw [run_append, run_append] at h h'
  cases e : run [] A with
  | none => rw [e] at h; cases h
  | some st =>
    rw [e] at h h'
    have g : ((stp st c).bind fun s => some s).bind (fun s => run s B) = some [] := h
    have g' : ((stp st c').bind fun s => some s).bind (fun s => run s B) = some [] := h'
    cases e1 : stp st c with
    | none => rw [e1] at g; cases g
    | some s1 =>
      cases e2 : stp st c' with
      | none => rw [e2] at g'; cases g'
      | some s2 =>
        rw [e1] at g; rw [e2] at g'
        have e : s1 = s2 := run_inj (B := B) g g'
        subst e
        have l1 := stp_len e1
        have l2 := stp_len e2
        unfold stp at e1 e2
        unfold sg at l1 l2
        by_cases hc : c ∈ opn
        · by_cases hc' : c' ∈ opn
          · rw [if_pos hc] at e1; rw [if_pos hc'] at e2
            cases e1; injection e2 with e2; injection e2 with e2 _
            exact (clo_inj hc' hc e2).symm
          · rw [if_pos hc] at l1; rw [if_neg hc'] at l2; omega
        · by_cases hc' : c' ∈ opn
          · rw [if_neg hc] at l1; rw [if_pos hc'] at l2; omega
          · rw [if_neg hc] at e1; rw [if_neg hc'] at e2
            cases st with
            | nil => cases e1
            | cons d r =>
              simp only at e1 e2
              split at e1
              · split at e2
                · rename_i z1 z2; rw [z1, z2]
                · cases e2
              · cases e1
/-! ## for the law of whole right rows -/
def spTrue2 : Sp := fun vs H Q _ => ∃ k a, vs = [.int k, tx a] ∧ 1 ≤ k ∧ k ≤ 4 ∧ isRow k a = true ∧ Rt a ∧ ∀ H', Same H H' → Q (.bl true) H'
theorem true2_use {H : Hp} {k : Int} {a : List Nat} {Q : VK} {E : XK} (h1 : 1 ≤ k) (h2 : k ≤ 4) (ha : isRow k a = true) (hr : Rt a) (q : ∀ H', Same H H' → Q (.bl true) H') : spTrue2 ([.int k, tx a] ++ []) H Q E := ⟨k, a, rfl, h1, h2, ha, hr, q⟩
def spPut05 : Sp := fun vs H Q _ => ∃ p n k a b, vs = [.ref p, .int k, tx a, tx b] ∧ PoolAt H p n ∧ n ≤ 900000 ∧ 1 ≤ k ∧ k ≤ 4 ∧ isRow k a = true ∧ isRow k b = true ∧ Rt a ∧ Rt b ∧ a.length + b.length ≤ 40 ∧ ∀ H', PoolAt H' p (n + 1) → SameBut1 p H H' → Q (.bl true) H'
theorem put05_use {H : Hp} {p : Addr} {n : Nat} {k : Int} {a b : List Nat} {Q : VK} {E : XK} (hp : PoolAt H p n) (hn : n ≤ 900000) (h1 : 1 ≤ k) (h2 : k ≤ 4) (ha : isRow k a = true) (hb : isRow k b = true) (hra : Rt a) (hrb : Rt b) (hab : a.length + b.length ≤ 40)
    (q : ∀ H', PoolAt H' p (n + 1) → SameBut1 p H H' → Q (.bl true) H') : spPut05 ([.ref p, .int k, tx a, tx b] ++ []) H Q E := ⟨p, n, k, a, b, rfl, hp, hn, h1, h2, ha, hb, hra, hrb, hab, q⟩
def spSpoilt05 : Sp := fun vs H Q _ => ∃ p n k a, vs = [.ref p, .int k, tx a] ∧ PoolAt H p n ∧ n ≤ 900000 ∧ 1 ≤ k ∧ k ≤ 4 ∧ isRow k a = true ∧ Rt a ∧ a.length ≤ 39 ∧ ∀ H', PoolAt H' p (n + 2) → SameBut1 p H H' → Q (.bl true) H'
theorem spoilt05_use {H : Hp} {p : Addr} {n : Nat} {k : Int} {a : List Nat} {Q : VK} {E : XK} (hp : PoolAt H p n) (hn : n ≤ 900000) (h1 : 1 ≤ k) (h2 : k ≤ 4) (ha : isRow k a = true) (hra : Rt a) (hl : a.length ≤ 39)
    (q : ∀ H', PoolAt H' p (n + 2) → SameBut1 p H H' → Q (.bl true) H') : spSpoilt05 ([.ref p, .int k, tx a] ++ []) H Q E := ⟨p, n, k, a, rfl, hp, hn, h1, h2, ha, hra, hl, q⟩
theorem isRow_mem {k : Int} {a : List Nat} (h : isRow k a = true) : ∀ c ∈ a, c ∈ sgn k := by
  unfold isRow at h
  simp only [Bool.and_eq_true, List.all_eq_true, decide_eq_true_eq] at h
  exact h.2
theorem isRow_mk {k : Int} {a : List Nat} (hl : a.length ≤ 40) (h : ∀ c ∈ a, c ∈ sgn k) : isRow k a = true := by
  unfold isRow
  simp only [Bool.and_eq_true, List.all_eq_true, decide_eq_true_eq]
  exact ⟨hl, h⟩
theorem isRow_sub {k : Int} {a b : List Nat} (ha : isRow k a = true) (hl : b.length ≤ 40) (h : ∀ c ∈ b, c ∈ a) : isRow k b = true := isRow_mk hl fun c hc => isRow_mem ha c (h c hc)
theorem isRow_two {k : Int} {a b r : List Nat} (ha : isRow k a = true) (hb : isRow k b = true) (hl : r.length ≤ 40) (h : ∀ c ∈ r, c ∈ a ∨ c ∈ b) : isRow k r = true := isRow_mk hl fun c hc => (h c hc).elim (isRow_mem ha c) (isRow_mem hb c)
theorem isRow_with {k : Int} {a r : List Nat} {d : Nat} (ha : isRow k a = true) (hd : d ∈ sgn k) (hl : r.length ≤ 40) (h : ∀ c ∈ r, c ∈ a ∨ c = d) : isRow k r = true := isRow_mk hl fun c hc => (h c hc).elim (isRow_mem ha c) fun e => e ▸ hd
theorem sign_at {i k : Int} (h0 : 0 ≤ i) (h1 : i < 2 * k) (hk1 : 1 ≤ k) (hk4 : k ≤ 4) : ∃ c, atI [40, 41, 91, 93, 123, 125, 60, 62] i = some c ∧ c ∈ sgn k := by
  have hk : k = 1 ∨ k = 2 ∨ k = 3 ∨ k = 4 := by omega
  have hi : i = 0 ∨ i = 1 ∨ i = 2 ∨ i = 3 ∨ i = 4 ∨ i = 5 ∨ i = 6 ∨ i = 7 := by omega
  rcases hk with rfl | rfl | rfl | rfl <;> rcases hi with rfl | rfl | rfl | rfl | rfl | rfl | rfl | rfl <;> first
    | omega
    | exact ⟨40, rfl, by decide⟩
    | exact ⟨41, rfl, by decide⟩
    | exact ⟨91, rfl, by decide⟩
    | exact ⟨93, rfl, by decide⟩
    | exact ⟨123, rfl, by decide⟩
    | exact ⟨125, rfl, by decide⟩
    | exact ⟨60, rfl, by decide⟩
    | exact ⟨62, rfl, by decide⟩
theorem pair_at {i k : Int} (h0 : 0 ≤ i) (h1 : i < k) (hk4 : k ≤ 4) : ∃ o, o ∈ opn ∧ atI [tx [40, 41], tx [91, 93], tx [123, 125], tx [60, 62]] i = some (tx [o, clo o]) ∧ o ∈ opn.take k.toNat ∧ clo o ∈ cls.take k.toNat := by
  have hk : k = 1 ∨ k = 2 ∨ k = 3 ∨ k = 4 := by omega
  have hi : i = 0 ∨ i = 1 ∨ i = 2 ∨ i = 3 := by omega
  rcases hk with rfl | rfl | rfl | rfl <;> rcases hi with rfl | rfl | rfl | rfl <;> first
    | omega
    | exact ⟨40, by decide, rfl, by decide, by decide⟩
    | exact ⟨91, by decide, rfl, by decide, by decide⟩
    | exact ⟨123, by decide, rfl, by decide, by decide⟩
    | exact ⟨60, by decide, rfl, by decide, by decide⟩
theorem cut_nn {α : Type} (xs : List α) (i j : Nat) : cutL xs (some (i : Int)) (some (j : Int)) = (xs.drop i).take (j - i) := by
  unfold cutL
  rw [HT.sIx_nat, HT.sIx_nat]
  rcases Nat.le_total i xs.length with h | h
  · rw [Nat.min_eq_left h]
    rcases Nat.le_total j xs.length with g | g
    · rw [Nat.min_eq_left g]
    · rw [Nat.min_eq_right g, List.take_of_length_le (by rw [List.length_drop]; omega), List.take_of_length_le (by rw [List.length_drop]; omega)]
  · rw [Nat.min_eq_right h, List.drop_of_length_le (Nat.le_refl _), List.drop_of_length_le h]; simp
theorem cut_from {α : Type} (xs : List α) (i : Nat) : cutL xs (some (i : Int)) none = xs.drop i := by
  unfold cutL
  rw [HT.sIx_nat, HT.sIx_none]
  rcases Nat.le_total i xs.length with h | h
  · rw [Nat.min_eq_left h, List.take_of_length_le (by rw [List.length_drop]; omega)]
  · rw [Nat.min_eq_right h, List.drop_of_length_le (Nat.le_refl _), List.drop_of_length_le h]; simp
def shiftV (d : Nat) : V → V
  | .int i => .int (i + d)
  | v => v
theorem part_mid {A O B : List Nat} {ys ws : List V} (hO : IsPart O ys) (hW : IsPart (A ++ O ++ B) ws) : (ws.drop A.length).take O.length = ys.map (shiftV A.length) := by
  apply List.ext_getElem?
  intro j
  by_cases hj : j < O.length
  · rw [List.getElem?_take_of_lt hj, List.getElem?_drop, List.getElem?_map]
    obtain ⟨p, e1, r1⟩ := hO.2 j hj
    obtain ⟨q, e2, r2⟩ := hW.2 (A.length + j) (by simp; omega)
    rw [e1, e2]
    have e3 : q = A.length + p := by
      rcases r1 with r1 | r1
      · have g := pr_mid (A := A) (B := B) r1
        rcases r2 with r2 | r2
        · exact pr_fun r2 g
        · exact (pr_not g r2).elim
      · have g := pr_mid (A := A) (B := B) r1
        rcases r2 with r2 | r2
        · exact (pr_not r2 g).elim
        · exact pr_inj r2 g
    subst e3
    show some (V.int _) = some (V.int _)
    congr 2; omega
  · rw [List.getElem?_eq_none (by rw [List.length_take]; omega), List.getElem?_eq_none (by rw [List.length_map, hO.1]; omega)]
theorem flat_cut {xs : List V} (h : xs.all flatV = true) (lo hi : Option Int) : (cutV xs lo hi).all flatV = true := by
  rw [List.all_eq_true] at h ⊢
  intro x hx
  exact h x (List.mem_of_mem_drop (List.mem_of_mem_take hx))
theorem part_cat {A B : List Nat} {xs ys ws : List V} (h1 : IsPart A xs) (h2 : IsPart B ys) (h : IsPart (A ++ B) ws) : ws = xs ++ ys.map (shiftV A.length) := by
  have e1 := part_mid (A := []) (O := A) (B := B) h1 (by simpa using h)
  have e2 := part_mid (A := A) (O := B) (B := []) h2 (by simpa using h)
  have hl := h.1
  rw [List.length_append] at hl
  rw [← List.take_append_drop A.length ws]
  congr 1
  · have e3 : ws.take A.length = xs.map (shiftV 0) := by simpa using e1
    rw [e3]
    have : ∀ x ∈ xs, shiftV 0 x = id x := fun x hx => by
      cases x <;> simp [shiftV]
    rw [List.map_congr_left this, List.map_id]
  · rw [← e2, List.take_of_length_le (by rw [List.length_drop]; omega)]
theorem part_within {o : Nat} {M : List Nat} {xs ws : List V} (h1 : IsPart M xs) (hR : Rt M) (ho : o ∈ opn) (h : IsPart ([o] ++ M ++ [clo o]) ws) : ws = [V.int ((M.length : Int) + 1)] ++ xs.map (shiftV 1) ++ [V.int 0] := by
  have e1 := part_mid (A := [o]) (O := M) (B := [clo o]) h1 h
  have hl := h.1
  simp only [List.length_append, List.length_singleton] at hl
  have hp : Pr ([o] ++ M ++ [clo o]) 0 (M.length + 1) := by
    refine ⟨by omega, by simp, ?_, fun m a b => ?_⟩
    · have e : ht ([o] ++ M ++ [clo o]) (M.length + 1 + 1) = hg ([o] ++ M ++ [clo o]) := by
        unfold ht; rw [List.take_of_length_le (by simp)]
      rw [e, hg_append, hg_append, ht_zero]
      have := run_len (show run [] M = some [] from hR)
      simp at this
      have s1 : sg o = 1 := if_pos ho
      have s2 : sg (clo o) = -1 := if_neg (clo_not ho)
      simp only [hg, s1, s2]; omega
    · obtain ⟨j, rfl⟩ : ∃ j, m = [o].length + j := ⟨m - 1, by simp; omega⟩
      simp only [List.length_singleton] at b
      rw [ht_mid [o] M [clo o] (by omega), ht_zero]
      have := ht_nonneg hR j
      have s1 : sg o = 1 := if_pos ho
      simp only [hg, s1]; omega
  obtain ⟨p0, f0, r0⟩ := h.2 0 (by simp)
  have g0 : p0 = M.length + 1 := by
    rcases r0 with r | r
    · exact pr_fun r hp
    · exact (pr_not hp r).elim
  obtain ⟨p1, f1, r1⟩ := h.2 (M.length + 1) (by simp)
  have g1 : p1 = 0 := by
    rcases r1 with r | r
    · exact (pr_not r hp).elim
    · exact pr_inj r hp
  subst g0 g1
  have t1 : ws.take 1 = [V.int ((M.length : Int) + 1)] := by
    cases ws with
    | nil => simp at f0
    | cons x r => simp at f0; subst f0; simp
  have t2 : ws.drop (1 + M.length) = [V.int 0] := by
    rw [Nat.add_comm, List.drop_eq_getElem_cons (by omega), List.drop_of_length_le (by omega)]
    rw [List.getElem?_eq_getElem (by omega)] at f1
    rw [Option.some.inj f1]; rfl
  rw [← List.take_append_drop 1 ws, t1, List.append_assoc]
  congr 1
  rw [← List.take_append_drop M.length (ws.drop 1), List.drop_drop, t2]
  congr 1
end BrM

namespace BrR
open PySem PySem.Spec PyProof.Rows
open PySem.Builtin
theorem slot_rev_init : Slot "reversed" "__init__" "object.__init__" :=
  .of (owner := "object") (n := "__init__") (by rw [typeLookup_type, builtinLookup_eq_fast]; kernel_rfl) (by decide +kernel) (by decide +kernel) (by decide +kernel) (by first | exact .inl (by decide +kernel) | exact .inr (by decide +kernel)) (by rw [isSubtype_type]; kernel_rfl)
theorem slot_rev_next : Slot "reversed" "__next__" "reversed.__next__" :=
  .of (owner := "reversed") (n := "__next__") (by rw [typeLookup_type, builtinLookup_eq_fast]; kernel_rfl) (by decide +kernel) (by decide +kernel) (by decide +kernel) (by first | exact .inl (by decide +kernel) | exact .inr (by decide +kernel)) (by rw [isSubtype_type]; kernel_rfl)
theorem slot_rev_iter : Slot "reversed" "__iter__" "reversed.__iter__" :=
  .of (owner := "reversed") (n := "__iter__") (by rw [typeLookup_type, builtinLookup_eq_fast]; kernel_rfl) (by decide +kernel) (by decide +kernel) (by decide +kernel) (by first | exact .inl (by decide +kernel) | exact .inr (by decide +kernel)) (by rw [isSubtype_type]; kernel_rfl)
theorem called_rev : TypeCalled "reversed" "reversed.__new__" "object.__init__" :=
  ⟨by decide +kernel, by decide +kernel, ⟨_, _, F.mro_reversed⟩, F.made_reversed, by decide +kernel, by rw [isSubtype_type]; kernel_rfl, slot_rev_init⟩
theorem entry_rev_next : entryFor table "reversed.__next__" = some Builtin.«reversed.__next__» := entryFor_of_tree (by kernel_rfl)
theorem entry_rev_iter : entryFor table "reversed.__iter__" = some Builtin.«dict_keyiterator.__iter__» :=
  entryFor_alias (id' := "dict_keyiterator.__iter__") (by kernel_rfl) (by first | rfl | decide +kernel | (unfold String.splitOn; simp +decide [String.splitOnAux])) (by decide +kernel) (by kernel_rfl)
theorem args_rev_next (a : Value) : argsOk "reversed.__next__" ⟨[a], []⟩ := by unfold argsOk; kernel_rfl
theorem args_rev_iter (a : Value) : argsOk "reversed.__iter__" ⟨[a], []⟩ := by unfold argsOk; kernel_rfl
theorem no_rev_str : typeLookup (.type "str") "__reversed__" = pure none := by rw [typeLookup_type, builtinLookup_eq_fast]; kernel_rfl
theorem str_not_dict : isSubtype (.type "str") (.type "dict") = pure false := by rw [isSubtype_type]; kernel_rfl
theorem meets_rev_new (x : Str) (t : Tok) (hx : x.length ≤ sizeLine) :
    Meets (Builtin.«reversed.__new__» ⟨[.type "reversed", .str x t], []⟩) (fun _ R s => ∀ tk, R (.ok (.ret (.ref s.heap.objs.size))) { s with heap := s.heap.push { cls := .type "reversed", data := .fields #[.str x t, rawInt ((x.length : Int) - 1)] }, toks := tk }) :=
  .of_wp fun prog w A R s h => by
    have hl := L2.line63
    unfold Builtin.«reversed.__new__»
    refine wpAny_bind (wpAny_of_eq (newClass_reversed _) ?_)
    try dsimp only
    refine wpAny_bind (wpAny_of_eq (a := ()) (by first | rfl | kernel_rfl) ?_)
    refine wpAny_bind (wpAny_of_eq (a := ()) (by first | rfl | kernel_rfl) ?_)
    try dsimp only
    refine wpAny_bind (wpAny_specialOf (typeIs_str _ _ _) no_rev_str ?_)
    try dsimp only
    refine wpAny_bind ?_
    show wpAny _ _ (isInstance (Value.str x t) (.type "dict") >>= _) _ _ _
    refine wpAny_bind (wpAny_isInstance (typeIs_str _ _ _) str_not_dict ?_)
    show wpAny _ _ (specialOf (Value.str x t) "__getitem__" >>= _) _ _ _
    refine wpAny_bind (wpAny_specialOf (typeIs_str _ _ _) F.slot_str_getitem.lookup ?_)
    refine wpAny_pure ?_
    show wpAny _ _ (call (Value.builtin "len") [Value.str x t] >>= _) _ _ _
    refine wpAny_bind (PySem.P.len_str (by omega) ?_)
    refine wpAny_bind (wpAny_of_eq (a := some (x.length : Int)) (by rfl) ?_)
    show wpAny _ _ (SmallTypes.newRecord (Value.type "reversed") [Value.str x t, rawInt ((x.length : Int) - 1)] >>= _) _ _ _
    refine wpAny_bind ?_
    show wpAny _ _ (newObj (.type "reversed") (.fields [Value.str x t, rawInt ((x.length : Int) - 1)].toArray)) _ _ _
    exact wpAny_newObj_type (wpAny_pure ⟨_, rfl, h _⟩)
end BrR

namespace BrR
open PySem PySem.Spec PyProof.Rows L2
open PySem.Builtin
/-- a reversed over a text, with i the next place -/
def IsRevS (h : Heap) (a : Addr) (x : Str) (t : Tok) (i : Int) : Prop := ∃ o, h.get? a = some o ∧ o.cls = .type "reversed" ∧ o.data = .fields #[.str x t, rawInt i]
theorem IsRevS.typeIs {s : Shared} {a : Addr} {x : Str} {t : Tok} {i : Int} (y : IsRevS s.heap a x t i) : s.TypeIs (.ref a) "reversed" := let ⟨o, ho, hc, _⟩ := y; ⟨o, ho, hc⟩
section
variable {prog : Program} {w : World} {A : Around} {E : Value → Shared → Prop} {s : Shared}
theorem call_revS {x : Str} {t : Tok} {Q : Value → Shared → Prop} (hx : x.length ≤ sizeLine)
    (h : ∀ tk, Q (.ref s.heap.objs.size) { s with heap := s.heap.push { cls := .type "reversed", data := .fields #[.str x t, rawInt ((x.length : Int) - 1)] }, toks := tk }) :
    wpAny (model prog w) A (call (.type "reversed") [.str x t]) Q E s := by
  refine callType_new called_rev (by decide) (F.typeCall_reversed_1 _) (F.newCall_reversed_1 _) (fun obj => F.args_object_init_2 obj _) F.entry_reversed_new (meets_rev_new x t hx) fun tk => ?_
  exact ⟨⟨_, Heap.get?_push_size _ rfl, rfl⟩, h tk⟩
theorem iter_revS {a : Addr} {x : Str} {t : Tok} {i : Int} {Q : Value → Shared → Prop} (y : IsRevS s.heap a x t i) (h : Q (.ref a) s) : wpAny (model prog w) A (pyIter (.ref a)) Q E s := by
  refine wpAny_pyIter_slot y.typeIs slot_rev_iter (wpAny_call_entry slot_rev_iter y.typeIs entry_rev_iter ?_ (args_rev_iter _))
  show wpAny _ _ (ret (.ref a)) _ _ s
  exact wpAny_pure ⟨_, rfl, "reversed", _, y.typeIs, slot_rev_next.lookup, h⟩
theorem next_revS {a : Addr} {x : Str} {t : Tok} {i c : Nat} {Q : Option Value → Shared → Prop} (y : IsRevS s.heap a x t (i : Int)) (hc : x.cps[i]? = some c) (hx : x.length ≤ sizeLine)
    (hQ : ∀ h' tk u, IsRevS h' a x t ((i : Int) - 1) → Heap.SameBut a s.heap h' → Q (some (.str ⟨#[c]⟩ u)) { s with heap := h', toks := tk }) : wpAny (model prog w) A (pyNext (.ref a)) Q E s := by
  obtain ⟨o, ho, hcl, hd⟩ := id y
  have hl := L2.line63
  have hi : i < x.cps.size := (Array.getElem?_eq_some_iff.mp hc).1
  have hi' : i < x.length := hi
  unfold pyNext
  refine wpAny_bind (wpAny_attempt (wpAny_callSpecial?_slot (name := Str.ofString "__next__") y.typeIs slot_rev_next (wpAny_call_entry slot_rev_next y.typeIs entry_rev_next ?_ (args_rev_next _))))
  unfold Builtin.«reversed.__next__»
  refine wpAny_bind (wpAny_of_eq (a := (Value.ref a, [])) rfl ?_)
  try dsimp only
  refine wpAny_bind (wpAny_field ho hd (x := .str x t) rfl ?_)
  refine wpAny_bind (wpAny_field ho hd (x := rawInt (i : Int)) rfl ?_)
  show wpAny _ _ (if (i : Int) < 0 then _ else _) _ _ s
  rw [if_neg (by omega)]
  show wpAny _ _ (specialOf (Value.str x t) "__getitem__" >>= _) _ _ _
  refine wpAny_bind (wpAny_specialOf (typeIs_str _ _ _) F.slot_str_getitem.lookup ?_)
  show wpAny _ _ (mkInt (i : Int) >>= _) _ _ _
  refine wpAny_bind (wpAny_mkInt ?_)
  refine wpAny_bind (wpAny_attempt ?_)
  refine PySem.P.getItem_str (c := c) (by simp; omega) (by rw [seqIndex_of (by omega) (by omega)]; simpa using hc) ?_
  show wpAny _ _ (field (Value.ref a) 1 >>= _) _ _ _
  refine wpAny_bind (wpAny_field ho hd (x := rawInt (i : Int)) rfl ?_)
  show wpAny _ _ (setField (Value.ref a) 1 (rawInt ((i : Int) - 1)) >>= _) _ _ _
  refine wpAny_bind (wpAny_setField ho hd (by simp) (wpAny_pure ⟨_, rfl, wpAny_pure (hQ _ _ _ ?_ (Heap.SameBut.update ..))⟩))
  exact ⟨_, Heap.get?_update_self _ ho (Obj.isFreed_of_fields (Obj.data_mapFields hd _)), (Obj.cls_mapFields ..).trans hcl, by rw [Obj.data_mapFields hd]; simp⟩
theorem end_revS {a : Addr} {x : Str} {t : Tok} {Q : Option Value → Shared → Prop} (hh : A.handled = none) (y : IsRevS s.heap a x t (-1))
    (hQ : ∀ h', Heap.ExtBut a s.heap h' → Q none { s with heap := h' }) : wpAny (model prog w) A (pyNext (.ref a)) Q E s := by
  obtain ⟨o, ho, hcl, hd⟩ := id y
  unfold pyNext
  refine wpAny_bind (wpAny_attempt (wpAny_callSpecial?_slot (name := Str.ofString "__next__") y.typeIs slot_rev_next (wpAny_call_entry slot_rev_next y.typeIs entry_rev_next ?_ (args_rev_next _))))
  unfold Builtin.«reversed.__next__»
  refine wpAny_bind (wpAny_of_eq (a := (Value.ref a, [])) rfl ?_)
  try dsimp only
  refine wpAny_bind (wpAny_field ho hd (x := .str x t) rfl ?_)
  refine wpAny_bind (wpAny_field ho hd (x := rawInt (-1)) rfl ?_)
  show wpAny _ _ (if (-1 : Int) < 0 then _ else _) _ _ s
  rw [if_pos (by decide)]
  refine wpAny_bind (wpAny_rule ?_)
  refine wpAny_bind ?_
  show wpAny _ _ (setField (Value.ref a) 1 (rawInt (-1)) >>= _) _ _ _
  refine wpAny_bind (wpAny_setField ho hd (by simp) ?_)
  have ho2 := Heap.get?_update_self (Obj.mapFields (·.setIfInBounds 1 (rawInt (-1)))) ho (Obj.isFreed_of_fields (Obj.data_mapFields hd _))
  refine wpAny_setField ho2 (Obj.data_mapFields hd _) (by simp) ?_
  refine wpAny_bind ?_
  show wpAny _ _ (newExc (.type "StopIteration") [] >>= _) _ _ _
  refine wpAny_bind ?_
  simp only [newExc, newTuple]
  refine wpAny_bind (wpAny_newObj_type ?_ (by size_fits))
  refine wpAny_bind (m := firstArgMember _ _) (wpAny_of_eq (a := Value.none) (by first | rfl | (simp only [firstArgMember]; rfl)) ?_)
  refine wpAny_newObj_type ?_ (by size_fits)
  simp only [raiseNew]
  refine wpAny_bind (wpAny_handled ?_)
  rw [show A.in1.handled = none from hh]
  refine wpAny_bind (wpAny_pure (wpAny_throw ?_))
  refine wpAny_bind (wpAny_isInstance (T := "StopIteration") (b := true) ⟨_, Heap.get?_push_size _ rfl, rfl⟩ isSubtype_stop ?_)
  exact wpAny_pure (hQ _ ((((Heap.SameBut.update ..).trans (Heap.SameBut.update ..)).extBut.push _).push _))
end
/-- the signs of a text from its end -/
def ItsR (x : Str) : It := ⟨fun i _ => i < x.cps.size, fun i H v H' => H' = H ∧ ∃ c, x.cps[x.cps.size - 1 - i]? = some c ∧ v = .str ⟨#[c]⟩, fun i _ => i = x.cps.size⟩
theorem turn_revS {P : Program} {w : World} {K : PySem.W.Frag} {tg : Expr} {x : Str} {t : Tok} {it : Addr} (hx : x.length ≤ sizeLine) :
    Turn P w K tg (ItsR x) [it] it (fun i h => i ≤ x.cps.size ∧ IsRevS h it x t ((x.cps.size : Int) - 1 - (i : Int))) where
  mem := by simp
  obj := fun i h st b hb => by
    obtain ⟨_, o, ho, _, hd⟩ := st
    have e : b = it := by simpa using hb
    subst e
    exact ⟨o, ho, fun v z => by rw [hd] at z; cases z⟩
  keep := fun i h h' st k => by
    obtain ⟨hi, o, ho, r⟩ := st
    exact ⟨hi, o, k it (by simp) o ho, r⟩
  item := by
    intro X hP hw hK hc i pins s σ H E I hf st hg
    subst hP hw hK
    have hi : i < x.cps.size := hg
    obtain ⟨_, y⟩ := st
    have e : (x.cps.size : Int) - 1 - (i : Int) = ((x.cps.size - 1 - i : Nat) : Int) := by omega
    rw [e] at y
    have hcx : x.cps[x.cps.size - 1 - i]? = some (x.cps[x.cps.size - 1 - i]'(by omega)) := Array.getElem?_eq_getElem (by omega)
    refine next_revS y hcx hx fun h' tk u y' sb => ?_
    have e2 : ((x.cps.size - 1 - i : Nat) : Int) - 1 = (x.cps.size : Int) - 1 - ((i + 1 : Nat) : Int) := by omega
    rw [e2] at y'
    obtain ⟨o, ho, hcl, hd⟩ := id y'
    have I1 : Inv X pins σ H { s with heap := h', toks := tk } := I.turnedAll hf fun b ob hb q => (sb.2 b (fun z => hb (by simp [z]))).trans q
    exact ⟨_, rfl, go_of (s := { s with heap := h', toks := tk }) (n := "reversed") ho hcl hd (by decide) ⟨.str ⟨#[x.cps[x.cps.size - 1 - i]'(by omega)]⟩, H, I1, ⟨u, rfl⟩, ⟨rfl, _, hcx, rfl⟩, ⟨hi, y'⟩, fun b hb => (hf b hb).1⟩⟩
  done := by
    intro X hP hw hK hc i pins s σ H E I hf st hg
    subst hP hw hK
    have e : i = x.cps.size := hg
    subst e
    obtain ⟨_, y⟩ := st
    have e2 : (x.cps.size : Int) - 1 - (x.cps.size : Int) = -1 := by omega
    rw [e2] at y
    exact end_revS (I.ok.hd hc) y fun h' ex => ⟨rfl, I.turnedAll (t' := s.toks) hf fun b ob hb q => ex b ob (fun z => hb (by simp [z])) q⟩
  self := fun A i s Q E st h => iter_revS st.2 h
def iRev (ta : TA) : TI := fun σ H R => ta σ H fun vs H1 => ∃ a, vs = [tx a] ∧ a.length ≤ sizeLine ∧ R (ItsR ⟨a.toArray⟩) H1
theorem pi_revS {X : Cx} {tg a : Expr} {ta : TA} {p pos : Pos} (hg : Gl X "reversed") (hm : X.mg "reversed" = none) (ha : PA X [a] ta) (hs : starEach [a] X.env = [(false, eval a X.env)] := by rfl) : PI X tg (.Call (.Name "reversed" p) [a] [] pos) (iRev ta) := by
  intro pins s σ H R I h
  refine Call_ (ld_blt I hg hm PyProof.Rows.boot_reversed (PyProof.Rows.callWith_type1 (thn (ha pos pins s σ H _ I h) fun us s1 ⟨vs, H1, I1, r1, q1⟩ => ?_) hs rfl))
  obtain ⟨z, e, hz, q⟩ := q1
  subst e
  cases r1 with
  | cons r rr =>
    cases rr
    obtain ⟨t, rfl⟩ := r
    have hz' : (⟨z.toArray⟩ : Str).length ≤ sizeLine := by rw [tx_len]; exact hz
    refine call_revS hz' fun tk => ?_
    have I2 : Inv X pins σ H1 { s1 with heap := s1.heap.push { cls := .type "reversed", data := .fields #[.str ⟨z.toArray⟩ t, rawInt (((⟨z.toArray⟩ : Str).length : Int) - 1)] }, toks := tk } := I1.kept fun b o e => Heap.get?_push_of_some _ e
    have y : IsRevS (s1.heap.push { cls := .type "reversed", data := .fields #[.str ⟨z.toArray⟩ t, rawInt (((⟨z.toArray⟩ : Str).length : Int) - 1)] }) s1.heap.objs.size ⟨z.toArray⟩ t ((((⟨z.toArray⟩ : Str)).length : Int) - 1) := ⟨_, Heap.get?_push_size _ rfl, rfl, rfl⟩
    refine iter_revS y ⟨s1.heap.objs.size, [s1.heap.objs.size], _, _, H1, rfl, I2, turn_revS (t := t) hz', ⟨Nat.zero_le _, ?_⟩, fun b hb => ?_, q⟩
    · show IsRevS _ _ _ _ ((((⟨z.toArray⟩ : Str)).cps.size : Int) - 1 - ((0 : Nat) : Int))
      rw [show ((((⟨z.toArray⟩ : Str)).cps.size : Int) - 1 - ((0 : Nat) : Int)) = ((((⟨z.toArray⟩ : Str)).length : Int) - 1) from by show _ = (((⟨z.toArray⟩ : Str).cps.size : Nat) : Int) - 1; omega]
      exact y
    · have e : b = s1.heap.objs.size := by simpa using hb
      subst e
      exact I1.fpOk (Nat.le_refl _) (I1.hok.fresh (Nat.le_refl _))
end BrR

namespace L2
open PySem PySem.Spec PyProof.Rows BrR
section
variable {X : Cx}
/-! ## a[::-1] -/
theorem rev_run (n : Nat) : sliceRange ((n : Int) - 1) (-1) (-1) = (List.range n).map fun k => n - 1 - k := by
  unfold sliceRange
  have e : (if (-1 : Int) > 0 then (if ((n : Int) - 1) < (-1) then ((-1) - ((n : Int) - 1) + (-1) - 1) / (-1) else 0) else (if ((n : Int) - 1) > (-1) then (((n : Int) - 1) - (-1) - (-1) - 1) / (-(-1)) else 0)).toNat = n := by
    rw [if_neg (by decide)]
    simp only [Int.neg_neg, Int.ediv_one]
    split <;> omega
  simp only [e]
  refine List.map_congr_left fun k hk => ?_
  have := List.mem_range.mp hk
  omega
theorem rev_pickN {α : Type} (a : List α) : ∀ n, n ≤ a.length → ((List.range n).map fun k => n - 1 - k).filterMap (fun j => a[j]?) = (a.take n).reverse := by
  intro n
  induction n with
  | zero => intro _; simp
  | succ n ih =>
    intro hn
    rw [List.range_succ_eq_map, List.map_cons, List.filterMap_cons]
    have e1 : a[n + 1 - 1 - 0]? = some (a[n]'(by omega)) := by simp
    rw [e1]
    simp only [List.map_map]
    have e2 : ((fun k => n + 1 - 1 - k) ∘ Nat.succ) = fun k => n - 1 - k := by
      funext k; simp only [Function.comp]; omega
    rw [e2, ih (by omega), List.take_succ_eq_append_getElem (by omega), List.reverse_append]
    rfl
theorem rev_pick {α : Type} (a : List α) : ((List.range a.length).map fun k => a.length - 1 - k).filterMap (fun j => a[j]?) = a.reverse := by
  rw [rev_pickN a a.length (Nat.le_refl _), List.take_length]
def rRevA (K : PySem.W.Frag) : V → Hp → VK → Prop := fun x H Q => (∃ a, x = tx a ∧ a.length ≤ sizeLine ∧ Q (tx a.reverse) H) ∨ ∃ p xs, x = .ref p ∧ SqL K H p xs ∧ ∀ r, H r = none → Q (.ref r) (upd H r (.lst xs.reverse))
def tRev (K : PySem.W.Frag) (te ts : TE) : TE := fun σ H Q => te σ H fun x H1 => ts σ H1 fun y H2 => y = .int (-1) ∧ rRevA K x H2 Q
theorem Vals.rev : ∀ {xs : List V} {us : List Value}, Vals xs us → Vals xs.reverse us.reverse
  | _, _, .nil => .nil
  | _, _, .cons r rr => by
    rw [List.reverse_cons, List.reverse_cons]
    exact (Vals.rev rr).append (.cons r .nil)
theorem pe_rev (K : PySem.W.Frag) {e st : Expr} {te ts : TE} {p2 pos : Pos} (he : PE X e te) (hs : PE X st ts) (hK : X.K = K := by rfl) : PE X (.Subscript e (.Slice none none (some st) p2) pos) (tRev K te ts) := by
  subst hK
  intro pins s σ H Q I h
  refine Subscript_ (thn (he pins s σ H _ I h) fun v s1 ⟨x, H1, I1, r1, q1⟩ => ?_)
  refine wpAny_Slice ?_
  rw [evalPart_none]
  refine wpAny_pure (wpAny_pure ?_)
  rw [evalPart_some]
  refine thn (hs pins s1 σ H1 _ I1 q1) fun u s2 ⟨y, H2, I2, r2, q2⟩ => ?_
  obtain ⟨rfl, q⟩ := q2
  obtain ⟨tk, rfl⟩ := r2
  have I4 : Inv X pins σ H2 { s2 with heap := s2.heap.push { cls := .type "slice", data := .fields #[.none, .none, .int (-1) tk] } } := I2.kept (t' := s2.toks) fun b ob q => Heap.get?_push_of_some _ q
  show wpAny (model X.prog X.w) X.A (subscriptTail e (.Slice none none (some st) p2) v (.ref s2.heap.objs.size)) (EP X pins σ Q) X.xe { s2 with heap := s2.heap.push { cls := .type "slice", data := .fields #[.none, .none, .int (-1) tk] } }
  have key : ∃ T id, typeLookup (.type T) "__getitem__" = pure (some (.builtin id)) ∧ ({ s2 with heap := s2.heap.push { cls := .type "slice", data := .fields #[.none, .none, .int (-1) tk] } } : Shared).TypeIs v T ∧ wpAny (model X.prog X.w) X.A (getItem v (.ref s2.heap.objs.size)) (EP X pins σ Q) X.xe { s2 with heap := s2.heap.push { cls := .type "slice", data := .fields #[.none, .none, .int (-1) tk] } } := by
    rcases q with ⟨a, rfl, hz, q⟩ | ⟨p, xs, rfl, hx, q⟩
    · obtain ⟨t, rfl⟩ := r1
      refine ⟨"str", _, F.slot_str_getitem.lookup, typeIs_str _ _ _, ?_⟩
      refine wpAny_getItem_str_slice (l := none) (u := none) (st := some (-1, tk)) ⟨_, Heap.get?_push_size _ rfl, rfl, rfl⟩ rfl ?_
      have ep : slicePicked ⟨a.toArray⟩ none none (some (-1, tk)) = (List.range a.length).map fun k => a.length - 1 - k := by
        unfold slicePicked
        rw [tx_len]
        exact rev_run a.length
      have ec : ((slicePicked ⟨a.toArray⟩ none none (some (-1, tk))).filterMap (a.toArray[·]?)) = a.reverse := by
        rw [ep]
        simp only [List.getElem?_toArray]
        exact rev_pick a
      unfold sliceMade
      rw [if_neg (by simp)]
      rw [ec]
      exact ⟨by rw [tx_len, List.length_reverse]; exact hz, ⟨tx a.reverse, H2, I4.tok _, ⟨_, rfl⟩, q⟩⟩
    · cases r1
      obtain ⟨its, r, ht, hz⟩ := I4.list hx
      have hlen := r.length
      refine ⟨"list", _, slot_list_getitem.lookup, ht.isList.typeIs, ?_⟩
      refine wpAny_getItem_list_slice ht.isList (Heap.IsSliceOf.new ..) .none .none (.int (-1) tk) (by simp) ?_ (by rw [List.size_toArray] <;> omega)
      have ep : slicePick its.toArray none none (some (-1)) = its.reverse.toArray := by
        unfold slicePick
        have e : sliceBounds none none (some (-1)) its.toArray.size = ((its.length : Int) - 1, -1, -1) := by rw [List.size_toArray]; rfl
        rw [e]
        show ((sliceRange ((its.length : Int) - 1) (-1) (-1)).filterMap _).toArray = _
        rw [rev_run]
        simp only [List.getElem?_toArray]
        rw [rev_pick]
      rw [ep]
      refine ⟨.ref _, _, I4.laid (o := .lst xs.reverse) (fun b ob q => Heap.get?_push_of_some _ q) (Nat.le_refl _) ?_, rfl, q _ (I4.hok.fresh (Nat.le_refl _))⟩
      exact ⟨by rw [List.length_reverse]; exact hz, _, 0, r.rev, Heap.get?_push_size _ rfl⟩
  obtain ⟨T, id, hT, ht, hg⟩ := key
  exact tail_any (ops := [v, .ref s2.heap.objs.size]) ht hT hg (by with_unfolding_all rfl)

/-! ## ''.join, index -/
theorem strs_of {xss : List (List Nat)} : ∀ {us : List Value}, Vals (xss.map tx) us → StrsAre us (xss.map fun a => ⟨a.toArray⟩) := by
  induction xss with
  | nil => intro us r; cases r; exact .nil
  | cons a r ih =>
    intro us h
    cases h with
    | cons h1 h2 =>
      obtain ⟨t, rfl⟩ := h1
      exact .cons _ t (ih h2)
theorem join_flat : ∀ (xss : List (List Nat)), Str.join ⟨([] : List Nat).toArray⟩ (xss.map fun a => ⟨a.toArray⟩) = ⟨xss.flatten.toArray⟩
  | [] => rfl
  | [a] => by simp [Str.join]
  | a :: b :: r => by
    have ih := join_flat (b :: r)
    rw [List.map_cons, List.map_cons] at *
    show (⟨a.toArray⟩ : Str) ++ ⟨([] : List Nat).toArray⟩ ++ Str.join ⟨([] : List Nat).toArray⟩ (⟨b.toArray⟩ :: r.map fun a => ⟨a.toArray⟩) = _
    rw [ih]
    show (⟨a.toArray ++ ([] : List Nat).toArray ++ (b :: r).flatten.toArray⟩ : Str) = _
    simp
def rJoin (K : PySem.W.Frag) : V → List V → Hp → VK → Prop := fun x vs H Q => ∃ (p : Addr) (xss : List (List Nat)), x = tx [] ∧ vs = [.ref p] ∧ SqL K H p (xss.map tx) ∧ xss.flatten.length + xss.length ≤ 1000000 ∧ Q (tx xss.flatten) H
theorem mt_join (K : PySem.W.Frag) (hK : X.K = K := by rfl) : MtR X "str.join" (rJoin K) := by
  subst hK
  intro pins s σ H x vs v us Q I rx rv h
  obtain ⟨p, xss, rfl, rfl, hq, hw, q⟩ := h
  obtain ⟨t, rfl⟩ := rx
  obtain ⟨u, rfl, ru⟩ := rv.one
  cases ru
  obtain ⟨its, r, ht, hz⟩ := I.list hq
  have hs : ((xss.map fun a => (⟨a.toArray⟩ : Str)).map (·.length)).sum = xss.flatten.length := by
    rw [List.map_map, List.length_flatten]
    congr 1
  refine join_listW ht.isList (strs_of r) (by rw [tx_len]; decide) (by rw [hs, List.length_map]; omega) fun t' k => ?_
  have e : Txt.join ⟨([] : List Nat).toArray⟩ (xss.map fun a => ⟨a.toArray⟩) = ⟨xss.flatten.toArray⟩ := by
    show Builtin.Str.glued _ _ = _
    rw [StrLaws.glued_eq_join, join_flat]
  rw [e]
  exact ⟨tx xss.flatten, H, I.tok k, ⟨t', rfl⟩, q⟩
def occ1 (l : List Nat) (c : Nat) : Option Nat := (Builtin.Str.occurrences ⟨l.toArray⟩ ⟨#[c]⟩ 0 (⟨l.toArray⟩ : Str).length 1).head?
def rIdx : V → List V → Hp → VK → Prop := fun x vs H Q => ∃ l c i, x = tx l ∧ vs = [tx [c]] ∧ occ1 l c = some i ∧ Q (.int (i : Nat)) H
theorem mt_index : MtR X "str.index" rIdx := by
  intro pins s σ H x vs v us Q I rx rv h
  obtain ⟨l, c, i, rfl, rfl, ho, q⟩ := h
  obtain ⟨t, rfl⟩ := rx
  obtain ⟨u, rfl, t2, rfl⟩ := rv.one
  unfold occ1 at ho
  cases e : Builtin.Str.occurrences ⟨l.toArray⟩ ⟨#[c]⟩ 0 (⟨l.toArray⟩ : Str).length 1 with
  | nil => rw [e] at ho; cases ho
  | cons j rest =>
    rw [e] at ho
    cases ho
    exact SC.index e ⟨.int (i : Nat), H, I.tok _, ⟨_, rfl⟩, q⟩
end
section
variable {σ : St} {H : Hp} {Q : VK} {K : PySem.W.Frag}
theorem s_rev {te ts : TE} (h : te σ H fun x H1 => ts σ H1 fun y H2 => y = .int (-1) ∧ rRevA K x H2 Q) : tRev K te ts σ H Q := h
theorem s_revI {P : Prop} (h : P) : V.int (-1) = V.int (-1) ∧ P := ⟨rfl, h⟩
theorem s_revT {a : List Nat} (hz : a.length ≤ sizeLine) (h : Q (tx a.reverse) H) : rRevA K (tx a) H Q := .inl ⟨a, rfl, hz, h⟩
theorem s_revL {p : Addr} {xs : List V} (hq : SqL K H p xs) (h : ∀ r, H r = none → Q (.ref r) (upd H r (.lst xs.reverse))) : rRevA K (.ref p) H Q := .inr ⟨p, xs, rfl, hq, h⟩
theorem s_tyT {a : List Nat} {P : Prop} (h : P) : tyV K "str" (tx a) H ∧ P := ⟨rfl, h⟩
theorem s_join {p : Addr} {xss : List (List Nat)} (hq : SqL K H p (xss.map tx)) (hw : xss.flatten.length + xss.length ≤ 1000000) (h : Q (tx xss.flatten) H) : rJoin K (tx []) [.ref p] H Q := ⟨p, xss, rfl, rfl, hq, hw, h⟩
theorem s_idx {l : List Nat} {c i : Nat} (he : occ1 l c = some i) (h : Q (.int (i : Nat)) H) : rIdx (tx l) [tx [c]] H Q := ⟨l, c, i, rfl, rfl, he, h⟩
theorem s_irev {ta : TA} {R : It → Hp → Prop} (h : ta σ H fun vs H1 => ∃ a, vs = [tx a] ∧ a.length ≤ sizeLine ∧ R (ItsR ⟨a.toArray⟩) H1) : iRev ta σ H R := h
theorem s_irevT {a : List Nat} {R : List Nat → Prop} (hz : a.length ≤ sizeLine) (h : R a) : ∃ b, [tx a] = [tx b] ∧ b.length ≤ sizeLine ∧ R b := ⟨a, rfl, hz, h⟩
/-- a comprehension over the signs of a text, one item each -/
theorem comp_str {a : List Nat} {own : List Str} {sel : List Nat} {g : TG} {tt : TT} {te : TE} (hn : a.length ≤ sizeLine) (Pv : Addr → Nat → List V → Hp → Prop) (h0 : ∀ D, H D = none → Pv D 0 [] (upd H D (.lst [])))
    (hst : ∀ D ys H', H D = none → H' D = some (.lst ys) → Pv D a.length ys H' → Q (.ref D) H')
    (hs : ∀ D i c ys H', H D = none → a[i]? = some c → i < a.length → H' D = some (.lst ys) → ys.length ≤ i → Pv D i ys H' → g (tx [c]) (inSt own sel σ) H' fun σ4 H4 => tt σ4 H4 fun b H5 =>
      if b = true then te σ4 H5 fun v H6 => ∃ ys, H6 D = some (.lst ys) ∧ ys.length < sizeLine ∧ ∃ m', m' < a.length - i ∧ CW D a.length (Pv D) (i + 1) m' (upd H6 D (.lst (ys ++ [v])))
      else ∃ m', m' < a.length - i ∧ CW D a.length (Pv D) (i + 1) m' H5) : CompW (Its ⟨a.toArray⟩) own sel σ g tt te Q H := by
  refine comp_of (n := a.length) Pv h0 (fun D i ys H' hD hi _ p => by simpa [Its] using hi) (fun D ys H' hD hy hl p => ⟨by simp [Its], hst D ys H' hD hy p⟩) (fun D i ys H' x H3 hD hi hy hl p y => ?_)
  obtain ⟨rfl, c, e, rfl⟩ := y
  exact hs D i c ys H3 hD (by simpa using e) hi hy hl p
theorem comp_rev {a : List Nat} {own : List Str} {sel : List Nat} {g : TG} {tt : TT} {te : TE} (hn : a.length ≤ sizeLine) (Pv : Addr → Nat → List V → Hp → Prop) (h0 : ∀ D, H D = none → Pv D 0 [] (upd H D (.lst [])))
    (hst : ∀ D ys H', H D = none → H' D = some (.lst ys) → Pv D a.length ys H' → Q (.ref D) H')
    (hs : ∀ D i c ys H', H D = none → a.reverse[i]? = some c → i < a.length → H' D = some (.lst ys) → ys.length ≤ i → Pv D i ys H' → g (tx [c]) (inSt own sel σ) H' fun σ4 H4 => tt σ4 H4 fun b H5 =>
      if b = true then te σ4 H5 fun v H6 => ∃ ys, H6 D = some (.lst ys) ∧ ys.length < sizeLine ∧ ∃ m', m' < a.length - i ∧ CW D a.length (Pv D) (i + 1) m' (upd H6 D (.lst (ys ++ [v])))
      else ∃ m', m' < a.length - i ∧ CW D a.length (Pv D) (i + 1) m' H5) : CompW (ItsR ⟨a.toArray⟩) own sel σ g tt te Q H := by
  refine comp_of (n := a.length) Pv h0 (fun D i ys H' hD hi _ p => by simpa [ItsR] using hi) (fun D ys H' hD hy hl p => ⟨by simp [ItsR], hst D ys H' hD hy p⟩) (fun D i ys H' x H3 hD hi hy hl p y => ?_)
  obtain ⟨rfl, c, e, rfl⟩ := y
  refine hs D i c ys H3 hD ?_ hi hy hl p
  rw [List.getElem?_reverse hi]
  simpa using e
theorem comp_rng {lo : Int} {n : Nat} {own : List Str} {sel : List Nat} {g : TG} {tt : TT} {te : TE} (hn : n ≤ sizeLine) (Pv : Addr → Nat → List V → Hp → Prop) (h0 : ∀ D, H D = none → Pv D 0 [] (upd H D (.lst [])))
    (hst : ∀ D ys H', H D = none → H' D = some (.lst ys) → Pv D n ys H' → Q (.ref D) H')
    (hs : ∀ D i ys H', H D = none → i < n → H' D = some (.lst ys) → ys.length ≤ i → Pv D i ys H' → g (.int (lo + i)) (inSt own sel σ) H' fun σ4 H4 => tt σ4 H4 fun b H5 =>
      if b = true then te σ4 H5 fun v H6 => ∃ ys, H6 D = some (.lst ys) ∧ ys.length < sizeLine ∧ ∃ m', m' < n - i ∧ CW D n (Pv D) (i + 1) m' (upd H6 D (.lst (ys ++ [v])))
      else ∃ m', m' < n - i ∧ CW D n (Pv D) (i + 1) m' H5) : CompW (Itr lo n) own sel σ g tt te Q H := by
  refine comp_of (n := n) Pv h0 (fun D i ys H' hD hi _ p => hi) (fun D ys H' hD hy hl p => ⟨Nat.le_refl _, hst D ys H' hD hy p⟩) (fun D i ys H' x H3 hD hi hy hl p y => ?_)
  obtain ⟨rfl, rfl⟩ := y
  exact hs D i ys _ hD hi hy hl p
end
end L2

namespace BrM
open L2 PySem BrR
/-! ## rows turned about -/
def all9 : List Nat := [40, 91, 123, 60, 63, 62, 125, 93, 41]
def oth (c : Nat) : Nat := if c = 40 then 41 else if c = 91 then 93 else if c = 123 then 125 else if c = 60 then 62 else if c = 41 then 40 else if c = 93 then 91 else if c = 125 then 123 else if c = 62 then 60 else c
def trn (a : List Nat) : List Nat := a.reverse.map oth
theorem trn_len (a : List Nat) : (trn a).length = a.length := by simp [trn]
theorem mem9 {c : Nat} (h : c ∈ all9) : c = 40 ∨ c = 91 ∨ c = 123 ∨ c = 60 ∨ c = 63 ∨ c = 62 ∨ c = 125 ∨ c = 93 ∨ c = 41 := by simpa [all9] using h
theorem oth_oth {c : Nat} : oth (oth c) = c := by
  by_cases h : c = 40 ∨ c = 91 ∨ c = 123 ∨ c = 60 ∨ c = 62 ∨ c = 125 ∨ c = 93 ∨ c = 41
  · rcases h with rfl | rfl | rfl | rfl | rfl | rfl | rfl | rfl <;> decide
  · have e : oth c = c := by
      simp only [not_or] at h
      unfold oth
      simp only [h, if_false]
    rw [e, e]
theorem trn_trn (a : List Nat) : trn (trn a) = a := by
  unfold trn
  rw [← List.map_reverse, List.reverse_reverse, List.map_map]
  conv => rhs; rw [← List.map_id a]
  exact List.map_congr_left fun c _ => oth_oth
theorem trn_app (a b : List Nat) : trn (a ++ b) = trn b ++ trn a := by simp [trn]
theorem trn_one (c : Nat) : trn [c] = [oth c] := rfl
theorem trn_snoc (a : List Nat) (c : Nat) : trn (a ++ [c]) = [oth c] ++ trn a := by rw [trn_app, trn_one]
theorem oth_opn {o : Nat} (h : o ∈ opn) : oth o = clo o ∧ oth (clo o) = o := by
  have : o = 40 ∨ o = 91 ∨ o = 123 ∨ o = 60 := by simpa [opn] using h
  rcases this with rfl | rfl | rfl | rfl <;> decide
theorem sgn9 {k : Int} {c : Nat} (h : c ∈ sgn k) : c ∈ all9 := by
  unfold sgn at h
  rcases List.mem_append.mp h with z | z
  · rcases List.mem_append.mp z with z | z
    · have := List.mem_of_mem_take z
      have : c = 40 ∨ c = 91 ∨ c = 123 ∨ c = 60 := by simpa [opn] using this
      rcases this with rfl | rfl | rfl | rfl <;> decide
    · have := List.mem_of_mem_take z
      have : c = 41 ∨ c = 93 ∨ c = 125 ∨ c = 62 := by simpa [cls] using this
      rcases this with rfl | rfl | rfl | rfl <;> decide
  · rw [List.mem_singleton.mp z]; decide
theorem oth_sgn {k : Int} {c : Nat} (h1 : 1 ≤ k) (h4 : k ≤ 4) (h : c ∈ sgn k) : oth c ∈ sgn k := by
  have hk : k = 1 ∨ k = 2 ∨ k = 3 ∨ k = 4 := by omega
  have h9 := mem9 (sgn9 h)
  rcases hk with rfl | rfl | rfl | rfl <;> rcases h9 with rfl | rfl | rfl | rfl | rfl | rfl | rfl | rfl | rfl <;> revert h <;> decide
theorem isRow_trn {k : Int} {a : List Nat} (h1 : 1 ≤ k) (h4 : k ≤ 4) (h : isRow k a = true) : isRow k (trn a) = true := by
  refine isRow_mk (by rw [trn_len]; exact isRow_len h) fun c hc => ?_
  unfold trn at hc
  obtain ⟨d, hd, rfl⟩ := List.mem_map.mp hc
  exact oth_sgn h1 h4 (isRow_mem h d (List.mem_reverse.mp hd))
theorem rt_trn1 : ∀ (n : Nat) (a : List Nat), a.length ≤ n → Rt a → Rt (trn a)
  | 0, a, hl, h => by
    have : a = [] := List.length_eq_zero_iff.mp (by omega)
    subst this; exact h
  | n + 1, a, hl, h => by
    cases ha : a with
    | nil => rfl
    | cons c r =>
      obtain ⟨xs, hx⟩ := part_ex h
      have h0 : 0 < a.length := by rw [ha]; simp
      obtain ⟨p, ep, rr⟩ := hx.2 0 h0
      have hp : Pr a 0 p := by
        rcases rr with z | z
        · exact z
        · exact absurd z.1 (by omega)
      obtain ⟨A, M, B, o, e, hA, hM, ho, hRM, hRAB⟩ := pr_split h hp
      have eA : A = [] := List.length_eq_zero_iff.mp hA
      subst eA
      rw [← ha]
      have hlen : a.length = 2 + M.length + B.length := by rw [e]; simp; omega
      rw [e]
      simp only [List.nil_append] at hRAB ⊢
      rw [trn_app, trn_app, trn_app, trn_one, trn_one, (oth_opn ho).1, (oth_opn ho).2, ← List.append_assoc]
      have h1 := rt_trn1 n M (by omega) hRM
      have h2 := rt_trn1 n B (by omega) hRAB
      have h3 := rt_pair ho (clo_not ho) h1
      have := rt_cat h2 h3
      simpa using this
theorem rt_trn {a : List Nat} : Rt (trn a) ↔ Rt a := by
  constructor
  · intro h
    have := rt_trn1 _ _ (Nat.le_refl _) h
    rwa [trn_trn] at this
  · exact rt_trn1 _ _ (Nat.le_refl _)
def spOther : Sp := fun vs H Q _ => ∃ c, vs = [tx [c]] ∧ c ∈ all9 ∧ Q (tx [oth c]) H
theorem other_use {H : Hp} {c : Nat} {Q : VK} {E : XK} (h : c ∈ all9) (q : Q (tx [oth c]) H) : spOther ([tx [c]] ++ []) H Q E := ⟨c, rfl, h, q⟩
def spTurned : Sp := fun vs H Q _ => ∃ k a, vs = [.int k, tx a] ∧ 1 ≤ k ∧ k ≤ 4 ∧ isRow k a = true ∧ ∀ H', Same H H' → Q (tx (trn a)) H'
theorem turned_use {H : Hp} {k : Int} {a : List Nat} {Q : VK} {E : XK} (h1 : 1 ≤ k) (h2 : k ≤ 4) (ha : isRow k a = true) (q : ∀ H', Same H H' → Q (tx (trn a)) H') : spTurned ([.int k, tx a] ++ []) H Q E := ⟨k, a, rfl, h1, h2, ha, q⟩
def spDue07 : Sp := fun vs H Q _ => ∃ a, vs = [tx a] ∧ a.length ≤ 1000 ∧ (∀ c ∈ a, c ∈ all9) ∧ Q (tx (trn a)) H
theorem due07_use {H : Hp} {a : List Nat} {Q : VK} {E : XK} (ha : a.length ≤ 1000) (h : ∀ c ∈ a, c ∈ all9) (q : Q (tx (trn a)) H) : spDue07 ([tx a] ++ []) H Q E := ⟨a, rfl, ha, h, q⟩
/-- the signs of k kinds, as the law draws them -/
def sgs (k : Int) : List Nat := [40, 41, 91, 93, 123, 125, 60, 62].take (2 * k).toNat ++ [63]
theorem sgs_sgn {k : Int} {c : Nat} (h1 : 1 ≤ k) (h4 : k ≤ 4) (h : c ∈ sgs k) : c ∈ sgn k := by
  have hk : k = 1 ∨ k = 2 ∨ k = 3 ∨ k = 4 := by omega
  rcases hk with rfl | rfl | rfl | rfl <;> (have h' := h; simp [sgs] at h'; simp [sgn, opn, cls]; omega)
theorem sgs_len {k : Int} (h1 : 1 ≤ k) (h4 : k ≤ 4) : (sgs k).length = (2 * k).toNat + 1 := by
  unfold sgs; rw [List.length_append, List.length_take]; simp; omega
def spSigns : Sp := fun vs H Q _ => ∃ k, vs = [.int k] ∧ 1 ≤ k ∧ k ≤ 4 ∧ Q (tx (sgs k)) H
theorem signs_use {H : Hp} {k : Int} {Q : VK} {E : XK} (h1 : 1 ≤ k) (h2 : k ≤ 4) (q : Q (tx (sgs k)) H) : spSigns ([.int k] ++ []) H Q E := ⟨k, rfl, h1, h2, q⟩
def spBent : Sp := fun vs H Q _ => ∃ p n row sg, vs = [.ref p, tx row, tx sg] ∧ PoolAt H p n ∧ n ≤ 900000 ∧ row.length ≤ 40 ∧ 0 < sg.length ∧ sg.length ≤ 40 ∧
  ∀ row' H', (∀ c ∈ row', c ∈ row ∨ c ∈ sg) → row'.length ≤ 130 → PoolAt H' p (n + 4) → SameBut1 p H H' → Q (tx row') H'
theorem bent_use {H : Hp} {p : PySem.Addr} {n : Nat} {row sg : List Nat} {Q : VK} {E : XK} (hp : PoolAt H p n) (hn : n ≤ 900000) (h1 : row.length ≤ 40) (h2 : 0 < sg.length) (h3 : sg.length ≤ 40)
    (q : ∀ row' H', (∀ c ∈ row', c ∈ row ∨ c ∈ sg) → row'.length ≤ 130 → PoolAt H' p (n + 4) → SameBut1 p H H' → Q (tx row') H') : spBent ([.ref p, tx row, tx sg] ++ []) H Q E := ⟨p, n, row, sg, rfl, hp, hn, h1, h2, h3, q⟩
def spAnyRow : Sp := fun vs H Q _ => ∃ p n k most, vs = [.ref p, .int k, .int most] ∧ PoolAt H p n ∧ n ≤ 800000 ∧ 1 ≤ k ∧ k ≤ 4 ∧ 0 ≤ most ∧ most ≤ 40 ∧
  ∀ row H', (row.length : Int) ≤ most → (∀ c ∈ row, c ∈ sgn k) → PoolAt H' p (n + 300) → SameBut1 p H H' → Q (tx row) H'
theorem any_use {H : Hp} {p : PySem.Addr} {n : Nat} {k most : Int} {Q : VK} {E : XK} (hp : PoolAt H p n) (hn : n ≤ 800000) (h1 : 1 ≤ k) (h2 : k ≤ 4) (h3 : 0 ≤ most) (h4 : most ≤ 40)
    (q : ∀ row H', (row.length : Int) ≤ most → (∀ c ∈ row, c ∈ sgn k) → PoolAt H' p (n + 300) → SameBut1 p H H' → Q (tx row) H') : spAnyRow ([.ref p, .int k, .int most] ++ []) H Q E := ⟨p, n, k, most, rfl, hp, hn, h1, h2, h3, h4, q⟩
theorem at_mem {l : List Nat} {i : Int} (h0 : 0 ≤ i) (h1 : i < (l.length : Int)) : ∃ c, atI l i = some c ∧ c ∈ l := by
  have hk : i.toNat < l.length := by omega
  have ek : i = ((i.toNat : Nat) : Int) := by omega
  have q : atI l ((i.toNat : Nat) : Int) = some l[i.toNat] := atI_nat (List.getElem?_eq_getElem hk)
  rw [← ek] at q
  exact ⟨_, q, List.getElem_mem hk⟩
theorem cut_mem {α : Type} {a : List α} {lo hi : Option Int} {c : α} (h : c ∈ cutL a lo hi) : c ∈ a := by
  unfold cutL at h
  exact List.mem_of_mem_drop (List.mem_of_mem_take h)
theorem kin_sgn {k : Int} {c : Nat} (h : kin k c) : c ∈ sgn k := by
  unfold sgn
  rcases h with z | z
  · exact List.mem_append_left _ (List.mem_append_left _ z)
  · exact List.mem_append_left _ (List.mem_append_right _ z)
theorem flat_ones (l : List Nat) : (l.map fun c => [c]).flatten = l := by
  induction l with
  | nil => rfl
  | cons c r ih => rw [List.map_cons, List.flatten_cons, ih]; rfl
theorem isRow_up {k k' : Int} {a : List Nat} (h : isRow k a = true) (hk : k ≤ k') (h0 : 0 ≤ k) : isRow k' a = true := by
  refine isRow_mk (isRow_len h) fun c hc => ?_
  have := isRow_mem h c hc
  unfold sgn at this ⊢
  have hm : k.toNat ≤ k'.toNat := by omega
  rcases List.mem_append.mp this with z | z
  · rcases List.mem_append.mp z with z | z
    · exact List.mem_append_left _ (List.mem_append_left _ (List.take_subset_take_left opn hm z))
    · exact List.mem_append_left _ (List.mem_append_right _ (List.take_subset_take_left cls hm z))
  · exact List.mem_append_right _ z
end BrM

namespace L2
open PySem PySem.Spec PyProof.Rows BrR
section
variable {X : Cx}
theorem call_maxL (hc : X.calm = true) : CallR X (.builtin "max") (fun xs H Q => ∃ (p : Addr) (ns : List Int), xs = [.ref p] ∧ SqL X.K H p (ns.map V.int) ∧ 0 < ns.length ∧ ∀ M, M ∈ ns → (∀ a, a ∈ ns → a ≤ M) → Q (.int M) H) := by
  intro pins s σ H xs us Q I r h
  obtain ⟨p, ns, rfl, hq, hne, q⟩ := h
  obtain ⟨u, rfl, ru⟩ := vals1 r
  cases ru
  obtain ⟨its, rr, ht, hz⟩ := I.list hq
  have hi := intsAre_of rr
  obtain ⟨xs, e⟩ := hi.allInts.items
  have hns : ns = xs.toList.map (·.1) := by rw [← hi.numsOf, ← nums_intItems, ← e]
  have hsz : 0 < xs.size := by
    have h3 := hne; rw [hns, List.length_map, Array.length_toList] at h3; exact h3
  have hl := ht.isList
  rw [e] at hl
  refine max_intList (I.ok.hd hc) hl hsz fun v h' tk hv hk => ?_
  obtain ⟨t, rfl⟩ := intItems_at hv
  obtain ⟨h1, h2⟩ := argBest_gt (numAt xs) (xs.size - 1)
  refine ⟨.int _, H, I.kept hk, ⟨t, rfl⟩, q _ ?_ fun a ha => ?_⟩
  · rw [hns, numAt_eq]; exact getD_mem (by rw [List.length_map, Array.length_toList]; omega)
  · rw [hns] at ha
    obtain ⟨j, hj, rfl⟩ := mem_getD ha
    rw [List.length_map, Array.length_toList] at hj
    rw [← numAt_eq]; exact h2 j (by omega)
def rMaxL (K : PySem.W.Frag) : List V → Hp → VK → Prop := fun xs H Q => ∃ (p : Addr) (ns : List Int), xs = [.ref p] ∧ SqL K H p (ns.map V.int) ∧ 0 < ns.length ∧ ∀ M, M ∈ ns → (∀ a, a ∈ ns → a ≤ M) → Q (.int M) H
def rMaxA (K : PySem.W.Frag) : List V → Hp → VK → Prop := fun xs H Q => rMax xs H Q ∨ rMaxL K xs H Q
theorem call_maxB (K : PySem.W.Frag) (hc : X.calm = true) (hK : X.K = K := by rfl) : CallR X (.builtin "max") (rMaxA K) := by subst hK; exact (call_maxA hc).or (call_maxL hc)
end
section
variable {σ : St} {H : Hp} {Q : VK} {K : PySem.W.Frag}
theorem s_maxI {i j : Int} (h : Q (.int (if j > i then j else i)) H) : rMaxA K [.int i, .int j] H Q := .inl ⟨i, j, rfl, h⟩
theorem s_maxL {p : Addr} {ns : List Int} (hq : SqL K H p (ns.map V.int)) (hne : 0 < ns.length) (h : ∀ M, M ∈ ns → (∀ a, a ∈ ns → a ≤ M) → Q (.int M) H) : rMaxA K [.ref p] H Q := .inr ⟨p, ns, rfl, hq, hne, h⟩
end
end L2
namespace BrM
open L2 PySem
/-! ## depth by its height -/
theorem mx_le (a : List Nat) : ∀ i j, j ≤ i → ht a j ≤ mx a i
  | 0, j, h => by
    have : j = 0 := by omega
    subst this; exact Int.le_refl _
  | i + 1, j, h => by
    rw [mx]
    by_cases e : j = i + 1
    · subst e; split <;> omega
    · have := mx_le a i j (by omega)
      split <;> omega
theorem mx_at (a : List Nat) : ∀ i, ∃ j, j ≤ i ∧ ht a j = mx a i
  | 0 => ⟨0, Nat.le_refl _, rfl⟩
  | i + 1 => by
    obtain ⟨j, h1, h2⟩ := mx_at a i
    rw [mx]
    split
    · exact ⟨i + 1, Nat.le_refl _, rfl⟩
    · exact ⟨j, by omega, h2⟩
theorem deep_is {a : List Nat} {m : Int} (h : ∀ j, j ≤ a.length → ht a j ≤ m) (h' : ∃ j, j ≤ a.length ∧ ht a j = m) : deep a = m := by
  obtain ⟨j, h1, h2⟩ := h'
  obtain ⟨i, h3, h4⟩ := mx_at a a.length
  have := mx_le a a.length j h1
  have := h i h3
  unfold deep
  omega
theorem deep_ge (a : List Nat) {j : Nat} (h : j ≤ a.length) : ht a j ≤ deep a := mx_le a _ j h
theorem deep_ex (a : List Nat) : ∃ j, j ≤ a.length ∧ ht a j = deep a := mx_at a _
theorem deep_nn (a : List Nat) : 0 ≤ deep a := deep_ge a (j := 0) (Nat.zero_le _)
theorem ht_left (A B : List Nat) {j : Nat} (h : j ≤ A.length) : ht (A ++ B) j = ht A j := by unfold ht; rw [List.take_append_of_le_length h]
theorem ht_right (A B : List Nat) (j : Nat) : ht (A ++ B) (A.length + j) = hg A + ht B j := by
  unfold ht; rw [List.take_length_add_append, hg_append]
theorem hg_right {a : List Nat} (h : Rt a) : hg a = 0 := by
  have := ht_end h
  unfold ht at this
  rwa [List.take_length] at this
theorem deep_cat {A B : List Nat} (hA : Rt A) : deep (A ++ B) = if deep B > deep A then deep B else deep A := by
  have h0 := hg_right hA
  refine deep_is (fun j hj => ?_) ?_
  · by_cases z : j ≤ A.length
    · rw [ht_left A B z]
      have := deep_ge A z
      split <;> omega
    · obtain ⟨i, rfl⟩ : ∃ i, j = A.length + i := ⟨j - A.length, by omega⟩
      rw [ht_right, h0]
      have := deep_ge B (j := i) (by rw [List.length_append] at hj; omega)
      split <;> omega
  · split
    · obtain ⟨i, h1, h2⟩ := deep_ex B
      exact ⟨A.length + i, by rw [List.length_append]; omega, by rw [ht_right, h0]; omega⟩
    · obtain ⟨i, h1, h2⟩ := deep_ex A
      exact ⟨i, by rw [List.length_append]; omega, by rw [ht_left A B h1]; exact h2⟩
theorem deep_in {o : Nat} {M : List Nat} (ho : o ∈ opn) (hM : Rt M) : deep ([o] ++ M ++ [clo o]) = deep M + 1 := by
  have e1 : hg [o] = 1 := by show sg o + 0 = 1; unfold sg; rw [if_pos ho]; rfl
  have e2 : hg [clo o] = -1 := by show sg (clo o) + 0 = -1; unfold sg; rw [if_neg (clo_not ho)]; rfl
  have hl : ([o] ++ M ++ [clo o]).length = M.length + 2 := by simp
  have key : ∀ j, j ≤ M.length → ht ([o] ++ M ++ [clo o]) (1 + j) = 1 + ht M j := fun j hj => by
    have := ht_mid [o] M [clo o] hj
    rw [e1] at this
    exact this
  refine deep_is (fun j hj => ?_) ?_
  · rw [hl] at hj
    by_cases z : j = 0
    · subst z; rw [ht_zero]; have := deep_nn M; omega
    · by_cases z2 : j ≤ M.length + 1
      · obtain ⟨i, rfl⟩ : ∃ i, j = 1 + i := ⟨j - 1, by omega⟩
        rw [key i (by omega)]
        have := deep_ge M (j := i) (by omega)
        omega
      · have : j = ([o] ++ M ++ [clo o]).length := by rw [hl]; omega
        rw [this, ht_end (rt_pair ho (clo_not ho) hM)]
        have := deep_nn M; omega
  · obtain ⟨i, h1, h2⟩ := deep_ex M
    exact ⟨1 + i, by rw [hl]; omega, by rw [key i h1]; omega⟩
/-! ## turned about -/
theorem sg_oth {c : Nat} (h : c ∈ all9) (h63 : c ≠ 63) : sg (oth c) = - sg c := by
  rcases mem9 h with rfl | rfl | rfl | rfl | rfl | rfl | rfl | rfl | rfl <;> first | (exact absurd rfl h63) | decide
def brk (a : List Nat) : Prop := ∀ c ∈ a, c ∈ all9 ∧ c ≠ 63
theorem hg_trn : ∀ {a : List Nat}, brk a → hg (trn a) = - hg a
  | [], _ => rfl
  | c :: r, h => by
    have e : trn (c :: r) = trn r ++ [oth c] := by rw [show c :: r = [c] ++ r from rfl, trn_app, trn_one]
    have h1 := hg_trn (a := r) fun d hd => h d (List.mem_cons_of_mem _ hd)
    have h2 := sg_oth (h c List.mem_cons_self).1 (h c List.mem_cons_self).2
    rw [e, hg_append, h1]
    show - hg r + (sg (oth c) + 0) = - (sg c + hg r)
    omega
theorem ht_trn {a : List Nat} (hb : brk a) (hR : Rt a) {i : Nat} (hi : i ≤ a.length) : ht (trn a) i = ht a (a.length - i) := by
  have e : (trn a).take i = trn (a.drop (a.length - i)) := by
    unfold trn
    rw [← List.map_take]
    congr 1
    rw [List.take_reverse]
  unfold ht
  rw [e, hg_trn (fun c hc => hb c (List.mem_of_mem_drop hc))]
  have h0 := hg_right hR
  have h2 : hg (a.take (a.length - i)) + hg (a.drop (a.length - i)) = hg a := by rw [← hg_append, List.take_append_drop]
  omega
theorem deep_trn {a : List Nat} (hb : brk a) (hR : Rt a) : deep (trn a) = deep a := by
  refine deep_is (fun j hj => ?_) ?_
  · rw [trn_len] at hj
    rw [ht_trn hb hR hj]
    exact deep_ge a (by omega)
  · obtain ⟨i, h1, h2⟩ := deep_ex a
    refine ⟨a.length - i, by rw [trn_len]; omega, ?_⟩
    rw [ht_trn hb hR (by omega), show a.length - (a.length - i) = i by omega]
    exact h2
theorem pr_trn {a : List Nat} (hb : brk a) (hR : Rt a) {x y : Nat} (h : Pr a x y) : Pr (trn a) (a.length - 1 - y) (a.length - 1 - x) := by
  obtain ⟨h1, h2, h3, h4⟩ := h
  refine ⟨by omega, by rw [trn_len]; omega, ?_, fun m m1 m2 => ?_⟩
  · rw [ht_trn hb hR (by omega), ht_trn hb hR (by omega)]
    rw [show a.length - (a.length - 1 - x + 1) = x by omega, show a.length - (a.length - 1 - y) = y + 1 by omega]
    exact h3.symm
  · rw [ht_trn hb hR (by omega), ht_trn hb hR (by omega), show a.length - (a.length - 1 - y) = y + 1 by omega, h3]
    exact h4 _ (by omega) (by omega)
def endV (n : Nat) : V → V
  | .int p => .int ((n : Int) - 1 - p)
  | v => v
theorem part_trn {a : List Nat} {xs : List V} (hb : brk a) (hR : Rt a) (h : IsPart a xs) : IsPart (trn a) (xs.map (endV a.length)).reverse := by
  refine ⟨by rw [List.length_reverse, List.length_map, trn_len]; exact h.1, fun k hk => ?_⟩
  rw [trn_len] at hk
  obtain ⟨p, e, r⟩ := h.2 (a.length - 1 - k) (by omega)
  have hp : p < a.length := by
    rcases r with z | z
    · exact z.2.1
    · have := z.1; have := z.2.1; omega
  refine ⟨a.length - 1 - p, ?_, ?_⟩
  · rw [List.getElem?_reverse (by rw [List.length_map, h.1]; exact hk), List.length_map, h.1, List.getElem?_map, e]
    show some (V.int ((a.length : Int) - 1 - p)) = _
    congr 2
    omega
  · rcases r with z | z
    · have := pr_trn hb hR z
      rw [show a.length - 1 - (a.length - 1 - k) = k by omega] at this
      exact .inr this
    · have := pr_trn hb hR z
      rw [show a.length - 1 - (a.length - 1 - k) = k by omega] at this
      exact .inl this
/-! ## parts -/
theorem piece_nn (a : List Nat) (i j : Nat) : piece a i j = (a.drop i).take (j - i) := cut_nn a i j
theorem ct_snd_le (a : List Nat) : ∀ i, (ct a i).2 ≤ i
  | 0 => Nat.le_refl _
  | i + 1 => by
    have := ct_snd_le a i
    rw [ct]; split
    · exact Nat.le_refl _
    · omega
theorem ct_left (A B : List Nat) : ∀ i, i ≤ A.length → ct (A ++ B) i = ct A i
  | 0, _ => rfl
  | i + 1, h => by
    have ih := ct_left A B i (by omega)
    have h2 := ct_snd_le A i
    rw [ct, ct, ih, ht_left A B h]
    have e : piece (A ++ B) (ct A i).2 (i + 1) = piece A (ct A i).2 (i + 1) := by
      rw [piece_nn, piece_nn, List.drop_append_of_le_length (by omega), List.take_append_of_le_length (by rw [List.length_drop]; omega)]
    rw [e]
theorem ct_full {A : List Nat} (h : Rt A) : ct A A.length = (pts A, A.length) := by
  have h0 := ht_end h
  have : (ct A A.length).2 = A.length := by
    cases e : A.length with
    | zero => rfl
    | succ n => rw [ct, if_pos (by rw [← e]; exact h0)]
  unfold pts
  exact Prod.ext rfl this
theorem ct_right {A : List Nat} (hA : Rt A) (B : List Nat) : ∀ j, j ≤ B.length → ct (A ++ B) (A.length + j) = (pts A ++ (ct B j).1, A.length + (ct B j).2)
  | 0, _ => by
    rw [Nat.add_zero, ct_left A B _ (Nat.le_refl _), ct_full hA]
    simp [ct]
  | j + 1, h => by
    have ih := ct_right hA B j (by omega)
    have h2 := ct_snd_le B j
    rw [← Nat.add_assoc, ct, ct, ih]
    have eh : ht (A ++ B) (A.length + j + 1) = ht B (j + 1) := by rw [Nat.add_assoc, ht_right, hg_right hA]; omega
    rw [eh]
    have e : piece (A ++ B) (A.length + (ct B j).2) (A.length + j + 1) = piece B (ct B j).2 (j + 1) := by
      rw [piece_nn, piece_nn, List.drop_append, List.drop_eq_nil_of_le (by omega), List.nil_append, show A.length + (ct B j).2 - A.length = (ct B j).2 by omega, show A.length + j + 1 - (A.length + (ct B j).2) = j + 1 - (ct B j).2 by omega]
    split
    · rw [e, List.append_assoc]; rfl
    · rfl
theorem pts_cat {A : List Nat} (hA : Rt A) (B : List Nat) : pts (A ++ B) = pts A ++ pts B := by
  have := ct_right hA B B.length (Nat.le_refl _)
  show (ct (A ++ B) (A ++ B).length).1 = _
  rw [List.length_append, this]
  rfl
theorem pr_pair {o : Nat} {M : List Nat} (ho : o ∈ opn) (hM : Rt M) : Pr ([o] ++ M ++ [clo o]) 0 (M.length + 1) := by
  have e1 : hg [o] = 1 := by show sg o + 0 = 1; unfold sg; rw [if_pos ho]; rfl
  have hl : ([o] ++ M ++ [clo o]).length = M.length + 2 := by simp
  refine ⟨by omega, by rw [hl]; omega, ?_, fun m m1 m2 => ?_⟩
  · rw [show M.length + 1 + 1 = ([o] ++ M ++ [clo o]).length by rw [hl], ht_end (rt_pair ho (clo_not ho) hM), ht_zero]
  · obtain ⟨i, rfl⟩ : ∃ i, m = 1 + i := ⟨m - 1, by omega⟩
    have := ht_mid [o] M [clo o] (i := i) (by omega)
    rw [e1] at this
    have h2 := ht_nonneg hM i
    rw [ht_zero]
    have e3 : ([o] : List Nat).length + i = 1 + i := rfl
    rw [e3] at this
    omega
theorem pts_one {o : Nat} {M : List Nat} (ho : o ∈ opn) (hM : Rt M) : pts ([o] ++ M ++ [clo o]) = [[o] ++ M ++ [clo o]] := by
  have h := ct_next (pr_pair ho hM) (ht_zero _) rfl
  have hl : ([o] ++ M ++ [clo o]).length = M.length + 1 + 1 := by simp
  unfold pts
  rw [hl, h]
  show [] ++ [piece _ 0 _] = _
  rw [piece_nn, List.drop_zero, Nat.sub_zero, ← hl, List.take_length, List.nil_append]
/-- a right row is empty, or a pair around a right row ahead of a right row -/
theorem rt_cases {a : List Nat} (h : Rt a) : a = [] ∨ ∃ o M B, a = ([o] ++ M ++ [clo o]) ++ B ∧ o ∈ opn ∧ Rt M ∧ Rt B := by
  by_cases ha : a = []
  · exact .inl ha
  · obtain ⟨xs, hx⟩ := part_ex h
    have h0 : 0 < a.length := by
      cases a with
      | nil => exact absurd rfl ha
      | cons c r => simp
    obtain ⟨p, ep, rr⟩ := hx.2 0 h0
    have hp : Pr a 0 p := by
      rcases rr with z | z
      · exact z
      · exact absurd z.1 (by omega)
    obtain ⟨A, M, B, o, e, hA, hM, ho, hRM, hRAB⟩ := pr_split h hp
    have eA : A = [] := List.length_eq_zero_iff.mp hA
    subst eA
    exact .inr ⟨o, M, B, by simpa using e, ho, hRM, by simpa using hRAB⟩
/-- all that the parts of a right row are -/
structure PtsOk (a : List Nat) : Prop where
  flat : (pts a).flatten = a
  form : ∀ p ∈ pts a, ∃ o M, p = [o] ++ M ++ [clo o] ∧ o ∈ opn ∧ Rt M
  le : ∀ p ∈ pts a, deep p ≤ deep a
  top : deep a = 0 ∨ ∃ p ∈ pts a, deep p = deep a
  back : pts (trn a) = ((pts a).map trn).reverse
theorem trn_pair {o : Nat} (ho : o ∈ opn) (M : List Nat) : trn ([o] ++ M ++ [clo o]) = [o] ++ trn M ++ [clo o] := by
  rw [trn_app, trn_app, trn_one, trn_one, (oth_opn ho).1, (oth_opn ho).2, List.append_assoc]
theorem pts_ok : ∀ (n : Nat) (a : List Nat), a.length ≤ n → Rt a → PtsOk a
  | n, a, hl, h => by
    rcases rt_cases h with rfl | ⟨o, M, B, e, ho, hM, hB⟩
    · exact ⟨rfl, (fun p hp => nomatch hp), (fun p hp => nomatch hp), .inl rfl, rfl⟩
    · have hP := rt_pair ho (clo_not ho) hM
      have ep : pts a = ([o] ++ M ++ [clo o]) :: pts B := by rw [e, pts_cat hP, pts_one ho hM]; rfl
      have ed : deep a = if deep B > deep ([o] ++ M ++ [clo o]) then deep B else deep ([o] ++ M ++ [clo o]) := by rw [e, deep_cat hP]
      have hlen : B.length < a.length := by rw [e]; simp; omega
      match n, hl with
      | 0, hl => omega
      | n + 1, hl =>
        have ih := pts_ok n B (by omega) hB
        refine ⟨?_, ?_, ?_, ?_, ?_⟩
        · rw [ep, List.flatten_cons, ih.flat, e]
        · intro p hp
          rw [ep] at hp
          rcases List.mem_cons.mp hp with z | z
          · exact ⟨o, M, z, ho, hM⟩
          · exact ih.form p z
        · intro p hp
          rw [ep] at hp
          rw [ed]
          rcases List.mem_cons.mp hp with z | z
          · subst z; split <;> omega
          · have := ih.le p z
            split <;> omega
        · rw [ed]
          split
          · rename_i hgt
            rcases ih.top with z | ⟨p, hp, z⟩
            · have := deep_nn ([o] ++ M ++ [clo o]); omega
            · exact .inr ⟨p, by rw [ep]; exact List.mem_cons_of_mem _ hp, z⟩
          · exact .inr ⟨_, by rw [ep]; exact List.mem_cons_self, rfl⟩
        · have e1 : trn a = trn B ++ ([o] ++ trn M ++ [clo o]) := by rw [e, trn_app, trn_pair ho]
          rw [e1, pts_cat (rt_trn.mpr hB), pts_one ho (rt_trn.mpr hM), ih.back, ep, List.map_cons, List.reverse_cons, trn_pair ho]
theorem ptsOk {a : List Nat} (h : Rt a) : PtsOk a := pts_ok _ a (Nat.le_refl _) h
theorem PtsOk.rt {a : List Nat} (h : PtsOk a) {p : List Nat} (hp : p ∈ pts a) : Rt p ∧ p ≠ [] ∧ pts p = [p] := by
  obtain ⟨o, M, rfl, ho, hM⟩ := h.form p hp
  exact ⟨rt_pair ho (clo_not ho) hM, by simp, pts_one ho hM⟩
theorem PtsOk.sub {a : List Nat} (h : PtsOk a) {p : List Nat} (hp : p ∈ pts a) : ∀ c ∈ p, c ∈ a := fun c hc => by
  rw [← h.flat]
  exact List.mem_flatten.mpr ⟨p, hp, hc⟩
theorem len_mem_flat {p : List Nat} : ∀ {l : List (List Nat)}, p ∈ l → p.length ≤ l.flatten.length
  | q :: r, h => by
    rw [List.flatten_cons, List.length_append]
    rcases List.mem_cons.mp h with z | z
    · subst z; omega
    · have := len_mem_flat z; omega
theorem PtsOk.len {a : List Nat} (h : PtsOk a) {p : List Nat} (hp : p ∈ pts a) : p.length ≤ a.length := by
  have := len_mem_flat hp
  rwa [h.flat] at this
end BrM
namespace L2
open PySem PySem.Spec PyProof.Rows BrR
section
variable {σ : St} {H : Hp} {Q : VK} {K : PySem.W.Frag}
/-- a comprehension over a list whose test holds of none -/
theorem comp_none {a : Addr} {xs : List V} {own : List Str} {sel : List Nat} {g : TG} {tt : TT} {te : TE} (ha : H a = some (.lst xs))
    (hst : ∀ D H', H D = none → Same H H' → H' D = some (.lst []) → Q (.ref D) H')
    (hs : ∀ (D : Addr) (i : Nat) (x : V) (H' : Hp) (R : St → Bool → Hp → Prop), H D = none → xs[i]? = some x → Same H H' → (∀ σ4 H5, Same H' H5 → R σ4 false H5) → g x (inSt own sel σ) H' fun σ4 H4 => tt σ4 H4 (R σ4)) : CompW (Itl K a) own sel σ g tt te Q H := by
  intro D hD
  refine ⟨fun i m H' => m = xs.length - i ∧ i ≤ xs.length ∧ H' D = some (.lst []) ∧ Same H H', ⟨_, rfl, Nat.zero_le _, upd_same, same_new hD _⟩, ?_⟩
  rintro i m H2 ⟨rfl, hi, hy, sH⟩
  by_cases hlt : i < xs.length
  · refine .inr ⟨⟨xs, xs[i], SqL.of (sH _ _ ha), List.getElem?_eq_getElem hlt⟩, fun x H3 y => ?_⟩
    obtain ⟨rfl, hx⟩ := y
    refine hs D i x H3 (fun σ4 b H5 => if b = true then te σ4 H5 fun v H6 => ∃ ys, H6 D = some (.lst ys) ∧ ys.length < sizeLine ∧ ∃ m', m' < xs.length - i ∧ (m' = xs.length - (i + 1) ∧ i + 1 ≤ xs.length ∧ (upd H6 D (.lst (ys ++ [v]))) D = some (.lst []) ∧ Same H (upd H6 D (.lst (ys ++ [v])))) else ∃ m', m' < xs.length - i ∧ (m' = xs.length - (i + 1) ∧ i + 1 ≤ xs.length ∧ H5 D = some (.lst []) ∧ Same H H5)) hD (hx _ (SqL.of (sH _ _ ha))) sH (fun σ4 H5 s5 => ?_)
    rw [if_neg Bool.false_ne_true]
    exact ⟨xs.length - (i + 1), by omega, rfl, hlt, s5 _ _ hy, sH.trans s5⟩
  · have e : i = xs.length := by omega
    subst e
    exact .inl ⟨⟨_, SqL.of (sH _ _ ha), Nat.le_refl _⟩, hst D H2 hD sH hy⟩
/-- a comprehension over a list, an item for each -/
theorem comp_map {a : Addr} {xs : List V} {own : List Str} {sel : List Nat} {g : TG} {te : TE} (f : V → V) (hn : xs.length ≤ sizeLine) (ha : H a = some (.lst xs))
    (hst : ∀ D H', H D = none → Same H H' → H' D = some (.lst (xs.map f)) → Q (.ref D) H')
    (hs : ∀ (D : Addr) (i : Nat) (x : V) (H' : Hp) (R : V → Hp → Prop), H D = none → xs[i]? = some x → Same H H' → (∀ H6, Same H' H6 → R (f x) H6) → g x (inSt own sel σ) H' fun σ4 H4 => te σ4 H4 R) : CompW (Itl K a) own sel σ g tYes te Q H := by
  refine comp_of (n := xs.length) (fun D i ys H' => ys = (xs.take i).map f ∧ Same H H') (fun D hD => ⟨rfl, same_new hD _⟩) (fun D i ys H' hD hi hy ⟨_, sH⟩ => ⟨xs, xs[i], SqL.of (sH _ _ ha), List.getElem?_eq_getElem hi⟩) (fun D ys H' hD hy hl ⟨e, sH⟩ => ⟨⟨_, SqL.of (sH _ _ ha), Nat.le_refl _⟩, hst D H' hD sH (by rw [hy, e, List.take_length])⟩) ?_
  rintro D i ys H' x H3 hD hi hy hl ⟨e, sH⟩ ⟨rfl, hx⟩
  have hx' := hx _ (SqL.of (sH _ _ ha))
  have ef : (fun (σ4 : St) (H4 : Hp) => tYes σ4 H4 fun b H5 => if b = true then te σ4 H5 fun v H6 => ∃ ys, H6 D = some (.lst ys) ∧ ys.length < sizeLine ∧ ∃ m', m' < xs.length - i ∧ CW D xs.length (fun i ys H' => ys = (xs.take i).map f ∧ Same H H') (i + 1) m' (upd H6 D (.lst (ys ++ [v]))) else ∃ m', m' < xs.length - i ∧ CW D xs.length (fun i ys H' => ys = (xs.take i).map f ∧ Same H H') (i + 1) m' H5)
      = fun σ4 H4 => te σ4 H4 fun v H6 => ∃ ys, H6 D = some (.lst ys) ∧ ys.length < sizeLine ∧ ∃ m', m' < xs.length - i ∧ CW D xs.length (fun i ys H' => ys = (xs.take i).map f ∧ Same H H') (i + 1) m' (upd H6 D (.lst (ys ++ [v]))) := by
    funext σ4 H4
    simp only [tYes, if_true]
  rw [ef]
  refine hs D i x H3 _ hD hx' sH fun H6 s6 => ?_
  refine comp_next hi hn (s6 _ _ hy) hl ⟨?_, fun b o z => ?_⟩
  · rw [e, List.take_add_one, hx', List.map_append]; rfl
  · rw [upd_ne (ne_of_none z hD)]
    exact s6 _ _ (sH _ _ z)
end
end L2
namespace BrM
open L2 PySem
theorem txs_at {l : List (List Nat)} {i : Nat} {x : V} (h : (l.map tx)[i]? = some x) : ∃ p, x = tx p ∧ p ∈ l := by
  rw [List.getElem?_map] at h
  cases e : l[i]? with
  | none => rw [e] at h; cases h
  | some p => rw [e] at h; exact ⟨p, (Option.some.inj h).symm, List.mem_of_getElem? e⟩
theorem cut_inner (o c : Nat) (M : List Nat) : cutL ([o] ++ M ++ [c]) (some 1) (some (-1)) = M := by
  unfold cutL
  have hl : ([o] ++ M ++ [c]).length = M.length + 2 := by simp
  have e1 : HT.sIx ([o] ++ M ++ [c]).length 0 (some 1) = 1 := by
    show HT.sIx ([o] ++ M ++ [c]).length 0 (some ((1 : Nat) : Int)) = 1
    rw [HT.sIx_nat, hl]; omega
  have e2 : HT.sIx ([o] ++ M ++ [c]).length ([o] ++ M ++ [c]).length (some (-1)) = M.length + 1 := by
    rw [hl]
    simp [HT.sIx]
    omega
  rw [e1, e2]
  simp
theorem brk_of {k : Int} {a : List Nat} (h : ∀ c ∈ a, kin k c) : brk a := fun c hc => by
  have h1 := h c hc
  refine ⟨sgn9 (kin_sgn h1), fun e => ?_⟩
  subst e
  rcases h1 with z | z
  · have := List.mem_of_mem_take z; revert this; decide
  · have := List.mem_of_mem_take z; revert this; decide
theorem brk_rt {a : List Nat} {k : Int} (ha : isRow k a = true) (h : Rt a) : brk a := by
  intro c hc
  refine ⟨sgn9 (isRow_mem ha c hc), fun e => ?_⟩
  subst e
  obtain ⟨i, hi, e⟩ := List.getElem_of_mem hc
  obtain ⟨xs, hx⟩ := part_ex h
  obtain ⟨p, ep, r⟩ := hx.2 i hi
  rcases r with z | z
  · have := pr_open z (List.getElem?_eq_getElem hi)
    rw [e] at this
    revert this; decide
  · obtain ⟨A, M, B, o, ea, hA, hM, ho, _, _⟩ := pr_split h z
    have hM' : M.length = i - p - 1 := hM
    have hp := z.1
    have h1 : a[i]? = some (clo o) := by
      rw [ea, List.getElem?_append_left (by simp; omega), List.getElem?_append_right (by omega)]
      rw [List.getElem?_append_right (by simp; omega)]
      have : i - A.length - ([o] ++ M).length = 0 := by simp; omega
      rw [this]; rfl
    rw [List.getElem?_eq_getElem hi, e] at h1
    have h2 : clo o = 63 := (Option.some.inj h1).symm
    have : o = 40 ∨ o = 91 ∨ o = 123 ∨ o = 60 := by simpa [opn] using ho
    rcases this with rfl | rfl | rfl | rfl <;> revert h2 <;> decide
theorem flat_ends {a : List Nat} {xs : List V} (h : IsPart a xs) (n : Nat) : ((xs.map (endV n)).reverse).all flatV = true := by
  rw [List.all_reverse, List.all_map, List.all_eq_true]
  intro v hv
  obtain ⟨i, hi, e⟩ := List.getElem_of_mem hv
  obtain ⟨p, ep, _⟩ := h.2 i (by rw [← h.1]; exact hi)
  rw [List.getElem?_eq_getElem hi, e] at ep
  cases ep
  rfl
theorem part_at {a : List Nat} {xs : List V} (h : IsPart a xs) {i : Nat} {x : V} (hx : xs[i]? = some x) : ∃ p : Nat, x = .int p := by
  have hi := (List.getElem?_eq_some_iff.mp hx).1
  obtain ⟨p, ep, _⟩ := h.2 i (by rw [← h.1]; exact hi)
  exact ⟨p, by rw [ep] at hx; exact (Option.some.inj hx).symm⟩
def dps (a : List Nat) : List Int := 0 :: (pts a).map deep
theorem dps_max {a : List Nat} (h : Rt a) {M : Int} (h1 : M ∈ dps a) (h2 : ∀ x ∈ dps a, x ≤ M) : M = deep a := by
  have ok := ptsOk h
  have h0 := h2 0 List.mem_cons_self
  have hle : M ≤ deep a := by
    rcases List.mem_cons.mp h1 with z | z
    · rw [z]; exact deep_nn a
    · obtain ⟨p, hp, rfl⟩ := List.mem_map.mp z
      exact ok.le p hp
  rcases ok.top with z | ⟨p, hp, z⟩
  · omega
  · have := h2 (deep p) (List.mem_cons_of_mem _ (List.mem_map.mpr ⟨p, hp, rfl⟩))
    omega
end BrM

namespace L2
open PySem PySem.Spec PyProof.Rows

/-! ## a comprehension's block some of whose names a block within it uses -/
theorem cf_split : ∀ (names : List (Str × NameKind)) (h : Heap) (acc : List (Str × Addr)) (x : Str) (c : Addr), (cellsFrom h.objs.size names acc).lookup x = some c →
    ((x, NameKind.cell) ∈ names ∧ h.objs.size ≤ c ∧ (pushCells h names).IsCell c none) ∨ acc.lookup x = some c
  | [], _, _, _, _, e => .inr e
  | (nm, k) :: r, h, acc, x, c, e => by
    unfold cellsFrom at e
    unfold pushCells
    by_cases hk : (k == NameKind.cell) = true
    · rw [if_pos hk] at e ⊢
      rw [← Heap.size_push h { cls := .type "cell", data := .cell none }] at e
      rcases cf_split r _ _ x c e with ⟨a, b, d⟩ | q
      · refine .inl ⟨List.mem_cons_of_mem _ a, ?_, d⟩
        rw [Heap.size_push] at b; omega
      · rw [List.lookup_cons] at q
        cases hx : x == nm with
        | true =>
          rw [hx] at q
          cases q
          have e1 := eq_of_beq hx
          have e2 : k = .cell := by simpa using hk
          subst e1; subst e2
          exact .inl ⟨List.mem_cons_self, Nat.le_refl _, ⟨_, pushCells_keeps _ _ _ _ (Heap.get?_push_size _ rfl), rfl⟩⟩
        | false => rw [hx] at q; exact .inr q
    · rw [if_neg hk] at e ⊢
      rcases cf_split r h acc x c e with ⟨a, b, d⟩ | q
      · exact .inl ⟨List.mem_cons_of_mem _ a, b, d⟩
      · exact .inr q
theorem cf_old : ∀ (names : List (Str × NameKind)) (n : Nat) (acc : List (Str × Addr)) (x : Str), (x, NameKind.cell) ∉ names → (cellsFrom n names acc).lookup x = acc.lookup x
  | [], _, _, _, _ => rfl
  | (nm, k) :: r, n, acc, x, hx => by
    unfold cellsFrom
    have hr : (x, NameKind.cell) ∉ r := fun z => hx (List.mem_cons_of_mem _ z)
    by_cases hk : (k == NameKind.cell) = true
    · rw [if_pos hk, cf_old r _ _ x hr, List.lookup_cons]
      have : (x == nm) = false := by
        cases q : x == nm with
        | false => rfl
        | true =>
          have e1 := eq_of_beq q
          have e2 : k = .cell := by simpa using hk
          subst e1; subst e2
          exact absurd List.mem_cons_self hx
      rw [this]
    · rw [if_neg hk]; exact cf_old r n acc x hr
theorem cf_new : ∀ (names : List (Str × NameKind)) (n : Nat) (acc : List (Str × Addr)) (x : Str), ((x, NameKind.cell) ∈ names ∨ ∃ c, acc.lookup x = some c ∧ n ≤ c) → ∃ c, (cellsFrom n names acc).lookup x = some c ∧ n ≤ c
  | [], n, acc, x, h => by
    rcases h with z | z
    · cases z
    · exact z
  | (nm, k) :: r, n, acc, x, h => by
    unfold cellsFrom
    by_cases hk : (k == NameKind.cell) = true
    · rw [if_pos hk]
      by_cases hr : (x, NameKind.cell) ∈ r
      · obtain ⟨c, e, l⟩ := cf_new r (n + 1) ((nm, n) :: acc) x (.inl hr)
        exact ⟨c, e, by omega⟩
      · rw [cf_old r _ _ x hr, List.lookup_cons]
        cases hx : x == nm with
        | true => exact ⟨n, rfl, Nat.le_refl _⟩
        | false =>
          rcases h with z | z
          · rcases List.mem_cons.mp z with q | q
            · cases q; simp at hx
            · exact absurd q hr
          · exact z
    · rw [if_neg hk]
      refine cf_new r n acc x ?_
      rcases h with z | z
      · rcases List.mem_cons.mp z with q | q
        · cases q; exact absurd rfl hk
        · exact .inl q
      · exact .inr z
theorem cf_inj : ∀ (names : List (Str × NameKind)) (n : Nat) (acc : List (Str × Addr)), (∀ x y c, acc.lookup x = some c → acc.lookup y = some c → x = y) → (∀ x c, acc.lookup x = some c → c < n) →
    ∀ x y c, (cellsFrom n names acc).lookup x = some c → (cellsFrom n names acc).lookup y = some c → x = y
  | [], _, _, h, _ => h
  | (nm, k) :: r, n, acc, h, hb => by
    unfold cellsFrom
    by_cases hk : (k == NameKind.cell) = true
    · rw [if_pos hk]
      refine cf_inj r (n + 1) ((nm, n) :: acc) (fun x y c a b => ?_) fun x c a => ?_
      · rw [List.lookup_cons] at a b
        cases hx : x == nm <;> cases hy : y == nm <;> rw [hx] at a <;> rw [hy] at b
        · exact h x y c a b
        · cases b; exact absurd (hb x _ a) (Nat.lt_irrefl _)
        · cases a; exact absurd (hb y _ b) (Nat.lt_irrefl _)
        · rw [eq_of_beq hx, eq_of_beq hy]
      · rw [List.lookup_cons] at a
        cases hx : x == nm <;> rw [hx] at a
        · exact Nat.lt_succ_of_lt (hb x c a)
        · cases a; exact Nat.lt_succ_self _
    · rw [if_neg hk]; exact cf_inj r n acc h hb

theorem wp_envC {M : Model} {A : Around} {E : Value → Shared → Prop} {s : Shared} {scope : Scope} {cl : List (Str × Addr)} {env : Env} {Q : Env → Shared → Prop}
    (h : Q { scope := scope, locals := s.heap.objs.size, globals := env.globals, cells := cellsFrom (s.heap.objs.size + 1) scope.names cl, qual := env.qual, func := none, code := env.code, frame := env.frame, builtins := env.builtins }
      { s with heap := pushCells (s.heap.push { cls := .type "dict", data := .dict #[] }) scope.names }) :
    wpAny M A (newFunctionEnv scope env.globals cl [] env.qual none .none (some env)) Q E s := by
  simp only [newFunctionEnv, Option.isSome_some, if_true]
  refine wpAny_bind (wpAny_alloc ?_)
  refine wpAny_bind (wpAny_layCells _ (fun name kind cells => by cases hkc : kind == NameKind.cell <;> simp [hkc]) _ _ _ _ ?_)
  rw [show ({ s with heap := s.heap.push { cls := .type "dict", data := .dict #[] } } : Shared).heap.objs.size = s.heap.objs.size + 1 from Heap.size_push ..]
  rw [List.forIn_nil]
  exact wpAny_bind (wpAny_pure (wpAny_pure h))

def cxInC (X : Cx) (own : List Str) (sel : List Nat) (scope : Scope) (cl : List (Str × Addr)) (C : Addr) (s2 : Shared) (H2 : Hp) (fp : List Addr) : Cx where
  prog := X.prog
  w := X.w
  K := X.K
  mg := X.mg
  base := X.base
  A := X.A
  N := own ++ sel.map fun j => X.N.getD j Str.empty
  s₀ := s2
  H₀ := H2
  env := compEnvC scope cl C X.env
  outer := X.stack
  stack := X.stack
  ex := fp
  fn := fun x => scope.names.lookup x == some .cell
  calm := X.calm
  pn := []
  xe := fun _ _ => False
structure CompOkC (osc : Scope) (N : List Str) (own : List Str) (sel : List Nat) (scope : Scope) : Prop where
  kind : scope.kind = .function
  cell : ∀ y ∈ scope.names, y.2 = .cell → scope.names.lookup y.1 = some .cell
  names : ∀ y ∈ scope.names, y.2 = .local → scope.names.lookup y.1 = some .local
  free : ∀ y ∈ scope.names, y.2 = .free → osc.names.lookup y.1 = some .cell ∨ osc.names.lookup y.1 = some .free
  seln : ∀ j ∈ sel, j < N.length ∧ scope.names.lookup (N.getD j Str.empty) = some .free ∧ (osc.names.lookup (N.getD j Str.empty) = some .cell ∨ osc.names.lookup (N.getD j Str.empty) = some .free)
section
variable {X : Cx}
theorem comp_coreC {elt tg iter : Expr} {ifs : List Expr} {scope : Scope} {pos : Pos} {own : List Str} {sel : List Nat} {wi : TI} {g : TG} {tt : TT} {te : TE} {use : Option (Value → Sem Unit)} {Qo : Value → Shared → Prop}
    (S : CompOkC X.env.scope X.N own sel scope) (hc : X.calm = true) (hi : PI X tg iter wi)
    (hg : ∀ cl C s2 H2 fp, PG (cxInC X own sel scope cl C s2 H2 fp) tg g) (hk : GK own.length g)
    (ht : ∀ cl C s2 H2 fp, PIf (cxInC X own sel scope cl C s2 H2 fp) ifs tt) (he : ∀ cl C s2 H2 fp, PE (cxInC X own sel scope cl C s2 H2 fp) elt te)
    (hs : ∀ x, foldedSetIterable iter X.env x = pure x) {pins : List (Addr × Obj)} {s : Shared} {σ : St} {H : Hp} {Q : VK} {ps : Pos} (I0 : Inv X pins σ H s) (h : tComp own sel wi g tt te σ H Q)
    (fin : ∀ (D C : Addr) (H' : Hp) (s' : Shared) (m : Str → Option Value), Inv X pins σ H' s' → s'.heap.Ns C m → Far X pins H' C → Q (.ref D) H' → compPost (model X.prog X.w) X.A X.xe use Qo (.ref D) C (.ok .next) s') :
    wpAny (model X.prog X.w) X.A (comprehension (.ListComp elt [⟨tg, iter, ifs, 0⟩] scope pos) scope X.env ps (newList []) false (eval iter X.env) use) Qo X.xe s := by
  obtain ⟨cl0, hclos, hcl0, hfree0⟩ := clos_ex (scope := scope) (env := X.env) fun y hy e => I0.ok.has y.1 (S.free y hy e)
  refine wpAny_comprehension_free (use := use) rfl hs hclos S.kind S.names (thn (hi pins s σ H _ I0 h) fun v s1 h1 => thn h1 fun itv s2 h2 => ?_)
  obtain ⟨it, fp, tn, J, H2, e, I, T, st2, f2, h3⟩ := h2
  subst e
  clear h h1 I0
  refine wpAny_newObj_type (wp_envC ?_)
  dsimp only
  generalize hP : s2.heap.push { cls := .type "list", dict := none, data := .seq ([] : List Value).toArray } = P1
  generalize hD : s2.heap.objs.size = D
  generalize hC : P1.objs.size = C
  have hCD : C = D + 1 := by rw [← hC, ← hP, Heap.size_push, hD]
  have hlt : D < C := by rw [hCD]; exact Nat.lt_succ_self D
  have hDC : D ≠ C := Nat.ne_of_lt hlt
  have neC : ∀ b : Addr, b < D → b ≠ C := fun b hb => Nat.ne_of_lt (Nat.lt_trans hb hlt)
  have neD : ∀ b : Addr, b < D → b ≠ D := fun b hb => Nat.ne_of_lt hb
  have hsD : s2.heap.objs.size ≤ D := Nat.le_of_eq hD
  have hsC : s2.heap.objs.size ≤ C := Nat.le_trans hsD (Nat.le_of_lt hlt)
  have fresh : ∀ a, D ≤ a → H2 a = none := fun a ha => I.hok.fresh (by rw [hD]; exact ha)
  have hnD : H2 D = none := fresh D (Nat.le_refl _)
  have hnC : H2 C = none := fresh C (Nat.le_of_lt hlt)
  have below : ∀ b o, s2.heap.get? b = some o → b < D := fun b o e => by rw [← hD]; exact Heap.lt_size e
  generalize hh1 : pushCells (P1.push { cls := .type "dict", data := .dict #[] }) scope.names = h1
  have keepP : ∀ b o, P1.get? b = some o → h1.get? b = some o := fun b o e => by rw [← hh1]; exact pushCells_keeps _ _ b o (Heap.get?_push_of_some _ e)
  have keep1 : ∀ b o, s2.heap.get? b = some o → h1.get? b = some o := fun b o e => keepP b o (hP ▸ Heap.get?_push_of_some _ e)
  have hns1 : h1.Ns C (fun _ => none) := by rw [← hh1, ← hC]; exact (Heap.Ns.new P1 (.type "dict")).keeps (pushCells_keeps _ _)
  have gD : h1.get? D = some { cls := .type "list", dict := none, data := .seq ([] : List Value).toArray } := by
    refine keepP _ _ ?_
    rw [← hP, ← hD]
    exact Heap.get?_push_size _ rfl
  -- the cells of the block
  have szP : (P1.push { cls := .type "dict", data := .dict #[] }).objs.size = C + 1 := by rw [Heap.size_push, hC]
  have hcb : ∀ x c, cl0.lookup x = some c → c < D := fun x c e => by
    obtain ⟨u, o, z, _⟩ := I.cell x c (hcl0 _ _ e)
    exact below c o z
  generalize hcs : cellsFrom (C + 1) scope.names cl0 = cl
  have hsplit : ∀ x c, cl.lookup x = some c → ((x, NameKind.cell) ∈ scope.names ∧ C + 1 ≤ c ∧ h1.IsCell c none) ∨ X.env.cells.lookup x = some c := fun x c e => by
    rw [← hcs, ← szP] at e
    rcases cf_split _ _ _ x c e with ⟨a, b, d⟩ | q
    · rw [szP] at b; rw [hh1] at d; exact .inl ⟨a, b, d⟩
    · exact .inr (hcl0 _ _ q)
  have hinj : ∀ x y c, cl.lookup x = some c → cl.lookup y = some c → x = y := by
    rw [← hcs]
    exact cf_inj _ _ _ (fun x y c a b => I.ok.inj x y c (hcl0 _ _ a) (hcl0 _ _ b)) fun x c e => Nat.lt_succ_of_lt (Nat.lt_trans (hcb x c e) hlt)
  have hcell : ∀ x, (x, NameKind.cell) ∈ scope.names → ∃ c, cl.lookup x = some c ∧ C + 1 ≤ c := fun x hx => by rw [← hcs]; exact cf_new _ _ _ x (.inl hx)
  have hfree : ∀ y ∈ scope.names, y.2 = .free → ∃ c, cl.lookup y.1 = some c := fun y hy e => by
    by_cases hm : (y.1, NameKind.cell) ∈ scope.names
    · obtain ⟨c, q, _⟩ := hcell _ hm; exact ⟨c, q⟩
    · rw [← hcs, cf_old _ _ _ _ hm]; exact hfree0 y hy e
  have hold : ∀ x, scope.names.lookup x = some .free → ∃ c, cl.lookup x = some c ∧ X.env.cells.lookup x = some c := fun x hx => by
    have hm : (x, NameKind.cell) ∉ scope.names := fun z => by have := S.cell _ z rfl; rw [hx] at this; cases this
    obtain ⟨c, q⟩ := hfree0 _ (PySem.mem_of_lookup hx) rfl
    exact ⟨c, by rw [← hcs, cf_old _ _ _ _ hm]; exact q, hcl0 _ _ q⟩
  obtain ⟨W, ⟨m0, w0⟩, turn⟩ := h3 D hnD
  have fpb : ∀ b ∈ fp, b < D := fun b hb => by obtain ⟨o, e, _⟩ := T.obj _ _ st2 b hb; exact below b o e
  -- the block's context
  generalize hY : cxInC X own sel scope cl C s2 H2 fp = Y
  have hg := hg cl C s2 H2 fp
  have ht := ht cl C s2 H2 fp
  have he := he cl C s2 H2 fp
  rw [hY] at hg ht he
  have okY : Y.Ok := by
    subst hY
    refine ⟨I.ok.mod, S.kind, I.ok.glob, I.ok.blt, ?_, hinj, fun x hx => ?_, fun x c hf e => ?_, fun z => I.ok.hd z, I.ok.frames, .inl rfl, fun b hb => ⟨?_, fun x c e => ?_⟩, I.bs,
      Nat.le_trans I.ok.bsz I.sz, fun b o e hb => ?_, fun b hb z => ?_, I.stack, I.stkFree⟩
    · exact hsC
    · have hx' : (relabel scope X.env).names.lookup x = some .cell ∨ (relabel scope X.env).names.lookup x = some .free := hx
      have hf : scope.names.lookup x = some .cell ∨ scope.names.lookup x = some .free := by
        rcases hx' with z | z
        · rcases relabel_lookup z with q | q
          · exact .inl q
          · exact .inr q
        · rcases relabel_lookup z with q | q <;> exact .inr q
      rcases hf with hf | hf
      · obtain ⟨c, q, _⟩ := hcell _ (PySem.mem_of_lookup hf); exact ⟨c, q⟩
      · exact hfree _ (PySem.mem_of_lookup hf) rfl
    · have hf' : scope.names.lookup x = some .cell := by
        have : (scope.names.lookup x == some NameKind.cell) = true := hf
        exact eq_of_beq this
      obtain ⟨c', q, l⟩ := hcell x (PySem.mem_of_lookup hf')
      have e' : cl.lookup x = some c := e
      rw [q] at e'
      cases e'
      exact Nat.le_trans hsC (by omega)
    · exact neC b (fpb b hb)
    · rcases hsplit x c e with ⟨_, l, _⟩ | q
      · have := fpb b hb; intro z; subst z; exact absurd (Nat.lt_of_lt_of_le this (Nat.le_of_lt hlt)) (by omega)
      · exact (f2 b hb).2.2.2.2.1 x c q
    · rcases (f2 b hb).2.2.2.1 with z | z
      · exact I.ok.noex b o e z
      · exact absurd (Nat.lt_of_lt_of_le (Heap.lt_size e) (Nat.le_trans I.ok.bsz z)) (Nat.lt_irrefl _)
    · rcases List.mem_cons.mp (I.stkSub b z) with q | q
      · exact (f2 b hb).2.1 q
      · exact (f2 b hb).2.2.1 q
  -- the state ahead of the first turn
  have eo : ObjOk X.prog X.w (upd H2 D (.lst [])) h1 D (.lst []) := ⟨by decide, [], _, .nil, gD⟩
  have I1 : Inv Y [] (inSt own sel σ) (upd H2 D (.lst [])) { s2 with heap := h1 } := by
    subst hY
    refine ⟨okY, rfl, I.bare, Un.laid keep1 hsD hnD, ⟨_, hns1, fun i x v e1 e2 e3 => ?_⟩, fun x c e => ?_, ?_, fun x c e => ?_, fun p hp => absurd (show p ∈ ([] : List (Addr × Obj)) from hp) (by simp), I.hok.laid keep1 hsD eo, ?_⟩
    · obtain ⟨k, j, ei, ej, es⟩ := inSt_sel e2
      subst ei
      have e1' : (own ++ sel.map fun j => X.N.getD j Str.empty)[own.length + k]? = some x := e1
      rw [List.getElem?_append_right (by omega), List.getElem?_map, show own.length + k - own.length = k by omega, ej] at e1'
      simp only [Option.map_some, Option.some.injEq] at e1'
      obtain ⟨hj, hfx, hkd⟩ := S.seln j (List.mem_of_getElem? ej)
      have hN : X.N[j]? = some x := by rw [← e1', List.getD_eq_getElem?_getD, List.getElem?_eq_getElem hj]; rfl
      rw [e1'] at hkd hfx
      obtain ⟨m, _, hl⟩ := I.loc
      obtain ⟨u, r, lk⟩ := hl j x v hN es (.inr hkd)
      refine ⟨u, r, .inr ⟨relabel_free I.ok.kind hfx, ?_⟩⟩
      rcases lk with ⟨z1, _⟩ | ⟨_, c, hc1, hc2⟩
      · have z1' : X.env.scope.names.lookup x = some .local := z1
        rcases hkd with q | q <;> (rw [z1'] at q; cases q)
      · obtain ⟨c', q, q2⟩ := hold _ hfx
        rw [hc1] at q2
        cases q2
        exact ⟨c, q, hc2.keeps keep1⟩
    · rcases hsplit x c e with ⟨_, _, z⟩ | q
      · exact ⟨_, z⟩
      · obtain ⟨u, z⟩ := I.cell x c q
        exact ⟨u, z.keeps keep1⟩
    · show upd H2 D (.lst []) C = none
      rw [upd_ne (Ne.symm hDC)]; exact hnC
    · show upd H2 D (.lst []) c = none
      rcases hsplit x c e with ⟨_, l, _⟩ | q
      · have hcD : D < c := Nat.lt_of_lt_of_le hlt (by omega)
        rw [upd_ne (Ne.symm (Nat.ne_of_lt hcD))]
        exact fresh c (Nat.le_of_lt hcD)
      · obtain ⟨u, o, z, _⟩ := I.cell x c q
        rw [upd_ne (neD c (below c o z))]
        exact I.freeC x c q
    · show (inSt own sel σ).length = (own ++ sel.map fun j => X.N.getD j Str.empty).length
      rw [inSt_len]; simp
  -- its end
  have fin : ∀ (σ' : St) (H' : Hp) (s' : Shared), Inv Y [] σ' H' s' → Q (.ref D) H' → compPost (model X.prog X.w) X.A X.xe use Qo (.ref D) C (.ok .next) s' := by
    intro σ' H' s' I' q
    subst hY
    obtain ⟨m, hn, _⟩ := I'.loc
    have J' : Inv X pins σ H' s' := I.call' I'.os I'.base I'.hok I'.bare fun b hb => ⟨(f2 b hb).2.2.2.1, (f2 b hb).2.1, (f2 b hb).2.2.2.2.1, (f2 b hb).2.2.2.2.2⟩
    refine fin D C H' s' m J' hn ⟨I'.free, Ne.symm (neC _ (by rw [← hD]; exact I.lt)), Nat.le_trans I.sz hsC, fun x c e => ?_, fun p hp => ?_⟩ q
    · obtain ⟨u, o, z, _⟩ := I.cell x c e
      exact neC c (below c o z)
    · exact neC p.1 (below p.1 p.2 (I.pin p hp).1)
  -- what stays true of the iterator's objects
  have stat : ∀ {H' : Hp}, (∀ b ∈ fp, H' b = none) → ∀ b ∈ fp, FpOk Y [] H' b := fun {H'} hn b hb => by
    subst hY
    refine ⟨hn b hb, neC b (fpb b hb), fun z => ?_, .inl hb, fun x c e => ?_, fun p hp => absurd (show p ∈ ([] : List (Addr × Obj)) from hp) (by simp)⟩
    · rcases List.mem_cons.mp (I.stkSub b z) with q | q
      · exact (f2 b hb).2.1 q
      · exact (f2 b hb).2.2.1 q
    · rcases hsplit x c e with ⟨_, l, _⟩ | q
      · have := fpb b hb; intro z; subst z; exact absurd (Nat.lt_of_lt_of_le this (Nat.le_of_lt hlt)) (by omega)
      · exact (f2 b hb).2.2.2.2.1 x c q
  have loop : ∀ s3 : Shared, s3 = { s2 with heap := h1 } →
      codeAny (model X.prog X.w) X.A (.compLoop (.ListComp elt [⟨tg, iter, ifs, 0⟩] scope pos) 0 (.ref it) (.ref D) (compEnvC scope cl C X.env)) (compPost (model X.prog X.w) X.A X.xe use Qo (.ref D) C) s3 := by
    rintro s3 rfl
    have eP : Y.prog = X.prog := by subst hY; rfl
    have eW : Y.w = X.w := by subst hY; rfl
    have eA : Y.A = X.A := by subst hY; rfl
    have eK : Y.K = X.K := by subst hY; rfl
    have eE : Y.env = compEnvC scope cl C X.env := by subst hY; rfl
    have eX : Y.xe = fun _ _ => False := by subst hY; rfl
    have eC : Y.calm = true := by subst hY; exact hc
    refine comp_turns (fun n s' => ∃ i H', Inv Y [] (inSt own sel σ) H' s' ∧ tn i s'.heap ∧ (∀ b ∈ fp, H' b = none) ∧ W i n H') ?_ m0
      ⟨0, _, I1, T.keep _ _ _ st2 fun b _ o e => keep1 b o e, fun b hb => by rw [upd_ne (neD b (fpb b hb))]; exact (f2 b hb).1, w0⟩
    rintro n s4 ⟨i, H4, I4, st4, fr4, w4⟩
    rcases turn i n H4 w4 with ⟨stop, q⟩ | ⟨go, step⟩
    · have dn := T.done Y eP eW eK eC i [] s4 _ H4 (fun _ _ => False) I4 (stat fr4) st4 stop
      rw [eA] at dn
      refine thn dn fun r s5 ⟨hr, I5⟩ => ?_
      subst hr
      exact fin _ _ _ I5 q
    · have im := T.item Y eP eW eK eC i [] s4 _ H4 (fun _ _ => False) I4 (stat fr4) st4 go
      rw [eA] at im
      refine thn im fun r s5 ⟨u, hr, h5⟩ => ?_
      subst hr
      refine thn h5 fun _ s6 ⟨x, H6, I6, r6, y6, st6, fr6⟩ => ?_
      have I6' := I6.pinned (stat fr6) (T.obj _ _ st6)
      have back : ∀ {σ7 : St} {H7 : Hp} {s7 : Shared} {k : Nat}, Inv Y ([] ++ pinsAt fp s6.heap) σ7 H7 s7 → σ7.length = (inSt own sel σ).length → (∀ j, own.length ≤ j → σ7[j]? = (inSt own sel σ)[j]?) → (∃ m', m' < n ∧ W (i + 1) m' H7) →
          ∃ m', m' < n ∧ ∃ i H', Inv Y [] (inSt own sel σ) H' s7 ∧ tn i s7.heap ∧ (∀ b ∈ fp, H' b = none) ∧ W i m' H' := fun {σ7 H7 s7 k} I7 l7 k7 w7 => by
        obtain ⟨m', hm, w7⟩ := w7
        refine ⟨m', hm, i + 1, H7, I7.unpinned.weak l7.symm fun j v e => ?_, T.keep _ _ _ st6 fun b hb o e => (I7.pin (b, o) (List.mem_append_right _ (List.mem_append_right _ (mem_pinsAt hb e)))).1, fun b hb => ?_, w7⟩
        · by_cases hj : j < own.length
          · rw [inSt_own hj] at e; cases e
          · rw [k7 j (Nat.le_of_not_lt hj)]; exact e
        · obtain ⟨o, e, d⟩ := T.obj _ _ st6 b hb
          exact (I7.pin (b, o) (List.mem_append_right _ (List.mem_append_right _ (mem_pinsAt hb e)))).2.1
      have ga := hg _ s6 _ H6 x u _ I6' r6 (hk _ _ _ _ (step x H6 y6))
      rw [eP, eW, eA, eE, eX] at ga
      refine thn ga fun _ s7 ⟨σ7, H7, I7, q7, l7, k7⟩ => ?_
      have ta := ht _ s7 σ7 H7 _ I7 q7
      rw [eP, eW, eA, eE, eX] at ta
      refine thn ta fun b s8 ⟨H8, I8, q8⟩ => ?_
      cases b with
      | false =>
        rw [if_neg Bool.false_ne_true] at q8 ⊢
        exact back (k := 0) I8 l7 k7 q8
      | true =>
        rw [if_pos rfl] at q8 ⊢
        have ea := he _ s8 σ7 H8 _ I8 q8
        rw [eP, eW, eA, eE, eX] at ea
        refine thn ea fun v s9 ⟨x9, H9, I9, r9, ys, hD9, hz9, q9⟩ => ?_
        have aa := mt_append (X := Y) _ s9 σ7 H9 (.ref D) [x9] (.ref D) [v] (fun _ H' => ∃ m', m' < n ∧ W (i + 1) m' H') I9 rfl (.cons r9 .nil) ⟨D, ys, x9, rfl, rfl, hD9, hz9, q9⟩
        rw [eP, eW, eA, eX] at aa
        exact thn aa fun _ s10 ⟨_, H10, I10, _, q10⟩ => back (k := 0) I10 l7 k7 q10
  exact codeAny_compStart_list (loop _ rfl) (T.self X.A 0 _ _ _ (T.keep _ _ _ st2 fun b _ o e => keep1 b o e) (loop _ rfl))
/-- [elt for tg in iter if ..] -/
theorem pe_compC {elt tg iter : Expr} {ifs : List Expr} {scope : Scope} {pos : Pos} {own : List Str} {sel : List Nat} {wi : TI} {g : TG} {tt : TT} {te : TE}
    (S : CompOkC X.env.scope X.N own sel scope) (hc : X.calm = true) (hi : PI X tg iter wi)
    (hg : ∀ cl C s2 H2 fp, PG (cxInC X own sel scope cl C s2 H2 fp) tg g) (hk : GK own.length g)
    (ht : ∀ cl C s2 H2 fp, PIf (cxInC X own sel scope cl C s2 H2 fp) ifs tt) (he : ∀ cl C s2 H2 fp, PE (cxInC X own sel scope cl C s2 H2 fp) elt te)
    (hs : ∀ x, foldedSetIterable iter X.env x = pure x := by intro _; rfl) :
    PE X (.ListComp elt [⟨tg, iter, ifs, 0⟩] scope pos) (tComp own sel wi g tt te) := by
  intro pins s σ H Q I h
  rw [eval_ListComp]
  refine comp_coreC (use := none) S hc hi hg hk ht he hs I h fun D C H' s' m I' hn f q => ?_
  exact ⟨m, hn, fun h' k => ⟨.ref D, H', I'.far f k, rfl, q⟩⟩
/-- x = [elt for tg in iter if ..] -/
theorem ps_setCompC {i : Nat} {x : Str} {pos' spos : Pos} {elt tg iter : Expr} {ifs : List Expr} {scope : Scope} {pos : Pos} {own : List Str} {sel : List Nat} {wi : TI} {g : TG} {tt : TT} {te : TE}
    (hN : X.N.Nodup) (hix : X.N[i]? = some x) (hx : Loc X.env.scope x)
    (S : CompOkC X.env.scope X.N own sel scope) (hc : X.calm = true) (hi : PI X tg iter wi)
    (hg : ∀ cl C s2 H2 fp, PG (cxInC X own sel scope cl C s2 H2 fp) tg g) (hk : GK own.length g)
    (ht : ∀ cl C s2 H2 fp, PIf (cxInC X own sel scope cl C s2 H2 fp) ifs tt) (he : ∀ cl C s2 H2 fp, PE (cxInC X own sel scope cl C s2 H2 fp) elt te)
    (hs : ∀ x, foldedSetIterable iter X.env x = pure x := by intro _; rfl)
    (hsw : swapsWith (.ListComp elt [⟨tg, iter, ifs, 0⟩] scope pos) (some (.Name x pos')) spos.line X.env = pure true := by rfl)
    (hf : X.fn x = true ∨ X.env.scope.names.lookup x = some .local := by first | exact .inl rfl | exact .inr rfl | assumption) :
    PS X (.Assign [.Name x pos'] (.ListComp elt [⟨tg, iter, ifs, 0⟩] scope pos) spos) (tAsg (tComp own sel wi g tt te) (gName i)) := by
  intro pins s σ H D0 I h
  rw [exec_Assign_Name_used _ _ _ _ hsw]
  refine wpAny_bind (wpAny_standAt (wpAny_bind ?_))
  show wpAny _ X.A (do let _ ← comprehension (.ListComp elt [⟨tg, iter, ifs, 0⟩] scope pos) scope X.env _ (newList []) false (eval iter X.env) (some (assign (.Name x pos') X.env))) _ _ s
  refine wpAny_bind (wpAny_mono (comp_coreC (use := some (assign (.Name x pos') X.env)) (Qo := fun _ s' => SP X pins D0 .next s') S hc hi hg hk ht he hs I h fun D C H' s' m I' hn f q => ?_) (fun _ s' hq => wpAny_pure (wpAny_pure hq)) fun _ _ e => e)
  show wpAny _ X.A (assign (.Name x pos') X.env (.ref D)) _ _ _
  refine wpAny_assign_Name (store_ok2 (v := V.ref D) I' hN hix hx rfl (fun s2 I2 ⟨a, k, ha⟩ => ?_) hf)
  have haC : C ≠ a := by
    rcases ha with rfl | ha
    · exact f.nl
    · exact Ne.symm (f.nc x a ha)
  exact ⟨m, hn.sameBut k haC, fun h' k' => ⟨_, H', I2.far f k', q⟩⟩
end
end L2

namespace L2
open PySem PySem.Spec PyProof.Rows
/-! ## range with a step -/
def Itr3 (lo c : Int) (n : Nat) : It := ⟨fun i _ => i < n, fun i H x H' => H' = H ∧ x = .int (lo + i * c), fun i _ => n ≤ i⟩
theorem turn_range3 {P : Program} {w : World} {K : PySem.W.Frag} {tg : Expr} (it : Addr) (lo c : Int) (n : Nat) : Turn P w K tg (Itr3 lo c n) [it] it (fun i h => IsRangeIter h it (lo + (i : Nat) * c) ((n : Int) - (i : Nat)) c) where
  mem := by simp
  obj := fun i h st b hb => by
    obtain rfl : b = it := by simpa using hb
    exact ⟨_, st, fun v z => by
      have z' : Data.fields _ = Data.cell v := z
      cases z'⟩
  keep := fun i h h' st k => k it (by simp) _ st
  item := by
    intro X hP hw hK hc i pins s σ H E I hf st hg
    subst hP hw hK
    obtain ⟨f0, f1, f2, f3, f4, f5⟩ := hf it (by simp)
    have W := Walks.range (prog := X.prog) (w := X.w) (I.ok.hd hc) it lo c n
    refine W.item i s _ _ hg st fun v h' tk hv st' kk => ?_
    obtain ⟨t, rfl⟩ := hv
    have I1 : Inv X pins σ H { s with heap := h', toks := tk } := I.turned (fun b o hb e => kk b o (by simpa using hb) e) f0 f1 f3 f4 f5
    exact ⟨_, rfl, go_of (s := { s with heap := h', toks := tk }) (n := "range_iterator") st' rfl rfl (by decide) ⟨.int (lo + i * c), H, I1, ⟨t, rfl⟩, ⟨rfl, rfl⟩, st', fun b hb => (hf b hb).1⟩⟩
  done := by
    intro X hP hw hK hc i pins s σ H E I hf st hg
    subst hP hw hK
    obtain ⟨f0, f1, f2, f3, f4, f5⟩ := hf it (by simp)
    exact wpAny_pyNext_range_end (I.ok.hd hc) st (by have : n ≤ i := hg; omega) fun h' eb => ⟨rfl, I.turned (t' := s.toks) (fun b o hb e => eb b o hb e) f0 f1 f3 f4 f5⟩
  self := fun _ _ _ _ _ st h => wpAny_pyIter_rangeiter st h
section
variable {X : Cx} {tg : Expr}
/-- how many turns -/
def rN (a b c : Int) : Nat := (Builtin.Range.rangeSize a b c).toNat
theorem range_it3 {pins : List (Addr × Obj)} {σ : St} {H : Hp} {s : Shared} {R : It → Hp → Prop} {E : Value → Shared → Prop} {lo hi c : Int} {t u v : Tok} {tk : Nat} (I : Inv X pins σ H s) (hs : Builtin.Range.small lo hi c = true)
    (q : R (Itr3 lo c (rN lo hi c)) H) : wpAny (model X.prog X.w) X.A (pyIter (.ref s.heap.objs.size)) (PIE X pins σ tg R) E { s with heap := s.heap.push { cls := .type "range", data := .fields #[.int lo t, .int hi u, .int c v] }, toks := tk } := by
  refine wpAny_pyIter_range (IsRange.new ..) hs ?_
  have I1 : Inv X pins σ H { s with heap := s.heap.push { cls := .type "range", data := .fields #[.int lo t, .int hi u, .int c v] }, toks := tk } := I.kept fun b o e => Heap.get?_push_of_some _ e
  refine ⟨(s.heap.push { cls := .type "range", data := .fields #[.int lo t, .int hi u, .int c v] }).objs.size, [(s.heap.push { cls := .type "range", data := .fields #[.int lo t, .int hi u, .int c v] }).objs.size], _, _, H, rfl,
    I1.kept (t' := tk) fun b o e => Heap.get?_push_of_some _ e, turn_range3 _ lo c (rN lo hi c), ?_, fun b hb => ?_, q⟩
  · have e1 : lo + ((0 : Nat) : Int) * c = lo := by simp
    have e2 : ((rN lo hi c : Nat) : Int) - ((0 : Nat) : Int) = Builtin.Range.rangeSize lo hi c := by unfold rN; rw [← rangeSize_toNat]; simp
    show IsRangeIter _ _ (lo + ((0 : Nat) : Int) * c) (((rN lo hi c : Nat) : Int) - ((0 : Nat) : Int)) c
    rw [e1, e2]
    exact Heap.get?_push_size _ rfl
  · obtain rfl : b = (s.heap.push { cls := .type "range", data := .fields #[.int lo t, .int hi u, .int c v] }).objs.size := by simpa using hb
    exact I1.fpOk (Nat.le_refl _) (I1.hok.fresh (Nat.le_refl _))
def iRng3 (ta : TA) : TI := fun σ H R => ta σ H fun vs H1 => ∃ i j c : Int, vs = [.int i, .int j, .int c] ∧ (c ≠ 0 ∧ c.natAbs < 1000 ∧ Builtin.Range.small i j c = true) ∧ R (Itr3 i c (rN i j c)) H1
theorem pi_range3 {a b c : Expr} {ta : TA} {p pos : Pos} (hg : Gl X "range") (hm : X.mg "range" = none) (ha : PA X [a, b, c] ta) (hs : starEach [a, b, c] X.env = [(false, eval a X.env), (false, eval b X.env), (false, eval c X.env)] := by rfl) (hs2 : starEach [b, c] X.env = [(false, eval b X.env), (false, eval c X.env)] := by rfl) :
    PI X tg (.Call (.Name "range" p) [a, b, c] [] pos) (iRng3 ta) := by
  intro pins s σ H R I h
  refine Call_ (ld_blt I hg hm boot_range (PyProof.Rows.callWith_type1 (thn (ha pos pins s σ H _ I h) fun us s1 ⟨vs, H1, I1, r1, q1⟩ => ?_) (by rw [hs, hs2]) (by rw [hs2]; rfl)))
  obtain ⟨i, j, c, e, ⟨q1, q2, q3⟩, q⟩ := q1
  subst e
  cases r1 with
  | cons r rr =>
    cases rr with
    | cons r' rr =>
      cases rr with
      | cons r'' rr =>
        cases rr
        obtain ⟨t, rfl⟩ := r
        obtain ⟨t', rfl⟩ := r'
        obtain ⟨t'', rfl⟩ := r''
        exact call_range_3 q1 (range_it3 I1 q3 q) (Or.inl (PyProof.noPylong_small (by omega)))
end
theorem small_two {a b : Int} (ha : 0 ≤ a) (ha' : a ≤ 1000) (hb : -1000 ≤ b) (hb' : b ≤ 1000) : Builtin.Range.small a b 2 = true := by
  unfold Builtin.Range.small Builtin.Range.rangeSize
  simp only [Builtin.Range.rangeFitsLong, Bool.and_eq_true, Bool.or_eq_true, decide_eq_true_eq, beq_iff_eq, show (2 : Int) > 0 by decide, if_true]
  split <;> omega
theorem small_down {a b c : Int} (hc : c = -1 ∨ c = -2) (ha : -1000 ≤ a) (ha' : a ≤ 1000) (hb : -1000 ≤ b) (hb' : b ≤ 1000) : Builtin.Range.small a b c = true := by
  unfold Builtin.Range.small Builtin.Range.rangeSize
  rcases hc with rfl | rfl
  · simp only [Builtin.Range.rangeFitsLong, Bool.and_eq_true, Bool.or_eq_true, decide_eq_true_eq, beq_iff_eq, show ¬ ((-1 : Int) > 0) by decide, if_false, Int.neg_neg]
    split <;> omega
  · simp only [Builtin.Range.rangeFitsLong, Bool.and_eq_true, Bool.or_eq_true, decide_eq_true_eq, beq_iff_eq, show ¬ ((-2 : Int) > 0) by decide, if_false, Int.neg_neg]
    split <;> omega
theorem rN_two (a b : Int) : rN a b 2 = ((b - a + 1) / 2).toNat := by
  unfold rN Builtin.Range.rangeSize
  simp only [show (2 : Int) > 0 by decide, if_true]
  split <;> omega
theorem rN_down (a b : Int) : rN a b (-1) = (a - b).toNat := by
  unfold rN Builtin.Range.rangeSize
  simp only [show ¬ ((-1 : Int) > 0) by decide, if_false, Int.neg_neg]
  split <;> omega
theorem rN_down2 (a b : Int) : rN a b (-2) = ((a - b + 1) / 2).toNat := by
  unfold rN Builtin.Range.rangeSize
  simp only [show ¬ ((-2 : Int) > 0) by decide, if_false, Int.neg_neg]
  split <;> omega

/-! ## sum, list, o[i] += e -/
section
variable {X : Cx}
def rSum (K : PySem.W.Frag) : List V → Hp → VK → Prop := fun xs H Q => ∃ (p : Addr) (ns : List Int), xs = [.ref p] ∧ SqL K H p (ns.map V.int) ∧ Q (.int ns.sum) H
theorem call_sumA (K : PySem.W.Frag) (hc : X.calm = true) (hK : X.K = K := by rfl) : CallR X (.builtin "sum") (rSum K) := by
  subst hK
  intro pins s σ H xs us Q I r h
  obtain ⟨p, ns, rfl, hq, q⟩ := h
  obtain ⟨u, rfl, ru⟩ := vals1 r
  cases ru
  obtain ⟨its, rr, ht, hz⟩ := I.list hq
  have hi := intsAre_of rr
  obtain ⟨xs, e⟩ := hi.allInts.items
  have hns : ns = xs.toList.map (·.1) := by rw [← hi.numsOf, ← nums_intItems, ← e]
  have hl := ht.isList
  rw [e] at hl
  refine sum_intListG (I.ok.hd hc) hl fun h' tk t' hk => ?_
  have e2 : preSum (numAt xs) xs.size = ns.sum := by
    rw [preSum_eq, List.take_of_length_le (by simp), hns]
  rw [e2]
  exact ⟨.int ns.sum, H, I.kept fun b o z => hk b o z, ⟨t', rfl⟩, q⟩
def rList (K : PySem.W.Frag) : List V → Hp → VK → Prop := fun xs H Q => ∃ p ys, xs = [.ref p] ∧ (SqL K H p ys ∨ SqT K H p ys) ∧ ∀ l, H l = none → Q (.ref l) (upd H l (.lst ys))
theorem call_listA (K : PySem.W.Frag) (hK : X.K = K := by rfl) : CallR X (.type "list") (rList K) := by subst hK; exact call_list_of
def rGetL (K : PySem.W.Frag) : V → V → Hp → VK → Prop := fun x y H Q => ∃ p xs, ∃ (j : Nat), ∃ v, x = .ref p ∧ y = .int j ∧ SqL K H p xs ∧ xs[j]? = some v ∧ Q v H
theorem get_listA (K : PySem.W.Frag) (hK : X.K = K := by rfl) : PGet X (rGetL K) := by
  subst hK
  intro pins s σ H o i ov iv Q I r1 r2 h
  obtain ⟨p, xs, j, z, rfl, rfl, hq, he, q⟩ := h
  cases r1
  obtain ⟨t, rfl⟩ := r2
  obtain ⟨its, r, pl, hz⟩ := I.list hq
  obtain ⟨w, ew, rw'⟩ := r.get he
  have hl := r.length
  have hn := line63
  have hj := (List.getElem?_eq_some_iff.mp he).1
  exact wpAny_getItem_list pl.isList (by omega) (by omega) (by simpa using ew) ⟨z, H, I, rw', q⟩
end
section
variable {σ : St} {H : Hp} {Q : VK} {D : Ends} {K : PySem.W.Frag}
theorem s_irng3 {ta : TA} {R : It → Hp → Prop} (h : ta σ H fun vs H1 => ∃ i j c : Int, vs = [.int i, .int j, .int c] ∧ (c ≠ 0 ∧ c.natAbs < 1000 ∧ Builtin.Range.small i j c = true) ∧ R (Itr3 i c (rN i j c)) H1) : iRng3 ta σ H R := h
theorem s_sum {p : Addr} {ns : List Int} (hq : SqL K H p (ns.map V.int)) (h : Q (.int ns.sum) H) : rSum K [.ref p] H Q := ⟨p, ns, rfl, hq, h⟩
theorem s_listL {p : Addr} {ys : List V} (hq : SqL K H p ys) (h : ∀ l, H l = none → Q (.ref l) (upd H l (.lst ys))) : rList K [.ref p] H Q := ⟨p, ys, rfl, .inl hq, h⟩
theorem s_augS {to ti te : TE} {tget : V → V → Hp → VK → Prop} {tip : TIp} {tset : TSet} (h : to σ H fun o H1 => ti σ H1 fun i H2 => tget o i H2 fun x H3 => te σ H3 fun y H4 => tip x y H4 fun z H5 => tset o i z H5 fun H6 => D.nx σ H6) : tAugS to ti te tget tip tset D σ H := h
theorem s_getL {p : Addr} {xs : List V} {j : Nat} {v : V} (hq : SqL K H p xs) (he : xs[j]? = some v) (h : Q v H) : rGetL K (.ref p) (.int j) H Q := ⟨p, xs, j, v, rfl, rfl, hq, he, h⟩
theorem for_rng3 {g : TG} {tb : TS} {lo c : Int} {n : Nat} (Pv : Nat → St → Hp → Prop) (h0 : Pv 0 σ H)
    (hs : ∀ i σ H, i < n → Pv i σ H → g (.int (lo + i * c)) σ H fun σ2 H2 => tb { D with nx := Pv (i + 1), ct := Pv (i + 1), bk := D.nx } σ2 H2) (hd : ∀ σ H, Pv n σ H → D.nx σ H) : ForW (Itr3 lo c n) g tb D σ H :=
  for_of (n := n) Pv h0 (fun i σ H hi _ => hi) (fun σ H _ => Nat.le_refl _) (fun i x σ H H' hi p y => by obtain ⟨rfl, rfl⟩ := y; exact hs i σ _ hi p) hd
theorem comp_rng3 {lo c : Int} {n : Nat} {own : List Str} {sel : List Nat} {g : TG} {tt : TT} {te : TE} (Pv : Addr → Nat → List V → Hp → Prop) (h0 : ∀ D, H D = none → Pv D 0 [] (upd H D (.lst [])))
    (hst : ∀ D ys H', H D = none → H' D = some (.lst ys) → Pv D n ys H' → Q (.ref D) H')
    (hs : ∀ D i ys H', H D = none → i < n → H' D = some (.lst ys) → ys.length ≤ i → Pv D i ys H' → g (.int (lo + i * c)) (inSt own sel σ) H' fun σ4 H4 => tt σ4 H4 fun b H5 =>
      if b = true then te σ4 H5 fun v H6 => ∃ ys, H6 D = some (.lst ys) ∧ ys.length < sizeLine ∧ ∃ m', m' < n - i ∧ CW D n (Pv D) (i + 1) m' (upd H6 D (.lst (ys ++ [v])))
      else ∃ m', m' < n - i ∧ CW D n (Pv D) (i + 1) m' H5) : CompW (Itr3 lo c n) own sel σ g tt te Q H := by
  refine comp_of (n := n) Pv h0 (fun D i ys H' hD hi _ p => hi) (fun D ys H' hD hy hl p => ⟨Nat.le_refl _, hst D ys H' hD hy p⟩) (fun D i ys H' x H3 hD hi hy hl p y => ?_)
  obtain ⟨rfl, rfl⟩ := y
  exact hs D i ys _ hD hi hy hl p
end
end L2

namespace L2
open PySem PySem.Spec PyProof.Rows
/-! ## scopes of blocks within blocks -/
def relabelS (scope osc : Scope) : Scope := { scope with names := scope.names.map fun (n, k) => if (k == .free && osc.kind == .function && osc.names.lookup n == some .cell) then (n, .cell) else (n, k) }
theorem compOkIn {X : Cx} {osc sc : Scope} {N : List Str} {own own' : List Str} {sel sel' : List Nat} {scope : Scope} {cl : List (Str × Addr)} {C : Addr} {s2 : Shared} {H2 : Hp} {fp : List Addr}
    (e : X.env.scope = osc) (eN : (cxInC X own' sel' sc cl C s2 H2 fp).N = N) (h : compOkB (relabelS sc osc) N own sel scope = true) : CompOk (cxInC X own' sel' sc cl C s2 H2 fp).env.scope (cxInC X own' sel' sc cl C s2 H2 fp).N own sel scope := by
  subst e; subst eN
  exact compOk_of h
def compOkCB (osc : Scope) (N : List Str) (own : List Str) (sel : List Nat) (scope : Scope) : Bool :=
  (scope.kind == .function) && scope.names.all (fun y => y.2 != .cell || scope.names.lookup y.1 == some .cell) && scope.names.all (fun y => y.2 != .local || scope.names.lookup y.1 == some .local) &&
  scope.names.all (fun y => y.2 != .free || osc.names.lookup y.1 == some .cell || osc.names.lookup y.1 == some .free) &&
  sel.all (fun j => decide (j < N.length) && scope.names.lookup (N.getD j Str.empty) == some .free && (osc.names.lookup (N.getD j Str.empty) == some .cell || osc.names.lookup (N.getD j Str.empty) == some .free))
theorem compOkC_of {osc : Scope} {N : List Str} {own : List Str} {sel : List Nat} {scope : Scope} (h : compOkCB osc N own sel scope = true) : CompOkC osc N own sel scope := by
  unfold compOkCB at h
  simp only [Bool.and_eq_true, List.all_eq_true] at h
  obtain ⟨⟨⟨⟨h1, h2⟩, h3⟩, h4⟩, h5⟩ := h
  refine ⟨by simpa using h1, fun y hy e => ?_, fun y hy e => ?_, fun y hy e => ?_, fun j hj => ?_⟩
  · have := h2 y hy
    simp only [Bool.or_eq_true, bne_iff_ne, beq_iff_eq] at this
    rcases this with q | q
    · exact absurd e q
    · exact q
  · have := h3 y hy
    simp only [Bool.or_eq_true, bne_iff_ne, beq_iff_eq] at this
    rcases this with q | q
    · exact absurd e q
    · exact q
  · have := h4 y hy
    simp only [Bool.or_eq_true, bne_iff_ne, beq_iff_eq] at this
    rcases this with (q | q) | q
    · exact absurd e q
    · exact .inl q
    · exact .inr q
  · have := h5 j hj
    simp only [Bool.or_eq_true, beq_iff_eq, decide_eq_true_eq] at this
    exact ⟨this.1.1, this.1.2, this.2⟩

/-! ## products of large numbers -/
def big : Nat := 2 ^ 10000
theorem big_bits {i : Int} (h : i.natAbs < big) : Builtin.Int.intBits i ≤ 2 ^ 20 := by
  refine Nat.le_trans (?_ : Builtin.Int.intBits i ≤ 10000) (by decide)
  exact PySem.intBits_le_iff.mpr h
section
variable {X : Cx}
def rTimesW : R2 := fun x y H Q => (∃ i j, x = .int i ∧ y = .int j ∧ (i.natAbs < big ∧ j.natAbs < big) ∧ Q (.int (i * j)) H) ∨ rRep x y H Q ∨ rMulT x y H Q
theorem op_mulW : OpR X (binaryOp .Mult) (rI (fun i j => i.natAbs < big ∧ j.natAbs < big) fun i j => .int (i * j)) := opI fun _ _ _ _ _ _ _ hc q => mul_int q (PySem.IntMulOk.of_bits (big_bits hc.1) (big_bits hc.2))
theorem op_timesW : OpR X (binaryOp .Mult) rTimesW := op_mulW.or (op_rep.or op_mulT)
end
section
variable {σ : St} {H : Hp} {Q : VK} {K : PySem.W.Frag}
theorem s_mulW {i j : Int} (h1 : i.natAbs < big) (h2 : j.natAbs < big) (h : Q (.int (i * j)) H) : rTimesW (.int i) (.int j) H Q := .inl ⟨i, j, rfl, rfl, ⟨h1, h2⟩, h⟩
end

/-! ## an item for each, with what was made for it -/
section
variable {σ : St} {H : Hp} {Q : VK} {K : PySem.W.Frag}
theorem comp_yes {J : It} {n : Nat} {own : List Str} {sel : List Nat} {g : TG} {te : TE} (f : Nat → V) (hn : n ≤ sizeLine) (Iv : Addr → Nat → List V → Hp → Prop)
    (hgo : ∀ i H', i < n → Same H H' → J.go i H') (hsp : ∀ H', Same H H' → J.stop n H') (hy : ∀ i H1 x H', i < n → Same H H1 → J.yld i H1 x H' → H' = H1 ∧ x = f i)
    (h0 : ∀ D, H D = none → Iv D 0 [] (upd H D (.lst []))) (mono : ∀ D i ys H1 H2, H D = none → Iv D i ys H1 → SameBut1 D H1 H2 → Iv D i ys H2)
    (hst : ∀ D ys H', H D = none → H' D = some (.lst ys) → ys.length = n → Same H H' → Iv D n ys H' → Q (.ref D) H')
    (hs : ∀ (D : Addr) (i : Nat) (ys : List V) (H' : Hp) (R : V → Hp → Prop), H D = none → i < n → H' D = some (.lst ys) → ys.length = i → Same H H' → Iv D i ys H' → (∀ v H6, Same H' H6 → Iv D (i + 1) (ys ++ [v]) H6 → R v H6) →
      g (f i) (inSt own sel σ) H' fun σ4 H4 => te σ4 H4 R) : CompW J own sel σ g tYes te Q H := by
  refine comp_of (n := n) (fun D i ys H' => ys.length = i ∧ Same H H' ∧ Iv D i ys H') (fun D hD => ⟨rfl, same_new hD _, h0 D hD⟩) (fun D i ys H' hD hi _ ⟨_, sH, _⟩ => hgo i H' hi sH)
    (fun D ys H' hD hy' hl ⟨e, sH, iv⟩ => ⟨hsp H' sH, hst D ys H' hD hy' e sH iv⟩) ?_
  rintro D i ys H1 x H3 hD hi hyD hl ⟨el, sH, iv⟩ yl
  obtain ⟨rfl, rfl⟩ := hy i H1 x H3 hi sH yl
  have key := hs D i ys H3 (fun v H6 => ∃ ys, H6 D = some (.lst ys) ∧ ys.length < sizeLine ∧ ∃ m', m' < n - i ∧ CW D n (fun i ys H' => ys.length = i ∧ Same H H' ∧ Iv D i ys H') (i + 1) m' (upd H6 D (.lst (ys ++ [v])))) hD hi hyD el sH iv (fun v H6 s6 iv6 => ?_)
  · have ef : (fun (σ4 : St) (H4 : Hp) => tYes σ4 H4 fun b H5 => if b = true then te σ4 H5 fun v H6 => ∃ ys, H6 D = some (.lst ys) ∧ ys.length < sizeLine ∧ ∃ m', m' < n - i ∧ CW D n (fun i ys H' => ys.length = i ∧ Same H H' ∧ Iv D i ys H') (i + 1) m' (upd H6 D (.lst (ys ++ [v])))
        else ∃ m', m' < n - i ∧ CW D n (fun i ys H' => ys.length = i ∧ Same H H' ∧ Iv D i ys H') (i + 1) m' H5) = fun σ4 H4 => te σ4 H4 fun v H6 => ∃ ys, H6 D = some (.lst ys) ∧ ys.length < sizeLine ∧ ∃ m', m' < n - i ∧ CW D n (fun i ys H' => ys.length = i ∧ Same H H' ∧ Iv D i ys H') (i + 1) m' (upd H6 D (.lst (ys ++ [v]))) := by
      funext σ4 H4
      exact propext ⟨fun z => by have z' := z; simp only [tYes] at z'; simpa using z', fun z => by show tYes _ _ _; simp only [tYes]; simpa using z⟩
    rw [ef]
    exact key
  · refine comp_next hi hn (s6 _ _ hyD) hl ⟨by simp [el], fun b o z => ?_, mono D _ _ _ _ hD iv6 SameBut1.upd⟩
    rw [upd_ne (ne_of_none z hD)]
    exact s6 b o (sH b o z)
theorem yes_rng {lo : Int} {n : Nat} {own : List Str} {sel : List Nat} {g : TG} {te : TE} (hn : n ≤ sizeLine) (Iv : Addr → Nat → List V → Hp → Prop)
    (h0 : ∀ D, H D = none → Iv D 0 [] (upd H D (.lst []))) (mono : ∀ D i ys H1 H2, H D = none → Iv D i ys H1 → SameBut1 D H1 H2 → Iv D i ys H2)
    (hst : ∀ D ys H', H D = none → H' D = some (.lst ys) → ys.length = n → Same H H' → Iv D n ys H' → Q (.ref D) H')
    (hs : ∀ (D : Addr) (i : Nat) (ys : List V) (H' : Hp) (R : V → Hp → Prop), H D = none → i < n → H' D = some (.lst ys) → ys.length = i → Same H H' → Iv D i ys H' → (∀ v H6, Same H' H6 → Iv D (i + 1) (ys ++ [v]) H6 → R v H6) →
      g (.int (lo + i)) (inSt own sel σ) H' fun σ4 H4 => te σ4 H4 R) : CompW (Itr lo n) own sel σ g tYes te Q H :=
  comp_yes (fun i => .int (lo + i)) hn Iv (fun i H' hi _ => hi) (fun H' _ => Nat.le_refl _) (fun i H1 x H' _ _ y => y) h0 mono hst hs
theorem yes_rng3 {lo c : Int} {n : Nat} {own : List Str} {sel : List Nat} {g : TG} {te : TE} (hn : n ≤ sizeLine) (Iv : Addr → Nat → List V → Hp → Prop)
    (h0 : ∀ D, H D = none → Iv D 0 [] (upd H D (.lst []))) (mono : ∀ D i ys H1 H2, H D = none → Iv D i ys H1 → SameBut1 D H1 H2 → Iv D i ys H2)
    (hst : ∀ D ys H', H D = none → H' D = some (.lst ys) → ys.length = n → Same H H' → Iv D n ys H' → Q (.ref D) H')
    (hs : ∀ (D : Addr) (i : Nat) (ys : List V) (H' : Hp) (R : V → Hp → Prop), H D = none → i < n → H' D = some (.lst ys) → ys.length = i → Same H H' → Iv D i ys H' → (∀ v H6, Same H' H6 → Iv D (i + 1) (ys ++ [v]) H6 → R v H6) →
      g (.int (lo + i * c)) (inSt own sel σ) H' fun σ4 H4 => te σ4 H4 R) : CompW (Itr3 lo c n) own sel σ g tYes te Q H :=
  comp_yes (fun i => .int (lo + i * c)) hn Iv (fun i H' hi _ => hi) (fun H' _ => Nat.le_refl _) (fun i H1 x H' _ _ y => y) h0 mono hst hs
theorem yes_str {a : List Nat} {own : List Str} {sel : List Nat} {g : TG} {te : TE} (hn : a.length ≤ sizeLine) (Iv : Addr → Nat → List V → Hp → Prop)
    (h0 : ∀ D, H D = none → Iv D 0 [] (upd H D (.lst []))) (mono : ∀ D i ys H1 H2, H D = none → Iv D i ys H1 → SameBut1 D H1 H2 → Iv D i ys H2)
    (hst : ∀ D ys H', H D = none → H' D = some (.lst ys) → ys.length = a.length → Same H H' → Iv D a.length ys H' → Q (.ref D) H')
    (hs : ∀ (D : Addr) (i : Nat) (ys : List V) (H' : Hp) (R : V → Hp → Prop), H D = none → i < a.length → H' D = some (.lst ys) → ys.length = i → Same H H' → Iv D i ys H' → (∀ v H6, Same H' H6 → Iv D (i + 1) (ys ++ [v]) H6 → R v H6) →
      g (tx [a.getD i 0]) (inSt own sel σ) H' fun σ4 H4 => te σ4 H4 R) : CompW (Its ⟨a.toArray⟩) own sel σ g tYes te Q H :=
  comp_yes (fun i => tx [a.getD i 0]) hn Iv (fun i H' hi _ => by simpa [Its] using hi) (fun H' _ => by simp [Its]) (fun i H1 x H' hi _ y => by
    obtain ⟨rfl, c, e, rfl⟩ := y
    have e' : a[i]? = some c := by simpa using e
    exact ⟨rfl, by rw [List.getD_eq_getElem?_getD, e']; rfl⟩) h0 mono hst hs
/-- an item for each that hangs on its place alone -/
theorem vals_rng {lo : Int} {n : Nat} {own : List Str} {sel : List Nat} {g : TG} {te : TE} (v : Nat → V) (hn : n ≤ sizeLine) (hst : ∀ D H', H D = none → Same H H' → H' D = some (.lst ((List.range n).map v)) → Q (.ref D) H')
    (hs : ∀ (i : Nat) (H' : Hp) (R : V → Hp → Prop), i < n → Same H H' → (∀ H6, Same H' H6 → R (v i) H6) → g (.int (lo + i)) (inSt own sel σ) H' fun σ4 H4 => te σ4 H4 R) : CompW (Itr lo n) own sel σ g tYes te Q H :=
  yes_rng hn (fun D i ys _ => ys = (List.range i).map v) (fun _ _ => rfl) (fun _ _ _ _ _ _ e _ => e) (fun D ys H' hD hy _ sH e => hst D H' hD sH (by rw [hy, e]))
    (fun D i ys H' R hD hi hy _ sH e r => hs i H' R hi sH fun H6 s6 => r _ H6 s6 (by rw [e, List.range_succ, List.map_append]; rfl))
theorem vals_rng3 {lo c : Int} {n : Nat} {own : List Str} {sel : List Nat} {g : TG} {te : TE} (v : Nat → V) (hn : n ≤ sizeLine) (hst : ∀ D H', H D = none → Same H H' → H' D = some (.lst ((List.range n).map v)) → Q (.ref D) H')
    (hs : ∀ (i : Nat) (H' : Hp) (R : V → Hp → Prop), i < n → Same H H' → (∀ H6, Same H' H6 → R (v i) H6) → g (.int (lo + i * c)) (inSt own sel σ) H' fun σ4 H4 => te σ4 H4 R) : CompW (Itr3 lo c n) own sel σ g tYes te Q H :=
  yes_rng3 hn (fun D i ys _ => ys = (List.range i).map v) (fun _ _ => rfl) (fun _ _ _ _ _ _ e _ => e) (fun D ys H' hD hy _ sH e => hst D H' hD sH (by rw [hy, e]))
    (fun D i ys H' R hD hi hy _ sH e r => hs i H' R hi sH fun H6 s6 => r _ H6 s6 (by rw [e, List.range_succ, List.map_append]; rfl))
theorem vals_str {a : List Nat} {own : List Str} {sel : List Nat} {g : TG} {te : TE} (v : Nat → V) (hn : a.length ≤ sizeLine) (hst : ∀ D H', H D = none → Same H H' → H' D = some (.lst (a.map v)) → Q (.ref D) H')
    (hs : ∀ (i c : Nat) (H' : Hp) (R : V → Hp → Prop), a[i]? = some c → Same H H' → (∀ H6, Same H' H6 → R (v c) H6) → g (tx [c]) (inSt own sel σ) H' fun σ4 H4 => te σ4 H4 R) : CompW (Its ⟨a.toArray⟩) own sel σ g tYes te Q H :=
  yes_str hn (fun D i ys _ => ys = (a.take i).map v) (fun _ _ => rfl) (fun _ _ _ _ _ _ e _ => e) (fun D ys H' hD hy _ sH e => hst D H' hD sH (by rw [hy, e, List.take_length]))
    (fun D i ys H' R hD hi hy _ sH e r => by
      have ec : a[i]? = some a[i] := List.getElem?_eq_getElem hi
      have eg : a.getD i 0 = a[i] := by rw [List.getD_eq_getElem?_getD, ec]; rfl
      rw [eg]
      exact hs i a[i] H' R ec sH fun H6 s6 => r _ H6 s6 (by rw [e, List.take_add_one, ec, List.map_append]; rfl))
end
end L2

namespace BrC
/-! ## sums -/
def sm : Nat → (Nat → Int) → Int
  | 0, _ => 0
  | n + 1, f => sm n f + f n
theorem sm_congr {f g : Nat → Int} : ∀ n, (∀ i, i < n → f i = g i) → sm n f = sm n g
  | 0, _ => rfl
  | n + 1, h => by unfold sm; rw [sm_congr n fun i hi => h i (Nat.lt_succ_of_lt hi), h n (Nat.lt_succ_self n)]
theorem sm_add (f g : Nat → Int) : ∀ n, sm n (fun i => f i + g i) = sm n f + sm n g
  | 0 => rfl
  | n + 1 => by unfold sm; rw [sm_add f g n]; show sm n f + sm n g + (f n + g n) = _; omega
theorem sm_mul (c : Int) (f : Nat → Int) : ∀ n, sm n (fun i => c * f i) = c * sm n f
  | 0 => by simp [sm]
  | n + 1 => by unfold sm; rw [sm_mul c f n, Int.mul_add]
theorem sm_mulr (c : Int) (f : Nat → Int) (n : Nat) : sm n (fun i => f i * c) = sm n f * c := by
  rw [Int.mul_comm, ← sm_mul]; exact sm_congr n fun i _ => Int.mul_comm _ _
theorem sm_zero {f : Nat → Int} : ∀ n, (∀ i, i < n → f i = 0) → sm n f = 0
  | 0, _ => rfl
  | n + 1, h => by unfold sm; rw [sm_zero n fun i hi => h i (Nat.lt_succ_of_lt hi), h n (Nat.lt_succ_self n)]; rfl
theorem sm_shift (f : Nat → Int) : ∀ n, sm (n + 1) f = f 0 + sm n (fun i => f (i + 1))
  | 0 => by simp [sm]
  | n + 1 => by rw [sm, sm_shift f n, sm]; omega
theorem sm_comm (f : Nat → Nat → Int) (m : Nat) : ∀ n, sm n (fun i => sm m fun j => f i j) = sm m (fun j => sm n fun i => f i j)
  | 0 => by rw [sm]; exact (sm_zero m fun _ _ => rfl).symm
  | n + 1 => by rw [sm, sm_comm f m n, ← sm_add]; rfl
/-- the triangle, by rows and by columns -/
theorem sm_tri (f : Nat → Nat → Int) : ∀ L, sm L (fun a => sm (L - a - 1) fun b => f a (a + 1 + b)) = sm L (fun e => sm e fun a => f a e)
  | 0 => rfl
  | L + 1 => by
    rw [sm, sm]
    have e : sm L (fun a => sm (L + 1 - a - 1) fun b => f a (a + 1 + b)) = sm L (fun a => (sm (L - a - 1) fun b => f a (a + 1 + b)) + f a L) := by
      refine sm_congr L fun a ha => ?_
      have : L + 1 - a - 1 = (L - a - 1) + 1 := by omega
      rw [this, sm]
      congr 2
      omega
    rw [e, sm_add, sm_tri f L, show L + 1 - L - 1 = 0 by omega, sm]
    omega
theorem sm_nonneg {f : Nat → Int} : ∀ n, (∀ i, i < n → 0 ≤ f i) → 0 ≤ sm n f
  | 0, _ => Int.le_refl _
  | n + 1, h => by unfold sm; have := sm_nonneg n fun i hi => h i (Nat.lt_succ_of_lt hi); have := h n (Nat.lt_succ_self n); omega
theorem sm_mono {f g : Nat → Int} : ∀ n, (∀ i, i < n → f i ≤ g i) → sm n f ≤ sm n g
  | 0, _ => Int.le_refl _
  | n + 1, h => by unfold sm; have := sm_mono n fun i hi => h i (Nat.lt_succ_of_lt hi); have := h n (Nat.lt_succ_self n); omega
theorem sm_const (c : Int) : ∀ n, sm n (fun _ => c) = n * c
  | 0 => by simp [sm]
  | n + 1 => by rw [sm, sm_const c n]; rw [Int.natCast_add, Int.add_mul]; simp
theorem sm_one {f : Nat → Int} {n i : Nat} (hi : i < n) (h : ∀ j, j < n → j ≠ i → f j = 0) : sm n f = f i := by
  induction n with
  | zero => omega
  | succ n ih =>
    unfold sm
    by_cases e : i = n
    · subst e; rw [sm_zero i fun j hj => h j (by omega) (by omega)]; omega
    · rw [ih (by omega) fun j hj => h j (by omega), h n (by omega) (by omega)]; omega
theorem sm_ge {f : Nat → Int} {n i : Nat} (hi : i < n) (h : ∀ j, j < n → 0 ≤ f j) : f i ≤ sm n f := by
  induction n with
  | zero => omega
  | succ n ih =>
    unfold sm
    by_cases e : i = n
    · subst e; have := sm_nonneg (f := f) i fun j hj => h j (by omega); omega
    · have := ih (by omega) fun j hj => h j (by omega); have := h n (by omega); omega
/-- only every second one counts -/
theorem sm_even (f : Nat → Int) : ∀ n, (∀ i, i < n → i % 2 = 1 → f i = 0) → sm n f = sm ((n + 1) / 2) fun q => f (2 * q)
  | 0, _ => rfl
  | n + 1, h => by
    rw [sm, sm_even f n fun i hi => h i (Nat.lt_succ_of_lt hi)]
    by_cases e : n % 2 = 1
    · rw [h n (Nat.lt_succ_self n) e, show (n + 1 + 1) / 2 = (n + 1) / 2 by omega]; omega
    · rw [show (n + 1 + 1) / 2 = (n + 1) / 2 + 1 by omega, sm, show 2 * ((n + 1) / 2) = n by omega]
theorem sum_range (f : Nat → Int) : ∀ n, ((List.range n).map f).sum = sm n f
  | 0 => rfl
  | n + 1 => by rw [List.range_succ, List.map_append, List.sum_append, sum_range f n]; simp [sm]

/-! ## right fillings, by what waits to be closed: n places from i on, P i b what bracket b weighs at place i -/
def cv (P : Nat → Nat → Int) (k : Nat) : Nat → Nat → List Nat → Int
  | 0, _, [] => 1
  | 0, _, _ :: _ => 0
  | n + 1, i, st => sm k (fun p => P i (2 * p) * cv P k n (i + 1) (p :: st)) + (match st with | [] => 0 | o :: r => P i (2 * o + 1) * cv P k n (i + 1) r)
variable {P : Nat → Nat → Int} {k : Nat}
theorem cv_nil (n i : Nat) : cv P k (n + 1) i [] = sm k (fun p => P i (2 * p) * cv P k n (i + 1) [p]) := by
  rw [cv]; simp
theorem cv_cons (n i o : Nat) (st : List Nat) : cv P k (n + 1) i (o :: st) = sm k (fun p => P i (2 * p) * cv P k n (i + 1) (p :: o :: st)) + P i (2 * o + 1) * cv P k n (i + 1) st := by
  rw [cv]
/-- the bracket that closes the next one -/
theorem cv_split : ∀ (N n i o : Nat) (st : List Nat), n ≤ N → cv P k n i (o :: st) = sm n (fun e => cv P k e i [] * P (i + e) (2 * o + 1) * cv P k (n - e - 1) (i + e + 1) st) := by
  intro N
  induction N with
  | zero => intro n i o st h; obtain rfl : n = 0 := by omega
            rfl
  | succ N ih =>
    intro n i o st h
    cases n with
    | zero => rfl
    | succ n =>
      rw [cv_cons, sm_shift, show cv P k 0 i [] = 1 from rfl]
      have e0 : (1 : Int) * P (i + 0) (2 * o + 1) * cv P k (n + 1 - 0 - 1) (i + 0 + 1) st = P i (2 * o + 1) * cv P k n (i + 1) st := by rw [Int.one_mul]; rfl
      rw [e0, Int.add_comm]
      congr 1
      -- the pairs (a, b) by a, and by a + 1 + b
      have L : ∀ p, cv P k n (i + 1) (p :: o :: st) = sm n (fun e => sm e fun a => (cv P k a (i + 1) [] * P (i + 1 + a) (2 * p + 1)) * (cv P k (e - a - 1) (i + a + 2) [] * P (i + e + 1) (2 * o + 1) * cv P k (n - e - 1) (i + e + 2) st)) := by
        intro p
        rw [ih n (i + 1) p (o :: st) (by omega), ← sm_tri]
        refine sm_congr n fun a ha => ?_
        rw [ih (n - a - 1) (i + 1 + a + 1) o st (by omega), ← sm_mul]
        refine sm_congr _ fun b hb => ?_
        rw [show a + 1 + b - a - 1 = b by omega, show i + 1 + a + 1 = i + a + 2 by omega, show i + a + 2 + b = i + (a + 1 + b) + 1 by omega, show n - a - 1 - b - 1 = n - (a + 1 + b) - 1 by omega, show i + (a + 1 + b) + 1 + 1 = i + (a + 1 + b) + 2 by omega]
      have e1 : sm k (fun p => P i (2 * p) * cv P k n (i + 1) (p :: o :: st)) = sm k (fun p => sm n fun e => P i (2 * p) * sm e fun a => (cv P k a (i + 1) [] * P (i + 1 + a) (2 * p + 1)) * (cv P k (e - a - 1) (i + a + 2) [] * P (i + e + 1) (2 * o + 1) * cv P k (n - e - 1) (i + e + 2) st)) := by
        refine sm_congr k fun p _ => ?_
        rw [L p, ← sm_mul]
      rw [e1, sm_comm]
      refine sm_congr n fun e he => ?_
      rw [cv_nil, show i + (e + 1) = i + e + 1 by omega, show n + 1 - (e + 1) - 1 = n - e - 1 by omega, show i + e + 1 + 1 = i + e + 2 by omega, Int.mul_assoc, ← sm_mulr]
      refine sm_congr k fun p _ => ?_
      rw [ih e (i + 1) p [] (by omega), Int.mul_assoc]
      congr 1
      rw [← sm_mulr]
      refine sm_congr e fun a ha => ?_
      rw [show i + 1 + a + 1 = i + a + 2 by omega]
      simp only [Int.mul_assoc, Int.mul_comm, Int.mul_left_comm]
theorem cv_odd : ∀ (n i : Nat) (st : List Nat), (n + st.length) % 2 = 1 → cv P k n i st = 0
  | 0, _, [], h => by simp at h
  | 0, _, _ :: _, _ => rfl
  | n + 1, i, [], h => by
    rw [cv_nil]
    refine sm_zero k fun p _ => ?_
    rw [cv_odd n (i + 1) [p] (by simp at h ⊢; omega), Int.mul_zero]
  | n + 1, i, o :: st, h => by
    rw [cv_cons, sm_zero k fun p _ => by rw [cv_odd n (i + 1) (p :: o :: st) (by simp at h ⊢; omega), Int.mul_zero], cv_odd n (i + 1) st (by simp at h ⊢; omega), Int.mul_zero]
    rfl
/-- pairs of two places -/
def pr (P : Nat → Nat → Int) (k i j : Nat) : Int := sm k fun p => P i (2 * p) * P j (2 * p + 1)
theorem cv_rec (m i : Nat) : cv P k (m + 1) i [] = sm m (fun e => pr P k i (i + 1 + e) * cv P k e (i + 1) [] * cv P k (m - e - 1) (i + e + 2) []) := by
  rw [cv_nil]
  have e1 : sm k (fun p => P i (2 * p) * cv P k m (i + 1) [p]) = sm k (fun p => sm m fun e => P i (2 * p) * P (i + 1 + e) (2 * p + 1) * (cv P k e (i + 1) [] * cv P k (m - e - 1) (i + e + 2) [])) := by
    refine sm_congr k fun p _ => ?_
    rw [cv_split m m (i + 1) p [] (Nat.le_refl _), ← sm_mul]
    refine sm_congr m fun e _ => ?_
    rw [show i + 1 + e + 1 = i + e + 2 by omega]
    simp only [Int.mul_assoc, Int.mul_comm, Int.mul_left_comm]
  rw [e1, sm_comm]
  refine sm_congr m fun e _ => ?_
  rw [sm_mulr, Int.mul_assoc]
  rfl
/-- the same, by every second one -/
theorem cv_rec2 (m i : Nat) : cv P k (m + 1) i [] = sm ((m + 1) / 2) (fun q => pr P k i (i + 1 + 2 * q) * cv P k (2 * q) (i + 1) [] * cv P k (m - 2 * q - 1) (i + 2 * q + 2) []) := by
  rw [cv_rec, sm_even]
  intro e _ h
  rw [cv_odd e (i + 1) [] (by simpa using h), Int.mul_zero, Int.zero_mul]
theorem cv_bound {c : Int} (hc : 0 ≤ c) (h0 : ∀ i b, 0 ≤ P i b) (h1 : ∀ i b, P i b ≤ c) : ∀ (n i : Nat) (st : List Nat), 0 ≤ cv P k n i st ∧ cv P k n i st ≤ (((k : Int) + 1) * c) ^ n
  | 0, i, [] => ⟨by simp [cv], by simp [cv]⟩
  | 0, i, _ :: _ => ⟨by simp [cv], by simp [cv]⟩
  | n + 1, i, st => by
    have ih := cv_bound hc h0 h1 n (i + 1)
    have hB : 0 ≤ (((k : Int) + 1) * c) ^ n := Int.le_trans (ih []).1 (ih []).2
    have tm : ∀ b s', 0 ≤ P i b * cv P k n (i + 1) s' ∧ P i b * cv P k n (i + 1) s' ≤ c * (((k : Int) + 1) * c) ^ n := fun b s' =>
      ⟨Int.mul_nonneg (h0 i b) (ih s').1, Int.mul_le_mul (h1 i b) (ih s').2 (ih s').1 hc⟩
    have s1 : 0 ≤ sm k (fun p => P i (2 * p) * cv P k n (i + 1) (p :: st)) := sm_nonneg k fun p _ => (tm _ _).1
    have s2 : sm k (fun p => P i (2 * p) * cv P k n (i + 1) (p :: st)) ≤ k * (c * (((k : Int) + 1) * c) ^ n) := by
      rw [← sm_const]; exact sm_mono k fun p _ => (tm _ _).2
    have e : (((k : Int) + 1) * c) ^ (n + 1) = k * (c * (((k : Int) + 1) * c) ^ n) + c * (((k : Int) + 1) * c) ^ n := by
      rw [Int.pow_succ, Int.mul_comm, Int.mul_assoc, Int.add_mul, Int.one_mul]
    have s3 : 0 ≤ c * (((k : Int) + 1) * c) ^ n := Int.mul_nonneg hc hB
    cases st with
    | nil => rw [cv_nil, e]; exact ⟨s1, by omega⟩
    | cons o r =>
      have := tm (2 * o + 1) r
      rw [cv_cons, e]; constructor <;> omega
/-- only the places that it spans count -/
theorem cv_congr {P' : Nat → Nat → Int} : ∀ (n i : Nat) (st : List Nat), (∀ j b, i ≤ j → j < i + n → P j b = P' j b) → cv P k n i st = cv P' k n i st
  | 0, _, [], _ => rfl
  | 0, _, _ :: _, _ => rfl
  | n + 1, i, st, h => by
    have ih := fun s' => cv_congr (P' := P') n (i + 1) s' fun j b h1 h2 => h j b (by omega) (by omega)
    have e := sm_congr (f := fun p => P i (2 * p) * cv P k n (i + 1) (p :: st)) (g := fun p => P' i (2 * p) * cv P' k n (i + 1) (p :: st)) k fun p _ => by rw [ih, h i _ (by omega) (by omega)]
    cases st with
    | nil => rw [cv_nil, cv_nil]; exact e
    | cons o r => rw [cv_cons, cv_cons, e, ih, h i _ (by omega) (by omega)]
end BrC
namespace BrC
theorem sm_more {f : Nat → Int} (n : Nat) : ∀ d, (∀ e, n ≤ e → f e = 0) → sm (n + d) f = sm n f
  | 0, _ => rfl
  | d + 1, h => by rw [show n + (d + 1) = (n + d) + 1 by omega, sm, sm_more n d h, h (n + d) (by omega)]; omega
end BrC
namespace BrC
variable {P : Nat → Nat → Int} {k : Nat}
/-- only the places that it spans and the brackets of the kinds count -/
theorem cv_congrK {P' : Nat → Nat → Int} : ∀ (n i : Nat) (st : List Nat), (∀ o ∈ st, o < k) → (∀ j b, i ≤ j → j < i + n → b < 2 * k → P j b = P' j b) → cv P k n i st = cv P' k n i st
  | 0, _, [], _, _ => rfl
  | 0, _, _ :: _, _, _ => rfl
  | n + 1, i, st, hst, h => by
    have ih := fun s' hs' => cv_congrK (P' := P') n (i + 1) s' hs' fun j b h1 h2 => h j b (by omega) (by omega)
    have e := sm_congr (f := fun p => P i (2 * p) * cv P k n (i + 1) (p :: st)) (g := fun p => P' i (2 * p) * cv P' k n (i + 1) (p :: st)) k fun p hp => by
      rw [ih _ (fun o ho => by rcases List.mem_cons.mp ho with rfl | z; exact hp; exact hst o z), h i _ (by omega) (by omega) (by omega)]
    cases st with
    | nil => rw [cv_nil, cv_nil]; exact e
    | cons o r =>
      have ho := hst o List.mem_cons_self
      rw [cv_cons, cv_cons, e, ih r (fun x hx => hst x (List.mem_cons_of_mem _ hx)), h i _ (by omega) (by omega) (by omega)]
theorem cv_shift {P' : Nat → Nat → Int} (d : Nat) : ∀ (n i : Nat) (st : List Nat), (∀ j b, i ≤ j → j < i + n → P' j b = P (j + d) b) → cv P' k n i st = cv P k n (i + d) st
  | 0, _, [], _ => rfl
  | 0, _, _ :: _, _ => rfl
  | n + 1, i, st, h => by
    have ih := fun s' => cv_shift (P' := P') d n (i + 1) s' fun j b h1 h2 => h j b (by omega) (by omega)
    have e := sm_congr (f := fun p => P' i (2 * p) * cv P' k n (i + 1) (p :: st)) (g := fun p => P (i + d) (2 * p) * cv P k n (i + d + 1) (p :: st)) k fun p hp => by
      rw [ih, h i _ (by omega) (by omega), show i + 1 + d = i + d + 1 by omega]
    cases st with
    | nil => rw [cv_nil, cv_nil]; exact e
    | cons o r => rw [cv_cons, cv_cons, e, ih r, h i _ (by omega) (by omega), show i + 1 + d = i + d + 1 by omega]
/-- all unknown: how many right rows of j pairs -/
def cat (k j : Nat) : Int := cv (fun _ _ => 1) k (2 * j) 0 []
theorem cat_zero (k : Nat) : cat k 0 = 1 := rfl
theorem cat_rec (k j : Nat) : cat k (j + 1) = sm (j + 1) fun q => k * cat k q * cat k (j - q) := by
  unfold cat
  rw [show 2 * (j + 1) = (2 * j + 1) + 1 by omega, cv_rec2, show (2 * j + 1 + 1) / 2 = j + 1 by omega]
  refine sm_congr _ fun q hq => ?_
  have sh : ∀ n i, cv (fun _ _ => 1) k n i [] = cv (fun _ _ => 1) k n 0 [] := fun n i => by
    have := cv_shift (P := fun _ _ => 1) (P' := fun _ _ => 1) (k := k) i n 0 [] (fun _ _ _ _ => rfl)
    rw [Nat.zero_add] at this
    exact this.symm
  rw [sh (2 * q) (0 + 1), sh (2 * j + 1 - 2 * q - 1) (0 + 2 * q + 2), show 2 * j + 1 - 2 * q - 1 = 2 * (j - q) by omega]
  congr 2
  show sm k (fun _ => (1 : Int) * 1) = (k : Int)
  rw [sm_const, Int.mul_one, Int.mul_one]
theorem cat_bound {k j : Nat} (hk : k ≤ 4) (hj : j ≤ 20) : 0 ≤ cat k j ∧ cat k j ≤ 5 ^ 40 := by
  obtain ⟨a, b⟩ := cv_bound (P := fun _ _ => 1) (k := k) (c := 1) (by decide) (fun _ _ => by decide) (fun _ _ => by decide) (2 * j) 0 []
  refine ⟨a, Int.le_trans b ?_⟩
  rw [Int.mul_one]
  have : ∀ n : Nat, (0 : Int) ≤ ((k : Int) + 1) ^ n ∧ ((k : Int) + 1) ^ n ≤ 5 ^ n := by
    intro n
    induction n with
    | zero => simp
    | succ n ih => rw [Int.pow_succ, Int.pow_succ]; exact ⟨Int.mul_nonneg ih.1 (by omega), Int.mul_le_mul ih.2 (by omega) (by omega) (Int.le_trans ih.1 ih.2)⟩
  refine Int.le_trans (this _).2 ?_
  have e : (5 : Int) ^ (2 * j) = ((5 ^ (2 * j) : Nat) : Int) := by simp
  have e2 : (5 : Int) ^ 40 = ((5 ^ 40 : Nat) : Int) := by simp
  rw [e, e2]
  exact Int.ofNat_le.mpr (Nat.pow_le_pow_right (by decide) (by omega))
end BrC

namespace BrS
open L2 PySem BrM BrC
/-! ## lists of lists of ints -/
abbrev iL (l : List Int) : HO := .lst (l.map V.int)
/-- a list of lists, only read -/
def Pls (H : Hp) (r : Addr) (ps : List (List Int)) : Prop := ∃ ad : Nat → Addr, H r = some (.lst ((List.range ps.length).map fun i => V.ref (ad i))) ∧ ∀ i, i < ps.length → H (ad i) = some (iL (ps.getD i []))
theorem Pls.same {H H' : Hp} {r : Addr} {ps : List (List Int)} (h : Pls H r ps) (s : Same H H') : Pls H' r ps := by
  obtain ⟨ad, h1, h2⟩ := h
  exact ⟨ad, s _ _ h1, fun i hi => s _ _ (h2 i hi)⟩
/-- one row of a table -/
def rwl (n : Nat) (f : Nat → Int) : List V := (List.range (n + 1)).map fun j => V.int (f j)
theorem rwl_len (n : Nat) (f : Nat → Int) : (rwl n f).length = n + 1 := by simp [rwl]
theorem rwl_get {n j : Nat} {f : Nat → Int} (h : j ≤ n) : (rwl n f)[j]? = some (.int (f j)) := by
  unfold rwl
  rw [List.getElem?_map, List.getElem?_range (by omega)]; rfl
theorem rwl_set {n j : Nat} {f : Nat → Int} {v : Int} : (rwl n f).set j (.int v) = rwl n (fun x => if x = j then v else f x) := by
  apply List.ext_getElem?
  intro i
  unfold rwl
  rw [List.getElem?_set, List.getElem?_map, List.getElem?_map]
  by_cases e : j = i
  · subst e
    by_cases hj : j < n + 1
    · rw [List.getElem?_range hj]; simp [hj]
    · rw [if_pos rfl, if_neg (by simpa using hj)]
      rw [List.getElem?_eq_none (by simpa using hj)]; rfl
  · rw [if_neg e]
    by_cases hi : i < n + 1
    · rw [List.getElem?_range hi]; simp [Ne.symm e]
    · rw [List.getElem?_eq_none (by simpa using hi)]; rfl
theorem rwl_congr {n : Nat} {f g : Nat → Int} (h : ∀ j, j ≤ n → f j = g j) : rwl n f = rwl n g := by
  unfold rwl
  refine List.map_congr_left fun j hj => ?_
  rw [h j (by have := List.mem_range.mp hj; omega)]
/-- a table of its own, laid since H0 -/
structure Tb (H0 H : Hp) (s : Addr) (ad : Nat → Addr) (n : Nat) (T : Nat → Nat → Int) : Prop where
  fs : H0 s = none
  fa : ∀ i, i ≤ n → H0 (ad i) = none
  ns : ∀ i, i ≤ n → ad i ≠ s
  inj : ∀ i j, i ≤ n → j ≤ n → ad i = ad j → i = j
  top : H s = some (.lst ((List.range (n + 1)).map fun i => V.ref (ad i)))
  row : ∀ i, i ≤ n → H (ad i) = some (.lst (rwl n (T i)))
  sm : Same H0 H
section
variable {H0 H H' : Hp} {s : Addr} {ad : Nat → Addr} {n : Nat} {T T' : Nat → Nat → Int}
theorem Tb.same (t : Tb H0 H s ad n T) (h : Same H H') : Tb H0 H' s ad n T := ⟨t.fs, t.fa, t.ns, t.inj, h _ _ t.top, fun i hi => h _ _ (t.row i hi), t.sm.trans h⟩
theorem Tb.congr (t : Tb H0 H s ad n T) (h : ∀ i j, i ≤ n → j ≤ n → T i j = T' i j) : Tb H0 H s ad n T' := ⟨t.fs, t.fa, t.ns, t.inj, t.top, fun i hi => by rw [t.row i hi, rwl_congr fun j hj => h i j hi hj], t.sm⟩
theorem Tb.at (t : Tb H0 H s ad n T) {i : Nat} (hi : i ≤ n) : ((List.range (n + 1)).map fun i => V.ref (ad i))[i]? = some (.ref (ad i)) := by
  rw [List.getElem?_map, List.getElem?_range (by omega)]; rfl
theorem Tb.set (t : Tb H0 H s ad n T) {i j : Nat} {v : Int} (hi : i ≤ n) : Tb H0 (upd H (ad i) (.lst ((rwl n (T i)).set j (.int v)))) s ad n (fun a b => if a = i ∧ b = j then v else T a b) := by
  refine ⟨t.fs, t.fa, t.ns, t.inj, by rw [upd_ne (Ne.symm (t.ns i hi))]; exact t.top, fun a ha => ?_, fun b o z => ?_⟩
  · by_cases e : a = i
    · subst e
      rw [upd_same, rwl_set]
      congr 2
      refine rwl_congr fun x _ => ?_
      by_cases q : x = j <;> simp [q]
    · rw [upd_ne (fun z => e (t.inj a i ha hi z)), t.row a ha]
      congr 2
      refine rwl_congr fun x _ => ?_
      simp [e]
  · rw [upd_ne (ne_of_none z (t.fa i hi))]; exact t.sm b o z
end
/-! ## what a place weighs -/
def brs : List Nat := [40, 41, 91, 93, 123, 125, 60, 62]
def plw (w : List Int) (c : Nat) : List Int := if c = 63 then w else (brs.take w.length).map fun b => if c = b then 1 else 0
theorem plw_len {w : List Int} {c : Nat} (h : w.length ≤ 8) : (plw w c).length = w.length := by
  unfold plw
  split
  · rfl
  · rw [List.length_map, List.length_take]; exact Nat.min_eq_left h
abbrev PP (ps : List (List Int)) : Nat → Nat → Int := fun i b => (ps.getD i []).getD b 0
abbrev ones (k : Nat) : List Int := List.replicate (2 * k) 1
/-- how many right fillings -/
def cnt (k : Nat) (a : List Nat) : Int := cv (PP (a.map (plw (ones k)))) k a.length 0 []
def spWeighed (K : PySem.W.Frag) : Sp := fun vs H Q _ => ∃ (a : List Nat) (p : Addr) (w : List Int), vs = [tx a, .ref p] ∧ a.length ≤ 40 ∧ SqL K H p (w.map V.int) ∧ w.length ≤ 8 ∧ ∀ r H', H r = none → Same H H' → Pls H' r (a.map (plw w)) → Q (.ref r) H'
theorem weighed_use {K : PySem.W.Frag} {H : Hp} {a : List Nat} {p : Addr} {w : List Int} {Q : VK} {E : XK} (h1 : a.length ≤ 40) (h2 : SqL K H p (w.map V.int)) (h3 : w.length ≤ 8) (q : ∀ r H', H r = none → Same H H' → Pls H' r (a.map (plw w)) → Q (.ref r) H') : spWeighed K ([tx a, .ref p] ++ []) H Q E := ⟨a, p, w, rfl, h1, h2, h3, q⟩
def spCounted : Sp := fun vs H Q _ => ∃ (k : Int) (a : List Nat), vs = [.int k, tx a] ∧ 1 ≤ k ∧ k ≤ 4 ∧ a.length ≤ 40 ∧ ∀ r H', H r = none → Same H H' → Pls H' r (a.map (plw (ones k.toNat))) → Q (.ref r) H'
theorem counted_use {H : Hp} {k : Int} {a : List Nat} {Q : VK} {E : XK} (h1 : 1 ≤ k) (h2 : k ≤ 4) (h3 : a.length ≤ 40) (q : ∀ r H', H r = none → Same H H' → Pls H' r (a.map (plw (ones k.toNat))) → Q (.ref r) H') : spCounted ([.int k, tx a] ++ []) H Q E := ⟨k, a, rfl, h1, h2, h3, q⟩
/-- bounds of weights -/
def top30 : Int := 10 ^ 31
def Sm (l : List Int) : Prop := ∀ v ∈ l, 0 ≤ v ∧ v ≤ top30
theorem Sm.at {l : List Int} (h : Sm l) (b : Nat) : 0 ≤ l.getD b 0 ∧ l.getD b 0 ≤ top30 := by
  rw [List.getD_eq_getElem?_getD]
  cases e : l[b]? with
  | none => exact ⟨by simp, by simp [top30]⟩
  | some v => exact h v (List.mem_of_getElem? e)
def spPair : Sp := fun vs H Q _ => ∃ (p q : Addr) (x y : List Int) (k : Nat), vs = [.ref p, .ref q] ∧ H p = some (iL x) ∧ H q = some (iL y) ∧ x.length = 2 * k ∧ y.length = 2 * k ∧ k ≤ 4 ∧ Sm x ∧ Sm y ∧ ∀ H', Same H H' → Q (.int (sm k fun o => x.getD (2 * o) 0 * y.getD (2 * o + 1) 0)) H'
theorem pair_use {H : Hp} {p q : Addr} {x y : List Int} {k : Nat} {Q : VK} {E : XK} (h1 : H p = some (iL x)) (h2 : H q = some (iL y)) (l1 : x.length = 2 * k) (l2 : y.length = 2 * k) (hk : k ≤ 4) (s1 : Sm x) (s2 : Sm y) (r : ∀ H', Same H H' → Q (.int (sm k fun o => x.getD (2 * o) 0 * y.getD (2 * o + 1) 0)) H') : spPair ([.ref p, .ref q] ++ []) H Q E := ⟨p, q, x, y, k, rfl, h1, h2, l1, l2, hk, s1, s2, r⟩
def spNoSums : Sp := fun vs H Q _ => ∃ n : Nat, vs = [.int n] ∧ n ≤ 40 ∧ ∀ s ad H', Tb H H' s ad n (fun _ _ => 0) → Q (.ref s) H'
theorem noSums_use {H : Hp} {n : Nat} {Q : VK} {E : XK} (h1 : n ≤ 40) (r : ∀ s ad H', Tb H H' s ad n (fun _ _ => 0) → Q (.ref s) H') : spNoSums ([.int n] ++ []) H Q E := ⟨n, rfl, h1, r⟩
/-- the table of all spans -/
def tbl (P : Nat → Nat → Int) (k : Nat) (i j : Nat) : Int := if i ≤ j then cv P k (j - i) i [] else 0
def spSpans : Sp := fun vs H Q _ => ∃ (p : Addr) (ps : List (List Int)) (k : Nat), vs = [.ref p] ∧ Pls H p ps ∧ ps.length ≤ 40 ∧ k ≤ 4 ∧ (∀ l ∈ ps, l.length = 2 * k ∧ Sm l) ∧ ∀ s ad H', Tb H H' s ad ps.length (tbl (PP ps) k) → Q (.ref s) H'
theorem spans_use {H : Hp} {p : Addr} {ps : List (List Int)} {k : Nat} {Q : VK} {E : XK} (h1 : Pls H p ps) (h2 : ps.length ≤ 40) (h3 : k ≤ 4) (h4 : ∀ l ∈ ps, l.length = 2 * k ∧ Sm l) (r : ∀ s ad H', Tb H H' s ad ps.length (tbl (PP ps) k) → Q (.ref s) H') : spSpans ([.ref p] ++ []) H Q E := ⟨p, ps, k, rfl, h1, h2, h3, h4, r⟩
def spWholeSum : Sp := fun vs H Q _ => ∃ H0 s ad n T, vs = [.ref s] ∧ Tb H0 H s ad n T ∧ Q (.int (T 0 n)) H
theorem wholeSum_use {H0 H : Hp} {s : Addr} {ad : Nat → Addr} {n : Nat} {T : Nat → Nat → Int} {Q : VK} {E : XK} (h : Tb H0 H s ad n T) (q : Q (.int (T 0 n)) H) : spWholeSum ([.ref s] ++ []) H Q E := ⟨H0, s, ad, n, T, rfl, h, q⟩
def spMany : Sp := fun vs H Q _ => ∃ (k : Int) (a : List Nat), vs = [.int k, tx a] ∧ 1 ≤ k ∧ k ≤ 4 ∧ isRow k a = true ∧ ∀ H', Same H H' → Q (.int (cnt k.toNat a)) H'
theorem many_use {H : Hp} {k : Int} {a : List Nat} {Q : VK} {E : XK} (h1 : 1 ≤ k) (h2 : k ≤ 4) (h3 : isRow k a = true) (q : ∀ H', Same H H' → Q (.int (cnt k.toNat a)) H') : spMany ([.int k, tx a] ++ []) H Q E := ⟨k, a, rfl, h1, h2, h3, q⟩
def spCan : Sp := fun vs H Q _ => ∃ (k : Int) (a : List Nat), vs = [.int k, tx a] ∧ 1 ≤ k ∧ k ≤ 4 ∧ isRow k a = true ∧ ∀ H', Same H H' → Q (.bl (decide (cnt k.toNat a > 0))) H'
theorem can_use {H : Hp} {k : Int} {a : List Nat} {Q : VK} {E : XK} (h1 : 1 ≤ k) (h2 : k ≤ 4) (h3 : isRow k a = true) (q : ∀ H', Same H H' → Q (.bl (decide (cnt k.toNat a > 0))) H') : spCan ([.int k, tx a] ++ []) H Q E := ⟨k, a, rfl, h1, h2, h3, q⟩
def spManyRight : Sp := fun vs H Q _ => ∃ (k : Int) (n : Int), vs = [.int k, .int n] ∧ 1 ≤ k ∧ k ≤ 4 ∧ 0 ≤ n ∧ n ≤ 40 ∧ ∀ H', Same H H' → Q (.int (cnt k.toNat (List.replicate n.toNat 63))) H'
theorem manyRight_use {H : Hp} {k n : Int} {Q : VK} {E : XK} (h1 : 1 ≤ k) (h2 : k ≤ 4) (h3 : 0 ≤ n) (h4 : n ≤ 40) (q : ∀ H', Same H H' → Q (.int (cnt k.toNat (List.replicate n.toNat 63))) H') : spManyRight ([.int k, .int n] ++ []) H Q E := ⟨k, n, rfl, h1, h2, h3, h4, q⟩
theorem ones_sm (k : Nat) : Sm (ones k) := fun v hv => by
  obtain rfl := List.eq_of_mem_replicate hv
  exact ⟨by decide, by decide⟩
theorem plw_sm {w : List Int} (h : Sm w) (c : Nat) : Sm (plw w c) := by
  unfold plw
  split
  · exact h
  · intro v hv
    obtain ⟨b, _, rfl⟩ := List.mem_map.mp hv
    split <;> exact ⟨by decide, by decide⟩
/-! ## bounds -/
theorem PP_bound {ps : List (List Int)} (h : ∀ l ∈ ps, Sm l) (i b : Nat) : 0 ≤ PP ps i b ∧ PP ps i b ≤ top30 := by
  show 0 ≤ (ps.getD i []).getD b 0 ∧ (ps.getD i []).getD b 0 ≤ top30
  cases e : ps[i]? with
  | none =>
    have q : ps.getD i [] = [] := by rw [List.getD_eq_getElem?_getD, e]; rfl
    rw [q]; exact ⟨by simp, by simp [top30]⟩
  | some l =>
    have q : ps.getD i [] = l := by rw [List.getD_eq_getElem?_getD, e]; rfl
    rw [q]; exact (h l (List.mem_of_getElem? e)).at b
theorem pow_mono {x y : Int} (h0 : 0 ≤ x) (h : x ≤ y) : ∀ n : Nat, 0 ≤ x ^ n ∧ x ^ n ≤ y ^ n
  | 0 => by simp
  | n + 1 => by
    obtain ⟨a, b⟩ := pow_mono h0 h n
    rw [Int.pow_succ, Int.pow_succ]
    exact ⟨Int.mul_nonneg a h0, Int.mul_le_mul b h h0 (Int.le_trans a b)⟩
theorem pow_up {x : Int} (h1 : 1 ≤ x) {m n : Nat} (h : m ≤ n) : x ^ m ≤ x ^ n := by
  induction n with
  | zero => obtain rfl : m = 0 := by omega
            exact Int.le_refl _
  | succ n ih =>
    by_cases e : m = n + 1
    · subst e; exact Int.le_refl _
    · have h2 := ih (by omega)
      have h3 := (pow_mono (x := x) (y := x) (by omega) (Int.le_refl _) n).1
      rw [Int.pow_succ]
      have := Int.mul_le_mul (Int.le_refl (x ^ n)) h1 (by decide) h3
      omega
def cap : Int := (5 * top30) ^ 40
theorem cv_cap {ps : List (List Int)} {k : Nat} (hk : k ≤ 4) (h : ∀ l ∈ ps, Sm l) {n : Nat} (hn : n ≤ 40) (i : Nat) (st : List Nat) : 0 ≤ cv (PP ps) k n i st ∧ cv (PP ps) k n i st ≤ cap := by
  obtain ⟨a, b⟩ := cv_bound (P := PP ps) (k := k) (c := top30) (by decide) (fun i b => (PP_bound h i b).1) (fun i b => (PP_bound h i b).2) n i st
  refine ⟨a, Int.le_trans b ?_⟩
  have h1 : (0 : Int) ≤ ((k : Int) + 1) * top30 := Int.mul_nonneg (by omega) (by decide)
  have h2 : ((k : Int) + 1) * top30 ≤ 5 * top30 := Int.mul_le_mul_of_nonneg_right (by omega) (by decide)
  refine Int.le_trans (pow_mono h1 h2 n).2 (pow_up (by decide) hn)
theorem pr_cap {ps : List (List Int)} {k : Nat} (hk : k ≤ 4) (h : ∀ l ∈ ps, Sm l) (i j : Nat) : 0 ≤ pr (PP ps) k i j ∧ pr (PP ps) k i j ≤ 4 * (top30 * top30) := by
  unfold pr
  have tm : ∀ p, 0 ≤ PP ps i (2 * p) * PP ps j (2 * p + 1) ∧ PP ps i (2 * p) * PP ps j (2 * p + 1) ≤ top30 * top30 := fun p =>
    ⟨Int.mul_nonneg (PP_bound h _ _).1 (PP_bound h _ _).1, Int.mul_le_mul (PP_bound h _ _).2 (PP_bound h _ _).2 (PP_bound h _ _).1 (by decide)⟩
  refine ⟨sm_nonneg k fun p _ => (tm p).1, Int.le_trans (sm_mono (g := fun _ => top30 * top30) k fun p _ => (tm p).2) ?_⟩
  rw [sm_const]
  exact Int.mul_le_mul_of_nonneg_right (by omega) (by decide)
theorem big_of {i c : Int} (h0 : 0 ≤ i) (h : i ≤ c) (hc : c.natAbs < big) : i.natAbs < big := by
  refine Nat.lt_of_le_of_lt ?_ hc
  omega
theorem cap_big : cap.natAbs < big := by unfold cap big top30; decide +kernel
theorem cap2_big : (4 * (top30 * top30) * cap).natAbs < big := by unfold cap big top30; decide +kernel
theorem top_big : top30.natAbs < big := by unfold big top30; decide +kernel
theorem pt_big : (4 * (top30 * top30)).natAbs < big := by unfold big top30; decide +kernel
end BrS
namespace BrS
open L2 PySem BrM BrC
theorem rep_zero (n : Nat) : (List.replicate (n + 1) [V.int 0]).flatten = rwl n fun _ => 0 := by
  unfold rwl
  have : ∀ m, (List.replicate m [V.int 0]).flatten = (List.range m).map fun _ => V.int 0 := by
    intro m
    induction m with
    | zero => rfl
    | succ m ih => rw [List.replicate_succ', List.flatten_append, ih, List.range_succ, List.map_append]; rfl
  exact this (n + 1)
theorem atI_end {α : Type} {xs : List α} {v : α} (h : 0 < xs.length) (e : xs[xs.length - 1]? = some v) : atI xs (-1) = some v := by
  unfold atI ixN
  rw [if_neg (by omega), if_pos (by omega)]
  have : ((-1 : Int) + xs.length).toNat = xs.length - 1 := by omega
  simp only [this, Option.bind]
  exact e
end BrS
namespace BrS
open L2 PySem BrM BrC
theorem rep_ones (m : Nat) : (List.replicate (2 * m) [V.int 1]).flatten = (ones m).map V.int := by
  unfold ones
  generalize 2 * m = j
  induction j with
  | zero => rfl
  | succ j ih => rw [List.replicate_succ, List.flatten_cons, ih, List.replicate_succ]; rfl
theorem int_at {l : List Int} {j : Nat} (h : j < l.length) : (l.map V.int)[j]? = some (.int (l.getD j 0)) := by
  rw [List.getElem?_map, List.getD_eq_getElem?_getD, List.getElem?_eq_getElem h]; rfl
end BrS
namespace BrS
open L2 PySem BrM BrC
/-! ## a row of the table, while it is made -/
def part (P : Nat → Nat → Int) (k i q j : Nat) : Int :=
  if j ≤ i then (if j = i then 1 else 0) else if (j - i) % 2 = 1 then 0 else
    sm q fun e => if i + 2 + 2 * e ≤ j then pr P k i (i + 1 + 2 * e) * cv P k (2 * e) (i + 1) [] * cv P k (j - (i + 2 + 2 * e)) (i + 2 + 2 * e) [] else 0
section
variable {P : Nat → Nat → Int} {k i q j n : Nat}
theorem part_zero : part P k i 0 j = if j = i then 1 else 0 := by
  unfold part
  by_cases h : j ≤ i
  · rw [if_pos h]
  · rw [if_neg h, if_neg (show ¬ (j = i) by omega)]
    split <;> rfl
theorem part_odd (h : i < j ∧ (j - i) % 2 = 1) : part P k i q j = 0 := by
  unfold part
  rw [if_neg (by omega), if_pos h.2]
theorem part_same (h : j < i + 2 + 2 * q) : part P k i (q + 1) j = part P k i q j := by
  unfold part
  by_cases h1 : j ≤ i
  · rw [if_pos h1, if_pos h1]
  · rw [if_neg h1, if_neg h1, sm, if_neg (show ¬ (i + 2 + 2 * q ≤ j) by omega), Int.add_zero]
theorem part_next {en : Nat} (he : en = i + 1 + 2 * q) (h : en + 1 ≤ j) (h2 : (j - i) % 2 = 0) : part P k i q j + pr P k i en * cv P k (2 * q) (i + 1) [] * cv P k (j - (en + 1)) (en + 1) [] = part P k i (q + 1) j := by
  subst he
  unfold part
  rw [if_neg (by omega), if_neg (by omega), if_neg (by omega), if_neg (by omega), sm, if_pos (show i + 2 + 2 * q ≤ j by omega), show i + 1 + 2 * q + 1 = i + 2 + 2 * q by omega]
theorem part_all (hj : j ≤ n) : part P k i ((n - i) / 2) j = tbl P k i j := by
  unfold part tbl
  by_cases h1 : j ≤ i
  · rw [if_pos h1]
    by_cases h2 : j = i
    · subst h2; rw [if_pos rfl, if_pos (Nat.le_refl _), Nat.sub_self]; rfl
    · rw [if_neg h2, if_neg (by omega)]
  · rw [if_neg h1, if_pos (show i ≤ j by omega)]
    by_cases h2 : (j - i) % 2 = 1
    · rw [if_pos h2, cv_odd _ _ _ (by simpa using h2)]
    · rw [if_neg h2]
      obtain ⟨m, hm⟩ : ∃ m, j - i = m + 1 := ⟨j - i - 1, by omega⟩
      rw [hm, cv_rec2]
      obtain ⟨d, hd⟩ : ∃ d, (n - i) / 2 = (m + 1) / 2 + d := ⟨(n - i) / 2 - (m + 1) / 2, by omega⟩
      rw [hd, sm_more _ d fun e h3 => by rw [if_neg (by omega)]]
      refine sm_congr _ fun e h3 => ?_
      rw [if_pos (by omega), show j - (i + 2 + 2 * e) = m - 2 * e - 1 by omega, show i + 2 + 2 * e = i + 2 * e + 2 by omega]
end
end BrS
namespace BrS
open L2 PySem BrM BrC
theorem many_places {k : Nat} {a : List Nat} (hk : k ≤ 4) : ∀ l ∈ a.map (plw (ones k)), l.length = 2 * k ∧ Sm l := fun l hl => by
  obtain ⟨c, _, rfl⟩ := List.mem_map.mp hl
  exact ⟨by rw [plw_len (by rw [List.length_replicate]; omega), List.length_replicate], plw_sm (ones_sm k) c⟩
theorem rep_tx (n c : Nat) : (List.replicate n [c]).flatten = List.replicate n c := by
  induction n with
  | zero => rfl
  | succ n ih => rw [List.replicate_succ, List.flatten_cons, ih]; rfl
theorem isRow_unk {k : Int} {n : Nat} (h : n ≤ 40) : isRow k (List.replicate n 63) = true := by
  unfold isRow
  rw [Bool.and_eq_true]
  refine ⟨decide_eq_true (by rw [List.length_replicate]; exact h), List.all_eq_true.mpr fun c hc => ?_⟩
  rw [List.eq_of_mem_replicate hc]
  refine decide_eq_true ?_
  unfold sgn
  exact List.mem_append_right _ (List.mem_singleton.mpr rfl)
end BrS

namespace BrS
open L2 PySem BrM BrC
/-! ## the deck of drawn numbers -/
def Deck (H : Hp) (p : Addr) : Prop := ∃ ds : List Int, H p = some (.lst (ds.map V.int)) ∧ ∀ d ∈ ds, 0 ≤ d ∧ d < 2147483648
theorem Deck.same {H H' : Hp} {p : Addr} (h : Deck H p) (s : Same H H') : Deck H' p := by
  obtain ⟨ds, e, b⟩ := h
  exact ⟨ds, s _ _ e, b⟩
theorem Deck.keep {H H' : Hp} {p r : Addr} (h : Deck H p) (s : SameBut1 r H H') (n : p ≠ r) : Deck H' p := by
  obtain ⟨ds, e, b⟩ := h
  exact ⟨ds, s _ _ e n, b⟩
theorem Deck.ne {H : Hp} {p q : Addr} (h : Deck H p) (hq : H q = none) : q ≠ p := by
  obtain ⟨ds, e, _⟩ := h
  exact (ne_of_none e hq).symm
def spCellAt (K : PySem.W.Frag) : Sp := fun vs H Q _ => ∃ (a : Addr) (ns : List Int) (k : Int), vs = [.ref a, .int k] ∧ SqL K H a (ns.map V.int) ∧ 0 ≤ k ∧ ∀ c : Int, Q (.int c) H
theorem cellAt_use {K : PySem.W.Frag} {H : Hp} {a : Addr} {ns : List Int} {k : Int} {Q : VK} {E : XK} (h : SqL K H a (ns.map V.int)) (h0 : 0 ≤ k) (q : ∀ c : Int, Q (.int c) H) : spCellAt K ([.ref a, .int k] ++ []) H Q E := ⟨a, ns, k, rfl, h, h0, q⟩
def spStir : Sp := fun vs H Q _ => ∃ c k : Int, vs = [.int c, .int k] ∧ 0 ≤ k ∧ k ≤ 1000 ∧ ∀ r : Int, 0 ≤ r → r < 2147483648 → Q (.int r) H
theorem stir_use {H : Hp} {c k : Int} {Q : VK} {E : XK} (h0 : 0 ≤ k) (h1 : k ≤ 1000) (q : ∀ r : Int, 0 ≤ r → r < 2147483648 → Q (.int r) H) : spStir ([.int c, .int k] ++ []) H Q E := ⟨c, k, rfl, h0, h1, q⟩
def spDeck : Sp := fun vs H Q _ => ∃ c m : Int, vs = [.int c, .int m] ∧ 0 ≤ m ∧ m ≤ 1000 ∧ ∀ p H', H p = none → Same H H' → Deck H' p → Q (.ref p) H'
theorem deck_use {H : Hp} {c m : Int} {Q : VK} {E : XK} (h0 : 0 ≤ m) (h1 : m ≤ 1000) (q : ∀ p H', H p = none → Same H H' → Deck H' p → Q (.ref p) H') : spDeck ([.int c, .int m] ++ []) H Q E := ⟨c, m, rfl, h0, h1, q⟩
def spNext : Sp := fun vs H Q _ => ∃ p, vs = [.ref p] ∧ Deck H p ∧ ∀ (r : Int) H', 0 ≤ r → r < 2147483648 → Deck H' p → SameBut1 p H H' → Q (.int r) H'
theorem next_use {H : Hp} {p : Addr} {Q : VK} {E : XK} (h : Deck H p) (q : ∀ (r : Int) H', 0 ≤ r → r < 2147483648 → Deck H' p → SameBut1 p H H' → Q (.int r) H') : spNext ([.ref p] ++ []) H Q E := ⟨p, rfl, h, q⟩
theorem flat_ints (ds : List Int) : (ds.map V.int).all flatV = true := by
  rw [List.all_eq_true]
  intro v hv
  obtain ⟨d, _, rfl⟩ := List.mem_map.mp hv
  rfl
theorem eqVs_nil (ds : List Int) : eqVs (ds.map V.int) [] = decide (ds = []) := by
  cases ds with
  | nil => rfl
  | cons d r => rw [decide_eq_false (by simp)]; rfl
/-! ## all unknown -/
theorem plw_unk (w : List Int) : plw w 63 = w := by unfold plw; rw [if_pos rfl]
theorem cnt_unk (k n : Nat) : cnt k (List.replicate n 63) = if n % 2 = 0 then cat k (n / 2) else 0 := by
  unfold cnt
  rw [List.length_replicate]
  by_cases h : n % 2 = 0
  · rw [if_pos h]
    unfold cat
    rw [show 2 * (n / 2) = n by omega]
    refine cv_congrK n 0 [] (fun _ z => nomatch z) fun j b _ hj hb => ?_
    show ((List.map (plw (ones k)) (List.replicate n 63)).getD j []).getD b 0 = 1
    rw [List.map_replicate, plw_unk]
    have e1 : (List.replicate n (ones k)).getD j [] = ones k := by
      rw [List.getD_eq_getElem?_getD, List.getElem?_replicate, if_pos (by omega)]; rfl
    rw [e1]
    unfold ones
    rw [List.getD_eq_getElem?_getD, List.getElem?_replicate, if_pos hb]; rfl
  · rw [if_neg h, cv_odd]
    simp; omega
theorem pow_big : ((5 : Int) ^ 40).natAbs < big := by unfold big; decide +kernel
theorem pow4_big : (4 * (5 : Int) ^ 40).natAbs < big := by unfold big; decide +kernel
def spDue15 : Sp := fun vs H Q _ => ∃ k : Nat, vs = [.int k] ∧ k ≤ 4 ∧ ∀ r H', H r = none → Same H H' → H' r = some (.lst ((List.range 21).map fun j => V.int (cat k j))) → Q (.ref r) H'
theorem due15_use {H : Hp} {k : Nat} {Q : VK} {E : XK} (h : k ≤ 4) (q : ∀ r H', H r = none → Same H H' → H' r = some (.lst ((List.range 21).map fun j => V.int (cat k j))) → Q (.ref r) H') : spDue15 ([.int k] ++ []) H Q E := ⟨k, rfl, h, q⟩
end BrS
namespace BrS
open L2 PySem BrM BrC
section
variable {σ : St} {H : Hp} {Q : VK} {K : PySem.W.Frag}
/-- a sign for each, drawn from the deck -/
theorem draw_str {a : List Nat} {own : List Str} {sel : List Nat} {g : TG} {te : TE} {p : Addr} (ok : Nat → Prop) (hn : a.length ≤ sizeLine) (hd : Deck H p)
    (hst : ∀ (D : Addr) (row : List Nat) (H' : Hp), H D = none → H' D = some (.lst ((row.map fun c => [c]).map tx)) → row.length = a.length → (∀ c ∈ row, ok c) → Deck H' p → SameBut1 p H H' → Q (.ref D) H')
    (hs : ∀ (i c : Nat) (H' : Hp) (R : V → Hp → Prop), a[i]? = some c → Deck H' p → SameBut1 p H H' → (∀ d H6, ok d → Deck H6 p → SameBut1 p H' H6 → R (tx [d]) H6) → g (tx [c]) (inSt own sel σ) H' fun σ4 H4 => te σ4 H4 R) :
    CompW (Its ⟨a.toArray⟩) own sel σ g tYes te Q H := by
  refine comp_str hn (fun D i ys H' => ∃ row : List Nat, ys = ((row.map fun c => [c]).map tx) ∧ row.length = i ∧ (∀ c ∈ row, ok c) ∧ Deck H' p ∧ SameBut1 p H H') (fun D hD => ⟨[], rfl, rfl, (fun _ z => nomatch z), hd.same (same_new hD _), SameBut1.of (same_new hD _)⟩) (fun D ys H' hD hy ⟨row, e, h1, h2, h3, h4⟩ => hst D row H' hD (by rw [hy, e]) h1 h2 h3 h4) ?_
  rintro D i c ys H' hD hc hi hy hl ⟨row, e, h1, h2, h3, h4⟩
  have hDp : D ≠ p := hd.ne hD
  have key := hs i c H' (fun v H6 => ∃ ys, H6 D = some (.lst ys) ∧ ys.length < sizeLine ∧ ∃ m', m' < a.length - i ∧ CW D a.length (fun i ys H' => ∃ row : List Nat, ys = ((row.map fun c => [c]).map tx) ∧ row.length = i ∧ (∀ c ∈ row, ok c) ∧ Deck H' p ∧ SameBut1 p H H') (i + 1) m' (upd H6 D (.lst (ys ++ [v])))) hc h3 h4 (fun d H6 hok h6 s6 => ?_)
  · have ef : (fun (σ4 : St) (H4 : Hp) => tYes σ4 H4 fun b H5 => if b = true then te σ4 H5 fun v H6 => ∃ ys, H6 D = some (.lst ys) ∧ ys.length < sizeLine ∧ ∃ m', m' < a.length - i ∧ CW D a.length (fun i ys H' => ∃ row : List Nat, ys = ((row.map fun c => [c]).map tx) ∧ row.length = i ∧ (∀ c ∈ row, ok c) ∧ Deck H' p ∧ SameBut1 p H H') (i + 1) m' (upd H6 D (.lst (ys ++ [v])))
        else ∃ m', m' < a.length - i ∧ CW D a.length (fun i ys H' => ∃ row : List Nat, ys = ((row.map fun c => [c]).map tx) ∧ row.length = i ∧ (∀ c ∈ row, ok c) ∧ Deck H' p ∧ SameBut1 p H H') (i + 1) m' H5)
        = fun σ4 H4 => te σ4 H4 fun v H6 => ∃ ys, H6 D = some (.lst ys) ∧ ys.length < sizeLine ∧ ∃ m', m' < a.length - i ∧ CW D a.length (fun i ys H' => ∃ row : List Nat, ys = ((row.map fun c => [c]).map tx) ∧ row.length = i ∧ (∀ c ∈ row, ok c) ∧ Deck H' p ∧ SameBut1 p H H') (i + 1) m' (upd H6 D (.lst (ys ++ [v]))) := by
      funext σ4 H4
      exact propext ⟨fun z => by have z' := z; simp only [tYes] at z'; simpa using z', fun z => by show tYes _ _ _; simp only [tYes]; simpa using z⟩
    rw [ef]
    exact key
  · refine comp_next hi hn (s6 _ _ hy hDp) hl ⟨row ++ [d], by rw [e, List.map_append, List.map_append]; rfl, by simp [h1], fun x hx => ?_, h6.keep SameBut1.upd (Ne.symm hDp), fun b o z zn => ?_⟩
    · rcases List.mem_append.mp hx with z | z
      · exact h2 x z
      · obtain rfl := List.mem_singleton.mp z; exact hok
    · rw [upd_ne (ne_of_none z hD)]
      exact s6 b o (h4 b o z zn) zn
end
/-! ## drawn rows -/
def spRow2 : Sp := fun vs H Q _ => ∃ (p : Addr) (k h : Int), vs = [.ref p, .int k, .int h] ∧ Deck H p ∧ 1 ≤ k ∧ k ≤ 4 ∧ 0 ≤ h ∧ h ≤ 20 ∧
  ∀ row H', Rt row → (row.length : Int) = 2 * h → (∀ c ∈ row, kin k c) → Deck H' p → SameBut1 p H H' → Q (tx row) H'
theorem row2_use {H : Hp} {p : Addr} {k h : Int} {Q : VK} {E : XK} (hd : Deck H p) (h1 : 1 ≤ k) (h2 : k ≤ 4) (h3 : 0 ≤ h) (h4 : h ≤ 20)
    (q : ∀ row H', Rt row → (row.length : Int) = 2 * h → (∀ c ∈ row, kin k c) → Deck H' p → SameBut1 p H H' → Q (tx row) H') : spRow2 ([.ref p, .int k, .int h] ++ []) H Q E := ⟨p, k, h, rfl, hd, h1, h2, h3, h4, q⟩
def spLine2 : Sp := fun vs H Q _ => ∃ (p : Addr) (k m : Int), vs = [.ref p, .int k, .int m] ∧ Deck H p ∧ 1 ≤ k ∧ k ≤ 4 ∧ 1 ≤ m ∧ m ≤ 40 ∧
  ∀ row H', (row.length : Int) ≤ m → isRow k row = true → Deck H' p → SameBut1 p H H' → Q (tx row) H'
theorem line2_use {H : Hp} {p : Addr} {k m : Int} {Q : VK} {E : XK} (hd : Deck H p) (h1 : 1 ≤ k) (h2 : k ≤ 4) (h3 : 1 ≤ m) (h4 : m ≤ 40)
    (q : ∀ row H', (row.length : Int) ≤ m → isRow k row = true → Deck H' p → SameBut1 p H H' → Q (tx row) H') : spLine2 ([.ref p, .int k, .int m] ++ []) H Q E := ⟨p, k, m, rfl, hd, h1, h2, h3, h4, q⟩
theorem snoc_last {w : List Nat} (h : w ≠ []) : ∃ i d, w = i ++ [d] := ⟨w.dropLast, w.getLast h, (List.dropLast_concat_getLast h).symm⟩
theorem atI_snoc (i : List Nat) (d : Nat) : atI (i ++ [d]) (-1) = some d := atI_end (by simp) (by simp)
theorem cut_init (i : List Nat) (d : Nat) : cutL (i ++ [d]) none (some (-1)) = i := by
  unfold cutL
  have e1 : HT.sIx (i ++ [d]).length (i ++ [d]).length (some (-1)) = i.length := by
    unfold HT.sIx
    simp
    omega
  rw [HT.sIx_none, e1]
  simp
end BrS
namespace BrS
open L2 PySem BrM BrC
theorem at4 {α : Type} (x y z u : α) {i : Int} (h0 : 0 ≤ i) (h1 : i < 4) : ∃ v, atI [x, y, z, u] i = some v ∧ (v = x ∨ v = y ∨ v = z ∨ v = u) := by
  have : i = 0 ∨ i = 1 ∨ i = 2 ∨ i = 3 := by omega
  rcases this with rfl | rfl | rfl | rfl
  · exact ⟨x, rfl, .inl rfl⟩
  · exact ⟨y, rfl, .inr (.inl rfl)⟩
  · exact ⟨z, rfl, .inr (.inr (.inl rfl))⟩
  · exact ⟨u, rfl, .inr (.inr (.inr rfl))⟩
theorem sgn_unk (k : Int) : 63 ∈ sgn k := List.mem_append_right _ (List.mem_singleton.mpr rfl)
theorem isRow_swap {k : Int} {a : List Nat} {c i : Nat} (ha : isRow k a = true) (hi : i < a.length) (hc : c ∈ sgn k) : isRow k (a.take i ++ [c] ++ a.drop (i + 1)) = true ∧ (a.take i ++ [c] ++ a.drop (i + 1)).length = a.length := by
  have hl := isRow_len ha
  have el : (a.take i ++ [c] ++ a.drop (i + 1)).length = a.length := by simp only [List.length_append, List.length_take, List.length_drop, List.length_singleton]; omega
  refine ⟨isRow_with ha hc (by omega) fun x hx => ?_, el⟩
  rcases List.mem_append.mp hx with z | z
  · rcases List.mem_append.mp z with z | z
    · exact .inl (List.mem_of_mem_take z)
    · exact .inr (List.mem_singleton.mp z)
  · exact .inl (List.mem_of_mem_drop z)
theorem isRow_ins {k : Int} {a : List Nat} {c i m : Nat} (ha : isRow k a = true) (hc : c ∈ sgn k) (hm : m ≤ 40) : isRow k ((a.take i ++ [c] ++ a.drop i).take m) = true := by
  refine isRow_with ha hc (by rw [List.length_take]; omega) fun x hx => ?_
  rcases List.mem_append.mp (List.mem_of_mem_take hx) with z | z
  · rcases List.mem_append.mp z with z | z
    · exact .inl (List.mem_of_mem_take z)
    · exact .inr (List.mem_singleton.mp z)
  · exact .inl (List.mem_of_mem_drop z)
end BrS
namespace BrS
open L2 PySem BrM BrC
theorem and_same {t u : TT} {σ : St} {H : Hp} {R : Bool → Hp → Prop} {c d : Bool} (ht : ∀ R : Bool → Hp → Prop, (∀ H', Same H H' → R c H') → t σ H R) (hu : c = true → ∀ H1, Same H H1 → ∀ R : Bool → Hp → Prop, (∀ H', Same H1 H' → R d H') → u σ H1 R)
    (h : ∀ H', Same H H' → R (c && d) H') : tAnd t u σ H R := by
  refine ht _ fun H1 s1 => ?_
  cases c with
  | true => rw [if_pos rfl]; exact hu rfl H1 s1 _ fun H' s' => h H' (s1.trans s')
  | false => rw [if_neg Bool.false_ne_true]; exact h H1 s1
theorem or_same {t u : TT} {σ : St} {H : Hp} {R : Bool → Hp → Prop} {c d : Bool} (ht : ∀ R : Bool → Hp → Prop, (∀ H', Same H H' → R c H') → t σ H R) (hu : c = false → ∀ H1, Same H H1 → ∀ R : Bool → Hp → Prop, (∀ H', Same H1 H' → R d H') → u σ H1 R)
    (h : ∀ H', Same H H' → R (c || d) H') : tOr t u σ H R := by
  refine ht _ fun H1 s1 => ?_
  cases c with
  | true => rw [if_pos rfl]; exact h H1 s1
  | false => rw [if_neg Bool.false_ne_true]; exact hu rfl H1 s1 _ fun H' s' => h H' (s1.trans s')
end BrS

namespace L2
open PySem PySem.Spec PyProof.Rows

/-! ### lists of pairs as tables -/
section
variable {κ : Type} [DecidableEq κ]
def valV (kvs : List (κ × V)) (k : κ) : Option V := (kvs.find? fun kv => decide (kv.1 = k)).map (·.2)
/-- in its place, or at the end -/
def putK (kvs : List (κ × V)) (k : κ) (v : V) : List (κ × V) :=
  if (kvs.any fun kv => decide (kv.1 = k)) = true then kvs.map (fun kv => if kv.1 = k then (kv.1, v) else kv) else kvs ++ [(k, v)]
def dropK (kvs : List (κ × V)) (k : κ) : List (κ × V) := kvs.filter fun kv => decide (kv.1 ≠ k)

theorem valV_nil {k : κ} : valV ([] : List (κ × V)) k = none := rfl
theorem valV_pos {p : κ × V} {r : List (κ × V)} {k : κ} (e : p.1 = k) : valV (p :: r) k = some p.2 := by simp [valV, List.find?_cons, e]
theorem valV_neg {p : κ × V} {r : List (κ × V)} {k : κ} (e : ¬ p.1 = k) : valV (p :: r) k = valV r k := by simp [valV, List.find?_cons, e]
theorem valV_any (k : κ) : ∀ kvs : List (κ × V), (kvs.any fun kv => decide (kv.1 = k)) = (valV kvs k).isSome
  | [] => rfl
  | p :: r => by
    rw [List.any_cons]
    by_cases e : p.1 = k
    · simp only [valV_pos e, decide_eq_true e, Bool.true_or, Option.isSome_some]
    · rw [valV_neg e, decide_eq_false e, Bool.false_or]; exact valV_any k r
theorem valV_map (k j : κ) (y : V) : ∀ kvs : List (κ × V), valV (kvs.map fun kv => if kv.1 = k then (kv.1, y) else kv) j = (valV kvs j).map fun x => if j = k then y else x
  | [] => rfl
  | p :: r => by
    have ih := valV_map k j y r
    rw [List.map_cons]
    by_cases h : p.1 = k
    · rw [if_pos h]
      by_cases e : p.1 = j
      · rw [valV_pos (p := (p.1, y)) e, valV_pos e, Option.map_some, if_pos (e.symm.trans h)]
      · rw [valV_neg (p := (p.1, y)) e, valV_neg e, ih]
    · rw [if_neg h]
      by_cases e : p.1 = j
      · rw [valV_pos (p := p) e, valV_pos e, Option.map_some, if_neg (fun z => h (e.trans z))]
      · rw [valV_neg (p := p) e, valV_neg e, ih]
theorem valV_snoc (k j : κ) (y : V) : ∀ kvs : List (κ × V), valV kvs k = none → valV (kvs ++ [(k, y)]) j = if j = k then some y else valV kvs j
  | [], _ => by
    by_cases e : k = j
    · rw [if_pos e.symm]; exact valV_pos (p := (k, y)) e
    · rw [if_neg (fun z => e z.symm)]; exact valV_neg (p := (k, y)) e
  | p :: r, hn => by
    rw [List.cons_append]
    have hk : ¬ p.1 = k := fun z => by rw [valV_pos z] at hn; cases hn
    rw [valV_neg hk] at hn
    have ih := valV_snoc k j y r hn
    by_cases e : p.1 = j
    · rw [valV_pos e, valV_pos e, if_neg (fun z => hk (e.trans z))]
    · rw [valV_neg e, valV_neg e, ih]
theorem valV_put (kvs : List (κ × V)) (k j : κ) (y : V) : valV (putK kvs k y) j = if j = k then some y else valV kvs j := by
  unfold putK
  by_cases a : (kvs.any fun kv => decide (kv.1 = k)) = true
  · rw [if_pos a, valV_map]
    rw [valV_any] at a
    by_cases e : j = k
    · obtain ⟨x, hx⟩ := Option.isSome_iff_exists.mp a
      rw [if_pos e, e, hx, Option.map_some, if_pos rfl]
    · rw [if_neg e]
      cases valV kvs j with
      | none => rfl
      | some x => rw [Option.map_some, if_neg e]
  · rw [if_neg a]
    refine valV_snoc k j y kvs ?_
    rw [valV_any] at a
    cases q : valV kvs k with
    | none => rfl
    | some x => rw [q] at a; exact (a rfl).elim
theorem length_putK (kvs : List (κ × V)) (k : κ) (v : V) : (putK kvs k v).length ≤ kvs.length + 1 := by
  unfold putK
  split
  · rw [List.length_map]; omega
  · rw [List.length_append, List.length_cons, List.length_nil]; omega
theorem putK_new {kvs : List (κ × V)} {k : κ} (v : V) (h : valV kvs k = none) : putK kvs k v = kvs ++ [(k, v)] := by
  unfold putK
  rw [valV_any, h]
  exact if_neg (by decide)

theorem RelO.isSome_eq {o : Option V} {u : Option Value} (r : RelO o u) : o.isSome = u.isSome := by
  cases o with
  | none => cases u with
    | none => rfl
    | some _ => exact (show False from r).elim
  | some _ => cases u with
    | none => exact (show False from r).elim
    | some _ => rfl
theorem RelO.getD {o : Option V} {u : Option Value} {d : V} {d' : Value} (r : RelO o u) (rd : RelV d d') : RelV (o.getD d) (u.getD d') := by
  cases o with
  | none => cases u with
    | none => exact rd
    | some _ => exact (show False from r).elim
  | some _ => cases u with
    | none => exact (show False from r).elim
    | some _ => exact r

/-- raw tables of the same keys -/
theorem KV.val {kvs : List (κ × V)} {vs : List (κ × Value)} (r : KV kvs vs) (k : κ) : RelO (valV kvs k) (valueAt vs k) := by
  unfold KV at r
  induction r with
  | nil => exact True.intro
  | @cons p q ps qs h t ih =>
    obtain ⟨h1, h2⟩ := h
    by_cases e : p.1 = k
    · have e' : q.1 = k := h1.symm.trans e
      have b : valueAt (q :: qs) k = some q.2 := by simp [valueAt, List.find?_cons, e']
      rw [valV_pos e, b]; exact h2
    · have e' : ¬ q.1 = k := fun z => e (h1.trans z)
      have b : valueAt (q :: qs) k = valueAt qs k := by simp [valueAt, List.find?_cons, e']
      rw [valV_neg e, b]; exact ih
theorem KV.any {kvs : List (κ × V)} {vs : List (κ × Value)} (r : KV kvs vs) (k : κ) : (kvs.any fun kv => decide (kv.1 = k)) = vs.any fun kv => decide (kv.1 = k) := by
  unfold KV at r
  induction r with
  | nil => rfl
  | cons h t ih => rw [List.any_cons, List.any_cons, ih, h.1]
theorem KV.repl {kvs : List (κ × V)} {vs : List (κ × Value)} (r : KV kvs vs) (k : κ) {y : V} {u : Value} (ry : RelV y u) :
    KV (kvs.map fun kv => if kv.1 = k then (kv.1, y) else kv) (vs.map fun kv => if kv.1 = k then (kv.1, u) else kv) := by
  unfold KV at r ⊢
  induction r with
  | nil => exact .nil
  | @cons p q ps qs h t ih =>
    rw [List.map_cons, List.map_cons]
    refine .cons ?_ ih
    obtain ⟨h1, h2⟩ := h
    by_cases e : p.1 = k
    · rw [if_pos e, if_pos (h1.symm.trans e)]; exact ⟨h1, ry⟩
    · rw [if_neg e, if_neg (fun z => e (h1.trans z))]; exact ⟨h1, h2⟩
theorem KV.put {kvs : List (κ × V)} {vs : List (κ × Value)} (r : KV kvs vs) (k : κ) {y : V} {u : Value} (ry : RelV y u) : KV (putK kvs k y) (stored vs k u) := by
  unfold putK stored
  rw [r.any k]
  by_cases e : (vs.any fun kv => decide (kv.1 = k)) = true
  · rw [if_pos e, if_pos e]; exact r.repl k ry
  · rw [if_neg e, if_neg e]; exact Paired.snoc r ⟨rfl, ry⟩
theorem KV.drop {kvs : List (κ × V)} {vs : List (κ × Value)} (r : KV kvs vs) (k : κ) : KV (dropK kvs k) (without vs k) := by
  unfold KV at r ⊢
  unfold dropK without
  induction r with
  | nil => exact .nil
  | @cons p q ps qs h t ih =>
    obtain ⟨h1, h2⟩ := h
    rw [List.filter_cons, List.filter_cons]
    by_cases e : p.1 = k
    · have a : ¬ decide (p.1 ≠ k) = true := by simp [e]
      have b : ¬ decide (q.1 ≠ k) = true := by simp [h1.symm.trans e]
      rw [if_neg a, if_neg b]; exact ih
    · have e' : ¬ q.1 = k := fun z => e (h1.trans z)
      have a : decide (p.1 ≠ k) = true := by simp [e]
      have b : decide (q.1 ≠ k) = true := by simp [e']
      rw [if_pos a, if_pos b]; exact .cons ⟨h1, h2⟩ ih
theorem KV.keys {kvs : List (κ × V)} {vs : List (κ × Value)} (r : KV kvs vs) : kvs.map (·.1) = vs.map (·.1) := by
  unfold KV at r
  induction r with
  | nil => rfl
  | cons h t ih => rw [List.map_cons, List.map_cons, ih, h.1]
theorem KV.length {kvs : List (κ × V)} {vs : List (κ × Value)} (r : KV kvs vs) : kvs.length = vs.length := Paired.length r
theorem dropK_le (kvs : List (κ × V)) (k : κ) : (dropK kvs k).length ≤ kvs.length := List.length_filter_le _ _
end


/-! ### a tracked dict, its keys ints and texts or tuples of these -/
theorem kV_is {P : Program} {w : World} {k : Key} {u : Value} (r : RelV (kV k) u) : (mixKind P w).is k u = true := by
  cases k with
  | inl i => obtain ⟨t, e⟩ := (show ∃ t, u = Value.int i t from r); subst e; exact mixKind_int P w i t
  | inr x => obtain ⟨t, e⟩ := (show ∃ t, u = Value.str x t from r); subst e; exact mixKind_str P w x t
theorem kV_inj {a b : Key} (e : kV a = kV b) : a = b := by
  cases a with
  | inl i => cases b with
    | inl j => have e' : V.int i = V.int j := e; injection e' with e'; rw [e']
    | inr y => exact nomatch (show V.int i = V.str y from e)
  | inr x => cases b with
    | inl j => exact nomatch (show V.str x = V.int j from e)
    | inr y => have e' : V.str x = V.str y := e; injection e' with e'; rw [e']
theorem kVs_inj : ∀ {a b : List Key}, a.map kV = b.map kV → a = b
  | [], [], _ => rfl
  | [], _ :: _, e => by simp at e
  | _ :: _, [], e => by simp at e
  | x :: xs, y :: ys, e => by
    rw [List.map_cons, List.map_cons] at e
    injection e with e1 e2
    rw [kV_inj e1, kVs_inj e2]
theorem items_are {P : Program} {w : World} : ∀ {ks : List Key} {us : List Value}, Vals (ks.map kV) us → ItemsAre (mixKind P w) ks us
  | [], _, r => by rw [List.map_nil] at r; cases r; exact .nil
  | k :: ks, _, r => by
    rw [List.map_cons] at r
    cases r with
    | cons h t => exact .cons (kV_is h) (items_are t)

/-- raw entries of a dict with tuple keys -/
abbrev KT (H : Hp) : List (List Key × V) → List (List Key × Addr × Value) → Prop := Paired fun p q => p.1 = q.1 ∧ H q.2.1 = some (.tup (p.1.map kV)) ∧ RelV p.2 q.2.2
theorem KT.val {H : Hp} {kvs : List (List Key × V)} {xs : List (List Key × Addr × Value)} (r : KT H kvs xs) (k : List Key) : RelO (valV kvs k) ((atKey xs k).map (·.2)) := by
  induction r with
  | nil => exact True.intro
  | @cons p q ps qs h t ih =>
    obtain ⟨h1, _, h2⟩ := h
    by_cases e : p.1 = k
    · have e' : q.1 = k := h1.symm.trans e
      have b : atKey (q :: qs) k = some q.2 := by simp [atKey, List.find?_cons, e']
      rw [valV_pos e, b]; exact h2
    · have e' : ¬ q.1 = k := fun z => e (h1.trans z)
      have b : atKey (q :: qs) k = atKey qs k := by simp [atKey, List.find?_cons, e']
      rw [valV_neg e, b]; exact ih
theorem KT.repl {H : Hp} {kvs : List (List Key × V)} {xs : List (List Key × Addr × Value)} (r : KT H kvs xs) (k : List Key) {y : V} {u : Value} (ry : RelV y u) :
    KT H (kvs.map fun kv => if kv.1 = k then (kv.1, y) else kv) (xs.map (putAt k u)) := by
  induction r with
  | nil => exact .nil
  | @cons p q ps qs h t ih =>
    rw [List.map_cons, List.map_cons]
    refine .cons ?_ ih
    obtain ⟨h1, h2, h3⟩ := h
    unfold putAt
    by_cases e : p.1 = k
    · rw [if_pos e, if_pos (h1.symm.trans e)]; exact ⟨h1, h2, ry⟩
    · rw [if_neg e, if_neg (fun z => e (h1.trans z))]; exact ⟨h1, h2, h3⟩
theorem KT.put {H : Hp} {kvs : List (List Key × V)} {xs : List (List Key × Addr × Value)} (r : KT H kvs xs) (k : List Key) {b : Addr} {y : V} {u : Value} (hb : H b = some (.tup (k.map kV))) (ry : RelV y u) :
    KT H (putK kvs k y) (storedH xs k b u) := by
  have e : (kvs.any fun kv => decide (kv.1 = k)) = (atKey xs k).isSome := by
    rw [valV_any, (r.val k).isSome_eq, Option.isSome_map]
  unfold putK storedH
  rw [e]
  by_cases q : (atKey xs k).isSome = true
  · rw [if_pos q, if_pos q]; exact r.repl k ry
  · rw [if_neg q, if_neg q]; exact Paired.snoc r ⟨rfl, hb, ry⟩
theorem KT.keeps {H H' : Hp} {kvs : List (List Key × V)} {xs : List (List Key × Addr × Value)} (r : KT H kvs xs) (ht : ∀ b ys, H b = some (.tup ys) → H' b = some (.tup ys)) : KT H' kvs xs :=
  Paired.mapP r fun _ _ z => ⟨z.1, ht _ _ z.2.1, z.2.2⟩

section
variable {P : Program} {w : World} {H : Hp} {h : Heap} {a : Addr}
theorem rd_of {u : HO} (ok : HOk P w H h) (e : Rd H a u) : ObjOk P w H h a u := e.ok ok
theorem dk_rd {kvs : List (Key × V)} (ok : HOk P w H h) (e : Rd H a (.dK kvs)) : kvs.length ≤ sizeLine ∧ (a == sysModules) = false ∧ ∃ vs, KV kvs vs ∧ h.DictOf (mixKind P w) a vs :=
  show ObjOk P w H h a (.dK kvs) from rd_of ok e
theorem dk_of {kvs : List (Key × V)} (ok : HOk P w H h) (e : H a = some (.dK kvs)) : kvs.length ≤ sizeLine ∧ (a == sysModules) = false ∧ ∃ vs, KV kvs vs ∧ h.DictOf (mixKind P w) a vs := dk_rd ok (.inl e)
/-- a tracked tuple of ints and texts is a key -/
theorem key_of {ks : List Key} (ok : HOk P w H h) (e : H a = some (.tup (ks.map kV))) : (tupleKind (mixKind P w)).is h ks a := by
  obtain ⟨_, its, r, o, h1, h2, n, h3⟩ := (show ObjOk P w H h a (.tup (ks.map kV)) from ok a _ e)
  exact ⟨o, its.toArray, n, h1, h2, h3, by simpa using items_are r⟩
theorem dt_rd {kvs : List (List Key × V)} (ok : HOk P w H h) (e : Rd H a (.dT kvs)) : kvs.length ≤ sizeLine ∧ (a == sysModules) = false ∧
    ∃ xs, KT H kvs xs ∧ h.DictOfH (tupleKind (mixKind P w)) a xs := by
  obtain ⟨z, y, xs, r, o, es, ep, h1, h2, h3, h4, h5⟩ := (show ObjOk P w H h a (.dT kvs) from rd_of ok e)
  refine ⟨z, y, xs, r, o, es, ep, h1, h2, h3, h4, fun x hx => ?_, h5⟩
  have all : ∀ {l : List (List Key × V)} {m : List (List Key × Addr × Value)}, KT H l m → ∀ x ∈ m, (tupleKind (mixKind P w)).is h x.1 x.2.1 := by
    intro l m q
    induction q with
    | nil => intro x hx; exact nomatch hx
    | @cons p q ps qs hq t ih =>
      intro x hx
      rcases List.mem_cons.mp hx with e | hx
      · subst e
        exact key_of ok (by rw [← hq.1]; exact hq.2.1)
      · exact ih x hx
  exact all r x hx
theorem dt_of {kvs : List (List Key × V)} (ok : HOk P w H h) (e : H a = some (.dT kvs)) : kvs.length ≤ sizeLine ∧ (a == sysModules) = false ∧
    ∃ xs, KT H kvs xs ∧ h.DictOfH (tupleKind (mixKind P w)) a xs := dt_rd ok (.inl e)
end

/-- what the dict at a holds at the key y -/
def DGet (H : Hp) (a : Addr) (y : V) (r : Option V) : Prop :=
  (∃ kvs k, Rd H a (.dK kvs) ∧ y = kV k ∧ r = valV kvs k) ∨ ∃ kvs k b, Rd H a (.dT kvs) ∧ y = .ref b ∧ H b = some (.tup (k.map kV)) ∧ r = valV kvs k
/-- the heap behind a[y] = v -/
def DPut (H : Hp) (a : Addr) (y v : V) (H' : Hp) : Prop :=
  (∃ kvs k, H a = some (.dK kvs) ∧ y = kV k ∧ kvs.length < sizeLine ∧ H' = upd H a (.dK (putK kvs k v))) ∨
  ∃ kvs k b, H a = some (.dT kvs) ∧ y = .ref b ∧ H b = some (.tup (k.map kV)) ∧ kvs.length < sizeLine ∧ H' = upd H a (.dT (putK kvs k v))
theorem DGet.k {H : Hp} {a : Addr} {kvs : List (Key × V)} {k : Key} (e : H a = some (.dK kvs)) : DGet H a (kV k) (valV kvs k) := .inl ⟨kvs, k, .inl e, rfl, rfl⟩
theorem DGet.t {H : Hp} {a b : Addr} {kvs : List (List Key × V)} {k : List Key} (e : H a = some (.dT kvs)) (eb : H b = some (.tup (k.map kV))) : DGet H a (.ref b) (valV kvs k) := .inr ⟨kvs, k, b, .inl e, rfl, eb, rfl⟩
theorem DPut.k {H : Hp} {a : Addr} {kvs : List (Key × V)} {k : Key} {v : V} (e : H a = some (.dK kvs)) (hl : kvs.length < sizeLine) : DPut H a (kV k) v (upd H a (.dK (putK kvs k v))) := .inl ⟨kvs, k, e, rfl, hl, rfl⟩
theorem DPut.t {H : Hp} {a b : Addr} {kvs : List (List Key × V)} {k : List Key} {v : V} (e : H a = some (.dT kvs)) (eb : H b = some (.tup (k.map kV))) (hl : kvs.length < sizeLine) :
    DPut H a (.ref b) v (upd H a (.dT (putK kvs k v))) := .inr ⟨kvs, k, b, e, rfl, eb, hl, rfl⟩


section
variable {X : Cx} {pins : List (Addr × Obj)} {σ : St} {H : Hp} {s : Shared} {a : Addr} {y v : V} {u r : Value} {o : Option V} {A : Around} {E : Value → Shared → Prop}

theorem Inv.big (I : Inv X pins σ H s) : sysModules < s.heap.objs.size := by
  have h : mainGlobals < s.heap.objs.size := (I.mod.glob.keeps I.bk).lt
  exact Nat.lt_trans (by decide) h

/-- d[y], there -/
theorem d_getItem {Q : Value → Shared → Prop} (hu : A.units + 1 < cLine) (I : Inv X pins σ H s) (g : DGet H a y (some v)) (ry : RelV y u) (h : ∀ w' s', Inv X pins σ H s' → RelV v w' → Q w' s') :
    wpAny (model X.prog X.w) A (getItem (.ref a) u) Q E s := by
  rcases g with ⟨kvs, k, e, ey, l⟩ | ⟨kvs, k, b, e, ey, eb, l⟩
  · subst ey
    obtain ⟨z, hd, vs, rel, dd⟩ := dk_rd I.hok e
    obtain ⟨w', hw, rw'⟩ := RelO.some_of (v := v) (o := valueAt vs k) (by rw [l]; exact rel.val k)
    exact wpAny_getItem_of (kV_is ry) dd.mapOf hw (h w' _ (I.tok _) rw')
  · subst ey
    cases (show u = Value.ref b from ry)
    obtain ⟨z, hd, xs, rel, dd⟩ := dt_rd I.hok e
    obtain ⟨w', hw, rw'⟩ := RelO.some_of (v := v) (o := (atKey xs k).map (·.2)) (by rw [l]; exact rel.val k)
    obtain ⟨p, hp, hp2⟩ := Option.map_eq_some_iff.mp hw
    refine wpAny_getItem_heap (tupleKind_room_in1 hu) (key_of I.hok eb) dd hp ?_
    rw [hp2]
    exact h w' _ (I.tok _) rw'
/-- y in d -/
theorem d_in {Q : Value → Shared → Prop} (hu : A.units + 1 < cLine) (I : Inv X pins σ H s) (g : DGet H a y o) (ry : RelV y u) (h : ∀ s', Inv X pins σ H s' → Q (.bool o.isSome) s') :
    wpAny (model X.prog X.w) A (compareOp .In u (.ref a)) Q E s := by
  rcases g with ⟨kvs, k, e, ey, l⟩ | ⟨kvs, k, b, e, ey, eb, l⟩
  · subst ey
    obtain ⟨z, hd, vs, rel, dd⟩ := dk_rd I.hok e
    refine wpAny_in_of (kV_is ry) hd dd.mapOf ?_
    rw [← (rel.val k).isSome_eq, ← l]
    exact h _ (I.tok _)
  · subst ey
    cases (show u = Value.ref b from ry)
    obtain ⟨z, hd, xs, rel, dd⟩ := dt_rd I.hok e
    refine wpAny_in_heap (tupleKind_room_in1 hu) (key_of I.hok eb) hd dd ?_
    have q := (rel.val k).isSome_eq
    rw [Option.isSome_map] at q
    rw [← q, ← l]
    exact h _ (I.tok _)
theorem d_notIn {Q : Value → Shared → Prop} (hu : A.units + 1 < cLine) (I : Inv X pins σ H s) (g : DGet H a y o) (ry : RelV y u) (h : ∀ s', Inv X pins σ H s' → Q (.bool (!o.isSome)) s') :
    wpAny (model X.prog X.w) A (compareOp .NotIn u (.ref a)) Q E s := by
  rcases g with ⟨kvs, k, e, ey, l⟩ | ⟨kvs, k, b, e, ey, eb, l⟩
  · subst ey
    obtain ⟨z, hd, vs, rel, dd⟩ := dk_rd I.hok e
    refine wpAny_notIn_of (kV_is ry) hd dd.mapOf ?_
    rw [← (rel.val k).isSome_eq, ← l]
    exact h _ (I.tok _)
  · subst ey
    cases (show u = Value.ref b from ry)
    obtain ⟨z, hd, xs, rel, dd⟩ := dt_rd I.hok e
    refine wpAny_notIn_heap (tupleKind_room_in1 hu) (key_of I.hok eb) hd dd ?_
    have q := (rel.val k).isSome_eq
    rw [Option.isSome_map] at q
    rw [← q, ← l]
    exact h _ (I.tok _)
/-- a dict's object is replaced -/
theorem d_write {h' : Heap} {t' : Nat} {ob : HO} (I : Inv X pins σ H s) (mu : Mut (H a)) (hs : Heap.SameBut a s.heap h') (he : ∃ q, h'.get? a = some q) (new : ObjOk X.prog X.w (upd H a ob) h' a ob) :
    Inv X pins σ (upd H a ob) { s with heap := h', toks := t' } :=
  I.write (x := a) (e := a) mu (.inl rfl) (fun b q hb z => (hs.2 b hb).trans z) he new
theorem dk_new {P : Program} {w : World} {H' : Hp} {h' : Heap} {kvs : List (Key × V)} {vs : List (Key × Value)} (z : kvs.length ≤ sizeLine) (hd : (a == sysModules) = false) (rel : KV kvs vs) (dd : h'.DictOf (mixKind P w) a vs) :
    ObjOk P w H' h' a (.dK kvs) := ⟨z, hd, vs, rel, dd⟩
/-- d[y] = v -/
theorem d_setItem {H' : Hp} {Q : Unit → Shared → Prop} (hu : A.units + 1 < cLine) (I : Inv X pins σ H s) (g : DPut H a y v H') (ry : RelV y u) (rv : RelV v r) (h : ∀ s', Inv X pins σ H' s' → Q () s') :
    wpAny (model X.prog X.w) A (setItem (.ref a) u r) Q E s := by
  rcases g with ⟨kvs, k, e, ey, l, eH⟩ | ⟨kvs, k, b, e, ey, eb, l, eH⟩
  · subst ey eH
    obtain ⟨z, hd, vs, rel, dd⟩ := dk_of I.hok e
    have hz : vs.length ≤ sizeLine := by rw [← rel.length]; exact z
    have hl : (putK kvs k v).length ≤ sizeLine := by have := length_putK kvs k v; omega
    refine wpAny_setItem_pairs (hsz := hz) (kV_is ry) dd fun h' dd' hs => h _ ?_
    have he : ∃ q, h'.get? a = some q := let ⟨q, _, _, hq, _⟩ := dd'; ⟨q, hq⟩
    exact d_write I (by rw [e]; exact True.intro) hs he (dk_new hl hd (rel.put k rv) dd')
  · subst ey eH
    cases (show u = Value.ref b from ry)
    obtain ⟨z, hd, xs, rel, dd⟩ := dt_of I.hok e
    have hz : xs.length ≤ sizeLine := by rw [← Paired.length rel]; exact z
    have hl : (putK kvs k v).length ≤ sizeLine := by have := length_putK kvs k v; omega
    refine wpAny_setItem_heap (hsz := hz) (tupleKind_room_in1 hu) (key_of I.hok eb) dd fun h' dd' hs => h _ ?_
    obtain ⟨q, es, ep, hq, h2, h3, h4, _, h5⟩ := dd'
    refine d_write I (by rw [e]; exact True.intro) hs ⟨q, hq⟩ ⟨hl, hd, _, (rel.put k eb rv).keeps fun c ys ec => ?_, q, es, ep, hq, h2, h3, h4, h5⟩
    rw [upd_ne (ne_of ec e (fun z => nomatch z))]
    exact ec
end

section
variable {X : Cx} {pins : List (Addr × Obj)} {σ : St} {H : Hp} {s : Shared} {a : Addr} {kvs : List (Key × V)} {k : Key} {u : Value} {A : Around} {E : Value → Shared → Prop}
/-- del d[k] -/
theorem d_delItem {Q : Unit → Shared → Prop} (I : Inv X pins σ H s) (e : H a = some (.dK kvs)) (ry : RelV (kV k) u) (l : (valV kvs k).isSome = true) (h : ∀ s', Inv X pins σ (upd H a (.dK (dropK kvs k))) s' → Q () s') :
    wpAny (model X.prog X.w) A (delItem (.ref a) u) Q E s := by
  obtain ⟨z, hd, vs, rel, dd⟩ := dk_of I.hok e
  refine wpAny_delItem_slot dd.typeIs (by decide) PySem.F.slot_dict_delitem
    (call_meetsIn PySem.F.slot_dict_delitem dd.typeIs PySem.F.entry_dict_delitem (PySem.F.args_dict_delitem_2 _ _) (meets_dict_delitem_pairs (mixKind X.prog X.w) a (kV_is ry)) ⟨vs, dd, by rw [← rel.length]; exact z, by rw [← (rel.val k).isSome_eq]; exact l, fun h' dd' hs => h _ ?_⟩)
  have he : ∃ q, h'.get? a = some q := let ⟨q, _, _, hq, _⟩ := dd'; ⟨q, hq⟩
  exact d_write I (by rw [e]; exact True.intro) hs he (dk_new (Nat.le_trans (dropK_le kvs k) z) hd (rel.drop k) dd')
/-- d.pop(k[, x]), there -/
theorem d_pop {v : V} {more : List Value} {Q : Value → Shared → Prop} (I : Inv X pins σ H s) (e : H a = some (.dK kvs)) (ry : RelV (kV k) u) (l : valV kvs k = some v) (hm : more = [] ∨ ∃ x, more = [x])
    (h : ∀ w' s', Inv X pins σ (upd H a (.dK (dropK kvs k))) s' → RelV v w' → Q w' s') : wpAny (model X.prog X.w) A (call (.builtin "dict.pop") (.ref a :: u :: more)) Q E s := by
  obtain ⟨z, hd, vs, rel, dd⟩ := dk_of I.hok e
  obtain ⟨w', hw, rw'⟩ := RelO.some_of (v := v) (o := valueAt vs k) (by rw [← l]; exact rel.val k)
  have hp : (keyPart u).isSome = true := by
    cases k with
    | inl i => obtain ⟨t, q⟩ := (show ∃ t, u = Value.int i t from ry); subst q; rfl
    | inr x => obtain ⟨t, q⟩ := (show ∃ t, u = Value.str x t from ry); subst q; rfl
  have ha : argsOk "dict.pop" ⟨.ref a :: u :: more, []⟩ := by
    rcases hm with q | ⟨x, q⟩
    · subst q; exact PySem.F.args_dict_pop_2 _ _
    · subst q; exact PySem.F.args_dict_pop_3 _ _ _
  refine call_meetsIn PySem.F.slot_dict_pop dd.typeIs PySem.F.entry_dict_pop ha (meets_dict_pop_there (mixKind X.prog X.w) a (kV_is ry) more hm hp)
    ⟨vs, w', dd, by rw [← rel.length]; exact z, hw, fun h' dd' hs => h w' _ ?_ rw'⟩
  have he : ∃ q, h'.get? a = some q := let ⟨q, _, _, hq, _⟩ := dd'; ⟨q, hq⟩
  exact d_write I (by rw [e]; exact True.intro) hs he (dk_new (Nat.le_trans (dropK_le kvs k) z) hd (rel.drop k) dd')
/-- d.pop(k, x), not there -/
theorem d_popD {r : Value} {Q : Value → Shared → Prop} (I : Inv X pins σ H s) (e : H a = some (.dK kvs)) (ry : RelV (kV k) u) (l : valV kvs k = none) (h : ∀ s', Inv X pins σ H s' → Q r s') :
    wpAny (model X.prog X.w) A (call (.builtin "dict.pop") [.ref a, u, r]) Q E s := by
  obtain ⟨z, hd, vs, rel, dd⟩ := dk_of I.hok e
  have hn : valueAt vs k = none := RelO.none_of (by rw [← l]; exact rel.val k)
  have hp : (keyPart u).isSome = true := by
    cases k with
    | inl i => obtain ⟨t, q⟩ := (show ∃ t, u = Value.int i t from ry); subst q; rfl
    | inr x => obtain ⟨t, q⟩ := (show ∃ t, u = Value.str x t from ry); subst q; rfl
  exact call_meetsIn PySem.F.slot_dict_pop dd.typeIs PySem.F.entry_dict_pop (PySem.F.args_dict_pop_3 _ _ _) (meets_dict_pop_default (mixKind X.prog X.w) a (kV_is ry) hd hp r) ⟨vs, dd, hn, h _ (I.tok _)⟩
/-- d.clear() -/
theorem d_clear {Q : Value → Shared → Prop} (I : Inv X pins σ H s) (e : H a = some (.dK kvs)) (h : ∀ s', Inv X pins σ (upd H a (.dK [])) s' → Q .none s') : wpAny (model X.prog X.w) A (call (.builtin "dict.clear") [.ref a]) Q E s := by
  obtain ⟨z, hd, vs, rel, dd⟩ := dk_of I.hok e
  refine call_meetsIn PySem.F.slot_dict_clear dd.typeIs PySem.F.entry_dict_clear (PySem.F.args_dict_clear_1 _) (meets_dict_clear (mixKind X.prog X.w) a) ⟨vs, dd, by rw [← rel.length]; exact z, fun h' dd' hs => h _ ?_⟩
  have he : ∃ q, h'.get? a = some q := let ⟨q, _, _, hq, _⟩ := dd'; ⟨q, hq⟩
  exact d_write (t' := s.toks) I (by rw [e]; exact True.intro) hs he (dk_new (Nat.zero_le _) hd .nil dd')
/-- len(d) -/
theorem d_len {Q : Value → Shared → Prop} (I : Inv X pins σ H s) (e : Rd H a (.dK kvs)) (h : ∀ t s', Inv X pins σ H s' → Q (.int kvs.length t) s') : wpAny (model X.prog X.w) A (call (.builtin "len") [.ref a]) Q E s := by
  obtain ⟨z, hd, vs, rel, dd⟩ := dk_rd I.hok e
  refine call_len_dict hd dd (by rw [← rel.length]; rw [sizeLine_eq] at z; omega) ?_
  rw [← rel.length]
  exact h _ _ (I.tok _)
/-- if d -/
theorem d_truth {Q : Bool → Shared → Prop} (I : Inv X pins σ H s) (e : Rd H a (.dK kvs)) (h : ∀ s', Inv X pins σ H s' → Q (!kvs.isEmpty) s') : wpAny (model X.prog X.w) A (truthy (.ref a)) Q E s := by
  obtain ⟨z, hd, vs, rel, dd⟩ := dk_rd I.hok e
  refine wpAny_truthy_dict hd dd (by rw [← rel.length]; rw [sizeLine_eq] at z; omega) ?_
  have q : kvs.isEmpty = vs.isEmpty := by cases rel <;> rfl
  rw [← q]
  exact h _ (I.tok _)
end


/-! ### readings and rules -/
/-- the element of a subscription, not a slice -/
def NoSl (i : Expr) : Prop := ∀ ov iv, subscripted i false ov iv = operate [ov, iv] (getItem ov iv)
theorem subD_of {prog : Program} {w : World} {A : Around} {E : Value → Shared → Prop} {s : Shared} {env : Env} {value slice : Expr} {pos : Pos} {T id : String} {Q : Value → Shared → Prop}
    (hl : typeLookup (.type T) "__getitem__" = pure (some (.builtin id))) (hs : NoSl slice)
    (h : wpAny (model prog w) A (eval value env) (fun o s₁ => wpAny (model prog w) A (eval slice env) (fun i s₂ => s₂.TypeIs o T ∧ wpAny (model prog w) A (getItem o i) Q E s₂) E s₁) E s) :
    wpAny (model prog w) A (eval (.Subscript value slice pos) env) Q E s := by
  refine Subscript_ (wpAny_mono h (fun o s₁ h₁ => wpAny_mono h₁ (fun i s₂ h₂ => ?_) fun _ _ x => x) fun _ _ x => x)
  obtain ⟨hT, h₂⟩ := h₂
  unfold subscriptTail
  refine wpAny_bind ?_
  rw [getitemInPython_of_ne hT.not_modules]
  refine wpAny_bind (wpAny_specialOf hT hl ?_)
  have fin : wpAny (model prog w) A (subscripted slice false o i) (fun r s₃ => wpAny (model prog w) A (letTemporaryGo value o r >>= fun _ => pure r) Q E s₃) E s₂ := by
    rw [hs o i]
    exact wpAny_operating (wpAny_mono h₂ (fun r s₃ h₃ => wpAny_bind (wpAny_letTemporaryGo (wpAny_pure h₃))) fun _ _ x => x)
  first
    | exact wpAny_pure (wpAny_bind fin)
    | exact wpAny_bind (wpAny_pure (wpAny_bind fin))
    | exact wpAny_bind fin

theorem dict_typeIs {X : Cx} {pins : List (Addr × Obj)} {σ : St} {H : Hp} {s : Shared} {a : Addr} {y : V} {o : Option V} (I : Inv X pins σ H s) (g : DGet H a y o) : s.TypeIs (.ref a) "dict" := by
  rcases g with ⟨kvs, k, e, _, _⟩ | ⟨kvs, k, b, e, _, _, _⟩
  · obtain ⟨_, _, vs, _, dd⟩ := dk_rd I.hok e
    exact dd.typeIs
  · obtain ⟨_, _, xs, _, dd⟩ := dt_rd I.hok e
    exact dd.typeIs
theorem dict_noDict {X : Cx} {pins : List (Addr × Obj)} {σ : St} {H : Hp} {s : Shared} {a : Addr} {y : V} {o : Option V} (I : Inv X pins σ H s) (g : DGet H a y o) :
    ∀ b, Value.ref a = .ref b → ∃ ob, s.heap.get? b = some ob ∧ ob.dict = none := fun b q => by
  cases q
  rcases g with ⟨kvs, k, e, _, _⟩ | ⟨kvs, k, b, e, _, _, _⟩
  · obtain ⟨_, _, vs, _, ob, _, _, h1, h2, _⟩ := dk_rd I.hok e
    exact ⟨ob, h1, h2.2.1⟩
  · obtain ⟨_, _, xs, _, ob, _, _, h1, h2, _⟩ := dt_rd I.hok e
    exact ⟨ob, h1, h2.2.1⟩

/-- d[y] -/
def tDGet (td ty : TE) : TE := fun σ H Q => td σ H fun x H1 => ty σ H1 fun y H2 => ∃ a v, x = .ref a ∧ DGet H2 a y (some v) ∧ Q v H2
/-- y in d, y not in d -/
def tDIn (ty td : TE) : TE := fun σ H Q => ty σ H fun y H1 => td σ H1 fun x H2 => ∃ a o, x = .ref a ∧ DGet H2 a y o ∧ Q (.bl o.isSome) H2
def tDNotIn (ty td : TE) : TE := fun σ H Q => ty σ H fun y H1 => td σ H1 fun x H2 => ∃ a o, x = .ref a ∧ DGet H2 a y o ∧ Q (.bl (!o.isSome)) H2
/-- d[y] = v -/
def sDPut (td ty tv : TE) : TS := fun D σ H => tv σ H fun v H1 => td σ H1 fun x H2 => ty σ H2 fun y H3 => ∃ a H4, x = .ref a ∧ DPut H3 a y v H4 ∧ D.nx σ H4
/-- d[y] op= v -/
def sDAug (td ty tv : TE) (rd : V → V → Hp → VK → Prop) : TS := fun D σ H => td σ H fun x H1 => ty σ H1 fun y H2 => ∃ a v, x = .ref a ∧ DGet H2 a y (some v) ∧
  tv σ H2 fun y2 H3 => rd v y2 H3 fun z H4 => ∃ H5, DPut H4 a y z H5 ∧ D.nx σ H5
/-- del d[y] -/
def sDDel (td ty : TE) : TS := fun D σ H => td σ H fun x H1 => ty σ H1 fun y H2 => ∃ a kvs k, x = .ref a ∧ H2 a = some (.dK kvs) ∧ y = kV k ∧ (valV kvs k).isSome = true ∧ D.nx σ (upd H2 a (.dK (dropK kvs k)))

section
variable {X : Cx} {o i e value : Expr} {pos pos' tpos : Pos} {td ty tv : TE}
theorem pe_dget (hu : X.A.units + 1 < cLine) (ho : PE X o td) (hi : PE X i ty) (hs : NoSl i) : PE X (.Subscript o i pos) (tDGet td ty) := by
  intro pins s σ H Q I h
  refine subD_of PySem.F.slot_dict_getitem.lookup hs (thn (ho pins s σ H _ I h) fun u s1 ⟨x, H1, I1, rx, q1⟩ => thn (hi pins s1 σ H1 _ I1 q1) fun iv s2 ⟨y, H2, I2, ry, a, v, ex, g, q2⟩ => ?_)
  subst ex
  obtain rfl : u = Value.ref a := rx
  exact ⟨dict_typeIs I2 g, d_getItem hu I2 g ry fun w' s3 I3 rw' => ⟨v, H2, I3, rw', q2⟩⟩
theorem pc_din (hu : X.A.units + 1 < cLine) (hi : PE X i ty) (ho : PE X o td) : PC X .In i o (tDIn ty td) := by
  intro pins s σ H Q I h
  refine thn (hi pins s σ H _ I h) fun iv s1 ⟨y, H1, I1, ry, q1⟩ => thn (ho pins s1 σ H1 _ I1 q1) fun u s2 ⟨x, H2, I2, rx, a, ov, ex, g, q2⟩ => ?_
  subst ex
  obtain rfl : u = Value.ref a := rx
  exact d_in hu I2 g ry fun s3 I3 => ⟨.bl ov.isSome, H2, I3, rfl, q2⟩
theorem pc_dnotin (hu : X.A.units + 1 < cLine) (hi : PE X i ty) (ho : PE X o td) : PC X .NotIn i o (tDNotIn ty td) := by
  intro pins s σ H Q I h
  refine thn (hi pins s σ H _ I h) fun iv s1 ⟨y, H1, I1, ry, q1⟩ => thn (ho pins s1 σ H1 _ I1 q1) fun u s2 ⟨x, H2, I2, rx, a, ov, ex, g, q2⟩ => ?_
  subst ex
  obtain rfl : u = Value.ref a := rx
  exact d_notIn hu I2 g ry fun s3 I3 => ⟨.bl (!ov.isSome), H2, I3, rfl, q2⟩
theorem ps_dput (hu : X.A.units + 1 < cLine) (ho : PE X o td) (hi : PE X i ty) (hv : PE X value tv) (hs : swapsWith value (some (.Subscript o i pos')) pos.line X.env = pure false) :
    PS X (.Assign [.Subscript o i pos'] value pos) (sDPut td ty tv) := by
  intro pins s σ H D I h
  refine wpAny_Assign_Subscript (thn (hv pins s σ H _ I h) fun r s1 ⟨v, H1, I1, rv, q1⟩ => thn (ho pins s1 σ H1 _ I1 q1) fun u s2 ⟨x, H2, I2, rx, q2⟩ => thn (hi pins s2 σ H2 _ I2 q2) fun iv s3 ⟨y, H3, I3, ry, a, H4, ex, g, q3⟩ => ?_) hs
  subst ex
  obtain rfl : u = Value.ref a := rx
  exact d_setItem hu I3 g ry rv fun s4 I4 => ⟨σ, H4, I4, q3⟩
theorem ps_daug {op : Operator} {rd : V → V → Hp → VK → Prop} (hu : X.A.units + 1 < cLine) (ho : PE X o td) (hi : PE X i ty) (hv : PE X value tv) (hop : InOp X op rd)
    (ha : ∀ ov iv new, augStore i ov iv new = (do holding [new, ov, iv] (setItem ov iv new); release [new, ov, iv] []; pure .next)) : PS X (.AugAssign (.Subscript o i tpos) op value pos) (sDAug td ty tv rd) := by
  intro pins s σ H D I h
  refine wpAny_AugAssign_SubscriptAny (thn (ho pins s σ H _ I h) fun u s1 ⟨x, H1, I1, rx, q1⟩ => thn (hi pins s1 σ H1 _ I1 q1) fun iv s2 ⟨y, H2, I2, ry, a, v, ex, g, q2⟩ => ?_) ha
  subst ex
  obtain rfl : u = Value.ref a := rx
  refine d_getItem hu I2 g ry fun w' s3 I3 rw' => thn (hv pins s3 σ H2 _ I3 q2) fun w2 s4 ⟨y2, H3, I4, ry2, q3⟩ => thn (hop pins s4 σ H3 v y2 w' w2 _ I4 rw' ry2 q3) fun w3 s5 ⟨z, H4, I5, rz, H5, g5, q4⟩ => ?_
  exact d_setItem hu I5 g5 ry rz fun s6 I6 => ⟨σ, H5, I6, q4⟩
theorem ps_ddel (ho : PE X o td) (hi : PE X i ty) : PS X (.Delete [.Subscript o i tpos] pos) (sDDel td ty) := by
  intro pins s σ H D I h
  refine wpAny_Delete (wpAny_deleteEach_cons (wpAny_delete_Subscript (thn (ho pins s σ H _ I h) fun u s1 ⟨x, H1, I1, rx, q1⟩ => thn (hi pins s1 σ H1 _ I1 q1) fun iv s2 ⟨y, H2, I2, ry, a, kvs, k, ex, e, ey, l, q2⟩ => ?_)))
  subst ex ey
  obtain rfl : u = Value.ref a := rx
  exact d_delItem I2 e ry l fun s3 I3 => wpAny_deleteEach_nil ⟨σ, _, I3, q2⟩
end


/-! ### displays -/
theorem dk_empty {P : Program} {w : World} {H : Hp} (h : Heap) (hb : sysModules < h.objs.size) : ObjOk P w H (h.push { cls := .type "dict", data := .dict #[] }) h.objs.size (.dK []) :=
  ⟨Nat.zero_le _, beq_eq_false_iff_ne.mpr (Ne.symm (Nat.ne_of_lt hb)), [], .nil, Heap.DictOf.new h⟩
theorem dt_empty {P : Program} {w : World} {H : Hp} (h : Heap) (hb : sysModules < h.objs.size) : ObjOk P w H (h.push { cls := .type "dict", data := .dict #[] }) h.objs.size (.dT []) :=
  ⟨Nat.zero_le _, beq_eq_false_iff_ne.mpr (Ne.symm (Nat.ne_of_lt hb)), [], .nil, _, #[], 0, Heap.get?_push_size _ rfl, ⟨rfl, rfl, rfl⟩, rfl, rfl, List.nodup_nil⟩
/-- {}, to be a dict of the kind that is wanted -/
def tDNewK : TE := fun _ H Q => ∀ p, H p = none → Q (.ref p) (upd H p (.dK []))
def tDNewT : TE := fun _ H Q => ∀ p, H p = none → Q (.ref p) (upd H p (.dT []))
section
variable {X : Cx} {pos : Pos}
theorem pe_dnewK : PE X (.Dict [] [] pos) tDNewK := fun pins s σ H Q I h =>
  wpAny_Dict_empty ⟨.ref s.heap.objs.size, _, I.laid (a := s.heap.objs.size) (o := .dK []) (t' := s.toks) (fun _ _ q => Heap.get?_push_of_some _ q) (Nat.le_refl _) (dk_empty s.heap I.big), rfl, h _ (I.hok.fresh (Nat.le_refl _))⟩
theorem pe_dnewT : PE X (.Dict [] [] pos) tDNewT := fun pins s σ H Q I h =>
  wpAny_Dict_empty ⟨.ref s.heap.objs.size, _, I.laid (a := s.heap.objs.size) (o := .dT []) (t' := s.toks) (fun _ _ q => Heap.get?_push_of_some _ q) (Nat.le_refl _) (dt_empty s.heap I.big), rfl, h _ (I.hok.fresh (Nat.le_refl _))⟩
end

/-- the pairs of a display, from the left -/
def tPairs : List (TE × TE) → St → Hp → (List (V × V) → Hp → Prop) → Prop
  | [], _, H, Q => Q [] H
  | (tk, tv) :: r, σ, H, Q => tk σ H fun x H1 => tv σ H1 fun y H2 => tPairs r σ H2 fun ps H3 => Q ((x, y) :: ps) H3
abbrev VV : List (V × V) → List (Value × Value) → Prop := Paired fun p q => RelV p.1 q.1 ∧ RelV p.2 q.2
def PPs (X : Cx) (pos : Pos) (keys : List (Option Expr)) (values : List Expr) (trs : List (TE × TE)) : Prop :=
  ∀ (pins : List (Addr × Obj)) (s : Shared) (σ : St) (H : Hp) (Q : List (V × V) → Hp → Prop), Inv X pins σ H s → tPairs trs σ H Q →
    wpAny (model X.prog X.w) X.A (evalPairs (pairTrees keys values X.env pos)) (fun vs s' => ∃ ps H', Inv X pins σ H' s' ∧ VV ps vs ∧ Q ps H') X.xe s
theorem pps_nil {X : Cx} {pos : Pos} : PPs X pos [] [] [] := fun pins s σ H Q I h => pairTrees_nil_walk ⟨[], H, I, .nil, h⟩
theorem pps_cons {X : Cx} {pos : Pos} {k v : Expr} {ks : List (Option Expr)} {vs : List Expr} {tk tv : TE} {trs : List (TE × TE)} (hk : PE X k tk) (hv : PE X v tv) (hr : PPs X pos ks vs trs) :
    PPs X pos (some k :: ks) (v :: vs) ((tk, tv) :: trs) := fun pins s σ H Q I h =>
  pairTrees_cons_walk (thn (hk pins s σ H _ I h) fun u s1 ⟨x, H1, I1, rx, q1⟩ => thn (hv pins s1 σ H1 _ I1 q1) fun w2 s2 ⟨y, H2, I2, ry, q2⟩ =>
    thn (hr pins s2 σ H2 _ I2 q2) fun ws s3 ⟨ps, H3, I3, rel, q3⟩ => ⟨(x, y) :: ps, H3, I3, .cons ⟨rx, ry⟩ rel, q3⟩)

def mergeK (kvs more : List (Key × V)) : List (Key × V) := more.foldl (fun acc kv => putK acc kv.1 kv.2) kvs
theorem KV.merge : ∀ {more : List (Key × V)} {rs : List (Key × Value)} {kvs : List (Key × V)} {vs : List (Key × Value)}, KV more rs → KV kvs vs → KV (mergeK kvs more) (merged vs rs) := by
  intro more rs kvs vs r
  unfold KV at r
  induction r generalizing kvs vs with
  | nil => intro q; exact q
  | @cons p q ps qs h t ih =>
    intro r0
    have e : KV (putK kvs p.1 p.2) (stored vs q.1 q.2) := by
      have := r0.put p.1 h.2
      rw [← h.1]; exact this
    exact ih e
theorem length_mergeK : ∀ (more kvs : List (Key × V)), (mergeK kvs more).length ≤ kvs.length + more.length
  | [], kvs => by show kvs.length ≤ kvs.length + 0; omega
  | p :: r, kvs => by
    have h1 := length_mergeK r (putK kvs p.1 p.2)
    have h2 := length_putK kvs p.1 p.2
    show (mergeK (putK kvs p.1 p.2) r).length ≤ _
    rw [List.length_cons]; omega
theorem carries_of {P : Program} {w : World} : ∀ {kvs : List (Key × V)} {ws : List (Value × Value)}, VV (kvs.map fun kv => (kV kv.1, kv.2)) ws → ∃ rs, Carries (mixKind P w) ws rs ∧ KV kvs rs
  | [], _, r => by rw [List.map_nil] at r; cases r; exact ⟨[], True.intro, .nil⟩
  | p :: kvs, _, r => by
    rw [List.map_cons] at r
    cases r with
    | @cons a b as bs h t =>
      obtain ⟨rs, c, q⟩ := carries_of (P := P) (w := w) t
      obtain ⟨b1, b2⟩ := b
      exact ⟨(p.1, b2) :: rs, ⟨kV_is h.1, rfl, c⟩, .cons ⟨rfl, h.2⟩ q⟩
/-- {k: v, ..} with keys ints and texts; the new dict stands empty while the pairs are made -/
def tDisp (trs : List (TE × TE)) : TE := fun σ H Q => ∀ p, H p = none → tPairs trs σ (upd H p (.dK [])) fun ps H2 => H2 p = some (.dK []) ∧ ∃ kvs : List (Key × V), ps = kvs.map (fun kv => (kV kv.1, kv.2)) ∧ kvs.length ≤ 15 ∧ Q (.ref p) (upd H2 p (.dK (mergeK [] kvs)))
theorem pe_disp {X : Cx} {pos : Pos} {keys : List (Option Expr)} {values : List Expr} {trs : List (TE × TE)} (h : PPs X pos keys values trs) (hall : keys.all (·.isSome) = true) (hl : keys.length = values.length) (h0 : keys ≠ [])
    (h15 : keys.length ≤ 15) : PE X (.Dict keys values pos) (tDisp trs) := by
  intro pins s σ H Q I q
  have hn := I.hok.fresh (Nat.le_refl s.heap.objs.size)
  have I1 := I.laid (a := s.heap.objs.size) (o := .dK []) (h' := s.heap.push { cls := .type "dict", data := .dict #[] }) (t' := s.toks) (fun _ _ q => Heap.get?_push_of_some _ q) (Nat.le_refl _) (dk_empty s.heap I.big)
  refine wpAny_Dict_walk (knd := mixKind X.prog X.w) hall hl h0 h15 (thn (h pins _ σ _ _ I1 (q _ hn)) fun ws s2 ⟨ps, H2, I2, rel, e, kvs, ep, lk, q2⟩ => ?_)
  subst ep
  obtain ⟨rs, c, rk⟩ := carries_of (P := X.prog) (w := X.w) rel
  obtain ⟨z, hd, vs0, r0, dd⟩ := dk_of I2.hok e
  cases r0
  refine ⟨rs, c, dd, fun h' dd' hs => ⟨.ref s.heap.objs.size, _, ?_, rfl, q2⟩⟩
  have hz : (mergeK [] kvs).length ≤ sizeLine := by
    have h1 := length_mergeK kvs []
    rw [List.length_nil] at h1
    rw [sizeLine_eq]; omega
  have he : ∃ q, h'.get? s.heap.objs.size = some q := let ⟨q, _, _, hq, _⟩ := dd'; ⟨q, hq⟩
  exact d_write I2 (by rw [e]; exact True.intro) hs he (dk_new hz hd (rk.merge .nil) dd')


/-! ### methods -/
/-- a method call o.m(e) of a built-in, with one argument: what must be seen of the text -/
structure M1 (X : Cx) (o : Expr) (m : Str) (apos : Pos) (e : Expr) (cpos : Pos) : Prop where
  base : attributeBase o m X.env (eval o X.env) = eval o X.env
  few : ((backTo cpos (starEach [e] X.env)).all (fun x => !x.1) && (backToKw cpos (keywordEach [] X.env)).all (fun x => x.1.isSome)
    && decide (([e] : List Expr).length + ([] : List Keyword).length + (if ([] : List Keyword).isEmpty then 0 else 1) < 30)) = true
  line : (apos.endLine == cpos.line) = true
  trees : backTo cpos (starEach [e] X.env) = [(false, eval e X.env)]
structure M2 (X : Cx) (o : Expr) (m : Str) (apos : Pos) (e f : Expr) (cpos : Pos) : Prop where
  base : attributeBase o m X.env (eval o X.env) = eval o X.env
  few : ((backTo cpos (starEach [e, f] X.env)).all (fun x => !x.1) && (backToKw cpos (keywordEach [] X.env)).all (fun x => x.1.isSome)
    && decide (([e, f] : List Expr).length + ([] : List Keyword).length + (if ([] : List Keyword).isEmpty then 0 else 1) < 30)) = true
  line : (apos.endLine == cpos.line) = true
  trees : backTo cpos (starEach [e, f] X.env) = [(false, eval e X.env), (false, eval f X.env)]

/-- a is a dict, whatever its keys -/
def IsD (H : Hp) (a : Addr) : Prop := (∃ kvs, Rd H a (.dK kvs)) ∨ ∃ kvs, Rd H a (.dT kvs)
theorem isD_at {X : Cx} {pins : List (Addr × Obj)} {σ : St} {H : Hp} {s : Shared} {a : Addr} (I : Inv X pins σ H s) (d : IsD H a) :
    s.TypeIs (.ref a) "dict" ∧ (∀ b, Value.ref a = .ref b → ∃ ob, s.heap.get? b = some ob ∧ ob.dict = none) ∧ (a == sysModules) = false := by
  rcases d with ⟨kvs, e⟩ | ⟨kvs, e⟩
  · obtain ⟨_, hd, vs, _, dd⟩ := dk_rd I.hok e
    refine ⟨dd.typeIs, fun b q => ?_, hd⟩
    cases q
    obtain ⟨ob, _, _, h1, h2, _⟩ := dd
    exact ⟨ob, h1, h2.2.1⟩
  · obtain ⟨_, hd, xs, _, dd⟩ := dt_rd I.hok e
    refine ⟨dd.typeIs, fun b q => ?_, hd⟩
    cases q
    obtain ⟨ob, _, _, h1, h2, _⟩ := dd
    exact ⟨ob, h1, h2.2.1⟩

section
variable {X : Cx} {pins : List (Addr × Obj)} {σ : St} {H : Hp} {s : Shared} {a : Addr} {y d : V} {u r : Value} {o : Option V} {A : Around} {E : Value → Shared → Prop}
/-- d.get(y) -/
theorem d_get1 {Q : Value → Shared → Prop} (hu : A.units + 1 < cLine) (I : Inv X pins σ H s) (g : DGet H a y o) (ry : RelV y u) (h : ∀ w' s', Inv X pins σ H s' → RelV (o.getD .non) w' → Q w' s') :
    wpAny (model X.prog X.w) A (call (.builtin "dict.get") [.ref a, u]) Q E s := by
  rcases g with ⟨kvs, k, e, ey, l⟩ | ⟨kvs, k, b, e, ey, eb, l⟩
  · subst ey
    obtain ⟨z, hd, vs, rel, dd⟩ := dk_rd I.hok e
    refine call_meetsIn PySem.F.slot_dict_get dd.typeIs PySem.F.entry_dict_get (PySem.F.args_dict_get_2 _ _) (meets_dict_get (mixKind X.prog X.w) a (kV_is ry) hd) ⟨_, dd.mapOf, h _ _ (I.tok _) ?_⟩
    rw [l]
    exact (rel.val k).getD rfl
  · subst ey
    cases (show u = Value.ref b from ry)
    obtain ⟨z, hd, xs, rel, dd⟩ := dt_rd I.hok e
    refine call_meetsIn PySem.F.slot_dict_get dd.typeIs PySem.F.entry_dict_get (PySem.F.args_dict_get_2 _ _) (meetsH_dict_get (tupleKind (mixKind X.prog X.w)) a b hd) ⟨tupleKind_room_in1 hu, k, xs, key_of I.hok eb, dd, h _ _ (I.tok _) ?_⟩
    rw [l]
    exact (rel.val k).getD rfl
/-- d.get(y, x) -/
theorem d_get2 {Q : Value → Shared → Prop} (hu : A.units + 1 < cLine) (I : Inv X pins σ H s) (g : DGet H a y o) (ry : RelV y u) (rd : RelV d r) (h : ∀ w' s', Inv X pins σ H s' → RelV (o.getD d) w' → Q w' s') :
    wpAny (model X.prog X.w) A (call (.builtin "dict.get") [.ref a, u, r]) Q E s := by
  rcases g with ⟨kvs, k, e, ey, l⟩ | ⟨kvs, k, b, e, ey, eb, l⟩
  · subst ey
    obtain ⟨z, hd, vs, rel, dd⟩ := dk_rd I.hok e
    refine call_meetsIn PySem.F.slot_dict_get dd.typeIs PySem.F.entry_dict_get (PySem.F.args_dict_get_3 _ _ _) (meets_dict_get_default (mixKind X.prog X.w) a (kV_is ry) hd r) ⟨_, dd.mapOf, h _ _ (I.tok _) ?_⟩
    rw [l]
    exact (rel.val k).getD rd
  · subst ey
    cases (show u = Value.ref b from ry)
    obtain ⟨z, hd, xs, rel, dd⟩ := dt_rd I.hok e
    refine call_meetsIn PySem.F.slot_dict_get dd.typeIs PySem.F.entry_dict_get (PySem.F.args_dict_get_3 _ _ _) (meetsH_dict_get_default (tupleKind (mixKind X.prog X.w)) a b hd r) ⟨tupleKind_room_in1 hu, k, xs, key_of I.hok eb, dd, h _ _ (I.tok _) ?_⟩
    rw [l]
    exact (rel.val k).getD rd
end

def tDGet1 (td ty : TE) : TE := fun σ H Q => td σ H fun x H1 => ∃ a, x = .ref a ∧ IsD H1 a ∧ ty σ H1 fun y H2 => ∃ o, DGet H2 a y o ∧ Q (o.getD .non) H2
def tDGet2 (td ty tx : TE) : TE := fun σ H Q => td σ H fun x H1 => ∃ a, x = .ref a ∧ IsD H1 a ∧ ty σ H1 fun y H2 => tx σ H2 fun z H3 => ∃ o, DGet H3 a y o ∧ Q (o.getD z) H3
/-- d.pop(k): there; d.pop(k, x): there or not -/
def tDPop1 (td ty : TE) : TE := fun σ H Q => td σ H fun x H1 => ∃ a, x = .ref a ∧ IsD H1 a ∧ ty σ H1 fun y H2 => ∃ kvs k v, H2 a = some (.dK kvs) ∧ y = kV k ∧ valV kvs k = some v ∧ Q v (upd H2 a (.dK (dropK kvs k)))
def tDPop2 (td ty tx : TE) : TE := fun σ H Q => td σ H fun x H1 => ∃ a, x = .ref a ∧ IsD H1 a ∧ ty σ H1 fun y H2 => tx σ H2 fun z H3 => ∃ kvs k, H3 a = some (.dK kvs) ∧ y = kV k ∧
  (∀ v, valV kvs k = some v → Q v (upd H3 a (.dK (dropK kvs k)))) ∧ (valV kvs k = none → Q z H3)
section
variable {X : Cx} {o e f : Expr} {apos cpos : Pos} {td ty tx : TE}
theorem pe_dget1 (hu : X.A.units + 1 < cLine) (ho : PE X o td) (he : PE X e ty) (m : M1 X o "get" apos e cpos) : PE X (.Call (.Attribute o "get" apos) [e] [] cpos) (tDGet1 td ty) := by
  intro pins s σ H Q I h
  refine wpAny_Call_method m.base m.few m.line PySem.F.plainAttrs_dict PySem.F.slot_dict_get PySem.F.type_dict_get (thn (ho pins s σ H _ I h) fun u s1 ⟨x, H1, I1, rx, a, ex, d, q1⟩ => ?_)
  subst ex
  obtain rfl : u = Value.ref a := rx
  obtain ⟨t1, t2, _⟩ := isD_at I1 d
  refine ⟨t1, t2, ?_⟩
  rw [m.trees]
  refine Calls.callWith_builtin rfl (Calls.evalArgs_plain (Calls.spliced_cons (thn (he pins s1 σ H1 _ I1 q1) fun iv s2 ⟨y, H2, I2, ry, ov, g, q2⟩ => Calls.spliced_nil ?_)))
  exact d_get1 hu I2 g ry fun w' s3 I3 rw' => ⟨_, H2, I3, rw', q2⟩
theorem pe_dget2 (hu : X.A.units + 1 < cLine) (ho : PE X o td) (he : PE X e ty) (hf : PE X f tx) (m : M2 X o "get" apos e f cpos) : PE X (.Call (.Attribute o "get" apos) [e, f] [] cpos) (tDGet2 td ty tx) := by
  intro pins s σ H Q I h
  refine wpAny_Call_method m.base m.few m.line PySem.F.plainAttrs_dict PySem.F.slot_dict_get PySem.F.type_dict_get (thn (ho pins s σ H _ I h) fun u s1 ⟨x, H1, I1, rx, a, ex, d, q1⟩ => ?_)
  subst ex
  obtain rfl : u = Value.ref a := rx
  obtain ⟨t1, t2, _⟩ := isD_at I1 d
  refine ⟨t1, t2, ?_⟩
  rw [m.trees]
  refine Calls.callWith_builtin rfl (Calls.evalArgs_plain (Calls.spliced_cons (thn (he pins s1 σ H1 _ I1 q1) fun iv s2 ⟨y, H2, I2, ry, q2⟩ =>
    Calls.spliced_cons (thn (hf pins s2 σ H2 _ I2 q2) fun fv s3 ⟨z, H3, I3, rz, ov, g, q3⟩ => Calls.spliced_nil ?_))))
  exact d_get2 hu I3 g ry rz fun w' s4 I4 rw' => ⟨_, H3, I4, rw', q3⟩
theorem pe_dpop1 (ho : PE X o td) (he : PE X e ty) (m : M1 X o "pop" apos e cpos) : PE X (.Call (.Attribute o "pop" apos) [e] [] cpos) (tDPop1 td ty) := by
  intro pins s σ H Q I h
  refine wpAny_Call_method m.base m.few m.line PySem.F.plainAttrs_dict PySem.F.slot_dict_pop PySem.F.type_dict_pop (thn (ho pins s σ H _ I h) fun u s1 ⟨x, H1, I1, rx, a, ex, d, q1⟩ => ?_)
  subst ex
  obtain rfl : u = Value.ref a := rx
  obtain ⟨t1, t2, _⟩ := isD_at I1 d
  refine ⟨t1, t2, ?_⟩
  rw [m.trees]
  refine Calls.callWith_builtin rfl (Calls.evalArgs_plain (Calls.spliced_cons (thn (he pins s1 σ H1 _ I1 q1) fun iv s2 ⟨y, H2, I2, ry, kvs, k, v, ea, ey, l, q2⟩ => Calls.spliced_nil ?_)))
  subst ey
  exact d_pop I2 ea ry l (.inl rfl) fun w' s3 I3 rw' => ⟨v, _, I3, rw', q2⟩
theorem pe_dpop2 (ho : PE X o td) (he : PE X e ty) (hf : PE X f tx) (m : M2 X o "pop" apos e f cpos) : PE X (.Call (.Attribute o "pop" apos) [e, f] [] cpos) (tDPop2 td ty tx) := by
  intro pins s σ H Q I h
  refine wpAny_Call_method m.base m.few m.line PySem.F.plainAttrs_dict PySem.F.slot_dict_pop PySem.F.type_dict_pop (thn (ho pins s σ H _ I h) fun u s1 ⟨x, H1, I1, rx, a, ex, d, q1⟩ => ?_)
  subst ex
  obtain rfl : u = Value.ref a := rx
  obtain ⟨t1, t2, _⟩ := isD_at I1 d
  refine ⟨t1, t2, ?_⟩
  rw [m.trees]
  refine Calls.callWith_builtin rfl (Calls.evalArgs_plain (Calls.spliced_cons (thn (he pins s1 σ H1 _ I1 q1) fun iv s2 ⟨y, H2, I2, ry, q2⟩ =>
    Calls.spliced_cons (thn (hf pins s2 σ H2 _ I2 q2) fun fv s3 ⟨z, H3, I3, rz, kvs, k, ea, ey, q3, q4⟩ => Calls.spliced_nil ?_))))
  subst ey
  cases l : valV kvs k with
  | some v => exact d_pop I3 ea ry l (.inr ⟨fv, rfl⟩) fun w' s4 I4 rw' => ⟨v, _, I4, rw', q3 v l⟩
  | none => exact d_popD I3 ea ry l fun s4 I4 => ⟨z, H3, I4, rz, q4 l⟩
end

/-! ### dict(d): a copy -/
section
variable {X : Cx} {pins : List (Addr × Obj)} {σ : St} {H : Hp} {s : Shared} {a : Addr} {kvs : List (Key × V)} {A : Around} {E : Value → Shared → Prop}
theorem d_copyOf {Q : Value → Shared → Prop} (I : Inv X pins σ H s) (e : Rd H a (.dK kvs)) (h : ∀ p s', H p = none → Inv X pins σ (upd H p (.dK kvs)) s' → Q (.ref p) s') : wpAny (model X.prog X.w) A (call (.type "dict") [.ref a]) Q E s := by
  obtain ⟨z, hd, vs, rel, dd⟩ := dk_rd I.hok e
  refine kt_call_dict hd dd (by rw [← rel.length]; exact z) fun h' dd' hs => ?_
  refine h _ _ (I.hok.fresh (Nat.le_refl _)) (I.laid (a := s.heap.objs.size) (o := .dK kvs) (t' := s.toks) (fun b q hq => ?_) (Nat.le_refl _) (dk_new z (beq_eq_false_iff_ne.mpr (Ne.symm (Nat.ne_of_lt I.big))) rel dd'))
  exact (hs.2 b (Nat.ne_of_lt (Heap.lt_size hq))).trans (Heap.get?_push_of_some _ hq)
end


section
variable {X : Cx} {pins : List (Addr × Obj)} {σ : St} {H : Hp} {s : Shared} {a : Addr} {y : V} {u : Value} {A : Around} {E : Value → Shared → Prop}
/-- d[y], not there: a KeyError -/
theorem d_missing {Q : Value → Shared → Prop} (hu : A.units + 1 < cLine) (hh : A.handled = none) (I : Inv X pins σ H s) (g : DGet H a y none) (ry : RelV y u)
    (h : ∀ h' e t', Heap.NewExc s.heap h' e "KeyError" → E (.ref e) { s with heap := h', toks := t' }) : wpAny (model X.prog X.w) A (getItem (.ref a) u) Q E s := by
  rcases g with ⟨kvs, k, e, ey, l⟩ | ⟨kvs, k, b, e, ey, eb, l⟩
  · subst ey
    obtain ⟨z, hd, vs, rel, dd⟩ := dk_rd I.hok e
    have hn : valueAt vs k = none := RelO.none_of (by rw [l]; exact rel.val k)
    exact wpAny_getItem_missing_of (kV_is ry) hd hh dd.mapOf hn fun h' ex ne => h h' ex _ ne
  · subst ey
    cases (show u = Value.ref b from ry)
    obtain ⟨z, hd, xs, rel, dd⟩ := dt_rd I.hok e
    have hn : (atKey xs k).map (·.2) = none := RelO.none_of (by rw [l]; exact rel.val k)
    exact wpAny_getItem_missing_heap (tupleKind_room_in1 hu) (key_of I.hok eb) hd hh dd (Option.map_eq_none_iff.mp hn) fun h' ex ne => h h' ex _ ne
end
end L2
namespace L2
open PySem PySem.Spec PyProof.Rows
/-! ### a dict's pairs: keys that differ -/
section
variable {κ : Type} [DecidableEq κ]
theorem valV_not {kvs : List (κ × V)} {k : κ} (h : valV kvs k = none) : ¬ k ∈ kvs.map (·.1) := by
  intro m
  obtain ⟨p, hp, e⟩ := List.mem_map.mp m
  have q : (kvs.any fun kv => decide (kv.1 = k)) = true := List.any_eq_true.mpr ⟨p, hp, decide_eq_true e⟩
  rw [valV_any, h] at q
  exact absurd q (by simp)
theorem valV_in {kvs : List (κ × V)} {k : κ} {v : V} (h : valV kvs k = some v) : k ∈ kvs.map (·.1) := by
  have q : (kvs.any fun kv => decide (kv.1 = k)) = true := by
    rw [valV_any, h]
    all_goals rfl
  obtain ⟨p, hp, e⟩ := List.any_eq_true.mp q
  exact List.mem_map.mpr ⟨p, hp, of_decide_eq_true e⟩
theorem nd_snoc : ∀ {l : List κ} {k : κ}, l.Nodup → ¬ k ∈ l → (l ++ [k]).Nodup
  | [], k, _, _ => by simp
  | a :: r, k, h, hk => by
    obtain ⟨h1, h2⟩ := List.nodup_cons.mp h
    show (a :: (r ++ [k])).Nodup
    refine List.nodup_cons.mpr ⟨fun m => ?_, nd_snoc h2 fun m => hk (List.mem_cons.mpr (Or.inr m))⟩
    rcases List.mem_append.mp m with q | q
    · exact h1 q
    · exact hk (List.mem_cons.mpr (Or.inl (List.mem_singleton.mp q).symm))
theorem nd_putK {kvs : List (κ × V)} {k : κ} (v : V) (hn : (kvs.map (·.1)).Nodup) (h : valV kvs k = none) : ((putK kvs k v).map (·.1)).Nodup := by
  rw [putK_new v h, List.map_append]
  exact nd_snoc hn (valV_not h)
theorem dropK_pos {p : κ × V} {r : List (κ × V)} {k : κ} (e : p.1 = k) : dropK (p :: r) k = dropK r k := by
  unfold dropK
  rw [List.filter_cons, if_neg (by simp [e])]
theorem dropK_neg {p : κ × V} {r : List (κ × V)} {k : κ} (e : ¬ p.1 = k) : dropK (p :: r) k = p :: dropK r k := by
  unfold dropK
  rw [List.filter_cons, if_pos (by simp [e])]
theorem dropK_no : ∀ {kvs : List (κ × V)} {k : κ}, ¬ k ∈ kvs.map (·.1) → dropK kvs k = kvs
  | [], _, _ => rfl
  | p :: r, k, h => by
    have h' : ¬ k ∈ r.map (·.1) := fun m => by
      obtain ⟨q, hq, e⟩ := List.mem_map.mp m
      exact h (List.mem_map.mpr ⟨q, List.mem_cons.mpr (Or.inr hq), e⟩)
    rw [dropK_neg fun e => h (List.mem_map.mpr ⟨p, List.mem_cons.mpr (Or.inl rfl), e⟩), dropK_no h']
theorem dropK_mem {kvs : List (κ × V)} {k : κ} {p : κ × V} (h : p ∈ dropK kvs k) : p ∈ kvs := (List.mem_filter.mp h).1
theorem nd_dropK : ∀ {kvs : List (κ × V)} {k : κ}, (kvs.map (·.1)).Nodup → ((dropK kvs k).map (·.1)).Nodup
  | [], _, _ => List.nodup_nil
  | p :: r, k, h => by
    have h : (p.1 :: r.map (·.1)).Nodup := h
    obtain ⟨h1, h2⟩ := List.nodup_cons.mp h
    by_cases e : p.1 = k
    · rw [dropK_pos e]
      exact nd_dropK h2
    · rw [dropK_neg e]
      show (p.1 :: (dropK r k).map (·.1)).Nodup
      refine List.nodup_cons.mpr ⟨fun m => h1 ?_, nd_dropK h2⟩
      obtain ⟨q, hq, eq⟩ := List.mem_map.mp m
      exact List.mem_map.mpr ⟨q, dropK_mem hq, eq⟩
theorem dropK_len : ∀ {kvs : List (κ × V)} {k : κ}, (kvs.map (·.1)).Nodup → k ∈ kvs.map (·.1) → (dropK kvs k).length + 1 = kvs.length
  | [], _, _, m => by simp at m
  | p :: r, k, h, m => by
    have h : (p.1 :: r.map (·.1)).Nodup := h
    have m : k = p.1 ∨ k ∈ r.map (·.1) := List.mem_cons.mp m
    obtain ⟨h1, h2⟩ := List.nodup_cons.mp h
    by_cases e : p.1 = k
    · subst e
      rw [dropK_pos rfl, dropK_no h1]
      all_goals rfl
    · have m' : k ∈ r.map (·.1) := m.resolve_left fun z => e z.symm
      have q := dropK_len h2 m'
      rw [dropK_neg e, List.length_cons, List.length_cons]
      omega
end
end L2

namespace L2
open PySem PySem.Spec PyProof.Rows
/-! ## repr of what lies flat -/
inductive Sc : V → PyData → Prop
  | non : Sc .non .none
  | bl (b : Bool) : Sc (.bl b) (.bool b)
  | int (i : Int) : Sc (.int i) (.int i)
  | str (x : Str) : Sc (.str x) (.str x)
def Sck (p : Key × V) (q : PyData × PyData) : Prop := Sc (kV p.1) q.1 ∧ Sc p.2 q.2
inductive Sh (H : Hp) : V → PyData → Prop
  | sc {x : V} {d : PyData} (h : Sc x d) : Sh H x d
  | lst {a : Addr} {xs : List V} {ds : List PyData} (h : H a = some (.lst xs)) (r : Paired Sc xs ds) : Sh H (.ref a) (.list ds)
  | tup {a : Addr} {xs : List V} {ds : List PyData} (h : H a = some (.tup xs)) (r : Paired Sc xs ds) : Sh H (.ref a) (.tuple ds)
  | dct {a : Addr} {kvs : List (Key × V)} {ds : List (PyData × PyData)} (h : H a = some (.dK kvs)) (r : Paired Sck kvs ds) : Sh H (.ref a) (.dict ds)
theorem Sh.same {H H' : Hp} {x : V} {d : PyData} (h : Sh H x d) (s : Same H H') : Sh H' x d := by
  cases h with
  | sc h => exact .sc h
  | lst h r => exact .lst (s _ _ h) r
  | tup h r => exact .tup (s _ _ h) r
  | dct h r => exact .dct (s _ _ h) r
theorem Sc.reads {x : V} {d : PyData} {u : Value} {h : Heap} (c : Sc x d) (r : RelV x u) : Reads h u d [] := by
  cases c with
  | non => obtain rfl : u = Value.none := r; exact .none
  | bl b => obtain rfl : u = Value.bool b := r; exact .bool b
  | int i => obtain ⟨t, rfl⟩ := r; exact .int i t
  | str x => obtain ⟨t, rfl⟩ := r; exact .str x t
theorem readsAll_sc {h : Heap} : ∀ {xs : List V} {ds : List PyData} {us : List Value}, Paired Sc xs ds → Vals xs us → ReadsAll h us ds []
  | [], _, _, .nil, .nil => .nil
  | _ :: _, _ :: _, _ :: _, .cons c r, .cons v w => by
    have := ReadsAll.cons (c.reads (h := h) v) (readsAll_sc r w)
    simpa using this
theorem key_rel {P : Program} {w : World} {k : Key} {u : Value} (h : (mixKind P w).is k u = true) : RelV (kV k) u := by
  rcases keyIs_shape h with ⟨i, t, rfl, rfl⟩ | ⟨x, t, rfl, rfl⟩ <;> exact ⟨t, rfl⟩
section
variable {X : Cx} {pins : List (Addr × Obj)} {σ : St} {H : Hp} {s : Shared}
theorem pairs_reads {P : Program} {w : World} {h : Heap} : ∀ {es : List DictEntry} {vs : List (Key × Value)} {kvs : List (Key × V)} {ds : List (PyData × PyData)}, Pairs (mixKind P w) es vs → KV kvs vs → Paired Sck kvs ds →
    ReadsAll h (es.map (·.key)) (ds.map (·.1)) [] ∧ ReadsAll h (es.map (·.val)) (ds.map (·.2)) []
  | [], _, _, _, .nil, .nil, .nil => ⟨.nil, .nil⟩
  | _ :: _, _ :: _, _ :: _, _ :: _, .cons hk hv pr, .cons r rr, .cons c cr => by
    obtain ⟨i1, i2⟩ := pairs_reads (h := h) pr rr cr
    obtain ⟨rk, rv⟩ := r
    rw [← rk] at hk
    constructor
    · have := ReadsAll.cons (c.1.reads (h := h) (key_rel hk)) i1
      simpa using this
    · have := ReadsAll.cons (c.2.reads (h := h) (hv ▸ rv)) i2
      simpa using this
theorem Sh.reads (I : Inv X pins σ H s) {x : V} {d : PyData} {u : Value} (h : Sh H x d) (r : RelV x u) : ∃ as, Reads s.heap u d as ∧ (d.hasDict = true → sysModules ∉ as) := by
  cases h with
  | sc c => exact ⟨[], c.reads r, fun _ z => nomatch z⟩
  | @lst a xs ds h c =>
    obtain rfl : u = Value.ref a := r
    obtain ⟨_, its, n, rv, e⟩ := (show ObjOk X.prog X.w H s.heap a (.lst xs) from I.hok a _ h)
    refine ⟨_, .list e rfl rfl (readsAll_sc c (by simpa using rv)), fun z => ?_⟩
    exfalso
    have : ∀ {xs : List V} {ds : List PyData}, Paired Sc xs ds → PyData.hasDictAll ds = false := by
      intro xs ds p
      induction p with
      | nil => simp only [PyData.hasDictAll]
      | cons c _ ih => cases c <;> simp only [PyData.hasDictAll, PyData.hasDict, ih, Bool.or_self]
    rw [PyData.hasDict, this c] at z
    cases z
  | @tup a xs ds h c =>
    obtain rfl : u = Value.ref a := r
    obtain ⟨_, its, rv, o, e1, e2, n, e3⟩ := (show ObjOk X.prog X.w H s.heap a (.tup xs) from I.hok a _ h)
    refine ⟨[], .tuple e1 e2 e3 (readsAll_sc c (by simpa using rv)), fun _ z => nomatch z⟩
  | @dct a kvs ds h c =>
    obtain rfl : u = Value.ref a := r
    obtain ⟨_, ns, vs, rv, o, es, ep, e1, e2, e3, _, pr, _⟩ := (show ObjOk X.prog X.w H s.heap a (.dK kvs) from I.hok a _ h)
    obtain ⟨k1, k2⟩ := pairs_reads (h := s.heap) pr rv c
    refine ⟨_, .dict e1 e2.1 e3 k1 k2, fun _ z => ?_⟩
    have z' : sysModules ∈ [a] := by simpa using z
    rw [List.mem_singleton.mp z'] at ns
    simp at ns
end
def ShOk (d : PyData) : Prop := d.showable = true ∧ d.shown.length ≤ sizeLine ∧ d.depth ≤ 20
def rRepr : List V → Hp → VK → Prop := fun xs H Q => ∃ x d, xs = [x] ∧ Sh H x d ∧ ShOk d ∧ Q (.str d.shown) H
theorem call_reprA {X : Cx} {k : Nat} (hr : Room k X.A) : CallR X (.builtin "repr") rRepr := by
  intro pins s σ H xs us Q I r h
  obtain ⟨x, d, rfl, h, ⟨h1, h2, h3⟩, q⟩ := h
  obtain ⟨u, rfl, ru⟩ := vals1 r
  obtain ⟨as, rd, hs⟩ := h.reads I ru
  have hu := hr.units
  have big : ∀ {a : Addr}, u = .ref a → wpAny (model X.prog X.w) X.A (call (.builtin "repr") [u]) (EP X pins σ Q) X.xe s := fun {a} e => by
    subst e
    exact PySem.repr_of_reads' rd h1 hs hr.gd (by omega) (fun b o e => e) (fun h' u tk hk => ⟨.str d.shown, H, I.kept hk, ⟨u, rfl⟩, q⟩) h2
  cases h with
  | sc c =>
    cases c with
    | non => obtain rfl : u = Value.none := ru; exact PySem.P.repr_of_none ⟨.str _, H, I.tok _, ⟨_, rfl⟩, q⟩
    | bl b => obtain rfl : u = Value.bool b := ru; exact PySem.P.repr_of_bool ⟨.str _, H, I.tok _, ⟨_, rfl⟩, q⟩
    | int i =>
      obtain ⟨t, rfl⟩ := ru
      exact PySem.P.repr_of_int (by simpa [PyData.showable] using h1) ⟨.str _, H, I.tok _, ⟨_, rfl⟩, q⟩
    | str x =>
      obtain ⟨t, rfl⟩ := ru
      exact PySem.P.repr_of_str ⟨.str _, H, I.tok _, ⟨_, rfl⟩, q⟩ h2
  | lst h r => exact big ru
  | tup h r => exact big ru
  | dct h r => exact big ru
theorem s_repr {H : Hp} {Q : VK} {x : V} {d : PyData} (h : Sh H x d) (ok : ShOk d) (q : Q (.str d.shown) H) : rRepr [x] H Q := ⟨x, d, rfl, h, ok, q⟩
/-! ## how long it is -/
theorem text_le : ∀ (ts : List Str) (k : Nat) (acc : Str), (textFrom k acc ts).length ≤ acc.length + piled ts
  | [], _, acc => by rw [piled_nil]; exact Nat.le_refl _
  | t :: ts, k, acc => by
    rw [textFrom, piled_cons]
    refine Nat.le_trans (text_le ts (k + 1) _) ?_
    rw [strLen_append, strLen_append]
    have : (Str.ofString (if k > 0 then ", " else "")).length ≤ 2 := by split <;> decide
    omega
def txs (l : List (List Nat)) : List PyData := l.map fun a => .str ⟨a.toArray⟩
theorem sc_txs (l : List (List Nat)) : Paired Sc (l.map tx) (txs l) := by
  induction l with
  | nil => exact .nil
  | cons a r ih => exact .cons (.str _) ih
theorem shown_txs (l : List (List Nat)) : PyData.shownAll (txs l) = l.map fun a => reprText ⟨a.toArray⟩ := by
  induction l with
  | nil => rfl
  | cons a r ih => rw [txs, List.map_cons, PyData.shownAll, PyData.shown, List.map_cons]; congr 1
def Low (a : List Nat) : Prop := ∀ c ∈ a, c < 16 ^ 8
theorem repr_le {a : List Nat} (h : Low a) : (reprText ⟨a.toArray⟩).length ≤ 10 * a.length + 2 := by
  have := StrLaws.reprText_len ⟨a.toArray⟩ (fun c hc => h c (by simpa using hc))
  simpa [Str.length] using this
theorem piled_le {n m : Nat} : ∀ {l : List (List Nat)}, (∀ a ∈ l, Low a ∧ a.length ≤ m) → l.length ≤ n → piled (l.map fun a => reprText ⟨a.toArray⟩) ≤ n * (10 * m + 4)
  | [], _, _ => by rw [List.map_nil, piled_nil]; omega
  | a :: r, h, hl => by
    rw [List.map_cons, piled_cons]
    obtain ⟨h1, h2⟩ := h a List.mem_cons_self
    have h3 := repr_le h1
    rw [List.length_cons] at hl
    have ih := piled_le (n := n - 1) (m := m) (l := r) (fun b hb => h b (List.mem_cons_of_mem _ hb)) (by omega)
    obtain ⟨n', rfl⟩ : ∃ n', n = n' + 1 := ⟨n - 1, by omega⟩
    rw [Nat.add_sub_cancel] at ih
    rw [Nat.add_mul, Nat.one_mul]
    omega
theorem showAll_txs (l : List (List Nat)) : PyData.showableAll (txs l) = true := by
  induction l with
  | nil => rfl
  | cons a r ih => rw [txs, List.map_cons, PyData.showableAll, PyData.showable, Bool.true_and]; exact ih
theorem depthAll_txs (l : List (List Nat)) : PyData.depthAll (txs l) ≤ 1 := by
  induction l with
  | nil => simp [txs, PyData.depthAll]
  | cons a r ih => rw [txs, List.map_cons, PyData.depthAll, PyData.depth]; exact Nat.max_le.mpr ⟨by omega, ih⟩
theorem ok_lst {l : List (List Nat)} (h : ∀ a ∈ l, Low a ∧ a.length ≤ 1100) (hl : l.length ≤ 1100) : ShOk (.list (txs l)) := by
  refine ⟨by rw [PyData.showable]; exact showAll_txs l, ?_, by rw [PyData.depth]; have := depthAll_txs l; omega⟩
  rw [PyData.shown, shown_txs]
  unfold listText
  rw [strLen_append]
  have h1 := text_le (l.map fun a => reprText ⟨a.toArray⟩) 0 "["
  have h2 := piled_le h hl
  have e1 : (Str.ofString "[").length = 1 := by decide
  have e2 : (Str.ofString "]").length = 1 := by decide
  rw [sizeLine_eq]
  omega
end L2

namespace L2
open PySem PySem.Spec PyProof.Rows
theorem paired_of {α β : Type} {F : α → β → Prop} : ∀ {l : List α} {m : List β}, l.length = m.length → (∀ (i : Nat) x u, l[i]? = some x → m[i]? = some u → F x u) → Paired F l m
  | [], [], _, _ => .nil
  | [], _ :: _, h, _ => by simp at h
  | _ :: _, [], h, _ => by simp at h
  | a :: l, b :: m, h, hf => .cons (hf 0 a b rfl rfl) (paired_of (by simpa using h) fun i x u h1 h2 => hf (i + 1) x u (by simpa using h1) (by simpa using h2))
/-! ## list of a text -/
section
variable {X : Cx}
def rListS : List V → Hp → VK → Prop := fun xs H Q => ∃ a, xs = [tx a] ∧ a.length ≤ 1000 ∧ ∀ l, H l = none → Q (.ref l) (upd H l (.lst ((a.map fun c => [c]).map tx)))
theorem call_listS (K : PySem.W.Frag) (hc : X.calm = true) : CallR X (.type "list") rListS := by
  intro pins s σ H xs us Q I r h
  obtain ⟨a, rfl, ha, q⟩ := h
  obtain ⟨u, rfl, rx⟩ := vals1 r
  obtain ⟨t, rfl⟩ := rx
  refine PySem.call_list_str (I.ok.hd hc) _ t (fun h' tk acc' c' hk e it => ?_) (by rw [sizeLine_eq]; show a.toArray.size ≤ _; rw [List.size_toArray]; omega)
  obtain ⟨hsz, hit⟩ := it
  have hsz' : acc'.size = a.length := by rw [hsz]; simp
  have hv : Vals ((a.map fun c => [c]).map tx) acc'.toList := by
    refine paired_of ?_ fun i x u hx hu => ?_
    · simp [hsz']
    · have hu' : acc'[i]? = some u := by simpa using hu
      obtain ⟨c, t', e1, rfl⟩ := hit i u hu'
      have e2 : a[i]? = some c := by simpa using e1
      rw [List.map_map, List.getElem?_map, e2] at hx
      cases hx
      exact ⟨t', rfl⟩
  refine ⟨.ref s.heap.objs.size, _, I.laid (t' := tk) (o := .lst ((a.map fun c => [c]).map tx)) hk (Nat.le_refl _) ⟨?_, acc'.toList, c', hv, by simpa using e⟩, rfl, q _ (I.hok.fresh (Nat.le_refl _))⟩
  rw [List.length_map, List.length_map, sizeLine_eq]; omega
def rListB (K : PySem.W.Frag) : List V → Hp → VK → Prop := fun xs H Q => rListS xs H Q ∨ rList K xs H Q
end
theorem sw_lst {es p x l env} : swapsWith (.List es p) x l env = pure false := rfl
theorem st_con {c z pos es env} : starEach (.Constant c z pos :: es) env = (false, eval (.Constant c z pos) env) :: starEach es env := rfl
theorem st_lst {c pos es env} : starEach (.List c pos :: es) env = (false, eval (.List c pos) env) :: starEach es env := rfl
theorem st_tup {c z pos es env} : starEach (.Tuple c z pos :: es) env = (false, eval (.Tuple c z pos) env) :: starEach es env := rfl
theorem st_dct {c z pos es env} : starEach (.Dict c z pos :: es) env = (false, eval (.Dict c z pos) env) :: starEach es env := rfl
theorem st_bin {c o d pos es env} : starEach (.BinOp c o d pos :: es) env = (false, eval (.BinOp c o d pos) env) :: starEach es env := rfl
inductive Pl (X : Cx) : List Expr → List TE → Prop
  | nil : Pl X [] []
  | con {c z p t es ts} (h : PE X (.Constant c z p) t) (r : Pl X es ts) : Pl X (.Constant c z p :: es) (t :: ts)
  | lst {c p t es ts} (h : PE X (.List c p) t) (r : Pl X es ts) : Pl X (.List c p :: es) (t :: ts)
  | tup {c z p t es ts} (h : PE X (.Tuple c z p) t) (r : Pl X es ts) : Pl X (.Tuple c z p :: es) (t :: ts)
  | dct {c z p t es ts} (h : PE X (.Dict c z p) t) (r : Pl X es ts) : Pl X (.Dict c z p :: es) (t :: ts)
  | bin {c o d p t es ts} (h : PE X (.BinOp c o d p) t) (r : Pl X es ts) : Pl X (.BinOp c o d p :: es) (t :: ts)
def tAll : List TE → TA
  | [] => tNil
  | t :: ts => tCons t (tAll ts)
theorem Pl.pa {X : Cx} {es : List Expr} {ts : List TE} (h : Pl X es ts) : PA X es (tAll ts) := by
  induction h with
  | nil => exact pa_nil
  | con h _ ih => exact pa_cons h ih st_con
  | lst h _ ih => exact pa_cons h ih st_lst
  | tup h _ ih => exact pa_cons h ih st_tup
  | dct h _ ih => exact pa_cons h ih st_dct
  | bin h _ ih => exact pa_cons h ih st_bin
theorem ex_consE {X : Cx} {body : List Stmt} {st : Stmt} {rest : List Stmt} {R : TS → Prop} {t : TS} (e : body = st :: rest) (h1 : PS X st t) (h2 : ∃ u, PSs X rest u ∧ R (tSeq t u)) : ∃ t, PSs X body t ∧ R t := by
  obtain ⟨u, a, b⟩ := h2
  exact ⟨_, by rw [e]; exact pss_cons h1 a, b⟩
theorem ex_oneE {X : Cx} {body : List Stmt} {st : Stmt} {R : TS → Prop} {t : TS} (e : body = [st]) (h1 : PS X st t) (h2 : R t) : ∃ t, PSs X body t ∧ R t := ⟨_, by rw [e]; exact pss_one h1, h2⟩
theorem ps_setL {X : Cx} {st : Stmt} {i : Nat} {x : Str} {es : List Expr} {ts : List TE} {pos pos' p : Pos} (est : st = .Assign [.Name x pos'] (.List es p) pos) (hN : X.N.Nodup) (hi : X.N[i]? = some x) (hx : Loc X.env.scope x) (hf : X.fn x = true ∨ X.env.scope.names.lookup x = some .local) (hes : Pl X es ts) : PS X st (tAsg (tLst (tAll ts)) (gName i)) := by
  subst est
  exact ps_set hN hi hx (pe_lst hes.pa) sw_lst hf
inductive PSb (X : Cx) (st : Stmt) (t : TS) : Prop
  | mk (h : PS X st t) : PSb X st t
theorem ex_consB {X : Cx} {body : List Stmt} {st : Stmt} {rest : List Stmt} {R : TS → Prop} {t : TS} (e : body = st :: rest) (h1 : PSb X st t) (h2 : ∃ u, PSs X rest u ∧ R (tSeq t u)) : ∃ t, PSs X body t ∧ R t :=
  h1.casesOn fun h => ex_consE e h h2
theorem ps_setB {X : Cx} {st : Stmt} {i : Nat} {x : Str} {es : List Expr} {ts : List TE} {pos pos' p : Pos} (est : st = .Assign [.Name x pos'] (.List es p) pos) (hN : X.N.Nodup) (hi : X.N[i]? = some x) (hx : Loc X.env.scope x) (hf : X.fn x = true ∨ X.env.scope.names.lookup x = some .local) (hes : Pl X es ts) : PSb X st (tAsg (tLst (tAll ts)) (gName i)) := ⟨ps_setL est hN hi hx hf hes⟩
end L2
namespace BrM
open L2 PySem
theorem s_cat {H : Hp} {Q : VK} {a b : Addr} {xs zs : List V} (h1 : H a = some (.lst xs)) (h2 : H b = some (.lst zs)) (hz : xs.length + zs.length ≤ sizeLine) (q : ∀ p, H p = none → Q (.ref p) (upd H p (.lst (xs ++ zs)))) : rPlus (.ref a) (.ref b) H Q := .inr (.inr ⟨a, b, xs, zs, rfl, rfl, h1, h2, hz, q⟩)
theorem s_listS {H : Hp} {Q : VK} {a : List Nat} (ha : a.length ≤ 1000) (q : ∀ l, H l = none → Q (.ref l) (upd H l (.lst ((a.map fun c => [c]).map tx)))) : rListS [tx a] H Q := ⟨a, rfl, ha, q⟩
/-! ## the things that are asked -/
def Fine (a : List Nat) : Prop := Low a ∧ a.length ≤ 1000
inductive Th (p : Addr) (H : Hp) : V → Prop
  | txt (a : List Nat) (h : Fine a) : Th p H (tx a)
  | non : Th p H .non
  | int (i : Int) (h : i = 0 ∨ i = 7) : Th p H (.int i)
  | bl (b : Bool) : Th p H (.bl b)
  | lst {q : Addr} {l : List (List Nat)} (h : H q = some (.lst (l.map tx))) (n : q ≠ p) (f : ∀ a ∈ l, Fine a) (z : l.length ≤ 1100) : Th p H (.ref q)
  | tup {q : Addr} {l : List (List Nat)} (h : H q = some (.tup (l.map tx))) (n : q ≠ p) (f : ∀ a ∈ l, Fine a) (z : l.length ≤ 1) : Th p H (.ref q)
  | dc0 {q : Addr} (h : H q = some (.dK [])) (n : q ≠ p) : Th p H (.ref q)
  | dc1 {q : Addr} {a : List Nat} (h : H q = some (.dK [(.inr ⟨a.toArray⟩, .int 1)])) (n : q ≠ p) (f : Fine a) : Th p H (.ref q)
theorem Th.keep {p : Addr} {H H' : Hp} {v : V} (t : Th p H v) (s : SameBut1 p H H') : Th p H' v := by
  cases t with
  | txt a h => exact .txt a h
  | non => exact .non
  | int i h => exact .int i h
  | bl b => exact .bl b
  | lst h n f z => exact .lst (s _ _ h n) n f z
  | tup h n f z => exact .tup (s _ _ h n) n f z
  | dc0 h n => exact .dc0 (s _ _ h n) n
  | dc1 h n f => exact .dc1 (s _ _ h n) n f
theorem Th.same {p : Addr} {H H' : Hp} {v : V} (t : Th p H v) (s : Same H H') : Th p H' v := t.keep (SameBut1.of s)
theorem piled1 (x : Str) : (Str.join ", " [x]).length = x.length := rfl
theorem Th.shows {p : Addr} {H : Hp} {v : V} (t : Th p H v) : ∃ d, Sh H v d ∧ ShOk d := by
  cases t with
  | txt a h =>
    refine ⟨_, .sc (.str _), rfl, ?_, by simp [PyData.depth]⟩
    rw [PyData.shown]
    have := repr_le h.1
    have := h.2
    rw [sizeLine_eq]; omega
  | non => exact ⟨_, .sc .non, rfl, by rw [PyData.shown, sizeLine_eq]; decide, by simp [PyData.depth]⟩
  | int i h => rcases h with rfl | rfl <;> exact ⟨_, .sc (.int _), by decide +kernel, by rw [PyData.shown, sizeLine_eq]; decide +kernel, by simp [PyData.depth]⟩
  | bl b => cases b <;> exact ⟨_, .sc (.bl _), rfl, by rw [PyData.shown, sizeLine_eq]; decide, by simp [PyData.depth]⟩
  | @lst q l h n f z => exact ⟨_, .lst h (sc_txs l), ok_lst (fun a ha => ⟨(f a ha).1, Nat.le_trans (f a ha).2 (by decide)⟩) z⟩
  | @tup q l h n f z =>
    refine ⟨_, .tup h (sc_txs l), by rw [PyData.showable]; exact showAll_txs l, ?_, by rw [PyData.depth]; have := depthAll_txs l; omega⟩
    rw [PyData.shown, shown_txs]
    match l, z, f with
    | [], _, _ => rw [sizeLine_eq]; decide +kernel
    | [a], _, f =>
      have h1 := repr_le (f a List.mem_cons_self).1
      have h2 := (f a List.mem_cons_self).2
      unfold tupleText
      rw [strLen_append, strLen_append, List.map_cons, List.map_nil, piled1, sizeLine_eq]
      have e1 : (Str.ofString "(").length = 1 := by decide
      have e2 : (Str.ofString (if ([reprText ⟨a.toArray⟩] : List Str).length == 1 then ",)" else ")")).length = 2 := by show (Str.ofString ",)").length = 2; decide
      omega
    | _ :: _ :: _, z, _ => simp at z
  | dc0 h n => exact ⟨.dict [], .dct h .nil, rfl, by rw [PyData.shown, sizeLine_eq]; decide +kernel, by simp [PyData.depth, PyData.depthKv]⟩
  | @dc1 q a h n f =>
    refine ⟨.dict [(.str ⟨a.toArray⟩, .int 1)],   .dct h (.cons ⟨.str _, .int 1⟩ .nil), by simp only [PyData.showable, PyData.showableKv, Bool.true_and, Bool.and_true]; decide +kernel, ?_, by simp [PyData.depth, PyData.depthKv]⟩
    have h1 := repr_le f.1
    have h2 := f.2
    rw [PyData.shown, PyData.shownKv, PyData.shownKv, PyData.shown, PyData.shown]
    unfold dictText
    rw [strLen_append, strLen_append, piled1, strLen_append, strLen_append, sizeLine_eq]
    have e1 : (Str.ofString "{").length = 1 := by decide
    have e2 : (Str.ofString "}").length = 1 := by decide
    have e3 : (Str.ofString ": ").length = 2 := by decide
    have e4 : (Str.ofString (toString (1 : Int))).length = 1 := by decide +kernel
    omega
theorem Th.kind {K : PySem.W.Frag} {p : Addr} {H : Hp} {v : V} (t : Th p H v) : (∃ a, v = tx a ∧ Fine a) ∨ ∃ T, TyOf K H v (.type T) ∧ T ∈ plainTy ∧ T ≠ "str" := by
  cases t with
  | txt a h => exact .inl ⟨a, rfl, h⟩
  | non => exact .inr ⟨_, .non, by decide, by decide⟩
  | int i h => exact .inr ⟨_, .int i, by decide, by decide⟩
  | bl b => exact .inr ⟨_, .bl b, by decide, by decide⟩
  | lst h n f z => exact .inr ⟨_, .lst h, by decide, by decide⟩
  | tup h n f z => exact .inr ⟨_, .tup h, by decide, by decide⟩
  | dc0 h n => exact .inr ⟨_, .dK h, by decide, by decide⟩
  | dc1 h n f => exact .inr ⟨_, .dK h, by decide, by decide⟩
def rowV (k : Int) (v : V) : Bool := match v with | .str x => isRow k x.cps.toList | _ => false
theorem rowV_tx (k : Int) (a : List Nat) : rowV k (tx a) = isRow k a := by show isRow k a.toArray.toList = _; simp
def spIsRow : Sp := fun vs H Q _ => ∃ (k : Int) (v : V) (p : Addr), vs = [.int k, v] ∧ 1 ≤ k ∧ k ≤ 4 ∧ Th p H v ∧ ∀ H', Same H H' → Q (.bl (rowV k v)) H'
theorem isRow_use {H : Hp} {k : Int} {v : V} {p : Addr} {Q : VK} {E : XK} (h1 : 1 ≤ k) (h2 : k ≤ 4) (t : Th p H v) (q : ∀ H', Same H H' → Q (.bl (rowV k v)) H') : spIsRow ([.int k, v] ++ []) H Q E := ⟨k, v, p, rfl, h1, h2, t, q⟩
def spRight01 : Sp := fun vs H Q _ => ∃ (k : Int) (v : V) (p : Addr), vs = [.int k, v] ∧ 1 ≤ k ∧ k ≤ 4 ∧ Th p H v ∧ ∀ H', Same H H' → Q (.bl true) H'
theorem right01_use {H : Hp} {k : Int} {v : V} {p : Addr} {Q : VK} {E : XK} (h1 : 1 ≤ k) (h2 : k ≤ 4) (t : Th p H v) (q : ∀ H', Same H H' → Q (.bl true) H') : spRight01 ([.int k, v] ++ []) H Q E := ⟨k, v, p, rfl, h1, h2, t, q⟩
/-- made since -/
def Nw (H : Hp) (v : V) : Prop := ∀ q, v = .ref q → H q = none
theorem nw_tx (H : Hp) (a : List Nat) : Nw H (tx a) := fun q e => nomatch e
theorem nw_ref {H G : Hp} {p q : Addr} (s : SameBut1 p H G) (h : G q = none) (n : q ≠ p) : Nw H (.ref q) := fun r e => by
  obtain rfl : q = r := V.ref.inj e
  cases z : H q with
  | none => rfl
  | some o => rw [s q o z n] at h; cases h
theorem Th.upd {p D : Addr} {H : Hp} {v : V} {o : HO} (t : Th p H v) (n : v ≠ .ref D) : Th p (upd H D o) v := by
  cases t with
  | txt a h => exact .txt a h
  | non => exact .non
  | int i h => exact .int i h
  | bl b => exact .bl b
  | lst h m f z => exact .lst (by rw [upd_ne (fun e => n (by rw [e]))]; exact h) m f z
  | tup h m f z => exact .tup (by rw [upd_ne (fun e => n (by rw [e]))]; exact h) m f z
  | dc0 h m => exact .dc0 (by rw [upd_ne (fun e => n (by rw [e]))]; exact h) m
  | dc1 h m f => exact .dc1 (by rw [upd_ne (fun e => n (by rw [e]))]; exact h) m f
def spNoRow : Sp := fun vs H Q _ => ∃ (p : Addr) (n : Nat) (k : Int) (a : List Nat), vs = [.ref p, .int k, tx a] ∧ PoolAt H p n ∧ n ≤ 900000 ∧ a.length ≤ 40 ∧ Low a ∧ ∀ v H', Th p H' v → Nw H v → PoolAt H' p (n + 4) → SameBut1 p H H' → Q v H'
theorem noRow_use {H : Hp} {p : Addr} {n : Nat} {k : Int} {a : List Nat} {Q : VK} {E : XK} (h : PoolAt H p n) (hn : n ≤ 900000) (ha : a.length ≤ 40) (hl : Low a) (q : ∀ v H', Th p H' v → Nw H v → PoolAt H' p (n + 4) → SameBut1 p H H' → Q v H') : spNoRow ([.ref p, .int k, tx a] ++ []) H Q E := ⟨p, n, k, a, rfl, h, hn, ha, hl, q⟩
theorem sgn_low {k : Int} {c : Nat} (h : c ∈ sgn k) : c < 16 ^ 8 := by
  rcases mem9 (sgn9 h) with rfl | rfl | rfl | rfl | rfl | rfl | rfl | rfl | rfl <;> decide
theorem sgs_iff {k : Int} {c : Nat} (h1 : 1 ≤ k) (h4 : k ≤ 4) : c ∈ sgs k ↔ c ∈ sgn k := by
  refine ⟨sgs_sgn h1 h4, fun h => ?_⟩
  have hk : k = 1 ∨ k = 2 ∨ k = 3 ∨ k = 4 := by omega
  rcases hk with rfl | rfl | rfl | rfl <;> (have h' := h; simp [sgn, opn, cls] at h'; simp [sgs]; omega)
end BrM
namespace BrM
open L2 PySem
theorem all_same {p : Addr} {H H' : Hp} {l : List V} (h : ∀ v ∈ l, Th p H v) (s : Same H H') : ∀ v ∈ l, Th p H' v := fun v hv => (h v hv).same s
theorem all_keep {p : Addr} {H H' : Hp} {l : List V} (h : ∀ v ∈ l, Th p H v) (s : SameBut1 p H H') : ∀ v ∈ l, Th p H' v := fun v hv => (h v hv).keep s
theorem all_app {p : Addr} {H : Hp} {l m : List V} (h1 : ∀ v ∈ l, Th p H v) (h2 : ∀ v ∈ m, Th p H v) : ∀ v ∈ l ++ m, Th p H v := fun v hv => (List.mem_append.mp hv).elim (h1 v) (h2 v)
theorem all_nil {p : Addr} {H : Hp} : ∀ v ∈ ([] : List V), Th p H v := fun _ z => nomatch z
theorem all_cons {p : Addr} {H : Hp} {x : V} {l : List V} (h1 : Th p H x) (h2 : ∀ v ∈ l, Th p H v) : ∀ v ∈ x :: l, Th p H v := fun v hv => (List.mem_cons.mp hv).elim (fun e => e ▸ h1) (h2 v)
theorem at_memV {l : List V} {i : Int} (h0 : 0 ≤ i) (h1 : i < (l.length : Int)) : ∃ v, atI l i = some v ∧ v ∈ l := by
  have hk : i.toNat < l.length := by omega
  have ek : i = ((i.toNat : Nat) : Int) := by omega
  have q : atI l ((i.toNat : Nat) : Int) = some l[i.toNat] := atI_nat (List.getElem?_eq_getElem hk)
  rw [← ek] at q
  exact ⟨_, q, List.getElem_mem hk⟩
theorem low_app {a b : List Nat} (h1 : Low a) (h2 : Low b) : Low (a ++ b) := fun c hc => (List.mem_append.mp hc).elim (h1 c) (h2 c)
theorem low_one {c : Nat} (h : c < 16 ^ 8) : Low [c] := fun d hd => by rw [List.mem_singleton.mp hd]; exact h
theorem low_take {a : List Nat} (h : Low a) (i : Nat) : Low (a.take i) := fun c hc => h c (List.mem_of_mem_take hc)
theorem low_drop {a : List Nat} (h : Low a) (i : Nat) : Low (a.drop i) := fun c hc => h c (List.mem_of_mem_drop hc)
theorem low_rep {n : Nat} {b : List Nat} (h : Low b) : Low (List.replicate n b).flatten := fun c hc => by
  obtain ⟨l, hl, hc⟩ := List.mem_flatten.mp hc
  rw [List.eq_of_mem_replicate hl] at hc
  exact h c hc
theorem rep_len (n : Nat) (b : List Nat) : (List.replicate n b).flatten.length = n * b.length := by
  induction n with
  | zero => simp
  | succ n ih => rw [List.replicate_succ, List.flatten_cons, List.length_append, ih, Nat.add_mul]; omega
theorem fine_put {a : List Nat} {c i j : Nat} (h : Low a) (hl : a.length ≤ 40) (hc : c < 16 ^ 8) : Fine (a.take i ++ [c] ++ a.drop j) := by
  refine ⟨low_app (low_app (low_take h i) (low_one hc)) (low_drop h j), ?_⟩
  simp only [List.length_append, List.length_take, List.length_drop, List.length_singleton]; omega
def odd : List Nat := [33, 34, 35, 36, 38, 39, 42, 43, 44, 45, 46, 47, 48, 49, 50, 51, 52, 53, 54, 55, 56, 57, 58, 59, 61, 64, 65, 66, 67, 68, 69, 70, 71, 72, 73, 74, 75, 76, 77, 78, 79, 80, 81, 82, 83, 84, 85, 86, 87, 88, 89, 90, 92, 94, 95, 96, 97, 98, 99, 100, 101, 102, 103, 104, 105, 106, 107, 108, 109, 110, 111, 112, 113, 114, 115, 116, 117, 118, 119, 120, 121, 122, 124, 126, 32, 9, 10]
theorem odd_low : Low odd := by unfold Low odd; decide
theorem brs_low : Low [40, 41, 91, 93, 123, 125, 60, 62] := by unfold Low; decide
theorem nall_app {H : Hp} {l m : List V} (h1 : ∀ v ∈ l, Nw H v) (h2 : ∀ v ∈ m, Nw H v) : ∀ v ∈ l ++ m, Nw H v := fun v hv => (List.mem_append.mp hv).elim (h1 v) (h2 v)
theorem nall_nil {H : Hp} : ∀ v ∈ ([] : List V), Nw H v := fun _ z => nomatch z
theorem nall_cons {H : Hp} {x : V} {l : List V} (h1 : Nw H x) (h2 : ∀ v ∈ l, Nw H v) : ∀ v ∈ x :: l, Nw H v := fun v hv => (List.mem_cons.mp hv).elim (fun e => e ▸ h1) (h2 v)
end BrM


namespace Bk
open PySem L2 BrM BrR
def top (i : Nat) : Stmt := PySem.Challenge.pw_bracketrows_k01_what_is_a_row.main.body.getD i (.Pass ⟨0, 0, 0, 0⟩)
abbrev d_is_whole : Stmt := top 9
abbrev d_check_kinds : Stmt := top 10
abbrev d_is_line : Stmt := top 11
abbrev d_law_pool : Stmt := top 13
abbrev d_law_take : Stmt := top 14
abbrev d_law_right_row : Stmt := top 16
abbrev d_law_signs : Stmt := top 17
abbrev d_law_bent : Stmt := top 19
abbrev d_law_any_row : Stmt := top 18
abbrev d_law_is_row : Stmt := top 20
abbrev d_law_no_row : Stmt := top 21
abbrev d_law_right : Stmt := top 22
abbrev d_law : Stmt := top 23
structure Txt (K : PySem.W.Frag) (mg : Str → Option Value) (aK : Addr) : Prop where
  n_all : mg "all" = none
  n_bool : mg "bool" = none
  n_int : mg "int" = none
  n_isinstance : mg "isinstance" = none
  n_len : mg "len" = none
  n_list : mg "list" = none
  n_max : mg "max" = none
  n_min : mg "min" = none
  n_range : mg "range" = none
  n_repr : mg "repr" = none
  n_str : mg "str" = none
  g_OPENING : ∃ u, mg "OPENING" = some u ∧ RelV (tx [40, 91, 123, 60]) u
  g_CLOSING : ∃ u, mg "CLOSING" = some u ∧ RelV (tx [41, 93, 125, 62]) u
  g_KINDS : ∃ u, mg "KINDS" = some u ∧ RelV (.ref aK) u
  t_KINDS : ∀ H, SqT K H aK [tx [40, 41], tx [91, 93], tx [123, 125], tx [60, 62]]
  g_UNKNOWN : ∃ u, mg "UNKNOWN" = some u ∧ RelV (tx [63]) u
  g_MOST_SIGNS : ∃ u, mg "MOST_SIGNS" = some u ∧ RelV (.int 40) u
section
variable {P : Program} {w : World} {K : PySem.W.Frag} {mg : Str → Option Value} {base : Heap} {f aK : Addr} {fd : FuncData} {k : Nat}
local macro_rules | `(tactic| walk_at "st") => `(tactic| first
  | with_reducible refine s_seq ?_
  | with_reducible refine s_asg ?_
  | with_reducible refine s_name ?_
  | ((with_reducible refine s_var (v := ?v) ?e ?_); (case e => exact rfl))
  | with_reducible refine s_c ?_
  | with_reducible refine s_op ?_
  | with_reducible refine s_if ?_
  | with_reducible refine s_test ?_
  | with_reducible refine s_bl ?_
  | with_reducible refine s_call ?_
  | with_reducible refine s_cons ?_
  | with_reducible refine s_nil ?_
  | with_reducible refine s_cb ?_
  | with_reducible refine s_ret ?_
  | with_reducible refine s_lst ?_
  | with_reducible refine s_tup ?_
  | with_reducible refine s_drop ?_
  | with_reducible refine s_next ?_
  | with_reducible refine s_cont ?_
  | with_reducible refine s_break ?_
  | with_reducible refine s_gnil ?_
  | with_reducible refine s_gcons ?_
  | with_reducible refine s_gsub ?_
  | with_reducible refine s_un ?_
  | with_reducible refine s_neg ?_
  | with_reducible refine s_ifE ?_
  | with_reducible refine s_and ?_
  | with_reducible refine s_or ?_
  | with_reducible refine s_not ?_
  | with_reducible refine s_andV ?_
  | with_reducible refine s_orV ?_
  | with_reducible refine s_notV ?_
  | with_reducible refine s_tru ?_
  | with_reducible refine s_chain ?_
  | with_reducible refine s_truB ?_
  | with_reducible refine s_truN ?_
  | with_reducible refine s_addI ?_
  | with_reducible refine s_subI ?_
  | with_reducible refine s_eqI ?_
  | with_reducible refine s_eqT ?_
  | with_reducible refine s_eqB ?_
  | with_reducible refine s_neI ?_
  | with_reducible refine s_neT ?_
  | with_reducible refine s_neB ?_
  | with_reducible refine s_inT ?_
  | with_reducible refine s_notinT ?_
  | with_reducible refine s_sl ?_
  | with_reducible refine s_nopart ?_
  | with_reducible refine s_part ?_
  | with_reducible refine s_partI ?_
  | with_reducible refine s_max ?_
  | with_reducible refine s_min ?_
  | with_reducible refine s_intB ?_
  | with_reducible refine s_intI ?_
  | with_reducible refine s_bm ?_
  | with_reducible refine s_bm0 ?_
  | with_reducible refine s_for ?_
  | with_reducible refine s_irng1 ?_
  | with_reducible refine s_irng2 ?_
  | with_reducible refine s_irng3 ?_
  | with_reducible refine s_augS ?_
  | with_reducible refine s_ilist ?_
  | with_reducible refine s_istr ?_
  | with_reducible refine s_istrT ?_
  | with_reducible refine s_ienS ?_
  | with_reducible refine s_ienST ?_
  | with_reducible refine s_ienL ?_
  | with_reducible refine s_comp ?_
  | with_reducible refine s_rev ?_
  | with_reducible refine s_revI ?_
  | with_reducible refine s_irev ?_
  | with_reducible refine s_tyT ?_
  | ((with_reducible refine s_irevT ?e ?_); (case e => first | assumption | exact small (by omega)))
  | ((with_reducible refine s_revT ?e ?_); (case e => first | assumption | exact small (by omega)))
  | with_reducible refine s_yes ?_
  | ((with_reducible refine s_aug (x := ?x) ?e ?_); (case e => exact rfl))
  | with_reducible refine s_ipI ?_
  | ((with_reducible refine s_is ?e ?_); (case e => exact rfl))
  | ((with_reducible refine s_isnot ?e ?_); (case e => exact rfl))
  | ((with_reducible refine s_ixL (xs := ?xs) (v := ?v) ?h ?e ?_); (case h => assumption); (case e => exact rfl))
  | ((with_reducible refine s_rI ?e ?_); (case e => first | (exact (show (0 : Int) < _ by omega)) | (exact ⟨by omega, by omega⟩) | (exact ⟨by decide, by decide, by decide⟩)))
  | ((with_reducible refine s_mulI ?e ?_); (case e => first | exact .inl ⟨by omega, by omega⟩ | exact .inr ⟨by omega, by omega⟩))
  | ((with_reducible refine s_lenT ?e ?_); (case e => first | assumption | exact small (by omega)))
  | ((with_reducible refine s_addT ?e ?_); (case e => first | exact small (by omega) | exact small (by simp only [List.length_append, List.length_cons, List.length_nil]; omega)))
  | ((with_reducible refine s_slT ?e ?_); (case e => first | assumption | exact small (by omega) | exact small (by simp only [List.length_append, List.length_cons, List.length_nil]; omega)))
  )
local macro_rules | `(tactic| walk_at "go") => `(tactic| repeat (walk_at "st"))

theorem sc_is_whole : FnScope ["thing"] ["thing"] (defScope d_is_whole) := ⟨rfl, rfl, rfl, by decide +kernel, rfl, by decide +kernel, by decide +kernel⟩
theorem ok_is_whole (F : Fun K "is_whole" "is_whole" d_is_whole f fd) (T : Txt K mg aK)  : FnOk P w K mg base CX0 (k + 1) f fd ["thing"] (spWhole K) := by
  refine F.ok sc_is_whole (fun vs H Q E h => ?_) (fun cdv A outer s H vs Q E hr h => ?_)
  · obtain ⟨x, T', rfl, _⟩ := h; rfl
  obtain ⟨x, ty, rfl, hT, hp, q⟩ := h
  refine ⟨_, (pss_one (ps_ret (pe_and (pe_callB (call_isiA K) rfl T.n_isinstance PyProof.Rows.boot_isinstance (pa_cons (pv 0) (pa_cons (pe_ty T.n_int PyProof.Rows.boot_int) pa_nil))) (pe_one (pe_not (pe_callB (call_isiA K) rfl T.n_isinstance PyProof.Rows.boot_isinstance (pa_cons (pv 0) (pa_cons (pe_ty T.n_bool PyProof.Rows.boot_bool) pa_nil)))))))), ?_⟩
  walk_at "go"
  have hp' : ty = "NoneType" ∨ ty = "bool" ∨ ty = "int" ∨ ty = "str" ∨ ty = "list" ∨ ty = "tuple" ∨ ty = "dict" := by simpa [plainTy] using hp
  rcases hp' with rfl | rfl | rfl | rfl | rfl | rfl | rfl
  · refine s_isi (b := false) hT (by with_unfolding_all rfl) (s_bl (iteF ?_)); exact q
  · refine s_isi (b := true) hT (by with_unfolding_all rfl) (s_bl (iteT ?_))
    walk_at "go"
    refine s_isi (b := true) hT (by with_unfolding_all rfl) (s_bl ?_); exact q
  · refine s_isi (b := true) hT (by with_unfolding_all rfl) (s_bl (iteT ?_))
    walk_at "go"
    refine s_isi (b := false) hT (by with_unfolding_all rfl) (s_bl ?_); exact q
  · refine s_isi (b := false) hT (by with_unfolding_all rfl) (s_bl (iteF ?_)); exact q
  · refine s_isi (b := false) hT (by with_unfolding_all rfl) (s_bl (iteF ?_)); exact q
  · refine s_isi (b := false) hT (by with_unfolding_all rfl) (s_bl (iteF ?_)); exact q
  · refine s_isi (b := false) hT (by with_unfolding_all rfl) (s_bl (iteF ?_)); exact q

theorem sc_check_kinds : FnScope ["k"] ["k"] (defScope d_check_kinds) := ⟨rfl, rfl, rfl, by decide +kernel, rfl, by decide +kernel, by decide +kernel⟩
theorem ok_check_kinds (F : Fun K "check_kinds" "check_kinds" d_check_kinds f fd) (T : Txt K mg aK) (U_is_whole : FnU P w K mg base k "is_whole" ["thing"] (spWhole K)) : FnOk P w K mg base CX0 (k + 1) f fd ["k"] (spKinds) := by
  refine F.ok sc_check_kinds (fun vs H Q E h => ?_) (fun cdv A outer s H vs Q E hr h => ?_)
  · obtain ⟨x, rfl, _⟩ := h; rfl
  obtain ⟨x, rfl, h1, h2, q⟩ := h
  refine ⟨_, (pss_one (ps_if (PW.pt (pw_or (pt_not (pt_tru K (pe_fn U_is_whole hr (pa_cons (pv 0) pa_nil)))) (pw_or1 (pt_not (pt_chain op_le op_le pe_int (pv 0) (pe_callB (call_lenA K) rfl T.n_len PySem.boot_len (pa_cons (pe_gl T.g_KINDS) pa_nil)))))))   (pss_one ps_never)   pss_nil)), ?_⟩
  walk_at "go"
  refine whole_int ?_
  walk_at "go"
  refine ifq rfl ?_
  walk_at "go"
  refine ifp (decide_eq_true h1) ?_
  walk_at "go"
  refine s_lenL (.inr (T.t_KINDS H)) ?_
  walk_at "go"
  refine ifq (by simp; omega) ?_
  walk_at "go"
  exact q

theorem sc_is_line : FnScope ["k", "thing", "signs"] ["k", "thing"] (defScope d_is_line) := ⟨rfl, rfl, rfl, by decide +kernel, rfl, by decide +kernel, by decide +kernel⟩
theorem ok_is_line (F : Fun K "is_line" "is_line" d_is_line f fd) (T : Txt K mg aK) (U_check_kinds : FnU P w K mg base k "check_kinds" ["k"] (spKinds)) : FnOk P w K mg base CX0 (k + 1) f fd ["k", "thing"] (spLine K) := by
  refine F.ok sc_is_line (fun vs H Q E h => ?_) (fun cdv A outer s H vs Q E hr h => ?_)
  · obtain ⟨kk, x, rfl, _⟩ := h; rfl
  obtain ⟨kk, x, rfl, h1, h2, hx⟩ := h
  refine ⟨_, (pss_cons (ps_expr (pe_fn U_check_kinds hr (pa_cons (pv 0) pa_nil)))  (pss_cons (ps_if (PW.pt (pw_or (pt_not (pt_tru K (pe_callB (call_isiA K) rfl T.n_isinstance PyProof.Rows.boot_isinstance (pa_cons (pv 1) (pa_cons (pe_ty T.n_str PyProof.Rows.boot_str) pa_nil))))) (pw_or1 (pt_cmpR op_gt (pe_callB (call_lenA K) rfl T.n_len PySem.boot_len (pa_cons (pv 1) pa_nil)) (pe_gl T.g_MOST_SIGNS) (nomark _)))))   (pss_one (ps_ret pe_bl))   pss_nil)  (pss_cons (ps_set (i := 2) sc_is_line.nd rfl (Or.inr rfl) (pe_op op_plus (pe_op op_plus (pe_slice (sl_A K) (pe_gl T.g_OPENING) po_none (po_some (pv 0))) (pe_slice (sl_A K) (pe_gl T.g_CLOSING) po_none (po_some (pv 0)))) (pe_gl T.g_UNKNOWN)))  (pss_one (ps_ret (pe_callB (call_allA K rfl) rfl T.n_all PyProof.Rows.boot_all (pa_cons (pe_comp (own := ["sign"]) (sel := [2]) (compOk_of (osc := (defScope d_is_line)) (N := ["k", "thing", "signs"]) (by decide +kernel)) rfl (pi_str (pv 1)) (fun _ _ _ _ _ => (pg_name (i := 0) (show (["sign", "signs"] : List Str).Nodup from by decide +kernel) rfl (Or.inl rfl))) (gk_name (by decide)) (fun _ _ _ _ _ => pif_nil) (fun _ _ _ _ _ => (pe_cmpR (op_inA K) (pv 0) (pv 1) (by with_unfolding_all rfl)))) pa_nil))))))), ?_⟩
  walk_at "go"
  refine kinds_use h1 h2 ?_
  walk_at "go"
  rcases hx with ⟨a, rfl, ha, q⟩ | ⟨ty, hT, hp, hs, q⟩
  · refine s_isi (b := true) (TyOf.str _) (by with_unfolding_all rfl) ?_
    walk_at "go"
    refine ifq rfl ?_
    walk_at "go"
    refine ifd (fun hc => ?_) (fun hc => ?_)
    · walk_at "go"
      have e : isRow kk a = false := by unfold isRow; rw [decide_eq_false (by omega), Bool.false_and]
      have := q H (Same.refl H)
      rw [e] at this
      exact this
    · walk_at "go"
      rw [cut_to _ (by omega), cut_to _ (by omega)]
      have l1 : ((([40, 91, 123, 60] : List Nat)).take kk.toNat).length ≤ 4 := by rw [List.length_take]; exact Nat.min_le_right _ _
      have l2 : ((([41, 93, 125, 62] : List Nat)).take kk.toNat).length ≤ 4 := by rw [List.length_take]; exact Nat.min_le_right _ _
      first | refine s_addT (small (by omega)) ?_ | skip
      walk_at "go"
      first | refine s_addT (small (by rw [List.length_append, List.length_singleton]; omega)) ?_ | skip
      walk_at "go"
      refine comp_of (n := a.length) (fun D i ys H' => ys = ((a.take i).map fun c => V.bl (decide (c ∈ sgn kk))) ∧ SameBut1 D H H') (fun D hD => ⟨rfl, SameBut1.of (same_new hD _)⟩) (fun D i ys H' _ hi _ _ => by simpa [Its] using hi) (fun D ys H' hD hD' hl ⟨e, sH⟩ => ⟨by simp [Its], ?_⟩) ?_
      · rw [List.take_length] at e
        subst e
        have hS : SqL K H' D ((a.map fun c => decide (c ∈ sgn kk)).map V.bl) := by
          rw [List.map_map]; exact SqL.of hD'
        refine s_all hS ?_
        have e2 : ((a.map fun c => decide (c ∈ sgn kk)).all id) = isRow kk a := by
          unfold isRow
          rw [decide_eq_true (by omega), Bool.true_and, List.all_map]
          rfl
        rw [e2]
        exact q H' fun b o z => sH b o z (ne_of_none z hD)
      · rintro D i ys H' x H3 hD hi hD' hl ⟨e, sH⟩ ⟨rfl, c, ec, rfl⟩
        have ec' : a[i]? = some c := by simpa using ec
        show gName 0 (tx [c]) _ _ _
        walk_at "go"
        refine iteT ?_
        walk_at "go"
        refine comp_next hi (small (by omega)) hD' hl ⟨?_, sH.trans SameBut1.upd⟩
        rw [e, List.take_add_one, ec']
        simp only [Option.toList_some, List.map_append, List.map_cons, List.map_nil]
        rfl
  · have hp' : ty = "NoneType" ∨ ty = "bool" ∨ ty = "int" ∨ ty = "list" ∨ ty = "tuple" ∨ ty = "dict" := by
      have : ty = "NoneType" ∨ ty = "bool" ∨ ty = "int" ∨ ty = "str" ∨ ty = "list" ∨ ty = "tuple" ∨ ty = "dict" := by simpa [plainTy] using hp
      rcases this with z | z | z | z | z | z | z
      · exact .inl z
      · exact .inr (.inl z)
      · exact .inr (.inr (.inl z))
      · exact absurd z hs
      · exact .inr (.inr (.inr (.inl z)))
      · exact .inr (.inr (.inr (.inr (.inl z))))
      · exact .inr (.inr (.inr (.inr (.inr z))))
    have fin : PySem.W.kitOne K (.type ty) (.type "str") = some false := by
      rcases hp' with rfl | rfl | rfl | rfl | rfl | rfl <;> with_unfolding_all rfl
    refine s_isi (b := false) hT fin ?_
    walk_at "go"
    refine ifp rfl ?_
    walk_at "go"
    refine ifp rfl ?_
    walk_at "go"
    exact q

theorem sc_law_pool : FnScope ["script", "k", "cell"] ["script", "k"] (defScope d_law_pool) := ⟨rfl, rfl, rfl, by decide +kernel, rfl, by decide +kernel, by decide +kernel⟩
theorem ok_law_pool (F : Fun K "_law_pool" "_law_pool" d_law_pool f fd) (T : Txt K mg aK)  : FnOk P w K mg base CX0 (k + 1) f fd ["script", "k"] (spPool K) := by
  refine F.ok sc_law_pool (fun vs H Q E h => ?_) (fun cdv A outer s H vs Q E hr h => ?_)
  · obtain ⟨a, ns, k, rfl, _⟩ := h; rfl
  obtain ⟨a, ns, k, rfl, hS, h63, h0, hk, q⟩ := h
  have hu := hr.units0
  have fin : ∀ cell : Int, (tSeq (tIfS (tTest (tOp (rI0 fun i j => V.bl (decide (j ≤ i))) (tVar 2) (tOp (rI CPow fun i j => V.int (i ^ j.toNat)) (tC (V.int 10)) (tC (V.int 18)))))
      (tRet (tLst (tCons (tOp (rI0 fun i j => V.int (i - j)) (tVar 2) (tOp (rI CPow fun i j => V.int (i ^ j.toNat)) (tC (V.int 10)) (tC (V.int 18)))) (tCons (tC (V.int 1)) (tCons (tC (V.int 0)) tNil))))) tNext)
      (tRet (tLst (tCons (tVar 2) (tCons (tC (V.int 0)) (tCons (tOp rTimes (tC (V.int 73)) (tVar 1)) tNil)))))) { nx := fun _ H' => Q .non H', rt := Q } [some (.ref a), some (.int k), some (.int cell)] H := by
    intro cell
    walk_at "go"
    refine ifd (fun c => ?_) (fun c => ?_)
    · walk_at "go"
      refine ⟨small (show 3 ≤ 1000 by decide), fun p hp => ?_⟩
      exact q p _ hp (same_new hp _) (pool_new (by decide) (by decide))
    · walk_at "go"
      refine ⟨small (show 3 ≤ 1000 by decide), fun p hp => ?_⟩
      exact q p _ hp (same_new hp _) (pool_new (by omega) (by omega))
  refine ⟨_, (pss_cons (ps_set (i := 2) sc_law_pool.nd rfl (Or.inl rfl) pe_int)  (pss_cons (ps_if (pt_cmpR op_lt (pv 1) (pe_callB (call_lenA K) rfl T.n_len PySem.boot_len (pa_cons (pv 0) pa_nil)) (nomark _))   (pss_one (ps_set (i := 2) sc_law_pool.nd rfl (Or.inl rfl) (pe_ix (ix_A K) (pv 0) (pv 1) (fun _ _ => rfl))))   pss_nil)  (pss_cons (ps_if (pt_cmpR op_ge (pv 2) (pe_op op_pow pe_int pe_int) (nomark _))   (pss_one (ps_ret (pe_lst (pa_cons (pe_op op_sub (pv 2) (pe_op op_pow pe_int pe_int)) (pa_cons pe_int (pa_cons pe_int pa_nil))))))   pss_nil)  (pss_one (ps_ret (pe_lst (pa_cons (pv 2) (pa_cons pe_int (pa_cons (pe_op op_times pe_int (pv 1)) pa_nil))))))))), ?_⟩
  walk_at "go"
  refine s_lenL (.inl hS) ?_
  walk_at "go"
  refine ifd (fun c => ?_) (fun c => ?_)
  · rw [List.length_map] at c
    obtain ⟨v, hv⟩ := atI_ints (ns := ns) h0 c
    walk_at "go"
    refine s_ixL hS hv ?_
    walk_at "st"
    exact fin v
  · walk_at "st"
    exact fin 0

theorem sc_law_take : FnScope ["pool", "many", "found", "step", "mark"] ["pool", "many"] (defScope d_law_take) := ⟨rfl, rfl, rfl, by decide +kernel, rfl, by decide +kernel, by decide +kernel⟩
theorem ok_law_take (F : Fun K "_law_take" "_law_take" d_law_take f fd) (T : Txt K mg aK)  : FnOk P w K mg base CX0 (k + 1) f fd ["pool", "many"] (spTake) := by
  refine F.ok sc_law_take (fun vs H Q E h => ?_) (fun cdv A outer s H vs Q E hr h => ?_)
  · obtain ⟨p, n, m, rfl, _⟩ := h; rfl
  obtain ⟨p, n, m, rfl, ⟨a, b, c, hp, h0, hc⟩, hn, hm0, hm1, q⟩ := h
  have hu := hr.units0
  have hS : SqL K H p [.int a, .int b, .int c] := SqL.of hp
  refine ⟨_, (pss_cons (ps_if (pt_cmpR (op_eqA K hu) (pe_ix (ix_A K) (pv 0) pe_int (fun _ _ => rfl)) pe_int (nomark _))   (pss_cons (ps_set (i := 2) sc_law_take.nd rfl (Or.inl rfl) (pe_op op_mod (pe_ix (ix_A K) (pv 0) pe_int (fun _ _ => rfl)) (pv 1)))  (pss_cons (ps_asg (pe_op op_fdiv (pe_ix (ix_A K) (pv 0) pe_int (fun _ _ => rfl)) (pv 1)) (pg_sub (pv 0) pe_int set_list))  (pss_one (ps_ret (pv 2)))))   pss_nil)  (pss_cons (ps_asg (pe_op op_plus (pe_ix (ix_A K) (pv 0) pe_int (fun _ _ => rfl)) pe_int) (pg_sub (pv 0) pe_int set_list))  (pss_cons (ps_set (i := 3) sc_law_take.nd rfl (Or.inl rfl) (pe_ix (ix_A K) (pv 0) pe_int (fun _ _ => rfl)))  (pss_cons (ps_set (i := 4) sc_law_take.nd rfl (Or.inl rfl) (pe_op op_times (pe_op op_plus (pe_op op_mod (pe_ix (ix_A K) (pv 0) pe_int (fun _ _ => rfl)) pe_int) pe_int) (pe_op op_plus (pe_op op_times pe_int (pv 3)) pe_int)))  (pss_cons (ps_set (i := 4) sc_law_take.nd rfl (Or.inl rfl) (pe_op op_plus (pv 4) (pe_op op_times (pe_op op_times pe_int (pv 3)) (pv 3))))  (pss_cons (ps_set (i := 4) sc_law_take.nd rfl (Or.inl rfl) (pe_op op_mod (pe_op op_times (pv 4) (pv 4)) pe_int))  (pss_one (ps_ret (pe_op op_mod (pe_op op_fdiv (pe_op op_mod (pe_op op_times (pv 4) (pe_op op_plus (pv 4) pe_int)) pe_int) pe_int) (pv 1)))))))))), ?_⟩
  walk_at "go"
  refine ifd (fun hb => ?_) (fun hb => ?_)
  · walk_at "go"
    refine s_setL hp (j := 0) rfl ?_
    walk_at "go"
    exact q _ _ (Int.emod_nonneg _ (by omega)) (Int.emod_lt_of_pos _ hm0) ⟨_, _, c, upd_same, h0, by omega⟩ SameBut1.upd
  · walk_at "go"
    refine s_setL hp (j := 2) rfl ?_
    have hS2 : SqL K (upd H p (.lst [.int a, .int b, .int (c + 1)])) p [.int a, .int b, .int (c + 1)] := SqL.of upd_same
    have hx := Int.emod_nonneg a (show (9999999379 : Int) ≠ 0 by decide)
    have hx' := Int.emod_lt_of_pos a (show (0 : Int) < 9999999379 by decide)
    walk_at "go"
    have hxy : 0 ≤ (a % 9999999379 + 1049) * (67 * (c + 1) + 101) := Int.mul_nonneg (by omega) (by omega)
    have hxy' : (a % 9999999379 + 1049) * (67 * (c + 1) + 101) ≤ 10000000428 * 67000168 := Int.mul_le_mul (by omega) (by omega) (by omega) (by omega)
    have hss : 0 ≤ 3623 * (c + 1) * (c + 1) := Int.mul_nonneg (by omega) (by omega)
    have hss' : 3623 * (c + 1) * (c + 1) ≤ 3623003623 * 1000001 := Int.mul_le_mul (by omega) (by omega) (by omega) (by omega)
    generalize (a % 9999999379 + 1049) * (67 * (c + 1) + 101) = x1 at *
    generalize 3623 * (c + 1) * (c + 1) = x2 at *
    refine s_mulI (.inl ⟨by omega, by omega⟩) ?_
    have hy := Int.emod_nonneg ((x1 + x2) * (x1 + x2)) (show (99999999529 : Int) ≠ 0 by decide)
    have hy' := Int.emod_lt_of_pos ((x1 + x2) * (x1 + x2)) (show (0 : Int) < 99999999529 by decide)
    walk_at "go"
    refine q _ _ (Int.emod_nonneg _ (by omega)) (Int.emod_lt_of_pos _ hm0) ⟨_, _, c + 1, upd_same, by omega, by omega⟩ SameBut1.upd

theorem sc_law_right_row : FnScope ["pool", "k", "most", "left", "way", "row", "waiting", "more", "kind"] ["pool", "k", "most"] (defScope d_law_right_row) := ⟨rfl, rfl, rfl, by decide +kernel, rfl, by decide +kernel, by decide +kernel⟩
theorem ok_law_right_row (F : Fun K "_law_right_row" "_law_right_row" d_law_right_row f fd) (T : Txt K mg aK) (U_law_take : FnU P w K mg base k "_law_take" ["pool", "many"] (spTake)) : FnOk P w K mg base CX0 (k + 1) f fd ["pool", "k", "most"] (spRightRow) := by
  refine F.ok sc_law_right_row (fun vs H Q E h => ?_) (fun cdv A outer s H vs Q E hr h => ?_)
  · obtain ⟨p, n, k, most, rfl, _⟩ := h; rfl
  obtain ⟨p, n, kk, most, rfl, hp, hn, hk1, hk4, hm0, hm1, q⟩ := h
  have hu := hr.units0
  refine ⟨_, (pss_cons (ps_set (i := 3) sc_law_right_row.nd rfl (Or.inl rfl) (pe_ix (ix_A K) (pe_lst (pa_cons (pe_fn U_law_take hr (pa_cons (pv 0) (pa_cons (pe_op op_plus (pe_op op_fdiv (pv 2) pe_int) pe_int) pa_nil))) (pa_cons (pe_fn U_law_take hr (pa_cons (pv 0) (pa_cons (pe_op op_plus (pe_callB (call_minA rfl) rfl T.n_min PyProof.Rows.boot_min (pa_cons (pe_op op_fdiv (pv 2) pe_int) (pa_cons pe_int pa_nil))) pe_int) pa_nil))) (pa_cons (pe_op op_fdiv (pv 2) pe_int) pa_nil)))) (pe_fn U_law_take hr (pa_cons (pv 0) (pa_cons pe_int pa_nil))) (fun _ _ => rfl)))  (pss_cons (ps_set (i := 4) sc_law_right_row.nd rfl (Or.inl rfl) (pe_fn U_law_take hr (pa_cons (pv 0) (pa_cons pe_int pa_nil))))  (pss_cons (ps_set (i := 5) sc_law_right_row.nd rfl (Or.inl rfl) (pe_tx (l := []) (by decide +kernel)))  (pss_cons (ps_set (i := 6) sc_law_right_row.nd rfl (Or.inl rfl) (pe_tx (l := []) (by decide +kernel)))  (pss_cons (ps_while PassesOwn.never (PW.pt (pw_or (pt_cmpR op_gt (pv 3) pe_int (nomark _)) (pw_or1 (pt_cmpR (op_neA K hu) (pv 6) (pe_tx (l := []) (by decide +kernel)) (nomark _)))))   (pss_cons (ps_set (i := 7) sc_law_right_row.nd rfl (Or.inl rfl) (pe_ix (ix_A K) (pe_lst (pa_cons (pe_cmpR op_gt (pe_fn U_law_take hr (pa_cons (pv 0) (pa_cons pe_int pa_nil))) pe_int (nomark _)) (pa_cons (pe_cmpR (op_eqA K hu) (pe_fn U_law_take hr (pa_cons (pv 0) (pa_cons pe_int pa_nil))) pe_int (nomark _)) (pa_cons (pe_cmpR op_gt (pe_fn U_law_take hr (pa_cons (pv 0) (pa_cons pe_int pa_nil))) pe_int (nomark _)) (pa_cons (pe_cmpR op_gt (pv 3) pe_int (nomark _)) pa_nil))))) (pv 4) (fun _ _ => rfl)))  (pss_one (ps_if (PW.pt (pw_and (pt_cmpR op_gt (pv 3) pe_int (nomark _)) (pw_and1 (PW.pt (pw_or (pt_cmpR (op_eqA K hu) (pv 6) (pe_tx (l := []) (by decide +kernel)) (nomark _)) (pw_or1 (pt_tru K (pv 7))))))))   (pss_cons (ps_set (i := 8) sc_law_right_row.nd rfl (Or.inl rfl) (pe_fn U_law_take hr (pa_cons (pv 0) (pa_cons (pv 1) pa_nil))))  (pss_cons (ps_set (i := 5) sc_law_right_row.nd rfl (Or.inl rfl) (pe_op op_plus (pv 5) (pe_ix (ix_A K) (pe_tx (l := [40, 91, 123, 60]) (by decide +kernel)) (pv 8) (fun _ _ => rfl))))  (pss_cons (ps_set (i := 6) sc_law_right_row.nd rfl (Or.inl rfl) (pe_op op_plus (pe_ix (ix_A K) (pe_tx (l := [41, 93, 125, 62]) (by decide +kernel)) (pv 8) (fun _ _ => rfl)) (pv 6)))  (pss_one (ps_set (i := 3) sc_law_right_row.nd rfl (Or.inl rfl) (pe_op op_sub (pv 3) pe_int))))))   (pss_cons (ps_set (i := 5) sc_law_right_row.nd rfl (Or.inl rfl) (pe_op op_plus (pv 5) (pe_ix (ix_A K) (pv 6) pe_int (fun _ _ => rfl))))  (pss_one (ps_set (i := 6) sc_law_right_row.nd rfl (Or.inl rfl) (pe_slice (sl_A K) (pv 6) (po_some pe_int) po_none))))))))  (pss_one (ps_ret (pv 5)))))))), ?_⟩
  walk_at "go"
  refine take_use hp (by omega) (by omega) (by omega) (fun r1 H1 r10 r11 hp1 s1 => ?_)
  walk_at "go"
  refine take_use hp1 (by omega) (by split <;> omega) (by split <;> omega) (fun r2 H2 r20 r21 hp2 s2 => ?_)
  walk_at "go"
  refine ⟨small (show 3 ≤ 1000 by decide), fun a1 ha1 => ?_⟩
  have hp2' := hp2.same (same_new ha1 (.lst [.int r1, .int r2, .int (most / 2)]))
  walk_at "go"
  refine take_use hp2' (by omega) (by omega) (by omega) (fun r3 H3 r30 r31 hp3 s3 => ?_)
  have hl1 : H3 a1 = some (.lst [.int r1, .int r2, .int (most / 2)]) := s3 a1 _ upd_same (hp2.ne ha1)
  have sH3 : SameBut1 p H H3 := (s1.trans s2).trans ((SameBut1.of (same_new ha1 _)).trans s3)
  obtain ⟨lv, hlv, hlv'⟩ := at3 (V.int r1) (.int r2) (.int (most / 2)) r30 r31
  obtain ⟨left, rfl, hl0, hl⟩ : ∃ left : Int, lv = .int left ∧ 0 ≤ left ∧ left ≤ most / 2 := by
    rcases hlv' with rfl | rfl | rfl
    · exact ⟨_, rfl, by omega, by omega⟩
    · exact ⟨_, rfl, by omega, by revert r21; split <;> omega⟩
    · exact ⟨_, rfl, by omega, by omega⟩
  refine s_ixL (SqL.of hl1) hlv ?_
  walk_at "go"
  refine take_use hp3 (by omega) (by omega) (by omega) (fun way H4 w0 w1 hp4 s4 => ?_)
  walk_at "go"
  refine while_of (fun σ H' => ∃ (lf : Int) (row wt : List Nat) (mo ki : Option V), σ = [some (.ref p), some (.int kk), some (.int most), some (.int lf), some (.int way), some (tx row), some (tx wt), mo, ki] ∧
      0 ≤ lf ∧ run [] row = some wt ∧ (∀ c ∈ row, kin kk c) ∧ (∀ c ∈ wt, c ∈ cls.take kk.toNat ∧ c ∉ opn) ∧ (row.length : Int) + wt.length + 2 * lf ≤ most ∧ PoolAt H' p (n + 4 + 4 * (40 - (2 * lf.toNat + wt.length))) ∧ SameBut1 p H H')
    (fun σ _ => match σ with | [_, _, _, some (.int lf), _, _, some (.str wt), _, _] => 2 * lf.toNat + wt.length | _ => 0) ⟨left, [], [], none, none, rfl, hl0, rfl, (fun _ z => nomatch z), (fun _ z => nomatch z), by simp; omega, hp4.mono (by simp), sH3.trans s4⟩ ?_
  · rintro σ H5 ⟨lf, row, wt, mo, ki, rfl, lf0, hrun, hkin, hwt, hsum, hp5, s5⟩
    have hrow : row.length ≤ 40 := by omega
    have hwl : wt.length ≤ 40 := by omega
    refine or_tests (c := decide (0 < lf)) (d := !decide (wt = [])) (fun R h => by walk_at "go"; exact h) (fun R h => by walk_at "go"; exact h) ?_
    refine ite2 (fun hc => ?_) (fun hc => ?_)
    · have hwl2 : wt.length = 0 → wt = [] := List.length_eq_zero_iff.mp
      have hne : 0 < lf ∨ wt ≠ [] := by simpa using hc
      have hpos : 1 ≤ 2 * lf.toNat + wt.length := by
        rcases hne with z | z
        · omega
        · have : wt.length ≠ 0 := fun e => z (hwl2 e)
          omega
      refine wh_body ?_
      walk_at "go"
      refine take_use hp5 (by omega) (by omega) (by omega) (fun b1 G1 _ _ hq1 t1 => ?_)
      walk_at "go"
      refine take_use hq1 (by omega) (by omega) (by omega) (fun b2 G2 _ _ hq2 t2 => ?_)
      walk_at "go"
      refine take_use hq2 (by omega) (by omega) (by omega) (fun b3 G3 _ _ hq3 t3 => ?_)
      walk_at "go"
      refine ⟨small (show 4 ≤ 1000 by decide), fun a2 ha2 => ?_⟩
      obtain ⟨mb, hmb⟩ := at4b (decide (0 < b1)) (decide (b2 = 0)) (decide (0 < b3)) (decide (0 < lf)) w0 w1
      have hq3' := hq3.same (same_new ha2 (.lst [.bl (decide (0 < b1)), .bl (decide (b2 = 0)), .bl (decide (0 < b3)), .bl (decide (0 < lf))]))
      have tG : SameBut1 p H (upd G3 a2 (.lst [.bl (decide (0 < b1)), .bl (decide (b2 = 0)), .bl (decide (0 < b3)), .bl (decide (0 < lf))])) := s5.trans (((t1.trans t2).trans t3).trans (SameBut1.of (same_new ha2 _)))
      walk_at "st"
      refine s_ixL (SqL.of upd_same) hmb ?_
      walk_at "st"
      walk_at "st"
      refine and_tests (c := decide (0 < lf)) (d := decide (wt = []) || mb) (fun R h => by walk_at "go"; exact h) (fun R h => or_tests (c := decide (wt = [])) (d := mb) (fun R h => by walk_at "go"; exact h) (fun R h => by walk_at "go"; exact h) h) ?_
      refine ite2 (fun hd => ?_) (fun hd => ?_)
      · have hlf : 0 < lf := by simp at hd; exact hd.1
        walk_at "go"
        refine take_use hq3' (by omega) (by omega) (by omega) (fun ki' G4 ki0 ki1 hq4 t4 => ?_)
        obtain ⟨oc, ho1, ho2, ho3, ho4, ho5, ho6⟩ := opn_at ki0 ki1 hk4
        walk_at "go"
        refine s_ixT (small (show 4 ≤ 1000 by decide)) ho1 ?_
        walk_at "go"
        refine s_ixT (small (show 4 ≤ 1000 by decide)) ho4 ?_
        walk_at "go"
        refine ⟨⟨lf - 1, row ++ [oc], [clo oc] ++ wt, _, _, rfl, by omega, ?_, ?_, ?_, ?_, hq4.mono ?_, tG.trans t4⟩, ?_⟩
        · rw [run_snoc hrun, stp_open ho2]; rfl
        · intro c hc
          rcases List.mem_append.mp hc with z | z
          · exact hkin c z
          · rw [List.mem_singleton.mp z]; exact .inl ho3
        · intro c hc
          rcases List.mem_append.mp hc with z | z
          · rw [List.mem_singleton.mp z]; exact ⟨ho5, ho6⟩
          · exact hwt c z
        · simp only [List.length_append, List.length_singleton]; omega
        · simp only [List.length_append, List.length_singleton]; omega
        · show 2 * (lf - 1).toNat + ([clo oc] ++ wt).toArray.size < 2 * lf.toNat + wt.toArray.size
          simp only [List.size_toArray, List.length_append, List.length_singleton]; omega
      · have hne2 : wt ≠ [] := by
          intro e
          subst e
          rcases hne with z | z
          · apply hd; simp [z]
          · exact z rfl
        obtain ⟨d0, wr, rfl⟩ : ∃ d0 wr, wt = d0 :: wr := by
          cases wt with
          | nil => exact absurd rfl hne2
          | cons d0 wr => exact ⟨d0, wr, rfl⟩
        obtain ⟨hd1, hd2⟩ := hwt d0 List.mem_cons_self
        walk_at "go"
        refine s_ixT (small (by simp only [List.length_cons] at hwl ⊢; omega)) (atI_0 d0 wr) ?_
        walk_at "go"
        first | refine s_slT (small (by simp only [List.length_cons] at hwl ⊢; omega)) ?_ | skip
        rw [cut_tail]
        walk_at "go"
        simp only [List.length_cons] at hsum hq3' hwl
        refine ⟨⟨lf, row ++ [d0], wr, _, _, rfl, lf0, ?_, ?_, fun c hc => hwt c (List.mem_cons_of_mem _ hc), ?_, hq3'.mono ?_, tG⟩, ?_⟩
        · rw [run_snoc hrun, stp_close hd2]
        · intro c hc
          rcases List.mem_append.mp hc with z | z
          · exact hkin c z
          · rw [List.mem_singleton.mp z]; exact .inr hd1
        · simp only [List.length_append, List.length_singleton]; omega
        · omega
        · show 2 * lf.toNat + wr.toArray.size < 2 * lf.toNat + (d0 :: wr).toArray.size
          simp only [List.size_toArray, List.length_cons]; omega
    · have hc' : lf ≤ 0 ∧ wt = [] := by simpa using hc
      obtain ⟨e1, rfl⟩ := hc'
      walk_at "go"
      refine q row H5 hrun (by simp at hsum; omega) hkin (hp5.mono (by omega)) s5

theorem sc_law_signs : FnScope ["k"] ["k"] (defScope d_law_signs) := ⟨rfl, rfl, rfl, by decide +kernel, rfl, by decide +kernel, by decide +kernel⟩
theorem ok_law_signs (F : Fun K "_law_signs" "_law_signs" d_law_signs f fd) (T : Txt K mg aK)  : FnOk P w K mg base CX0 (k + 1) f fd ["k"] (spSigns) := by
  refine F.ok sc_law_signs (fun vs H Q E h => ?_) (fun cdv A outer s H vs Q E hr h => ?_)
  · obtain ⟨k, rfl, _⟩ := h; rfl
  obtain ⟨kk, rfl, h1, h2, q⟩ := h
  have hu := hr.units0
  refine ⟨_, (pss_one (ps_ret (pe_op op_plus (pe_slice (sl_A K) (pe_tx (l := [40, 41, 91, 93, 123, 125, 60, 62]) (by decide +kernel)) po_none (po_some (pe_op op_times pe_int (pv 0)))) (pe_tx (l := [63]) (by decide +kernel))))), ?_⟩
  walk_at "go"
  rw [cut_to _ (by omega)]
  have hl : (([40, 41, 91, 93, 123, 125, 60, 62] : List Nat).take (2 * kk).toNat).length ≤ 8 := by rw [List.length_take]; exact Nat.min_le_right _ _
  refine s_addT (small (by rw [List.length_singleton]; omega)) ?_
  exact q

theorem sc_law_bent : FnScope ["pool", "row", "signs", "at", "to", "sign", "way"] ["pool", "row", "signs"] (defScope d_law_bent) := ⟨rfl, rfl, rfl, by decide +kernel, rfl, by decide +kernel, by decide +kernel⟩
theorem ok_law_bent (F : Fun K "_law_bent" "_law_bent" d_law_bent f fd) (T : Txt K mg aK) (U_law_take : FnU P w K mg base k "_law_take" ["pool", "many"] (spTake)) : FnOk P w K mg base CX0 (k + 1) f fd ["pool", "row", "signs"] (spBent) := by
  refine F.ok sc_law_bent (fun vs H Q E h => ?_) (fun cdv A outer s H vs Q E hr h => ?_)
  · obtain ⟨p, n, row, sg, rfl, _⟩ := h; rfl
  obtain ⟨p, n, row, sg, rfl, hp, hn, hrl, hs0, hs1, q⟩ := h
  have hu := hr.units0
  refine ⟨_, (pss_cons (ps_set (i := 3) sc_law_bent.nd rfl (Or.inl rfl) (pe_fn U_law_take hr (pa_cons (pv 0) (pa_cons (pe_op op_plus (pe_callB (call_lenA K) rfl T.n_len PySem.boot_len (pa_cons (pv 1) pa_nil)) pe_int) pa_nil))))  (pss_cons (ps_set (i := 4) sc_law_bent.nd rfl (Or.inl rfl) (pe_op op_plus (pv 3) (pe_fn U_law_take hr (pa_cons (pv 0) (pa_cons pe_int pa_nil)))))  (pss_cons (ps_set (i := 5) sc_law_bent.nd rfl (Or.inl rfl) (pe_ix (ix_A K) (pv 2) (pe_fn U_law_take hr (pa_cons (pv 0) (pa_cons (pe_callB (call_lenA K) rfl T.n_len PySem.boot_len (pa_cons (pv 2) pa_nil)) pa_nil))) (fun _ _ => rfl)))  (pss_cons (ps_set (i := 6) sc_law_bent.nd rfl (Or.inl rfl) (pe_fn U_law_take hr (pa_cons (pv 0) (pa_cons pe_int pa_nil))))  (pss_cons (ps_if (pt_cmpR (op_eqA K hu) (pv 6) pe_int (nomark _))   (pss_one (ps_ret (pe_op op_plus (pe_slice (sl_A K) (pv 1) po_none (po_some (pv 3))) (pe_slice (sl_A K) (pv 1) (po_some (pe_op op_plus (pv 3) pe_int)) po_none))))   pss_nil)  (pss_cons (ps_if (pt_cmpR (op_eqA K hu) (pv 6) pe_int (nomark _))   (pss_one (ps_ret (pe_op op_plus (pe_op op_plus (pe_slice (sl_A K) (pv 1) po_none (po_some (pv 3))) (pv 5)) (pe_slice (sl_A K) (pv 1) (po_some (pv 3)) po_none))))   pss_nil)  (pss_cons (ps_if (pt_cmpR (op_eqA K hu) (pv 6) pe_int (nomark _))   (pss_one (ps_ret (pe_op op_plus (pe_op op_plus (pe_slice (sl_A K) (pv 1) po_none (po_some (pv 3))) (pe_rev K (pe_slice (sl_A K) (pv 1) (po_some (pv 3)) (po_some (pe_op op_plus (pv 3) pe_int))) (pe_un un_neg pe_int))) (pe_slice (sl_A K) (pv 1) (po_some (pe_op op_plus (pv 3) pe_int)) po_none))))   pss_nil)  (pss_cons (ps_if (pt_cmpR (op_eqA K hu) (pv 6) pe_int (nomark _))   (pss_one (ps_ret (pe_op op_plus (pe_slice (sl_A K) (pv 1) po_none (po_some (pv 3))) (pe_slice (sl_A K) (pv 1) (po_some (pv 4)) po_none))))   pss_nil)  (pss_cons (ps_if (pt_cmpR (op_eqA K hu) (pv 6) pe_int (nomark _))   (pss_one (ps_ret (pe_op op_plus (pe_op op_plus (pe_slice (sl_A K) (pv 1) po_none (po_some (pv 3))) (pe_slice (sl_A K) (pv 1) (po_some (pv 3)) (po_some (pv 4)))) (pe_slice (sl_A K) (pv 1) (po_some (pv 3)) po_none))))   pss_nil)  (pss_one (ps_ret (pe_op op_plus (pe_op op_plus (pe_slice (sl_A K) (pv 1) po_none (po_some (pv 3))) (pv 5)) (pe_slice (sl_A K) (pv 1) (po_some (pe_op op_plus (pv 3) pe_int)) po_none))))))))))))), ?_⟩
  walk_at "go"
  refine take_use hp (by omega) (by omega) (by omega) (fun at' H1 a0 a1 hp1 s1 => ?_)
  walk_at "go"
  refine take_use hp1 (by omega) (by omega) (by omega) (fun t0 H2 t00 t01 hp2 s2 => ?_)
  walk_at "go"
  refine take_use hp2 (by omega) (by omega) (by omega) (fun g0 H3 g00 g01 hp3 s3 => ?_)
  obtain ⟨sc, hsc, hsm⟩ := at_mem g00 g01
  walk_at "go"
  refine s_ixT (small (by omega)) hsc ?_
  walk_at "go"
  refine take_use hp3 (by omega) (by omega) (by omega) (fun way H4 w0 w1 hp4 s4 => ?_)
  have sA := (s1.trans s2).trans (s3.trans s4)
  have c1 := cut_le row none (some at')
  have c2 := cut_le row (some (at' + 1)) none
  have c3 := cut_le row (some at') none
  have c4 := cut_le row (some at') (some (at' + 2))
  have c5 := cut_le row (some (at' + 2)) none
  have c6 := cut_le row (some (at' + t0)) none
  have c7 := cut_le row (some at') (some (at' + t0))
  walk_at "go"
  refine ifd (fun hw => ?_) (fun hw => ?_)
  · walk_at "go"
    refine q _ _ (fun c hc => ?_) (by rw [List.length_append]; omega) hp4 sA
    rcases List.mem_append.mp hc with z | z
    · exact .inl (cut_mem z)
    · exact .inl (cut_mem z)
  walk_at "go"
  refine ifd (fun hw => ?_) (fun hw => ?_)
  · walk_at "go"
    first | refine s_addT (small (by rw [List.length_append, List.length_singleton]; omega)) ?_ | skip
    refine q _ _ (fun c hc => ?_) (by rw [List.length_append, List.length_append, List.length_singleton]; omega) hp4 sA
    rcases List.mem_append.mp hc with z | z
    · rcases List.mem_append.mp z with z | z
      · exact .inl (cut_mem z)
      · rw [List.mem_singleton.mp z]; exact .inr hsm
    · exact .inl (cut_mem z)
  walk_at "go"
  refine ifd (fun hw => ?_) (fun hw => ?_)
  · have c8 : (cutL row (some at') (some (at' + 2))).reverse.length ≤ row.length := by rw [List.length_reverse]; exact c4
    walk_at "go"
    first | refine s_addT (small (by rw [List.length_append, List.length_reverse]; omega)) ?_ | skip
    refine q _ _ (fun c hc => ?_) (by rw [List.length_append, List.length_append, List.length_reverse]; omega) hp4 sA
    rcases List.mem_append.mp hc with z | z
    · rcases List.mem_append.mp z with z | z
      · exact .inl (cut_mem z)
      · exact .inl (cut_mem (List.mem_reverse.mp z))
    · exact .inl (cut_mem z)
  walk_at "go"
  refine ifd (fun hw => ?_) (fun hw => ?_)
  · walk_at "go"
    refine q _ _ (fun c hc => ?_) (by rw [List.length_append]; omega) hp4 sA
    rcases List.mem_append.mp hc with z | z
    · exact .inl (cut_mem z)
    · exact .inl (cut_mem z)
  walk_at "go"
  refine ifd (fun hw => ?_) (fun hw => ?_)
  · walk_at "go"
    first | refine s_addT (small (by rw [List.length_append]; omega)) ?_ | skip
    refine q _ _ (fun c hc => ?_) (by rw [List.length_append, List.length_append]; omega) hp4 sA
    rcases List.mem_append.mp hc with z | z
    · rcases List.mem_append.mp z with z | z
      · exact .inl (cut_mem z)
      · exact .inl (cut_mem z)
    · exact .inl (cut_mem z)
  walk_at "go"
  first | refine s_addT (small (by rw [List.length_append, List.length_singleton]; omega)) ?_ | skip
  refine q _ _ (fun c hc => ?_) (by rw [List.length_append, List.length_append, List.length_singleton]; omega) hp4 sA
  rcases List.mem_append.mp hc with z | z
  · rcases List.mem_append.mp z with z | z
    · exact .inl (cut_mem z)
    · rw [List.mem_singleton.mp z]; exact .inr hsm
  · exact .inl (cut_mem z)

theorem sc_law_any_row : FnScope ["pool", "k", "most", "way", "signs", "some", "row"] ["pool", "k", "most"] (defScope d_law_any_row) := ⟨rfl, rfl, rfl, by decide +kernel, rfl, by decide +kernel, by decide +kernel⟩
theorem ok_law_any_row (F : Fun K "_law_any_row" "_law_any_row" d_law_any_row f fd) (T : Txt K mg aK) (U_law_take : FnU P w K mg base k "_law_take" ["pool", "many"] (spTake)) (U_law_signs : FnU P w K mg base k "_law_signs" ["k"] (spSigns)) (U_law_right_row : FnU P w K mg base k "_law_right_row" ["pool", "k", "most"] (spRightRow)) (U_law_bent : FnU P w K mg base k "_law_bent" ["pool", "row", "signs"] (spBent)) : FnOk P w K mg base CX0 (k + 1) f fd ["pool", "k", "most"] (spAnyRow) := by
  refine F.ok sc_law_any_row (fun vs H Q E h => ?_) (fun cdv A outer s H vs Q E hr h => ?_)
  · obtain ⟨p, n, k, most, rfl, _⟩ := h; rfl
  obtain ⟨p, n, kk, most, rfl, hp, hn, hk1, hk4, hm0, hm1, q⟩ := h
  have hu := hr.units0
  refine ⟨_, (pss_cons (ps_set (i := 3) sc_law_any_row.nd rfl (Or.inl rfl) (pe_fn U_law_take hr (pa_cons (pv 0) (pa_cons pe_int pa_nil))))  (pss_cons (ps_set (i := 4) sc_law_any_row.nd rfl (Or.inl rfl) (pe_fn U_law_signs hr (pa_cons (pv 1) pa_nil)))  (pss_cons (ps_if (pt_cmpR op_lt (pv 3) pe_int (nomark _))   (pss_cons (ps_set (i := 5) sc_law_any_row.nd rfl (Or.inr rfl) (pe_ix (ix_A K) (pe_lst (pa_cons (pv 4) (pa_cons (pe_slice (sl_A K) (pv 4) po_none (po_some pe_int)) pa_nil))) (pv 3) (fun _ _ => rfl)))  (pss_one (ps_ret (pe_bmK K PySem.F.plainAttrs_str PySem.F.slot_str_join PySem.F.type_str_join (mt_join K) (pe_tx (l := []) (by decide +kernel)) (pa_cons (pe_comp (own := ["turn"]) (sel := [5, 0]) (compOk_of (osc := (defScope d_law_any_row)) (N := ["pool", "k", "most", "way", "signs", "some", "row"]) (by decide +kernel)) rfl (pi_range1 rfl T.n_range (pa_cons (pe_fn U_law_take hr (pa_cons (pv 0) (pa_cons (pe_op op_plus (pv 2) pe_int) pa_nil))) pa_nil)) (fun _ _ _ _ _ => (pg_name (i := 0) (show (["turn", "some", "pool"] : List Str).Nodup from by decide +kernel) rfl (Or.inl rfl))) (gk_name (by decide)) (fun _ _ _ _ _ => pif_nil) (fun _ _ _ _ _ => (pe_ix (ix_A K) (pv 1) (pe_fn U_law_take hr (pa_cons (pv 2) (pa_cons (pe_callB (call_lenA K) rfl T.n_len PySem.boot_len (pa_cons (pv 1) pa_nil)) pa_nil))) (fun _ _ => rfl)))) pa_nil)))))   pss_nil)  (pss_cons (ps_set (i := 6) sc_law_any_row.nd rfl (Or.inl rfl) (pe_fn U_law_right_row hr (pa_cons (pv 0) (pa_cons (pv 1) (pa_cons (pv 2) pa_nil)))))  (pss_cons (ps_if (pt_cmpR (op_eqA K hu) (pv 3) pe_int (nomark _))   (pss_one (ps_ret (pe_bmK K PySem.F.plainAttrs_str PySem.F.slot_str_join PySem.F.type_str_join (mt_join K) (pe_tx (l := []) (by decide +kernel)) (pa_cons (pe_comp (own := ["sign"]) (sel := [0]) (compOk_of (osc := (defScope d_law_any_row)) (N := ["pool", "k", "most", "way", "signs", "some", "row"]) (by decide +kernel)) rfl (pi_str (pv 6)) (fun _ _ _ _ _ => (pg_name (i := 0) (show (["sign", "pool"] : List Str).Nodup from by decide +kernel) rfl (Or.inl rfl))) (gk_name (by decide)) (fun _ _ _ _ _ => pif_nil) (fun _ _ _ _ _ => (pe_ix (ix_A K) (pe_lst (pa_cons (pv 0) (pa_cons (pe_tx (l := [63]) (by decide +kernel)) pa_nil))) (pe_callTy call_intA rfl T.n_int PyProof.Rows.boot_int (pa_cons (pe_cmpR (op_eqA K hu) (pe_fn U_law_take hr (pa_cons (pv 1) (pa_cons pe_int pa_nil))) pe_int (nomark _)) pa_nil)) (fun _ _ => rfl)))) pa_nil))))   pss_nil)  (pss_cons (ps_if (pt_cmpR (op_eqA K hu) (pv 3) pe_int (nomark _))   (pss_one (ps_ret (pe_slice (sl_A K) (pe_fn U_law_bent hr (pa_cons (pv 0) (pa_cons (pv 6) (pa_cons (pv 4) pa_nil)))) po_none (po_some (pv 2)))))   pss_nil)  (pss_one (ps_ret (pv 6))))))))), ?_⟩
  walk_at "go"
  refine take_use hp (by omega) (by omega) (by omega) (fun way H1 w0 w1 hp1 s1 => ?_)
  walk_at "go"
  refine signs_use hk1 hk4 ?_
  have hsl := sgs_len hk1 hk4
  walk_at "go"
  refine ifd (fun hw => ?_) (fun hw => ?_)
  · walk_at "go"
    have hc2 : cutL (sgs kk) none (some 2) = (sgs kk).take 2 := cut_to _ (by decide)
    refine ⟨small (show 2 ≤ 1000 by decide), fun a1 ha1 => ?_⟩
    obtain ⟨some', hsome, hs0, hs1, hsin⟩ : ∃ l : List Nat, atI [tx (sgs kk), tx (cutL (sgs kk) none (some 2))] way = some (tx l) ∧ 0 < l.length ∧ l.length ≤ 9 ∧ ∀ c ∈ l, c ∈ sgs kk := by
      have : way = 0 ∨ way = 1 := by omega
      rcases this with rfl | rfl
      · exact ⟨_, rfl, by omega, by omega, fun c hc => hc⟩
      · refine ⟨_, rfl, ?_, ?_, fun c hc => cut_mem hc⟩
        · rw [hc2, List.length_take]; omega
        · rw [hc2, List.length_take]; omega
    walk_at "st"
    refine s_ixL (SqL.of upd_same) hsome ?_
    have hp1' := hp1.same (same_new ha1 (.lst [tx (sgs kk), tx (cutL (sgs kk) none (some 2))]))
    walk_at "go"
    refine take_use hp1' (by omega) (by omega) (by omega) (fun m H2 m0 m1 hp2 s2 => ?_)
    refine ⟨m, rfl, by omega, by omega, ?_⟩
    have sH2 : SameBut1 p H H2 := (s1.trans (SameBut1.of (same_new ha1 _))).trans s2
    refine comp_rng (small (by omega)) (fun D i ys H' => ∃ row : List Nat, ys = ((row.map fun c => [c]).map tx) ∧ row.length = i ∧ (∀ c ∈ row, c ∈ sgs kk) ∧ PoolAt H' p (n + 2 + i) ∧ ∀ b o, H b = some o → b ≠ p → H' b = some o) (fun D hD => ⟨[], rfl, rfl, (fun _ z => nomatch z), hp2.same (same_new hD _), fun b o z zn => same_new hD _ b o (sH2 b o z zn)⟩) (fun D ys H' hD hD' ⟨row, e, hrl, hrs, hpo, sH⟩ => ?_) ?_
    · subst e
      walk_at "go"
      refine s_join (SqL.of hD') (by rw [flat_ones, List.length_map]; omega) ?_
      rw [flat_ones]
      exact q _ _ (by omega) (fun c hc => sgs_sgn hk1 hk4 (hrs c hc)) (hpo.mono (by omega)) sH
    · rintro D i ys H' hD hi hD' hl ⟨row, e, hrl, hrs, hpo, sH⟩
      have hDp : D ≠ p := hp2.ne hD
      walk_at "go"
      refine iteT ?_
      walk_at "go"
      refine take_use hpo (by omega) (by omega) (by omega) (fun j H4 j0 j1 hp4 s4 => ?_)
      obtain ⟨c, hc, hcm⟩ := at_mem j0 j1
      refine s_ixT (small (by omega)) hc ?_
      refine comp_next hi (small (by omega)) (s4 _ _ hD' hDp) hl ⟨row ++ [c], ?_, ?_, ?_, ?_, ?_⟩
      · rw [e, List.map_append, List.map_append]; rfl
      · rw [List.length_append, List.length_singleton]; omega
      · intro d hd
        rcases List.mem_append.mp hd with z | z
        · exact hrs d z
        · rw [List.mem_singleton.mp z]; exact hsin c hcm
      · obtain ⟨x, y, z, e4, h1, h2⟩ := hp4
        exact ⟨x, y, z, by rw [upd_ne hDp.symm]; exact e4, h1, by omega⟩
      · intro b o z zn
        have := sH b o z zn
        rw [upd_ne (fun eq => ?_)]
        · exact s4 b o this zn
        · subst eq
          have z2 := sH2 b o z zn
          rw [hD] at z2
          cases z2
  · walk_at "go"
    refine right_use hp1 (by omega) hk1 hk4 hm0 hm1 (fun row H2 hR hlen hkin hpo2 s2 => ?_)
    have sH2 := s1.trans s2
    have hrl : row.length ≤ 40 := by omega
    walk_at "go"
    refine ifd (fun hw2 => ?_) (fun hw2 => ?_)
    · walk_at "go"
      refine comp_str (small (by omega)) (fun D i ys H' => ∃ rw' : List Nat, ys = ((rw'.map fun c => [c]).map tx) ∧ rw'.length = i ∧ (∀ c ∈ rw', c ∈ sgn kk) ∧ PoolAt H' p (n + 201 + i) ∧ ∀ b o, H b = some o → b ≠ p → H' b = some o) (fun D hD => ⟨[], rfl, rfl, (fun _ z => nomatch z), (hpo2.same (same_new hD _)).mono (by omega), fun b o z zn => same_new hD _ b o (sH2 b o z zn)⟩) (fun D ys H' hD hD' ⟨rw', e, hrl', hrs, hpo, sH⟩ => ?_) ?_
      · subst e
        walk_at "go"
        refine s_join (SqL.of hD') (by rw [flat_ones, List.length_map]; omega) ?_
        rw [flat_ones]
        exact q _ _ (by omega) hrs (hpo.mono (by omega)) sH
      · rintro D i c ys H' hD ec hi hD' hl ⟨rw', e, hrl', hrs, hpo, sH⟩
        have hDp : D ≠ p := hpo2.ne hD
        walk_at "go"
        refine iteT ?_
        walk_at "go"
        refine ⟨small (show 2 ≤ 1000 by decide), fun a1 ha1 => ?_⟩
        have t1 := same_new ha1 (.lst [tx [c], tx [63]])
        have hpo' := hpo.same t1
        walk_at "go"
        refine take_use hpo' (by omega) (by omega) (by omega) (fun j H4 j0 j1 hp4 s4 => ?_)
        have ha1p : a1 ≠ p := hpo.ne ha1
        have hl4 := s4 _ _ (upd_same (H := H') (a := a1)) ha1p
        walk_at "go"
        obtain ⟨d, hd, hdm⟩ : ∃ d, atI [tx [c], tx [63]] (if decide (j = 0) then 1 else 0) = some (tx [d]) ∧ d ∈ sgn kk := by
          by_cases hj : j = 0
          · exact ⟨63, by simp only [hj, decide_true]; rfl, List.mem_append_right _ (List.mem_singleton.mpr rfl)⟩
          · exact ⟨c, by simp only [hj, decide_false]; rfl, kin_sgn (hkin c (List.mem_of_getElem? ec))⟩
        refine s_ixL (SqL.of hl4) hd ?_
        refine comp_next hi (small (by omega)) (s4 _ _ (t1 _ _ hD') hDp) hl ⟨rw' ++ [d], ?_, ?_, ?_, ?_, ?_⟩
        · rw [e, List.map_append, List.map_append]; rfl
        · rw [List.length_append, List.length_singleton]; omega
        · intro d' hd'
          rcases List.mem_append.mp hd' with z | z
          · exact hrs d' z
          · rw [List.mem_singleton.mp z]; exact hdm
        · obtain ⟨x, y, z, e4, h1, h2⟩ := hp4
          exact ⟨x, y, z, by rw [upd_ne hDp.symm]; exact e4, h1, by omega⟩
        · intro b o z zn
          have := t1 _ _ (sH b o z zn)
          rw [upd_ne (fun eq => ?_)]
          · exact s4 b o this zn
          · subst eq
            have z2 := sH2 b o z zn
            rw [hD] at z2
            cases z2
    · walk_at "go"
      refine ifd (fun hw3 => ?_) (fun hw3 => ?_)
      · walk_at "go"
        refine bent_use hpo2 (by omega) hrl (by omega) (by omega) (fun row' H3 hmem hl3 hpo3 s3 => ?_)
        walk_at "go"
        have hct : cutL row' none (some most) = row'.take most.toNat := cut_to _ hm0
        rw [hct]
        refine q _ _ (by rw [List.length_take]; omega) (fun c hc => ?_) (hpo3.mono (by omega)) (sH2.trans s3)
        rcases hmem c (List.mem_of_mem_take hc) with z | z
        · exact kin_sgn (hkin c z)
        · exact sgs_sgn hk1 hk4 z
      · walk_at "go"
        exact q row _ hlen (fun c hc => kin_sgn (hkin c hc)) (hpo2.mono (by omega)) sH2

theorem sc_law_is_row : FnScope ["k", "thing"] ["k", "thing"] (defScope d_law_is_row) := ⟨rfl, rfl, rfl, by decide +kernel, rfl, by decide +kernel, by decide +kernel⟩
theorem ok_law_is_row (F : Fun K "_law_is_row" "_law_is_row" d_law_is_row f fd) (T : Txt K mg aK) (U_law_signs : FnU P w K mg base k "_law_signs" ["k"] (spSigns)) : FnOk P w K mg base CX0 (k + 1) f fd ["k", "thing"] (spIsRow) := by
  refine F.ok sc_law_is_row (fun vs H Q E h => ?_) (fun cdv A outer s H vs Q E hr h => ?_)
  · obtain ⟨k, v, p, rfl, _⟩ := h; rfl
  obtain ⟨kk, v, p, rfl, hk1, hk4, th, q⟩ := h
  have hu := hr.units0
  refine ⟨_, (pss_cons (ps_if (PW.pt (pw_or (pt_not (pt_tru K (pe_callB (call_isiA K) rfl T.n_isinstance PyProof.Rows.boot_isinstance (pa_cons (pv 1) (pa_cons (pe_ty T.n_str PyProof.Rows.boot_str) pa_nil))))) (pw_or1 (pt_cmpR op_gt (pe_callB (call_lenA K) rfl T.n_len PySem.boot_len (pa_cons (pv 1) pa_nil)) pe_int (nomark _)))))   (pss_one (ps_ret pe_bl))   pss_nil)  (pss_one (ps_ret (pe_cmpR (op_eqA K hu) (pe_comp (own := ["sign"]) (sel := [0]) (compOk_of (osc := (defScope d_law_is_row)) (N := ["k", "thing"]) (by decide +kernel)) rfl (pi_str (pv 1)) (fun _ _ _ _ _ => (pg_name (i := 0) (show (["sign", "k"] : List Str).Nodup from by decide +kernel) rfl (Or.inl rfl))) (gk_name (by decide)) (fun _ _ _ _ _ => pif_one (pt_cmpR (op_notinA K) (pv 0) (pe_fn U_law_signs hr (pa_cons (pv 1) pa_nil)) (by with_unfolding_all rfl))) (fun _ _ _ _ _ => (pv 0))) (pe_lst pa_nil) (nomark _))))), ?_⟩
  walk_at "go"
  rcases th.kind (K := K) with ⟨a, rfl, hf⟩ | ⟨ty, hT, hp, hs⟩
  · have hal := hf.2
    refine s_isi (b := true) (TyOf.str _) (by with_unfolding_all rfl) ?_
    walk_at "go"
    refine ifq rfl ?_
    walk_at "go"
    first | refine s_lenT (small2 (by omega)) ?_ | skip
    walk_at "go"
    refine ifd (fun hc => ?_) (fun hc => ?_)
    · walk_at "go"
      have e : rowV kk (tx a) = false := by rw [rowV_tx]; unfold isRow; rw [decide_eq_false (by omega), Bool.false_and]
      have := q H (Same.refl H)
      rw [e] at this
      exact this
    · walk_at "go"
      refine comp_str (small (by omega)) (fun D i ys H' => ys = ((a.take i).filter fun c => !decide (c ∈ sgs kk)).map (fun c => tx [c]) ∧ SameBut1 D H H') (fun D hD => ⟨rfl, SameBut1.of (same_new hD _)⟩) (fun D ys H' hD hy ⟨e, s2⟩ => ?_) ?_
      · subst e
        rw [List.take_length] at hy
        walk_at "go"
        refine ⟨small (show 0 ≤ 1000 by decide), fun l2 hl2 => ?_⟩
        have s3 : Same H H' := fun b o z => s2 b o z (ne_of_none z hD)
        have t3 := same_new hl2 (.lst [])
        have hy2 : H' D = some (.lst ((((a.filter fun c => !decide (c ∈ sgs kk)).map fun c => [c])).map tx)) := by rw [hy, List.map_map]; rfl
        refine s_eqL (SqL.of (t3 _ _ hy2)) (SqL.of upd_same) (flat_txs _) rfl ?_
        have e2 : eqVs ((((a.filter fun c => !decide (c ∈ sgs kk)).map fun c => [c])).map tx) [] = rowV kk (tx a) := by
          rw [rowV_tx]
          unfold isRow
          rw [decide_eq_true (by omega), Bool.true_and]
          cases ef : a.filter fun c => !decide (c ∈ sgs kk) with
          | nil =>
            symm
            show a.all _ = true
            rw [List.all_eq_true]
            intro c hc
            have := List.filter_eq_nil_iff.mp ef c hc
            refine decide_eq_true ((sgs_iff hk1 hk4).mp ?_)
            simpa using this
          | cons c r =>
            have hm : c ∈ a.filter fun c => !decide (c ∈ sgs kk) := by rw [ef]; exact List.mem_cons_self
            obtain ⟨h1, h2⟩ := List.mem_filter.mp hm
            have h3 : c ∉ sgs kk := by simpa using h2
            symm
            show a.all _ = false
            rw [List.all_eq_false]
            exact ⟨c, h1, by simpa using fun z => h3 ((sgs_iff hk1 hk4).mpr z)⟩
        rw [e2]
        exact q _ (s3.trans t3)
      · rintro D i c ys H' hD hc hi hy hl ⟨e, s2⟩
        walk_at "go"
        refine signs_use hk1 hk4 ?_
        walk_at "go"
        have eT : (a.take (i + 1)).filter (fun c => !decide (c ∈ sgs kk)) = (a.take i).filter (fun c => !decide (c ∈ sgs kk)) ++ (if c ∈ sgs kk then [] else [c]) := by
          rw [List.take_add_one, hc, List.filter_append]
          congr 1
          by_cases z : c ∈ sgs kk
          · rw [if_pos z]; simp [z]
          · rw [if_neg z]; simp [z]
        refine ite2 (fun hb => ?_) (fun hb => ?_)
        · have hb' : c ∉ sgs kk := by simpa using hb
          walk_at "go"
          refine comp_next hi (small (by omega)) hy hl ⟨?_, s2.trans SameBut1.upd⟩
          rw [e, eT, if_neg hb', List.map_append]; rfl
        · have hb' : c ∈ sgs kk := by simpa using hb
          refine comp_skip hi hy hl ⟨?_, s2⟩
          rw [e, eT, if_pos hb', List.append_nil]
  · have hp' : ty = "NoneType" ∨ ty = "bool" ∨ ty = "int" ∨ ty = "str" ∨ ty = "list" ∨ ty = "tuple" ∨ ty = "dict" := by simpa [plainTy] using hp
    have fin : PySem.W.kitOne K (.type ty) (.type "str") = some false := by
      rcases hp' with rfl | rfl | rfl | rfl | rfl | rfl | rfl <;> first | (exact absurd rfl hs) | with_unfolding_all rfl
    refine s_isi (b := false) hT fin ?_
    walk_at "go"
    refine ifp rfl ?_
    walk_at "go"
    refine ifp rfl ?_
    walk_at "go"
    have e : rowV kk v = false := by
      cases v with
      | str x => cases hT; exact absurd rfl hs
      | _ => rfl
    have := q H (Same.refl H)
    rw [e] at this
    exact this

theorem sc_law_no_row : FnScope ["pool", "k", "row", "at", "signs", "sign", "other", "some"] ["pool", "k", "row"] (defScope d_law_no_row) := ⟨rfl, rfl, rfl, by decide +kernel, rfl, by decide +kernel, by decide +kernel⟩
theorem ok_law_no_row (F : Fun K "_law_no_row" "_law_no_row" d_law_no_row f fd) (T : Txt K mg aK) (U_law_take : FnU P w K mg base k "_law_take" ["pool", "many"] (spTake)) : FnOk P w K mg base CX0 (k + 1) f fd ["pool", "k", "row"] (spNoRow) := by
  refine F.ok sc_law_no_row (fun vs H Q E h => ?_) (fun cdv A outer s H vs Q E hr h => ?_)
  · obtain ⟨p, n, k, a, rfl, _⟩ := h; rfl
  obtain ⟨p, n, kk, a, rfl, hp, hn, ha, hlo, q⟩ := h
  have hu := hr.units0
  refine ⟨_, (pss_cons (ps_set (i := 3) sc_law_no_row.nd rfl (Or.inl rfl) (pe_fn U_law_take hr (pa_cons (pv 0) (pa_cons (pe_op op_plus (pe_callB (call_lenA K) rfl T.n_len PySem.boot_len (pa_cons (pv 2) pa_nil)) pe_int) pa_nil))))  (pss_cons (ps_set (i := 4) sc_law_no_row.nd rfl (Or.inl rfl) (pe_tx (l := [33, 34, 35, 36, 38, 39, 42, 43, 44, 45, 46, 47, 48, 49, 50, 51, 52, 53, 54, 55, 56, 57, 58, 59, 61, 64, 65, 66, 67, 68, 69, 70, 71, 72, 73, 74, 75, 76, 77, 78, 79, 80, 81, 82, 83, 84, 85, 86, 87, 88, 89, 90, 92, 94, 95, 96, 97, 98, 99, 100, 101, 102, 103, 104, 105, 106, 107, 108, 109, 110, 111, 112, 113, 114, 115, 116, 117, 118, 119, 120, 121, 122, 124, 126, 32, 9, 10]) (by decide +kernel)))  (pss_cons (ps_set (i := 5) sc_law_no_row.nd rfl (Or.inl rfl) (pe_ix (ix_A K) (pv 4) (pe_fn U_law_take hr (pa_cons (pv 0) (pa_cons (pe_callB (call_lenA K) rfl T.n_len PySem.boot_len (pa_cons (pv 4) pa_nil)) pa_nil))) (fun _ _ => rfl)))  (pss_cons (ps_set (i := 6) sc_law_no_row.nd rfl (Or.inl rfl) (pe_ix (ix_A K) (pe_tx (l := [40, 41, 91, 93, 123, 125, 60, 62]) (by decide +kernel)) (pe_fn U_law_take hr (pa_cons (pv 0) (pa_cons pe_int pa_nil))) (fun _ _ => rfl)))  (pss_cons (ps_set (i := 7) sc_law_no_row.nd rfl (Or.inl rfl) (pe_op op_times (pe_lst (pa_cons (pe_op op_plus (pe_op op_plus (pe_slice (sl_A K) (pv 2) po_none (po_some (pv 3))) (pv 5)) (pe_slice (sl_A K) (pv 2) (po_some (pe_op op_plus (pv 3) pe_int)) po_none)) pa_nil)) pe_int))  (pss_cons (ps_set (i := 7) sc_law_no_row.nd rfl (Or.inl rfl) (pe_op op_plus (pv 7) (pe_op op_times (pe_lst (pa_cons (pe_op op_plus (pe_op op_plus (pe_slice (sl_A K) (pv 2) po_none (po_some (pv 3))) (pv 5)) (pe_slice (sl_A K) (pv 2) (po_some (pv 3)) po_none)) pa_nil)) pe_int)))  (pss_cons (ps_set (i := 7) sc_law_no_row.nd rfl (Or.inl rfl) (pe_op op_plus (pv 7) (pe_op op_times (pe_lst (pa_cons (pe_op op_plus (pe_op op_plus (pe_slice (sl_A K) (pv 2) po_none (po_some (pv 3))) (pv 6)) (pe_slice (sl_A K) (pv 2) (po_some (pe_op op_plus (pv 3) pe_int)) po_none)) pa_nil)) pe_int)))  (pss_cons (ps_set (i := 7) sc_law_no_row.nd rfl (Or.inl rfl) (pe_op op_plus (pv 7) (pe_lst (pa_cons (pe_op op_plus (pe_op op_plus (pv 2) (pe_op op_times (pe_tx (l := [40, 41]) (by decide +kernel)) pe_int)) (pe_tx (l := [63]) (by decide +kernel))) (pa_cons (pe_op op_times (pe_tx (l := [63]) (by decide +kernel)) pe_int) (pa_cons (pe_op op_times (pe_tx (l := [40]) (by decide +kernel)) pe_int) (pa_cons (pe_op op_plus (pv 2) (pe_tx (l := [32]) (by decide +kernel))) (pa_cons (pe_op op_plus (pe_tx (l := [10]) (by decide +kernel)) (pv 2)) (pa_cons pe_non (pa_cons pe_int (pa_cons pe_bl (pa_cons (pe_lst (pa_cons (pv 2) pa_nil)) (pa_cons (pe_tup (pa_cons (pv 2) pa_nil)) pa_nil)))))))))))))  (pss_cons (ps_set (i := 7) sc_law_no_row.nd rfl (Or.inl rfl) (pe_op op_plus (pv 7) (pe_lst (pa_cons (pe_callTy (call_listS K rfl) rfl T.n_list PyProof.Rows.boot_list (pa_cons (pv 2) pa_nil)) (pa_cons pe_dnewK (pa_cons (pe_disp (pps_cons (pv 2) pe_int pps_nil) rfl rfl (by intro h; cases h) (by decide)) (pa_cons (pe_lst pa_nil) (pa_cons pe_int pa_nil))))))))  (pss_one (ps_ret (pe_ix (ix_A K) (pv 7) (pe_fn U_law_take hr (pa_cons (pv 0) (pa_cons pe_int pa_nil))) (fun _ _ => rfl))))))))))))), ?_⟩
  walk_at "go"
  refine take_use hp (by omega) (by omega) (by omega) (fun r1 H1 r10 r11 hp1 s1 => ?_)
  obtain ⟨at', hat⟩ : ∃ at' : Nat, r1 = at' := ⟨r1.toNat, by omega⟩
  subst hat
  walk_at "go"
  refine s_lenT (a := odd) (small (by decide)) ?_
  walk_at "go"
  refine take_use (m := ((odd.length : Nat) : Int)) hp1 (by omega) (by decide) (by decide) (fun r2 H2 r20 r21 hp2 s2 => ?_)
  obtain ⟨c, hc, hcm⟩ := at_mem (l := odd) r20 r21
  walk_at "go"
  refine s_ixT (a := odd) (small (by decide)) hc ?_
  walk_at "go"
  refine take_use (m := 8) hp2 (by omega) (by decide) (by decide) (fun r3 H3 r30 r31 hp3 s3 => ?_)
  obtain ⟨d, hd, hdm⟩ := at_mem (l := [40, 41, 91, 93, 123, 125, 60, 62]) r30 r31
  walk_at "go"
  refine s_ixT (small (by decide)) hd ?_
  have hc8 := odd_low c hcm
  have hd8 := brs_low d hdm
  have lt1 : (a.take at').length ≤ 40 := by rw [List.length_take]; omega
  have lt2 : (a.drop (at' + 1)).length ≤ 40 := by rw [List.length_drop]; omega
  have lt3 : (a.drop at').length ≤ 40 := by rw [List.length_drop]; omega
  have ea1 : ((at' : Int) + 1) = ((at' + 1 : Nat) : Int) := by omega
  have u3 : SameBut1 p H H3 := s1.trans (s2.trans s3)
  -- the first four
  walk_at "go"
  rw [cut_to _ (by omega), Int.toNat_natCast]
  first | refine s_addT (small (by rw [List.length_singleton]; omega)) ?_ | skip
  walk_at "go"
  rw [ea1, cut_from]
  first | refine s_addT (small (by rw [List.length_append, List.length_singleton]; omega)) ?_ | skip
  walk_at "go"
  refine ⟨small (show 1 ≤ 1000 by decide), fun l1 hl1 => ?_⟩
  walk_at "go"
  refine s_rep (xs := [tx (a.take at' ++ [c] ++ a.drop (at' + 1))]) upd_same (by decide) (by decide) (small (by simp)) (fun l2 hl2 => ?_)
  have t2 := (same_new hl1 (.lst [tx (a.take at' ++ [c] ++ a.drop (at' + 1))])).trans (same_new hl2 (.lst (List.replicate (4 : Int).toNat [tx (a.take at' ++ [c] ++ a.drop (at' + 1))]).flatten))
  have hL2 : (upd (upd H3 l1 (.lst [tx (a.take at' ++ [c] ++ a.drop (at' + 1))])) l2 (.lst (List.replicate (4 : Int).toNat [tx (a.take at' ++ [c] ++ a.drop (at' + 1))]).flatten)) l2 = some (.lst [tx (a.take at' ++ [c] ++ a.drop (at' + 1)), tx (a.take at' ++ [c] ++ a.drop (at' + 1)), tx (a.take at' ++ [c] ++ a.drop (at' + 1)), tx (a.take at' ++ [c] ++ a.drop (at' + 1))]) := upd_same
  have f1 : Fine (a.take at' ++ [c] ++ a.drop (at' + 1)) := fine_put hlo ha hc8
  generalize upd (upd H3 l1 _) l2 _ = G1 at *
  have A1 : ∀ v ∈ [tx (a.take at' ++ [c] ++ a.drop (at' + 1)), tx (a.take at' ++ [c] ++ a.drop (at' + 1)), tx (a.take at' ++ [c] ++ a.drop (at' + 1)), tx (a.take at' ++ [c] ++ a.drop (at' + 1))], Th p G1 v := all_cons (.txt _ f1) (all_cons (.txt _ f1) (all_cons (.txt _ f1) (all_cons (.txt _ f1) all_nil)))
  have B1 : ∀ v ∈ [tx (a.take at' ++ [c] ++ a.drop (at' + 1)), tx (a.take at' ++ [c] ++ a.drop (at' + 1)), tx (a.take at' ++ [c] ++ a.drop (at' + 1)), tx (a.take at' ++ [c] ++ a.drop (at' + 1))], Nw H v := nall_cons (nw_tx _ _) (nall_cons (nw_tx _ _) (nall_cons (nw_tx _ _) (nall_cons (nw_tx _ _) nall_nil)))
  have n1 : [tx (a.take at' ++ [c] ++ a.drop (at' + 1)), tx (a.take at' ++ [c] ++ a.drop (at' + 1)), tx (a.take at' ++ [c] ++ a.drop (at' + 1)), tx (a.take at' ++ [c] ++ a.drop (at' + 1))].length = 4 := rfl
  generalize [tx (a.take at' ++ [c] ++ a.drop (at' + 1)), tx (a.take at' ++ [c] ++ a.drop (at' + 1)), tx (a.take at' ++ [c] ++ a.drop (at' + 1)), tx (a.take at' ++ [c] ++ a.drop (at' + 1))] = L1 at *
  have w1 : SameBut1 p H G1 := u3.trans (SameBut1.of t2)
  have p1 : PoolAt G1 p (n + 3) := hp3.same t2
  clear t2 hl1 hl2
  -- two more
  walk_at "go"
  rw [cut_to _ (by omega), Int.toNat_natCast]
  first | refine s_addT (small (by rw [List.length_singleton]; omega)) ?_ | skip
  walk_at "go"
  rw [cut_from]
  first | refine s_addT (small (by rw [List.length_append, List.length_singleton]; omega)) ?_ | skip
  walk_at "go"
  have f2 : Fine (a.take at' ++ [c] ++ a.drop at') := fine_put hlo ha hc8
  generalize a.take at' ++ [c] ++ a.drop at' = b2 at f2 ⊢
  refine ⟨small (show 1 ≤ 1000 by decide), fun l3 hl3 => ?_⟩
  walk_at "go"
  refine s_rep (xs := [tx b2]) upd_same (by decide) (by decide) (small (by simp)) (fun l4 hl4 => ?_)
  have t4 := (same_new hl3 (.lst [tx b2])).trans (same_new hl4 (.lst (List.replicate (2 : Int).toNat [tx b2]).flatten))
  have hL4 : (upd (upd G1 l3 (.lst [tx b2])) l4 (.lst (List.replicate (2 : Int).toNat [tx b2]).flatten)) l4 = some (.lst [tx b2, tx b2]) := upd_same
  generalize upd (upd G1 l3 _) l4 _ = G2 at *
  walk_at "go"
  refine s_cat (t4 _ _ hL2) hL4 (small (by rw [n1]; simp)) (fun l5 hl5 => ?_)
  have t5 := t4.trans (same_new hl5 (.lst (L1 ++ [tx b2, tx b2])))
  have hL5 : (upd G2 l5 (.lst (L1 ++ [tx b2, tx b2]))) l5 = some (.lst (L1 ++ [tx b2, tx b2])) := upd_same
  generalize upd G2 l5 _ = G3 at *
  have A3 : ∀ v ∈ L1 ++ [tx b2, tx b2], Th p G3 v := all_app (all_same A1 t5) (all_cons (.txt _ f2) (all_cons (.txt _ f2) all_nil))
  have B3 : ∀ v ∈ L1 ++ [tx b2, tx b2], Nw H v := nall_app B1 (nall_cons (nw_tx _ _) (nall_cons (nw_tx _ _) nall_nil))
  have n3 : (L1 ++ [tx b2, tx b2]).length = 6 := by rw [List.length_append, n1]; rfl
  generalize L1 ++ [tx b2, tx b2] = L3 at *
  have w3 : SameBut1 p H G3 := w1.trans (SameBut1.of t5)
  have p3 : PoolAt G3 p (n + 3) := p1.same t5
  clear A1 t4 t5 hL2 hL4 w1 p1 hl3 hl4 hl5
  -- two more
  walk_at "go"
  rw [cut_to _ (by omega), Int.toNat_natCast]
  first | refine s_addT (small (by rw [List.length_singleton]; omega)) ?_ | skip
  walk_at "go"
  rw [ea1, cut_from]
  first | refine s_addT (small (by rw [List.length_append, List.length_singleton]; omega)) ?_ | skip
  walk_at "go"
  have f4 : Fine (a.take at' ++ [d] ++ a.drop (at' + 1)) := fine_put hlo ha hd8
  generalize a.take at' ++ [d] ++ a.drop (at' + 1) = b4 at f4 ⊢
  refine ⟨small (show 1 ≤ 1000 by decide), fun l3 hl3 => ?_⟩
  walk_at "go"
  refine s_rep (xs := [tx b4]) upd_same (by decide) (by decide) (small (by simp)) (fun l4 hl4 => ?_)
  have t4 := (same_new hl3 (.lst [tx b4])).trans (same_new hl4 (.lst (List.replicate (2 : Int).toNat [tx b4]).flatten))
  have hL4 : (upd (upd G3 l3 (.lst [tx b4])) l4 (.lst (List.replicate (2 : Int).toNat [tx b4]).flatten)) l4 = some (.lst [tx b4, tx b4]) := upd_same
  generalize upd (upd G3 l3 _) l4 _ = G4 at *
  walk_at "go"
  refine s_cat (t4 _ _ hL5) hL4 (small (by rw [n3]; simp)) (fun l6 hl6 => ?_)
  have t5 := t4.trans (same_new hl6 (.lst (L3 ++ [tx b4, tx b4])))
  have hL6 : (upd G4 l6 (.lst (L3 ++ [tx b4, tx b4]))) l6 = some (.lst (L3 ++ [tx b4, tx b4])) := upd_same
  generalize upd G4 l6 _ = G5 at *
  have A5 : ∀ v ∈ L3 ++ [tx b4, tx b4], Th p G5 v := all_app (all_same A3 t5) (all_cons (.txt _ f4) (all_cons (.txt _ f4) all_nil))
  have B5 : ∀ v ∈ L3 ++ [tx b4, tx b4], Nw H v := nall_app B3 (nall_cons (nw_tx _ _) (nall_cons (nw_tx _ _) nall_nil))
  have n5 : (L3 ++ [tx b4, tx b4]).length = 8 := by rw [List.length_append, n3]; rfl
  generalize L3 ++ [tx b4, tx b4] = L5 at *
  have w5 : SameBut1 p H G5 := w3.trans (SameBut1.of t5)
  have p5 : PoolAt G5 p (n + 3) := p3.same t5
  clear A3 t4 t5 hL5 hL4 w3 p3 hl3 hl4 hl6
  -- ten more
  have fa : Fine a := ⟨hlo, by omega⟩
  walk_at "go"
  refine s_mulT (by decide) (by decide) (by decide) ?_
  walk_at "go"
  have g1 : (List.replicate (20 : Int).toNat [40, 41]).flatten.length = 40 := by rw [rep_len]; rfl
  have g1l : Low (List.replicate (20 : Int).toNat [40, 41]).flatten := low_rep (by unfold Low; decide)
  generalize (List.replicate (20 : Int).toNat [40, 41]).flatten = c1 at g1 g1l ⊢
  first | refine s_addT (small (by omega)) ?_ | skip
  walk_at "go"
  first | refine s_addT (small (by rw [List.length_append, List.length_singleton]; omega)) ?_ | skip
  walk_at "go"
  have h1 : Fine (a ++ c1 ++ [63]) := ⟨low_app (low_app hlo g1l) (low_one (by decide)), by simp only [List.length_append, List.length_singleton]; omega⟩
  generalize a ++ c1 ++ [63] = e1 at h1 ⊢
  refine s_mulT (by decide) (by decide) (by decide) ?_
  walk_at "go"
  have h2 : Fine (List.replicate (41 : Int).toNat [63]).flatten := ⟨low_rep (by unfold Low; decide), by rw [rep_len]; decide⟩
  generalize (List.replicate (41 : Int).toNat [63]).flatten = e2 at h2 ⊢
  refine s_mulT (by decide) (by decide) (by decide) ?_
  walk_at "go"
  have h3 : Fine (List.replicate (41 : Int).toNat [40]).flatten := ⟨low_rep (by unfold Low; decide), by rw [rep_len]; decide⟩
  generalize (List.replicate (41 : Int).toNat [40]).flatten = e3 at h3 ⊢
  first | refine s_addT (small (by rw [List.length_singleton]; omega)) ?_ | skip
  walk_at "go"
  have h4 : Fine (a ++ [32]) := ⟨low_app hlo (low_one (by decide)), by simp only [List.length_append, List.length_singleton]; omega⟩
  have h5 : Fine ([10] ++ a) := ⟨low_app (low_one (by decide)) hlo, by simp only [List.length_append, List.length_singleton]; omega⟩
  first | refine s_addT (small (by rw [List.length_singleton]; omega)) ?_ | skip
  walk_at "go"
  refine ⟨small (show 1 ≤ 1000 by decide), fun q1 hq1 => ?_⟩
  walk_at "go"
  refine ⟨small (show 1 ≤ 1000 by decide), fun q2 hq2 => ?_⟩
  walk_at "go"
  refine ⟨small (show 10 ≤ 1000 by decide), fun l7 hl7 => ?_⟩
  have np : ∀ {G : Hp} {x : Addr}, PoolAt G p (n + 3) → G x = none → x ≠ p := fun h hx => h.ne hx
  have z1 : Nw H (V.ref q1) := nw_ref w5 hq1 (np p5 hq1)
  have k1 := same_new hq1 (.lst [tx a])
  have k2 := same_new hq2 (.tup [tx a])
  have nq1 := np p5 hq1
  have nq2 := np (p5.same k1) hq2
  have z2 : Nw H (V.ref q2) := nw_ref (w5.trans (SameBut1.of k1)) hq2 nq2
  have k3 := same_new hl7 (.lst [tx e1, tx e2, tx e3, tx (a ++ [32]), tx ([10] ++ a), .non, .int 0, .bl true, .ref q1, .ref q2])
  have v1 := k3 _ _ (k2 _ _ (upd_same (H := G5) (a := q1) (o := .lst [tx a])))
  have v2 := k3 _ _ (upd_same (H := upd G5 q1 (.lst [tx a])) (a := q2) (o := .tup [tx a]))
  have v3 := upd_same (H := upd (upd G5 q1 (.lst [tx a])) q2 (.tup [tx a])) (a := l7) (o := .lst [tx e1, tx e2, tx e3, tx (a ++ [32]), tx ([10] ++ a), .non, .int 0, .bl true, .ref q1, .ref q2])
  have k4 := (k1.trans k2).trans k3
  generalize upd (upd (upd G5 q1 _) q2 _) l7 _ = G6 at *
  walk_at "go"
  refine s_cat (k4 _ _ hL6) v3 (small (by rw [n5]; simp)) (fun l8 hl8 => ?_)
  have k5 := same_new hl8 (.lst (L5 ++ [tx e1, tx e2, tx e3, tx (a ++ [32]), tx ([10] ++ a), .non, .int 0, .bl true, .ref q1, .ref q2]))
  have hL8 := upd_same (H := G6) (a := l8) (o := .lst (L5 ++ [tx e1, tx e2, tx e3, tx (a ++ [32]), tx ([10] ++ a), .non, .int 0, .bl true, .ref q1, .ref q2]))
  have u1 := k5 _ _ v1
  have u2 := k5 _ _ v2
  have k6 := k4.trans k5
  generalize upd G6 l8 _ = G7 at *
  have one : ∀ b ∈ [a], Fine b := fun b hb => by rw [List.mem_singleton.mp hb]; exact fa
  have A7 : ∀ v ∈ L5 ++ [tx e1, tx e2, tx e3, tx (a ++ [32]), tx ([10] ++ a), .non, .int 0, .bl true, .ref q1, .ref q2], Th p G7 v :=
    all_app (all_same A5 k6) (all_cons (.txt _ h1) (all_cons (.txt _ h2) (all_cons (.txt _ h3) (all_cons (.txt _ h4) (all_cons (.txt _ h5) (all_cons .non (all_cons (.int 0 (.inl rfl)) (all_cons (.bl true) (all_cons (.lst (l := [a]) u1 nq1 one (by simp)) (all_cons (.tup (l := [a]) u2 nq2 one (by simp)) all_nil))))))))))
  have B7 : ∀ v ∈ L5 ++ [tx e1, tx e2, tx e3, tx (a ++ [32]), tx ([10] ++ a), .non, .int 0, .bl true, .ref q1, .ref q2], Nw H v := nall_app B5 (nall_cons (nw_tx _ _) (nall_cons (nw_tx _ _) (nall_cons (nw_tx _ _) (nall_cons (nw_tx _ _) (nall_cons (nw_tx _ _) (nall_cons (fun _ e => nomatch e) (nall_cons (fun _ e => nomatch e) (nall_cons (fun _ e => nomatch e) (nall_cons z1 (nall_cons z2 nall_nil))))))))))
  have n7 : (L5 ++ [tx e1, tx e2, tx e3, tx (a ++ [32]), tx ([10] ++ a), .non, .int 0, .bl true, .ref q1, .ref q2]).length = 18 := by rw [List.length_append, n5]; rfl
  generalize L5 ++ [tx e1, tx e2, tx e3, tx (a ++ [32]), tx ([10] ++ a), .non, .int 0, .bl true, .ref q1, .ref q2] = L7 at *
  have w7 : SameBut1 p H G7 := w5.trans (SameBut1.of k6)
  have p7 : PoolAt G7 p (n + 3) := p5.same k6
  clear A5 z1 z2 k1 k2 k3 k4 k5 k6 v1 v2 v3 u1 u2 hL6 w5 p5 nq1 nq2 hq1 hq2 hl7 hl8
  -- five more
  walk_at "go"
  refine s_listS (by omega) (fun q1 hq1 => ?_)
  walk_at "go"
  intro q2 hq2
  walk_at "go"
  intro q3 hq3
  show tVar 2 _ _ _
  walk_at "go"
  refine ⟨upd_same, [(.inr ⟨a.toArray⟩, .int 1)], rfl, by simp, ?_⟩
  have j1 := same_new hq1 (.lst ((a.map fun c => [c]).map tx))
  have j2 := same_new hq2 (.dK [])
  have nq1 := p7.ne hq1
  have nq2 := (p7.same j1).ne hq2
  have nq3 := ((p7.same j1).same j2).ne hq3
  have z1 : Nw H (V.ref q1) := nw_ref w7 hq1 nq1
  have z2 : Nw H (V.ref q2) := nw_ref (w7.trans (SameBut1.of j1)) hq2 nq2
  have z3 : Nw H (V.ref q3) := nw_ref ((w7.trans (SameBut1.of j1)).trans (SameBut1.of j2)) hq3 nq3
  have j3 : Same (upd (upd G7 q1 (.lst ((a.map fun c => [c]).map tx))) q2 (.dK [])) (upd (upd (upd (upd G7 q1 (.lst ((a.map fun c => [c]).map tx))) q2 (.dK [])) q3 (.dK [])) q3 (.dK (mergeK [] [(.inr ⟨a.toArray⟩, .int 1)]))) := fun b o z => by
    rw [upd_ne (ne_of_none z hq3), upd_ne (ne_of_none z hq3)]; exact z
  have v1 := j3 _ _ (j2 _ _ (upd_same (H := G7) (a := q1) (o := .lst ((a.map fun c => [c]).map tx))))
  have v2 := j3 _ _ (upd_same (H := upd G7 q1 (.lst ((a.map fun c => [c]).map tx))) (a := q2) (o := .dK []))
  have v3 : (upd (upd (upd (upd G7 q1 (.lst ((a.map fun c => [c]).map tx))) q2 (.dK [])) q3 (.dK [])) q3 (.dK (mergeK [] [(.inr ⟨a.toArray⟩, .int 1)]))) q3 = some (.dK [(.inr ⟨a.toArray⟩, .int 1)]) := upd_same
  have j4 := (j1.trans j2).trans j3
  generalize upd (upd (upd (upd G7 q1 _) q2 _) q3 _) q3 _ = G8 at *
  walk_at "go"
  refine ⟨small (show 0 ≤ 1000 by decide), fun q4 hq4 => ?_⟩
  walk_at "go"
  refine ⟨small (show 5 ≤ 1000 by decide), fun l9 hl9 => ?_⟩
  have nq4 := (p7.same j4).ne hq4
  have z4 : Nw H (V.ref q4) := nw_ref (w7.trans (SameBut1.of j4)) hq4 nq4
  have i1 := same_new hq4 (.lst [])
  have i2 := same_new hl9 (.lst [V.ref q1, V.ref q2, V.ref q3, V.ref q4, V.int 7])
  have x1 := i2 _ _ (i1 _ _ v1)
  have x2 := i2 _ _ (i1 _ _ v2)
  have x3 := i2 _ _ (i1 _ _ v3)
  have x4 := i2 _ _ (upd_same (H := G8) (a := q4) (o := .lst []))
  have x5 := upd_same (H := upd G8 q4 (.lst [])) (a := l9) (o := .lst [V.ref q1, V.ref q2, V.ref q3, V.ref q4, V.int 7])
  have i3 := (j4.trans i1).trans i2
  generalize upd (upd G8 q4 _) l9 _ = G9 at *
  walk_at "go"
  refine s_cat (i3 _ _ hL8) x5 (small (by rw [n7]; simp)) (fun l10 hl10 => ?_)
  have i4 := same_new hl10 (.lst (L7 ++ [V.ref q1, V.ref q2, V.ref q3, V.ref q4, V.int 7]))
  have hL10 := upd_same (H := G9) (a := l10) (o := .lst (L7 ++ [V.ref q1, V.ref q2, V.ref q3, V.ref q4, V.int 7]))
  have y1 := i4 _ _ x1
  have y2 := i4 _ _ x2
  have y3 := i4 _ _ x3
  have y4 := i4 _ _ x4
  have i5 := i3.trans i4
  generalize upd G9 l10 _ = G10 at *
  have each : ∀ b ∈ a.map (fun c => [c]), Fine b := fun b hb => by
    obtain ⟨c, hc, rfl⟩ := List.mem_map.mp hb
    exact ⟨low_one (hlo c hc), by simp⟩
  have A10 : ∀ v ∈ L7 ++ [V.ref q1, V.ref q2, V.ref q3, V.ref q4, V.int 7], Th p G10 v :=
    all_app (all_same A7 i5) (all_cons (.lst y1 nq1 each (by rw [List.length_map]; omega)) (all_cons (.dc0 y2 nq2) (all_cons (.dc1 y3 nq3 fa) (all_cons (.lst (l := []) y4 nq4 (fun _ z => nomatch z) (by simp)) (all_cons (.int 7 (.inr rfl)) all_nil)))))
  have B10 : ∀ v ∈ L7 ++ [V.ref q1, V.ref q2, V.ref q3, V.ref q4, V.int 7], Nw H v := nall_app B7 (nall_cons z1 (nall_cons z2 (nall_cons z3 (nall_cons z4 (nall_cons (fun _ e => nomatch e) nall_nil)))))
  have n10 : (L7 ++ [V.ref q1, V.ref q2, V.ref q3, V.ref q4, V.int 7]).length = 23 := by rw [List.length_append, n7]; rfl
  generalize L7 ++ [V.ref q1, V.ref q2, V.ref q3, V.ref q4, V.int 7] = L10 at *
  walk_at "go"
  refine take_use (m := 23) (p7.same i5) (by omega) (by decide) (by decide) (fun r4 H4 r40 r41 hp4 s4 => ?_)
  obtain ⟨v, hv, hvm⟩ := at_memV (l := L10) r40 (by rw [n10]; exact r41)
  have nl : l10 ≠ p := (p7.same i3).ne hl10
  refine s_ixL (SqL.of (s4 _ _ hL10 nl)) hv ?_
  exact q v H4 ((A10 v hvm).keep s4) (B10 v hvm) hp4 ((w7.trans (SameBut1.of i5)).trans s4)

theorem sc_law_right : FnScope ["k", "thing", "kept", "found"] ["k", "thing"] (defScope d_law_right) := ⟨rfl, rfl, rfl, by decide +kernel, rfl, by decide +kernel, by decide +kernel⟩
theorem ok_law_right (F : Fun K "_law_right" "_law_right" d_law_right f fd) (T : Txt K mg aK) (U_is_line : FnU P w K mg base k "is_line" ["k", "thing"] (spLine K)) (U_law_is_row : FnU P w K mg base k "_law_is_row" ["k", "thing"] (spIsRow)) : FnOk P w K mg base CX0 (k + 1) f fd ["k", "thing"] (spRight01) := by
  refine F.ok sc_law_right (fun vs H Q E h => ?_) (fun cdv A outer s H vs Q E hr h => ?_)
  · obtain ⟨k, v, p, rfl, _⟩ := h; rfl
  obtain ⟨kk, v, p, rfl, hk1, hk4, th, q⟩ := h
  have hu := hr.units0
  obtain ⟨d, hsh, hok⟩ := th.shows
  have fin : ∀ {H1 : Hp} {b : Bool}, Same H H1 → b = rowV kk v → tAndV (tCB (rIsi K) (tCons (tVar 3) (tCons (tC (.ty "bool")) tNil))) (tAndV (tOp (rEqA K) (tVar 3) (tCall spIsRow [] E0 (tCons (tVar 0) (tCons (tVar 1) tNil)))) (tOp (rEqA K) (tCB rRepr (tCons (tVar 1) tNil)) (tVar 2))) [some (.int kk), some v, some (.str d.shown), some (.bl b)] H1 Q := by
    intro H1 b s1 eb
    walk_at "go"
    refine s_isi (b := true) (TyOf.bl _) (by with_unfolding_all rfl) ?_
    walk_at "go"
    refine iteT ?_
    walk_at "go"
    refine isRow_use hk1 hk4 (th.same s1) (fun H2 s2 => ?_)
    walk_at "go"
    rw [decide_eq_true eb]
    refine iteT ?_
    walk_at "go"
    refine s_repr (hsh.same (s1.trans s2)) hok ?_
    walk_at "go"
    refine s_eqS rfl ?_
    rw [decide_eq_true rfl]
    exact q H2 (s1.trans s2)
  refine ⟨_, (pss_cons (ps_set (i := 2) sc_law_right.nd rfl (Or.inl rfl) (pe_callB (call_reprA hr) rfl T.n_repr PyProof.Rows.boot_repr (pa_cons (pv 1) pa_nil)))  (pss_cons (ps_set (i := 3) sc_law_right.nd rfl (Or.inl rfl) (pe_fn U_is_line hr (pa_cons (pv 0) (pa_cons (pv 1) pa_nil))))  (pss_one (ps_ret (pe_and (pe_callB (call_isiA K) rfl T.n_isinstance PyProof.Rows.boot_isinstance (pa_cons (pv 3) (pa_cons (pe_ty T.n_bool PyProof.Rows.boot_bool) pa_nil))) (pe_and (pe_cmpR (op_eqA K hu) (pv 3) (pe_fn U_law_is_row hr (pa_cons (pv 0) (pa_cons (pv 1) pa_nil))) (nomark _)) (pe_one (pe_cmpR (op_eqA K hu) (pe_callB (call_reprA hr) rfl T.n_repr PyProof.Rows.boot_repr (pa_cons (pv 1) pa_nil)) (pv 2) (nomark _))))))))), ?_⟩
  walk_at "go"
  refine s_repr hsh hok ?_
  walk_at "go"
  rcases th.kind (K := K) with ⟨a, rfl, hf⟩ | ⟨ty, hT, hp, hs⟩
  · refine ⟨kk, _, rfl, hk1, hk4, .inl ⟨a, rfl, hf.2, fun H1 s1 => ?_⟩⟩
    walk_at "st"
    walk_at "st"
    walk_at "st"
    exact fin s1 (rowV_tx kk a).symm
  · refine ⟨kk, _, rfl, hk1, hk4, .inr ⟨ty, hT, hp, hs, ?_⟩⟩
    walk_at "st"
    walk_at "st"
    walk_at "st"
    refine fin (Same.refl H) ?_
    cases v with
    | str x => cases hT; exact absurd rfl hs
    | _ => rfl

theorem sc_law : FnScope ["script", "turn", "pool", "k", "row", "some", "thing", "kinds"] ["script"] (defScope d_law) := ⟨rfl, rfl, rfl, by decide +kernel, rfl, by decide +kernel, by decide +kernel⟩
theorem ok_law (F : Fun K "law" "law" d_law f fd) (T : Txt K mg aK) (U_law_pool : FnU P w K mg base k "_law_pool" ["script", "k"] (spPool K)) (U_law_any_row : FnU P w K mg base k "_law_any_row" ["pool", "k", "most"] (spAnyRow)) (U_law_take : FnU P w K mg base k "_law_take" ["pool", "many"] (spTake)) (U_is_line : FnU P w K mg base k "is_line" ["k", "thing"] (spLine K)) (U_law_no_row : FnU P w K mg base k "_law_no_row" ["pool", "k", "row"] (spNoRow)) (U_law_right : FnU P w K mg base k "_law_right" ["k", "thing"] (spRight01)) : FnOk P w K mg base CX0 (k + 1) f fd ["script"] (spLaw K) := by
  refine F.ok sc_law (fun vs H Q E h => ?_) (fun cdv A outer s H vs Q E hr h => ?_)
  · obtain ⟨a, ns, rfl, _⟩ := h; rfl
  obtain ⟨sa, ns, rfl, hS, h63, q⟩ := h
  have hu := hr.units0
  apply ex_consE
  · exact rfl
  · exact (ps_for PassesOwn.never rfl (pi_range1 rfl T.n_range (pa_cons (pe_callB (call_maxA rfl) rfl T.n_max PyProof.Rows.boot_max (pa_cons pe_int (pa_cons (pe_callB (call_minA rfl) rfl T.n_min PyProof.Rows.boot_min (pa_cons pe_int (pa_cons (pe_callB (call_lenA K) rfl T.n_len PySem.boot_len (pa_cons (pv 0) pa_nil)) pa_nil))) pa_nil))) pa_nil)) (pg_name (i := 1) sc_law.nd rfl (Or.inl rfl))   (pss_cons (ps_set (i := 2) sc_law.nd rfl (Or.inr rfl) (pe_fn U_law_pool hr (pa_cons (pv 0) (pa_cons (pv 1) pa_nil))))  (pss_cons (ps_set (i := 3) sc_law.nd rfl (Or.inr rfl) (pe_op op_plus pe_int (pe_fn U_law_take hr (pa_cons (pv 2) (pa_cons pe_int pa_nil)))))  (pss_cons (ps_set (i := 4) sc_law.nd rfl (Or.inr rfl) (pe_fn U_law_any_row hr (pa_cons (pv 2) (pa_cons (pv 3) (pa_cons pe_int pa_nil)))))  (pss_cons (ps_set (i := 5) sc_law.nd rfl (Or.inl rfl) (pe_op op_plus (pe_lst (pa_cons (pv 4) pa_nil)) (pe_comp (own := ["at"]) (sel := [2, 3, 4]) (compOk_of (osc := (defScope d_law)) (N := ["script", "turn", "pool", "k", "row", "some", "thing", "kinds"]) (by decide +kernel)) rfl (pi_range1 rfl T.n_range (pa_cons pe_int pa_nil)) (fun _ _ _ _ _ => (pg_name (i := 0) (show (["at", "pool", "k", "row"] : List Str).Nodup from by decide +kernel) rfl (Or.inl rfl))) (gk_name (by decide)) (fun _ _ _ _ _ => pif_nil) (fun _ _ _ _ _ => (pe_fn U_law_no_row hr (pa_cons (pv 1) (pa_cons (pv 2) (pa_cons (pv 3) pa_nil))))))))  (pss_cons (ps_set (i := 5) sc_law.nd rfl (Or.inl rfl) (pe_op op_plus (pv 5) (pe_lst (pa_cons (pe_slice (sl_A K) (pe_op op_plus (pv 4) (pe_op op_times (pe_tx (l := [63]) (by decide +kernel)) pe_int)) po_none (po_some pe_int)) (pa_cons (pe_slice (sl_A K) (pe_op op_plus (pv 4) (pe_op op_times (pe_tx (l := [63]) (by decide +kernel)) pe_int)) po_none (po_some pe_int)) pa_nil)))))  (pss_one (ps_for PassesOwn.never rfl (pi_listK K (pv 5)) (pg_name (i := 6) sc_law.nd rfl (Or.inl rfl))   (pss_one (ps_for PassesOwn.never rfl (pi_range2 rfl T.n_range (pa_cons pe_int (pa_cons pe_int pa_nil))) (pg_name (i := 7) sc_law.nd rfl (Or.inl rfl))   (pss_one (ps_if (pt_not (pt_tru K (pe_fn U_law_right hr (pa_cons (pv 7) (pa_cons (pv 6) pa_nil)))))   (pss_one (ps_ret pe_bl))   pss_nil))))))))))))
  apply ex_consB
  · exact rfl
  · exact (ps_setB (i := 5) rfl sc_law.nd rfl (Or.inl rfl) (Or.inl rfl) (Pl.con pe_non (Pl.con pe_int (Pl.con pe_bl (Pl.con (pe_tx (l := []) (by decide +kernel)) (Pl.lst (pe_lst pa_nil) (Pl.tup (pe_tup pa_nil) (Pl.dct pe_dnewK (Pl.con (pe_tx (l := [63]) (by decide +kernel)) (Pl.con (pe_tx (l := [40, 41]) (by decide +kernel)) (Pl.con (pe_tx (l := [40, 41, 91, 93, 123, 125, 60, 62, 63]) (by decide +kernel)) (Pl.con (pe_tx (l := [97]) (by decide +kernel)) (Pl.con (pe_tx (l := [32]) (by decide +kernel)) (Pl.con (pe_tx (l := [40, 32, 41]) (by decide +kernel)) (Pl.bin (pe_op op_times (pe_tx (l := [63]) (by decide +kernel)) pe_int) (Pl.bin (pe_op op_times (pe_tx (l := [120]) (by decide +kernel)) pe_int) (Pl.lst (pe_lst (pa_cons (pe_tx (l := [40]) (by decide +kernel)) pa_nil)) Pl.nil)))))))))))))))))
  apply ex_consE
  · exact rfl
  · exact (ps_for PassesOwn.never rfl (pi_listK K (pe_op op_plus (pv 5) (pe_lst (pa_cons (pe_op op_times (pe_tx (l := [40, 41]) (by decide +kernel)) pe_int) pa_nil)))) (pg_name (i := 6) sc_law.nd rfl (Or.inl rfl))   (pss_one (ps_for PassesOwn.never rfl (pi_range2 rfl T.n_range (pa_cons pe_int (pa_cons pe_int pa_nil))) (pg_name (i := 7) sc_law.nd rfl (Or.inl rfl))   (pss_one (ps_if (pt_not (pt_tru K (pe_fn U_law_right hr (pa_cons (pv 7) (pa_cons (pv 6) pa_nil)))))   (pss_one (ps_ret pe_bl))   pss_nil)))))
  apply ex_oneE
  · exact rfl
  · exact (ps_ret (pe_and (pe_cmpR op_isA (pe_fn U_is_line hr (pa_cons pe_int (pa_cons (pe_tx (l := []) (by decide +kernel)) pa_nil))) pe_bl (nomark _)) (pe_and (pe_cmpR op_isA (pe_fn U_is_line hr (pa_cons pe_int (pa_cons (pe_tx (l := [60]) (by decide +kernel)) pa_nil))) pe_bl (nomark _)) (pe_one (pe_cmpR op_isA (pe_fn U_is_line hr (pa_cons pe_int (pa_cons (pe_op op_plus (pe_op op_times (pe_tx (l := [40, 41]) (by decide +kernel)) pe_int) (pe_tx (l := [63]) (by decide +kernel))) pa_nil))) pe_bl (nomark _))))))
  walk_at "go"
  refine s_lenL (.inl hS) ?_
  walk_at "go"
  refine ⟨_, rfl, by split <;> (try split) <;> omega, by rw [List.length_map]; split <;> (try split) <;> omega, ?_⟩
  refine for_rng (fun i σ H' => ∃ (o1 o2 o3 o4 o5 o6 o7 : Option V), σ = [some (.ref sa), o1, o2, o3, o4, o5, o6, o7] ∧ Same H H') ⟨_, _, _, _, _, _, _, rfl, Same.refl H⟩ ?_ ?_
  · rintro i σ H1 hi ⟨o1, o2, o3, o4, o5, o6, o7, rfl, s1⟩
    have hi10 : i < 10 := by
      rw [List.length_map] at hi
      revert hi; split <;> (try split) <;> omega
    have ei : (0 : Int) + (i : Int) = (i : Int) := by omega
    rw [ei]
    walk_at "go"
    refine ⟨sa, ns, _, rfl, s1.seq hS, h63, by omega, by omega, fun p H2 hp2 s2 hpo => ?_⟩
    have hHp : H p = none := s1.free hp2
    have s12 := s1.trans s2
    walk_at "go"
    refine take_use hpo (by omega) (by omega) (by omega) (fun k0 H3 k00 k01 hpo3 s3 => ?_)
    have u3 : Same H H3 := Same.but s12 s3 hHp
    walk_at "go"
    refine any_use hpo3 (by omega) (by omega) (by omega) (by omega) (by omega) (fun row H4 hrl hrs hpo4 s4 => ?_)
    have u4 : Same H H4 := Same.but u3 s4 hHp
    have hlo : Low row := fun c hc => sgn_low (hrs c hc)
    have hr40 : row.length ≤ 40 := by omega
    walk_at "go"
    refine ⟨small (show 1 ≤ 1000 by decide), fun l1 hl1 => ?_⟩
    have t5 := same_new hl1 (.lst [tx row])
    have nl1 := hpo4.ne hl1
    walk_at "go"
    refine ⟨8, rfl, by decide, by decide, ?_⟩
    refine comp_rng (n := 8) (small (by decide)) (fun D j ys H' => (∀ v ∈ ys, Th p H' v ∧ v ≠ .ref D) ∧ ys.length = j ∧ D ≠ p ∧ PoolAt H' p (5000 + 4 * j) ∧ SameBut1 p H4 H' ∧ H' l1 = some (.lst [tx row])) (fun D hD => ⟨(fun _ z => nomatch z), rfl, (hpo4.same t5).ne hD, ((hpo4.same t5).same (same_new hD _)).mono (by omega), SameBut1.of (t5.trans (same_new hD _)), same_new hD _ _ _ upd_same⟩) (fun D ys H5 hD hy ⟨hA, hyl, hDp, hpo5, s5, hL1⟩ => ?_) ?_
    · have u5 : Same H H5 := Same.but u4 s5 hHp
      refine s_cat hL1 hy (small (by rw [hyl]; simp)) (fun l2 hl2 => ?_)
      have t6 := same_new hl2 (.lst ([tx row] ++ ys))
      have hL2 := upd_same (H := H5) (a := l2) (o := .lst ([tx row] ++ ys))
      have fr : Fine row := ⟨hlo, by omega⟩
      have A6 : ∀ v ∈ [tx row] ++ ys, Th p (upd H5 l2 (.lst ([tx row] ++ ys))) v := all_app (all_cons (.txt _ fr) all_nil) (all_same (fun v hv => (hA v hv).1) t6)
      have n6 : ([tx row] ++ ys).length = 9 := by rw [List.length_append, hyl]; rfl
      have hpo6 := hpo5.same t6
      have u6 := u5.trans t6
      generalize upd H5 l2 _ = G6 at *
      generalize [tx row] ++ ys = L6 at *
      walk_at "go"
      refine s_mulT (by decide) (by decide) (by decide) ?_
      walk_at "go"
      have g1 : (List.replicate (41 : Int).toNat [63]).flatten.length = 41 := by rw [rep_len]; rfl
      have g1l : Low (List.replicate (41 : Int).toNat [63]).flatten := low_rep (by unfold Low; decide)
      have fcut : ∀ z : Int, 0 ≤ z → Fine (cutL (row ++ (List.replicate (41 : Int).toNat [63]).flatten) none (some z)) := fun z hz => by
        rw [cut_to _ hz]
        refine ⟨low_take (low_app hlo g1l) _, ?_⟩
        rw [List.length_take, List.length_append]; omega
      generalize (List.replicate (41 : Int).toNat [63]).flatten = c1 at g1 g1l fcut ⊢
      first | refine s_addT (small (by omega)) ?_ | skip
      walk_at "go"
      first | refine s_slT (small (by rw [List.length_append]; omega)) ?_ | skip
      walk_at "go"
      refine s_mulT (by decide) (by decide) (by decide) ?_
      walk_at "go"
      have g2 : (List.replicate (41 : Int).toNat [63]).flatten.length = 41 := by rw [rep_len]; rfl
      have g2l : Low (List.replicate (41 : Int).toNat [63]).flatten := low_rep (by unfold Low; decide)
      have fcut2 : ∀ z : Int, 0 ≤ z → Fine (cutL (row ++ (List.replicate (41 : Int).toNat [63]).flatten) none (some z)) := fun z hz => by
        rw [cut_to _ hz]
        refine ⟨low_take (low_app hlo g2l) _, ?_⟩
        rw [List.length_take, List.length_append]; omega
      generalize (List.replicate (41 : Int).toNat [63]).flatten = c2 at g2 g2l fcut2 ⊢
      first | refine s_addT (small (by omega)) ?_ | skip
      walk_at "go"
      first | refine s_slT (small (by rw [List.length_append]; omega)) ?_ | skip
      walk_at "go"
      have f1 := fcut 40 (by decide)
      have f2 := fcut2 41 (by decide)
      generalize cutL (row ++ c1) none (some 40) = d1 at f1 ⊢
      generalize cutL (row ++ c2) none (some 41) = d2 at f2 ⊢
      refine ⟨small (show 2 ≤ 1000 by decide), fun l3 hl3 => ?_⟩
      have t7 := same_new hl3 (.lst [tx d1, tx d2])
      have hL3 := upd_same (H := G6) (a := l3) (o := .lst [tx d1, tx d2])
      generalize upd G6 l3 _ = G7 at *
      refine s_cat (t7 _ _ hL2) hL3 (small (by rw [n6]; simp)) (fun l4 hl4 => ?_)
      have t8 := same_new hl4 (.lst (L6 ++ [tx d1, tx d2]))
      have hL4 := upd_same (H := G7) (a := l4) (o := .lst (L6 ++ [tx d1, tx d2]))
      have A8 : ∀ v ∈ L6 ++ [tx d1, tx d2], Th p (upd G7 l4 (.lst (L6 ++ [tx d1, tx d2]))) v := all_app (all_same (all_same A6 t7) t8) (all_cons (.txt _ f1) (all_cons (.txt _ f2) all_nil))
      have u8 := (u6.trans t7).trans t8
      generalize upd G7 l4 _ = G8 at *
      generalize L6 ++ [tx d1, tx d2] = L8 at *
      walk_at "go"
      refine ⟨l4, rfl, ⟨_, SqL.of hL4⟩, ?_⟩
      refine for_lst (xs := L8) (fun j σ H' => ∃ (o6 o7 : Option V), σ = [some (.ref sa), some (.int i), some (.ref p), some (.int (1 + k0)), some (tx row), some (.ref l4), o6, o7] ∧ Same G8 H') ⟨_, _, rfl, Same.refl G8⟩ (fun j σ H' _ ⟨_, _, _, z⟩ => SqL.of (z _ _ hL4)) ?_ ?_
      · rintro j x σ H9 hj ⟨o6, o7, rfl, s9⟩
        have tx9 : Th p H9 x := (A8 x (List.mem_of_getElem? hj)).same s9
        walk_at "go"
        refine ⟨1, 5, rfl, ⟨by decide, by decide, by decide, by decide⟩, ?_⟩
        refine for_rng (n := 4) (fun m σ H' => ∃ (o7 : Option V), σ = [some (.ref sa), some (.int i), some (.ref p), some (.int (1 + k0)), some (tx row), some (.ref l4), some x, o7] ∧ Same H9 H') ⟨_, rfl, Same.refl H9⟩ ?_ ?_
        · rintro m σ H10 hm ⟨o7, rfl, s10⟩
          walk_at "go"
          refine right01_use (by omega) (by omega) (tx9.same s10) (fun H11 s11 => ?_)
          walk_at "go"
          refine ifq rfl ?_
          walk_at "go"
          exact ⟨_, rfl, s10.trans s11⟩
        · rintro σ H10 ⟨o7, rfl, s10⟩
          exact ⟨_, _, rfl, s9.trans s10⟩
      · rintro σ H9 ⟨o6, o7, rfl, s9⟩
        exact ⟨_, _, _, _, _, _, _, rfl, u8.trans s9⟩
    · rintro D j ys H5 hD hj hy hl ⟨hA, hyl, hDp, hpo5, s5, hL1⟩
      walk_at "go"
      refine iteT ?_
      walk_at "go"
      refine noRow_use hpo5 (by omega) hr40 hlo (fun v H6 tv nv hpo6 s6 => ?_)
      have hD6 := s6 _ _ hy hDp
      have nD : v ≠ .ref D := fun e => by have := nv D e; rw [hy] at this; cases this
      have nl1D : l1 ≠ D := fun e => by rw [e] at t5; have := t5; rw [← e] at hD; rw [upd_same] at hD; cases hD
      refine comp_next hj (small (by decide)) hD6 hl ⟨?_, by simp [hyl], hDp, ?_, ?_, ?_⟩
      · intro x hx
        rcases List.mem_append.mp hx with z | z
        · exact ⟨((hA x z).1.keep s6).upd (hA x z).2, (hA x z).2⟩
        · rw [List.mem_singleton.mp z]; exact ⟨tv.upd nD, nD⟩
      · obtain ⟨x, y, z, e4, h1, h2⟩ := hpo6
        exact ⟨x, y, z, by rw [upd_ne (Ne.symm hDp)]; exact e4, h1, by omega⟩
      · exact fun b o z zn => by
          rw [upd_ne (ne_of_none (t5 b o z) hD)]
          exact s6 b o (s5 b o z zn) zn
      · rw [upd_ne nl1D]
        exact s6 _ _ hL1 nl1
  · rintro σ H1 ⟨o1, o2, o3, o4, o5, o6, o7, rfl, s1⟩
    simp only [tAll]
    walk_at "go"
    refine ⟨small (show 0 ≤ 1000 by decide), fun q1 hq1 => ?_⟩
    have t1 := same_new hq1 (.lst [])
    have g1 := upd_same (H := H1) (a := q1) (o := .lst [])
    generalize upd H1 q1 _ = J1 at *
    walk_at "go"
    refine ⟨small (show 0 ≤ 1000 by decide), fun q2 hq2 => ?_⟩
    have t2 := same_new hq2 (.tup [])
    have g2 := upd_same (H := J1) (a := q2) (o := .tup [])
    generalize upd J1 q2 _ = J2 at *
    walk_at "go"
    intro q3 hq3
    have t3 := same_new hq3 (.dK [])
    have g3 := upd_same (H := J2) (a := q3) (o := .dK [])
    generalize upd J2 q3 _ = J3 at *
    walk_at "go"
    refine s_mulT (by decide) (by decide) (by decide) ?_
    have h1 : Fine (List.replicate (1000 : Int).toNat [63]).flatten := ⟨low_rep (by unfold Low; decide), by rw [rep_len]; decide⟩
    generalize (List.replicate (1000 : Int).toNat [63]).flatten = e1 at h1 ⊢
    walk_at "go"
    refine s_mulT (by decide) (by decide) (by decide) ?_
    have h2 : Fine (List.replicate (1000 : Int).toNat [120]).flatten := ⟨low_rep (by unfold Low; decide), by rw [rep_len]; decide⟩
    generalize (List.replicate (1000 : Int).toNat [120]).flatten = e2 at h2 ⊢
    walk_at "go"
    refine ⟨small (show 1 ≤ 1000 by decide), fun q4 hq4 => ?_⟩
    have t4 := same_new hq4 (.lst [tx [40]])
    have g4 := upd_same (H := J3) (a := q4) (o := .lst [tx [40]])
    generalize upd J3 q4 _ = J4 at *
    walk_at "go"
    refine ⟨small (show 16 ≤ 1000 by decide), fun q5 hq5 => ?_⟩
    obtain ⟨p, m1, m2, m3, m4⟩ : ∃ p : Addr, q1 ≠ p ∧ q2 ≠ p ∧ q3 ≠ p ∧ q4 ≠ p := by
      have z : ∀ a b c d : Nat, ∃ p : Nat, a ≠ p ∧ b ≠ p ∧ c ≠ p ∧ d ≠ p := fun a b c d => ⟨a + b + c + d + 1, by omega, by omega, by omega, by omega⟩
      exact z q1 q2 q3 q4
    have AL : ∀ v ∈ [V.non, V.int 0, V.bl true, tx [], V.ref q1, V.ref q2, V.ref q3, tx [63], tx [40, 41], tx [40, 41, 91, 93, 123, 125, 60, 62, 63], tx [97], tx [32], tx [40, 32, 41], tx e1, tx e2, V.ref q4], Th p J4 v := by
      have lit : ∀ a : List Nat, (a.all fun c => decide (c < 128)) = true → a.length ≤ 1000 → Th p J4 (tx a) := fun a h z => .txt a ⟨fun c hc => by have := of_decide_eq_true (List.all_eq_true.mp h c hc); omega, z⟩
      exact all_cons .non (all_cons (.int 0 (.inl rfl)) (all_cons (.bl true) (all_cons (lit _ (by decide) (by decide)) (all_cons (.lst (l := []) (t4 _ _ (t3 _ _ (t2 _ _ g1))) m1 (fun _ z => nomatch z) (by decide)) (all_cons (.tup (l := []) (t4 _ _ (t3 _ _ g2)) m2 (fun _ z => nomatch z) (by decide)) (all_cons (.dc0 (t4 _ _ g3) m3) (all_cons (lit _ (by decide) (by decide)) (all_cons (lit _ (by decide) (by decide)) (all_cons (lit _ (by decide) (by decide)) (all_cons (lit _ (by decide) (by decide)) (all_cons (lit _ (by decide) (by decide)) (all_cons (lit _ (by decide) (by decide)) (all_cons (.txt _ h1) (all_cons (.txt _ h2) (all_cons (.lst (l := [[40]]) g4 m4 (fun a z => by rw [List.mem_singleton.mp z]; exact ⟨by unfold Low; decide, by decide⟩) (by decide)) all_nil)))))))))))))))
    have n5 : ([V.non, V.int 0, V.bl true, tx [], V.ref q1, V.ref q2, V.ref q3, tx [63], tx [40, 41], tx [40, 41, 91, 93, 123, 125, 60, 62, 63], tx [97], tx [32], tx [40, 32, 41], tx e1, tx e2, V.ref q4] : List V).length = 16 := rfl
    generalize ([V.non, V.int 0, V.bl true, tx [], V.ref q1, V.ref q2, V.ref q3, tx [63], tx [40, 41], tx [40, 41, 91, 93, 123, 125, 60, 62, 63], tx [97], tx [32], tx [40, 32, 41], tx e1, tx e2, V.ref q4] : List V) = L5 at AL n5 ⊢
    have t5 := same_new hq5 (.lst L5)
    have g5 := upd_same (H := J4) (a := q5) (o := .lst L5)
    generalize upd J4 q5 _ = J5 at *
    walk_at "go"
    refine s_mulT (by decide) (by decide) (by decide) ?_
    have h3 : Fine (List.replicate (20 : Int).toNat [40, 41]).flatten := ⟨low_rep (by unfold Low; decide), by decide⟩
    generalize (List.replicate (20 : Int).toNat [40, 41]).flatten = e3 at h3 ⊢
    walk_at "go"
    refine ⟨small (show 1 ≤ 1000 by decide), fun q6 hq6 => ?_⟩
    have t6 := same_new hq6 (.lst [tx e3])
    have g6 := upd_same (H := J5) (a := q6) (o := .lst [tx e3])
    generalize upd J5 q6 _ = J6 at *
    refine s_cat (t6 _ _ g5) g6 (small (by rw [n5]; show 16 + 1 ≤ 1000; decide)) (fun q7 hq7 => ?_)
    have t7 := same_new hq7 (.lst (L5 ++ [tx e3]))
    have g7 := upd_same (H := J6) (a := q7) (o := .lst (L5 ++ [tx e3]))
    generalize upd J6 q7 _ = J7 at *
    have A7 : ∀ v ∈ L5 ++ [tx e3], Th p J7 v := all_app (all_same AL ((t5.trans t6).trans t7)) (all_cons (.txt _ h3) all_nil)
    generalize L5 ++ [tx e3] = L7 at *
    walk_at "go"
    refine ⟨q7, rfl, ⟨_, SqL.of g7⟩, ?_⟩
    refine for_lst (xs := L7) (fun j σ H' => ∃ (o6 o7 : Option V), σ = [some (.ref sa), o1, o2, o3, o4, some (.ref q5), o6, o7] ∧ Same J7 H') ⟨_, _, rfl, Same.refl J7⟩ (fun j σ H' _ ⟨_, _, _, z⟩ => SqL.of (z _ _ g7)) ?_ ?_
    · rintro j x σ H9 hj ⟨o6, o7, rfl, s9⟩
      have tx9 := (A7 x (List.mem_of_getElem? hj)).same s9
      walk_at "go"
      refine ⟨1, 5, rfl, ⟨by decide, by decide, by decide, by decide⟩, ?_⟩
      refine for_rng (n := 4) (fun m σ H' => ∃ (o7 : Option V), σ = [some (.ref sa), o1, o2, o3, o4, some (.ref q5), some x, o7] ∧ Same H9 H') ⟨_, rfl, Same.refl H9⟩ ?_ ?_
      · rintro m σ H10 hm ⟨o7, rfl, s10⟩
        walk_at "go"
        refine right01_use (by omega) (by omega) (tx9.same s10) (fun H11 s11 => ?_)
        walk_at "go"
        refine ifq rfl ?_
        walk_at "go"
        exact ⟨_, rfl, s10.trans s11⟩
      · rintro σ H10 ⟨o7, rfl, s10⟩
        exact ⟨_, _, rfl, s9.trans s10⟩
    · rintro σ H9 ⟨o6, o7, rfl, s9⟩
      walk_at "go"
      refine line_use (by decide) (by decide) (by decide) (fun H10 s10 => ?_)
      walk_at "go"
      have r1 : isRow 1 [] = true := by decide
      rw [r1, if_pos (by simp)]
      walk_at "go"
      refine line_use (by decide) (by decide) (by decide) (fun H11 s11 => ?_)
      walk_at "go"
      have r2 : isRow 3 [60] = false := by decide
      rw [r2, if_pos (by simp)]
      walk_at "go"
      refine s_mulT (by decide) (by decide) (by decide) ?_
      walk_at "go"
      first | refine s_addT (small (by decide)) ?_ | skip
      walk_at "go"
      refine line_use (by decide) (by decide) (by decide) (fun H12 s12 => ?_)
      walk_at "go"
      have r3 : isRow 4 ((List.replicate (20 : Int).toNat [40, 41]).flatten ++ [63]) = false := by decide
      rw [r3]
      exact q _

end
theorem all_mk {l : PySem.W.OpenLaw} {w : World} {K : PySem.W.Frag} {h : Heap} {mg : Str → Option Value} {fa : Addr} (X : K.In h) (G : h.Ns mainGlobals mg) (hfa : mg "law" = some (.ref fa)) {f0 : Addr} {od0 an0 : Option Addr} {sl0 : Array (Option Value)} {oc0 kV0 dc0 pm0 cd0 ct0 : Value} {f1 : Addr} {od1 an1 : Option Addr} {sl1 : Array (Option Value)} {oc1 kV1 dc1 pm1 cd1 ct1 : Value} {f2 : Addr} {od2 an2 : Option Addr} {sl2 : Array (Option Value)} {oc2 kV2 dc2 pm2 cd2 ct2 : Value} {f3 : Addr} {od3 an3 : Option Addr} {sl3 : Array (Option Value)} {oc3 kV3 dc3 pm3 cd3 ct3 : Value} {f4 : Addr} {od4 an4 : Option Addr} {sl4 : Array (Option Value)} {oc4 kV4 dc4 pm4 cd4 ct4 : Value} {f5 : Addr} {od5 an5 : Option Addr} {sl5 : Array (Option Value)} {oc5 kV5 dc5 pm5 cd5 ct5 : Value} {f6 : Addr} {od6 an6 : Option Addr} {sl6 : Array (Option Value)} {oc6 kV6 dc6 pm6 cd6 ct6 : Value} {f7 : Addr} {od7 an7 : Option Addr} {sl7 : Array (Option Value)} {oc7 kV7 dc7 pm7 cd7 ct7 : Value} {f8 : Addr} {od8 an8 : Option Addr} {sl8 : Array (Option Value)} {oc8 kV8 dc8 pm8 cd8 ct8 : Value} {f9 : Addr} {od9 an9 : Option Addr} {sl9 : Array (Option Value)} {oc9 kV9 dc9 pm9 cd9 ct9 : Value} {f10 : Addr} {od10 an10 : Option Addr} {sl10 : Array (Option Value)} {oc10 kV10 dc10 pm10 cd10 ct10 : Value} {f11 : Addr} {od11 an11 : Option Addr} {sl11 : Array (Option Value)} {oc11 kV11 dc11 pm11 cd11 ct11 : Value} {f12 : Addr} {od12 an12 : Option Addr} {sl12 : Array (Option Value)} {oc12 kV12 dc12 pm12 cd12 ct12 : Value} {x_OPENING : Str} {t_OPENING : Tok} {x_CLOSING : Str} {t_CLOSING : Tok} {aK : Addr} {oK : Obj} {itK : Array Value} {nK : Nat} {x_UNKNOWN : Str} {t_UNKNOWN : Tok} {x_MOST_SIGNS : Int} {t_MOST_SIGNS : Tok}
    (a0 : PySem.W.nsIn K mainGlobals "is_whole" = some (some (.ref f0))) (l0 : K.lookup f0 = some ⟨oc0, od0, .func (PySem.W.fnOf "is_whole" "is_whole" (defArgs d_is_whole) (defBody d_is_whole) (defScope d_is_whole) .none kV0 dc0 pm0 an0 cd0 ct0), sl0⟩) (c0 : PySem.W.codeIn K cd0 "is_whole" = true) (k0 : PySem.W.keepIn K (.ref f0) = true)
    (a1 : PySem.W.nsIn K mainGlobals "check_kinds" = some (some (.ref f1))) (l1 : K.lookup f1 = some ⟨oc1, od1, .func (PySem.W.fnOf "check_kinds" "check_kinds" (defArgs d_check_kinds) (defBody d_check_kinds) (defScope d_check_kinds) .none kV1 dc1 pm1 an1 cd1 ct1), sl1⟩) (c1 : PySem.W.codeIn K cd1 "check_kinds" = true) (k1 : PySem.W.keepIn K (.ref f1) = true)
    (a2 : PySem.W.nsIn K mainGlobals "is_line" = some (some (.ref f2))) (l2 : K.lookup f2 = some ⟨oc2, od2, .func (PySem.W.fnOf "is_line" "is_line" (defArgs d_is_line) (defBody d_is_line) (defScope d_is_line) .none kV2 dc2 pm2 an2 cd2 ct2), sl2⟩) (c2 : PySem.W.codeIn K cd2 "is_line" = true) (k2 : PySem.W.keepIn K (.ref f2) = true)
    (a3 : PySem.W.nsIn K mainGlobals "_law_pool" = some (some (.ref f3))) (l3 : K.lookup f3 = some ⟨oc3, od3, .func (PySem.W.fnOf "_law_pool" "_law_pool" (defArgs d_law_pool) (defBody d_law_pool) (defScope d_law_pool) .none kV3 dc3 pm3 an3 cd3 ct3), sl3⟩) (c3 : PySem.W.codeIn K cd3 "_law_pool" = true) (k3 : PySem.W.keepIn K (.ref f3) = true)
    (a4 : PySem.W.nsIn K mainGlobals "_law_take" = some (some (.ref f4))) (l4 : K.lookup f4 = some ⟨oc4, od4, .func (PySem.W.fnOf "_law_take" "_law_take" (defArgs d_law_take) (defBody d_law_take) (defScope d_law_take) .none kV4 dc4 pm4 an4 cd4 ct4), sl4⟩) (c4 : PySem.W.codeIn K cd4 "_law_take" = true) (k4 : PySem.W.keepIn K (.ref f4) = true)
    (a5 : PySem.W.nsIn K mainGlobals "_law_right_row" = some (some (.ref f5))) (l5 : K.lookup f5 = some ⟨oc5, od5, .func (PySem.W.fnOf "_law_right_row" "_law_right_row" (defArgs d_law_right_row) (defBody d_law_right_row) (defScope d_law_right_row) .none kV5 dc5 pm5 an5 cd5 ct5), sl5⟩) (c5 : PySem.W.codeIn K cd5 "_law_right_row" = true) (k5 : PySem.W.keepIn K (.ref f5) = true)
    (a6 : PySem.W.nsIn K mainGlobals "_law_signs" = some (some (.ref f6))) (l6 : K.lookup f6 = some ⟨oc6, od6, .func (PySem.W.fnOf "_law_signs" "_law_signs" (defArgs d_law_signs) (defBody d_law_signs) (defScope d_law_signs) .none kV6 dc6 pm6 an6 cd6 ct6), sl6⟩) (c6 : PySem.W.codeIn K cd6 "_law_signs" = true) (k6 : PySem.W.keepIn K (.ref f6) = true)
    (a7 : PySem.W.nsIn K mainGlobals "_law_bent" = some (some (.ref f7))) (l7 : K.lookup f7 = some ⟨oc7, od7, .func (PySem.W.fnOf "_law_bent" "_law_bent" (defArgs d_law_bent) (defBody d_law_bent) (defScope d_law_bent) .none kV7 dc7 pm7 an7 cd7 ct7), sl7⟩) (c7 : PySem.W.codeIn K cd7 "_law_bent" = true) (k7 : PySem.W.keepIn K (.ref f7) = true)
    (a8 : PySem.W.nsIn K mainGlobals "_law_any_row" = some (some (.ref f8))) (l8 : K.lookup f8 = some ⟨oc8, od8, .func (PySem.W.fnOf "_law_any_row" "_law_any_row" (defArgs d_law_any_row) (defBody d_law_any_row) (defScope d_law_any_row) .none kV8 dc8 pm8 an8 cd8 ct8), sl8⟩) (c8 : PySem.W.codeIn K cd8 "_law_any_row" = true) (k8 : PySem.W.keepIn K (.ref f8) = true)
    (a9 : PySem.W.nsIn K mainGlobals "_law_is_row" = some (some (.ref f9))) (l9 : K.lookup f9 = some ⟨oc9, od9, .func (PySem.W.fnOf "_law_is_row" "_law_is_row" (defArgs d_law_is_row) (defBody d_law_is_row) (defScope d_law_is_row) .none kV9 dc9 pm9 an9 cd9 ct9), sl9⟩) (c9 : PySem.W.codeIn K cd9 "_law_is_row" = true) (k9 : PySem.W.keepIn K (.ref f9) = true)
    (a10 : PySem.W.nsIn K mainGlobals "_law_no_row" = some (some (.ref f10))) (l10 : K.lookup f10 = some ⟨oc10, od10, .func (PySem.W.fnOf "_law_no_row" "_law_no_row" (defArgs d_law_no_row) (defBody d_law_no_row) (defScope d_law_no_row) .none kV10 dc10 pm10 an10 cd10 ct10), sl10⟩) (c10 : PySem.W.codeIn K cd10 "_law_no_row" = true) (k10 : PySem.W.keepIn K (.ref f10) = true)
    (a11 : PySem.W.nsIn K mainGlobals "_law_right" = some (some (.ref f11))) (l11 : K.lookup f11 = some ⟨oc11, od11, .func (PySem.W.fnOf "_law_right" "_law_right" (defArgs d_law_right) (defBody d_law_right) (defScope d_law_right) .none kV11 dc11 pm11 an11 cd11 ct11), sl11⟩) (c11 : PySem.W.codeIn K cd11 "_law_right" = true) (k11 : PySem.W.keepIn K (.ref f11) = true)
    (a12 : PySem.W.nsIn K mainGlobals "law" = some (some (.ref f12))) (l12 : K.lookup f12 = some ⟨oc12, od12, .func (PySem.W.fnOf "law" "law" (defArgs d_law) (defBody d_law) (defScope d_law) .none kV12 dc12 pm12 an12 cd12 ct12), sl12⟩) (c12 : PySem.W.codeIn K cd12 "law" = true) (k12 : PySem.W.keepIn K (.ref f12) = true)
    (z_all : PySem.W.nsIn K mainGlobals "all" = some none)
    (z_bool : PySem.W.nsIn K mainGlobals "bool" = some none)
    (z_int : PySem.W.nsIn K mainGlobals "int" = some none)
    (z_isinstance : PySem.W.nsIn K mainGlobals "isinstance" = some none)
    (z_len : PySem.W.nsIn K mainGlobals "len" = some none)
    (z_list : PySem.W.nsIn K mainGlobals "list" = some none)
    (z_max : PySem.W.nsIn K mainGlobals "max" = some none)
    (z_min : PySem.W.nsIn K mainGlobals "min" = some none)
    (z_range : PySem.W.nsIn K mainGlobals "range" = some none)
    (z_repr : PySem.W.nsIn K mainGlobals "repr" = some none)
    (z_str : PySem.W.nsIn K mainGlobals "str" = some none)
    (g_OPENING : PySem.W.nsIn K mainGlobals "OPENING" = some (some (.str x_OPENING t_OPENING))) (h_OPENING : x_OPENING = ⟨([40, 91, 123, 60] : List Nat).toArray⟩)
    (g_CLOSING : PySem.W.nsIn K mainGlobals "CLOSING" = some (some (.str x_CLOSING t_CLOSING))) (h_CLOSING : x_CLOSING = ⟨([41, 93, 125, 62] : List Nat).toArray⟩)
    (g_K : PySem.W.nsIn K mainGlobals "KINDS" = some (some (.ref aK))) (l_K : K.lookup aK = some oK) (c_K : oK.cls = .type "tuple") (s_K : oK.data = .seq itK nK) (r_K : tupIs itK [tx [40, 41], tx [91, 93], tx [123, 125], tx [60, 62]] = true)
    (g_UNKNOWN : PySem.W.nsIn K mainGlobals "UNKNOWN" = some (some (.str x_UNKNOWN t_UNKNOWN))) (h_UNKNOWN : x_UNKNOWN = ⟨([63] : List Nat).toArray⟩)
    (g_MOST_SIGNS : PySem.W.nsIn K mainGlobals "MOST_SIGNS" = some (some (.int x_MOST_SIGNS t_MOST_SIGNS))) (h_MOST_SIGNS : x_MOST_SIGNS = 40) :
    ∃ fd : FuncData, (∀ (s : Shared) (v : Value), BindsTo s fd ⟨[v], []⟩ [("script", v)]) ∧ ∀ base : Heap, K.In base → base.Ns mainGlobals mg → FnOk l.prog w K mg base CX0 5 fa fd ["script"] (spLaw K) := by
  have e := hfa.symm.trans (PySem.W.mg_of X G a12)
  cases e
  have T : Txt K mg aK := ⟨PySem.W.mg_none_of X G z_all, PySem.W.mg_none_of X G z_bool, PySem.W.mg_none_of X G z_int, PySem.W.mg_none_of X G z_isinstance, PySem.W.mg_none_of X G z_len, PySem.W.mg_none_of X G z_list, PySem.W.mg_none_of X G z_max, PySem.W.mg_none_of X G z_min, PySem.W.mg_none_of X G z_range, PySem.W.mg_none_of X G z_repr, PySem.W.mg_none_of X G z_str, ⟨_, PySem.W.mg_of X G g_OPENING, by rw [h_OPENING]; exact ⟨_, rfl⟩⟩, ⟨_, PySem.W.mg_of X G g_CLOSING, by rw [h_CLOSING]; exact ⟨_, rfl⟩⟩, ⟨_, PySem.W.mg_of X G g_K, rfl⟩, fun H => .inr ⟨oK, itK, nK, l_K, c_K, s_K, tupIs_size r_K (by decide), tupIs_vals r_K⟩, ⟨_, PySem.W.mg_of X G g_UNKNOWN, by rw [h_UNKNOWN]; exact ⟨_, rfl⟩⟩, ⟨_, PySem.W.mg_of X G g_MOST_SIGNS, by rw [h_MOST_SIGNS]; exact ⟨_, rfl⟩⟩⟩
  have F0 := fun_mk (st := d_is_whole) l0 c0 k0
  have D0 : DefAt K mg "is_whole" d_is_whole ["thing"] _ _ := ⟨F0, PySem.W.mg_of X G a0, F0.binds (ps := ["thing"]) fun _ _ _ _ _ _ us hl => match us, hl with | [_], _ => rfl⟩
  have F1 := fun_mk (st := d_check_kinds) l1 c1 k1
  have D1 : DefAt K mg "check_kinds" d_check_kinds ["k"] _ _ := ⟨F1, PySem.W.mg_of X G a1, F1.binds (ps := ["k"]) fun _ _ _ _ _ _ us hl => match us, hl with | [_], _ => rfl⟩
  have F2 := fun_mk (st := d_is_line) l2 c2 k2
  have D2 : DefAt K mg "is_line" d_is_line ["k", "thing"] _ _ := ⟨F2, PySem.W.mg_of X G a2, F2.binds (ps := ["k", "thing"]) fun _ _ _ _ _ _ us hl => match us, hl with | [_, _], _ => rfl⟩
  have F3 := fun_mk (st := d_law_pool) l3 c3 k3
  have D3 : DefAt K mg "_law_pool" d_law_pool ["script", "k"] _ _ := ⟨F3, PySem.W.mg_of X G a3, F3.binds (ps := ["script", "k"]) fun _ _ _ _ _ _ us hl => match us, hl with | [_, _], _ => rfl⟩
  have F4 := fun_mk (st := d_law_take) l4 c4 k4
  have D4 : DefAt K mg "_law_take" d_law_take ["pool", "many"] _ _ := ⟨F4, PySem.W.mg_of X G a4, F4.binds (ps := ["pool", "many"]) fun _ _ _ _ _ _ us hl => match us, hl with | [_, _], _ => rfl⟩
  have F5 := fun_mk (st := d_law_right_row) l5 c5 k5
  have D5 : DefAt K mg "_law_right_row" d_law_right_row ["pool", "k", "most"] _ _ := ⟨F5, PySem.W.mg_of X G a5, F5.binds (ps := ["pool", "k", "most"]) fun _ _ _ _ _ _ us hl => match us, hl with | [_, _, _], _ => rfl⟩
  have F6 := fun_mk (st := d_law_signs) l6 c6 k6
  have D6 : DefAt K mg "_law_signs" d_law_signs ["k"] _ _ := ⟨F6, PySem.W.mg_of X G a6, F6.binds (ps := ["k"]) fun _ _ _ _ _ _ us hl => match us, hl with | [_], _ => rfl⟩
  have F7 := fun_mk (st := d_law_bent) l7 c7 k7
  have D7 : DefAt K mg "_law_bent" d_law_bent ["pool", "row", "signs"] _ _ := ⟨F7, PySem.W.mg_of X G a7, F7.binds (ps := ["pool", "row", "signs"]) fun _ _ _ _ _ _ us hl => match us, hl with | [_, _, _], _ => rfl⟩
  have F8 := fun_mk (st := d_law_any_row) l8 c8 k8
  have D8 : DefAt K mg "_law_any_row" d_law_any_row ["pool", "k", "most"] _ _ := ⟨F8, PySem.W.mg_of X G a8, F8.binds (ps := ["pool", "k", "most"]) fun _ _ _ _ _ _ us hl => match us, hl with | [_, _, _], _ => rfl⟩
  have F9 := fun_mk (st := d_law_is_row) l9 c9 k9
  have D9 : DefAt K mg "_law_is_row" d_law_is_row ["k", "thing"] _ _ := ⟨F9, PySem.W.mg_of X G a9, F9.binds (ps := ["k", "thing"]) fun _ _ _ _ _ _ us hl => match us, hl with | [_, _], _ => rfl⟩
  have F10 := fun_mk (st := d_law_no_row) l10 c10 k10
  have D10 : DefAt K mg "_law_no_row" d_law_no_row ["pool", "k", "row"] _ _ := ⟨F10, PySem.W.mg_of X G a10, F10.binds (ps := ["pool", "k", "row"]) fun _ _ _ _ _ _ us hl => match us, hl with | [_, _, _], _ => rfl⟩
  have F11 := fun_mk (st := d_law_right) l11 c11 k11
  have D11 : DefAt K mg "_law_right" d_law_right ["k", "thing"] _ _ := ⟨F11, PySem.W.mg_of X G a11, F11.binds (ps := ["k", "thing"]) fun _ _ _ _ _ _ us hl => match us, hl with | [_, _], _ => rfl⟩
  have F12 := fun_mk (st := d_law) l12 c12 k12
  have D12 : DefAt K mg "law" d_law ["script"] _ _ := ⟨F12, PySem.W.mg_of X G a12, F12.binds (ps := ["script"]) fun _ _ _ _ _ _ us hl => match us, hl with | [_], _ => rfl⟩
  refine ⟨PySem.W.fnOf "law" "law" (defArgs d_law) (defBody d_law) (defScope d_law) .none kV12 dc12 pm12 an12 cd12 ct12, fun s v => .of_eq rfl, fun base _ _ => ?_⟩
  have U_is_whole : FnU l.prog w K mg base 1 "is_whole" ["thing"] (spWhole K) := D0.fnU (ok_is_whole (k := 0) F0 T )
  have U_check_kinds : FnU l.prog w K mg base 2 "check_kinds" ["k"] (spKinds) := D1.fnU (ok_check_kinds (k := 1) F1 T (U_is_whole.mono (by decide)))
  have U_is_line : FnU l.prog w K mg base 3 "is_line" ["k", "thing"] (spLine K) := D2.fnU (ok_is_line (k := 2) F2 T (U_check_kinds.mono (by decide)))
  have U_law_pool : FnU l.prog w K mg base 1 "_law_pool" ["script", "k"] (spPool K) := D3.fnU (ok_law_pool (k := 0) F3 T )
  have U_law_take : FnU l.prog w K mg base 1 "_law_take" ["pool", "many"] (spTake) := D4.fnU (ok_law_take (k := 0) F4 T )
  have U_law_right_row : FnU l.prog w K mg base 2 "_law_right_row" ["pool", "k", "most"] (spRightRow) := D5.fnU (ok_law_right_row (k := 1) F5 T (U_law_take.mono (by decide)))
  have U_law_signs : FnU l.prog w K mg base 1 "_law_signs" ["k"] (spSigns) := D6.fnU (ok_law_signs (k := 0) F6 T )
  have U_law_bent : FnU l.prog w K mg base 2 "_law_bent" ["pool", "row", "signs"] (spBent) := D7.fnU (ok_law_bent (k := 1) F7 T (U_law_take.mono (by decide)))
  have U_law_any_row : FnU l.prog w K mg base 3 "_law_any_row" ["pool", "k", "most"] (spAnyRow) := D8.fnU (ok_law_any_row (k := 2) F8 T (U_law_take.mono (by decide)) (U_law_signs.mono (by decide)) (U_law_right_row.mono (by decide)) (U_law_bent.mono (by decide)))
  have U_law_is_row : FnU l.prog w K mg base 2 "_law_is_row" ["k", "thing"] (spIsRow) := D9.fnU (ok_law_is_row (k := 1) F9 T (U_law_signs.mono (by decide)))
  have U_law_no_row : FnU l.prog w K mg base 2 "_law_no_row" ["pool", "k", "row"] (spNoRow) := D10.fnU (ok_law_no_row (k := 1) F10 T (U_law_take.mono (by decide)))
  have U_law_right : FnU l.prog w K mg base 4 "_law_right" ["k", "thing"] (spRight01) := D11.fnU (ok_law_right (k := 3) F11 T (U_is_line.mono (by decide)) (U_law_is_row.mono (by decide)))
  exact ok_law (k := 4) F12 T (U_law_pool.mono (by decide)) (U_law_any_row.mono (by decide)) (U_law_take.mono (by decide)) (U_is_line.mono (by decide)) (U_law_no_row.mono (by decide)) (U_law_right.mono (by decide))
theorem walk {l : PySem.W.OpenLaw} {q : Program} {loose : List Str} {XP : (Str → Option Value) → Heap → Prop} {YP : World → Heap → Prop} {d : DefRec} {K : Params → PySem.W.Frag} (hn : l.most = some 63) (hdf : d.params.defaults = [])
    (hY : ∀ (w : World) (h : Heap), YP w h → (K w.params).In h)
    (F : ∀ (w : World) (mg : Str → Option Value) (fa : Addr) (h : Heap), (K w.params).In h → h.Ns mainGlobals mg → mg d.name = some (.ref fa) →
      ∃ fd : FuncData, (∀ (s : Shared) (u : Value), BindsTo s fd ⟨[u], []⟩ [("script", u)]) ∧ ∀ base : Heap, (K w.params).In base → base.Ns mainGlobals mg → FnOk l.prog w (K w.params) mg base CX0 5 fa fd ["script"] (spLaw (K w.params))) :
    PySem.W.WalkO q loose XP YP l.row.toRowW d [] (fun f vs => PySem.call f vs) :=
  L2.walk_of (n := 63) (k := 5) (x := "script") (CX := fun _ => CX0) (sp := fun w => spLaw (K w.params)) hn (by decide) hdf ⟨rfl, by decide, by decide, rfl⟩ hY F (fun _ _ a ns hl _ hS => ⟨a, ns, rfl, hS, hl, fun _ => rfl⟩) fun _ _ _ _ _ z => z
end Bk
open PySem PySem.W PyProof.Rows
set_option maxRecDepth 100000 in
set_option maxHeartbeats 0 in
theorem PySem.Challenge.cw_bracketrows_k01_what_is_a_row_holds : PySem.Challenge.rw_bracketrows_k01_what_is_a_row.Holds := by
  w_on; o_law; k_head; (case hw => w_witness2)
  k_fill
  refine Bk.walk (l := PySem.Challenge.rw_bracketrows_k01_what_is_a_row) rfl rfl (fun w h Y => PySem.W.kIn_of Y) ?F
  case F =>
    intro w mg fa h KX G hmg
    refine' Bk.all_mk KX G hmg ?a0 ?l0 ?c0 ?k0 ?a1 ?l1 ?c1 ?k1 ?a2 ?l2 ?c2 ?k2 ?a3 ?l3 ?c3 ?k3 ?a4 ?l4 ?c4 ?k4 ?a5 ?l5 ?c5 ?k5 ?a6 ?l6 ?c6 ?k6 ?a7 ?l7 ?c7 ?k7 ?a8 ?l8 ?c8 ?k8 ?a9 ?l9 ?c9 ?k9 ?a10 ?l10 ?c10 ?k10 ?a11 ?l11 ?c11 ?k11 ?a12 ?l12 ?c12 ?k12 ?z_all ?z_bool ?z_int ?z_isinstance ?z_len ?z_list ?z_max ?z_min ?z_range ?z_repr ?z_str ?g_OPENING ?h_OPENING ?g_CLOSING ?h_CLOSING ?g_K ?l_K ?c_K ?s_K ?r_K ?g_UNKNOWN ?h_UNKNOWN ?g_MOST_SIGNS ?h_MOST_SIGNS
    (case a0 => k_is)
    (case l0 => k_is)
    (case c0 => k_is)
    (case k0 => k_is)
    (case a1 => k_is)
    (case l1 => k_is)
    (case c1 => k_is)
    (case k1 => k_is)
    (case a2 => k_is)
    (case l2 => k_is)
    (case c2 => k_is)
    (case k2 => k_is)
    (case a3 => k_is)
    (case l3 => k_is)
    (case c3 => k_is)
    (case k3 => k_is)
    (case a4 => k_is)
    (case l4 => k_is)
    (case c4 => k_is)
    (case k4 => k_is)
    (case a5 => k_is)
    (case l5 => k_is)
    (case c5 => k_is)
    (case k5 => k_is)
    (case a6 => k_is)
    (case l6 => k_is)
    (case c6 => k_is)
    (case k6 => k_is)
    (case a7 => k_is)
    (case l7 => k_is)
    (case c7 => k_is)
    (case k7 => k_is)
    (case a8 => k_is)
    (case l8 => k_is)
    (case c8 => k_is)
    (case k8 => k_is)
    (case a9 => k_is)
    (case l9 => k_is)
    (case c9 => k_is)
    (case k9 => k_is)
    (case a10 => k_is)
    (case l10 => k_is)
    (case c10 => k_is)
    (case k10 => k_is)
    (case a11 => k_is)
    (case l11 => k_is)
    (case c11 => k_is)
    (case k11 => k_is)
    (case a12 => k_is)
    (case l12 => k_is)
    (case c12 => k_is)
    (case k12 => k_is)
    (case z_all => k_is)
    (case z_bool => k_is)
    (case z_int => k_is)
    (case z_isinstance => k_is)
    (case z_len => k_is)
    (case z_list => k_is)
    (case z_max => k_is)
    (case z_min => k_is)
    (case z_range => k_is)
    (case z_repr => k_is)
    (case z_str => k_is)
    (case g_OPENING => k_is)
    (case h_OPENING => first | rfl | decide +kernel)
    (case g_CLOSING => k_is)
    (case h_CLOSING => first | rfl | decide +kernel)
    (case g_K => k_is)
    (case l_K => k_is)
    (case c_K => rfl)
    (case s_K => rfl)
    (case r_K => decide +kernel)
    (case g_UNKNOWN => k_is)
    (case h_UNKNOWN => first | rfl | decide +kernel)
    (case g_MOST_SIGNS => k_is)
    (case h_MOST_SIGNS => rfl)

import PyProof.Rows.All
import Wide.All
import OpenK.AllK
import Wide.FinOn
import Lean
import PyProof.EqAt
import PyProof.EqKinds
import PyProof.TupleCall
import PySem.Challenge.RW_bracketrows_k02_what_is_right
set_option Elab.async false
set_option linter.all false
set_option maxRecDepth 100000

-- CHANGE: your row's module here, as the last of these rows
/-! THE HAND LAYER, for ints, bools, texts, own classes, LISTS and tuples (index, slices, in, append, pop ..), calls, loops. Paste it whole ahead of your own text; what your proof does not reach may be deleted. -/
namespace L2
open PySem PySem.Spec PyProof.Rows

/-- a key: an int or a str -/
abbrev Key := Sum Int Str
def keyIs : Key → Value → Bool
  | .inl k, v => Value.isInt k v
  | .inr x, v => Value.isStrOf x v
def keyH (w : World) : Key → Int
  | .inl k => hashInt k
  | .inr x => hashStr w x
theorem keyIs_shape : ∀ {k : Key} {v : Value}, keyIs k v = true → (∃ i t, k = Sum.inl i ∧ v = Value.int i t) ∨ (∃ x t, k = Sum.inr x ∧ v = Value.str x t)
  | .inl i, v, h => by
    obtain ⟨t, e⟩ := Value.isInt_shape (k := i) (v := v) h
    exact .inl ⟨i, t, rfl, e⟩
  | .inr x, v, h => by
    obtain ⟨t, e⟩ := Value.isStrOf_shape (x := x) (v := v) h
    exact .inr ⟨x, t, rfl, e⟩
theorem key_ll (a b : Int) : decide ((Sum.inl a : Key) = Sum.inl b) = (a == b) := by
  by_cases e : a = b
  · subst e; simp
  · have h : ¬ (Sum.inl a : Key) = Sum.inl b := fun q => e (Sum.inl.inj q)
    rw [decide_eq_false h]
    exact (beq_eq_false_iff_ne.mpr e).symm
theorem key_rr (a b : Str) : decide ((Sum.inr a : Key) = Sum.inr b) = decide (a = b) := by
  by_cases e : a = b
  · subst e; simp
  · have h : ¬ (Sum.inr a : Key) = Sum.inr b := fun q => e (Sum.inr.inj q)
    rw [decide_eq_false h, decide_eq_false e]
theorem key_lr (a : Int) (b : Str) : decide ((Sum.inl a : Key) = Sum.inr b) = false := decide_eq_false (fun q => nomatch q)
theorem key_rl (a : Str) (b : Int) : decide ((Sum.inr a : Key) = Sum.inl b) = false := decide_eq_false (fun q => nomatch q)

def mixKind (prog : Program) (w : World) : PySem.KeyKind prog w Key where
  is := keyIs
  hash := keyH w
  inj := fun v a b ha hb => by
    rcases keyIs_shape ha with ⟨i, t, rfl, rfl⟩ | ⟨x, t, rfl, rfl⟩
    · rcases keyIs_shape hb with ⟨j, u, rfl, e⟩ | ⟨y, u, rfl, e⟩
      · injection e with e1 _; rw [e1]
      · exact nomatch e
    · rcases keyIs_shape hb with ⟨j, u, rfl, e⟩ | ⟨y, u, rfl, e⟩
      · exact nomatch e
      · injection e with e1 _; rw [e1]
  byValue := fun k v h => by
    rcases keyIs_shape h with ⟨i, t, rfl, rfl⟩ | ⟨x, t, rfl, rfl⟩ <;> rfl
  pyHash := fun hv h => by
    rcases keyIs_shape hv with ⟨i, t, rfl, rfl⟩ | ⟨x, t, rfl, rfl⟩
    · exact wpAny_pyHash_int h
    · exact wpAny_pyHash_str h
  eqBool := fun hu hv h => by
    rcases keyIs_shape hu with ⟨i, t, rfl, rfl⟩ | ⟨x, t, rfl, rfl⟩
    · rcases keyIs_shape hv with ⟨j, u, rfl, rfl⟩ | ⟨y, u, rfl, rfl⟩
      · rw [key_ll] at h; exact wpAny_eqBool_int h
      · rw [key_lr] at h; exact SeqAt.EqAt.int_str i t y u _ _ _ _ h
    · rcases keyIs_shape hv with ⟨j, u, rfl, rfl⟩ | ⟨y, u, rfl, rfl⟩
      · rw [key_rl] at h; exact SeqAt.EqAt.str_int x t j u _ _ _ _ h
      · rw [key_rr] at h; exact wpAny_eqBool_str h
  «strs» := fun k x t v h => by
    rcases keyIs_shape h with ⟨i, u, rfl, e⟩ | ⟨y, u, rfl, e⟩
    · exact nomatch e
    · injection e with e1 _
      subst e1
      cases v <;> rfl

end L2

namespace L2
open PySem PySem.Spec PyProof.Rows

/-- a value, without the heap -/
inductive V where
  | non | bl (b : Bool) | int (i : Int) | str (x : Str) | byt (b : Array UInt8) | flt (b : UInt64) | ref (a : Addr) | ty (n : String)
  deriving DecidableEq

def RelV : V → Value → Prop
  | .non, u => u = Value.none
  | .bl b, u => u = Value.bool b
  | .int i, u => ∃ t, u = Value.int i t
  | .str x, u => ∃ t, u = Value.str x t
  | .byt b, u => ∃ t, u = Value.bytes b t
  | .flt b, u => ∃ t, u = Value.float b t
  | .ref a, u => u = Value.ref a
  | .ty n, u => u = Value.type n

abbrev Vals : List V → List Value → Prop := Paired RelV
theorem Vals.length {xs : List V} {us : List Value} (r : Vals xs us) : xs.length = us.length := Paired.length r
theorem Vals.get : ∀ {xs : List V} {us : List Value} {i : Nat} {x : V}, Vals xs us → xs[i]? = some x → ∃ u, us[i]? = some u ∧ RelV x u
  | _, _, _, _, .nil, e => by simp at e
  | _, _, 0, _, .cons r _, e => by simp at e; subst e; exact ⟨_, rfl, r⟩
  | _, _, i + 1, x, .cons _ t, e => by
    obtain ⟨u, h1, h2⟩ := Vals.get (i := i) (x := x) t (by simpa using e)
    exact ⟨u, by simpa using h1, h2⟩
theorem Vals.set {x : V} {u : Value} (r : RelV x u) : ∀ {xs : List V} {us : List Value} (i : Nat), Vals xs us → Vals (xs.set i x) (us.set i u)
  | _, _, _, .nil => .nil
  | _, _, 0, .cons _ t => .cons r t
  | _, _, i + 1, .cons q t => .cons q (Vals.set r i t)
theorem Vals.append : ∀ {xs ys : List V} {us ws : List Value}, Vals xs us → Vals ys ws → Vals (xs ++ ys) (us ++ ws)
  | _, _, _, _, .nil, s => s
  | _, _, _, _, .cons r t, s => .cons r (Vals.append t s)
theorem Vals.take : ∀ {xs : List V} {us : List Value} (n : Nat), Vals xs us → Vals (xs.take n) (us.take n)
  | _, _, 0, _ => .nil
  | _, _, _ + 1, .nil => .nil
  | _, _, n + 1, .cons r t => .cons r (Vals.take n t)
theorem Vals.drop : ∀ {xs : List V} {us : List Value} (n : Nat), Vals xs us → Vals (xs.drop n) (us.drop n)
  | _, _, 0, r => r
  | _, _, _ + 1, .nil => .nil
  | _, _, n + 1, .cons _ t => Vals.drop n t
def RelO : Option V → Option Value → Prop
  | some v, some u => RelV v u
  | none, none => True
  | _, _ => False
def KV {κ : Type} : List (κ × V) → List (κ × Value) → Prop := Paired fun (p : κ × V) (q : κ × Value) => p.1 = q.1 ∧ RelV p.2 q.2

/-- a key of a dict (00_mix): an int or a text -/
def kV : Key → V
  | .inl i => .int i
  | .inr x => .str x

/-- what stands at a tracked address -/
inductive HO where
  /-- a list -/
  | lst (xs : List V)
  /-- a tuple (never changes) -/
  | tup (xs : List V)
  /-- a dict whose keys are ints and texts; one whose keys are tuples of ints and texts (the empty one is both) -/
  | dK (kvs : List (Key × V)) | dT (kvs : List (List Key × V))
  /-- a set of ints: its members, its size -/
  | set (S : Int → Bool) (n : Nat)
  /-- an instance of the class at C, its dict at dx, its attributes -/
  | ins (C dx : Addr) (fs : List (Str × V))
  /-- the dict of the instance at x -/
  | own (x : Addr)
  /-- the dict of an exception -/
  | xd (fs : List (Str × V))
  /-- a bound method, f of x -/
  | met (f x : Addr)
  /-- a range object lo, lo + 1, .. below hi -/
  | rng (lo hi : Int)
  /-- a thing that is known to the object (the script; a dict while a loop walks it): read, never written while it is so -/
  | frz (o : Obj) (u : HO)
  /-- a code object's table -/
  | tbl (ps : Array Value)
  /-- any other thing, by what is true of its one object (a def of one's own: SetO a S n := HO.ext fun h => ..) -/
  | ext (φ : Heap → Prop)

abbrev Hp := Addr → Option HO
def upd (H : Hp) (a : Addr) (o : HO) : Hp := fun b => if b = a then some o else H b
theorem upd_same {H : Hp} {a : Addr} {o : HO} : upd H a o a = some o := by unfold upd; rw [if_pos rfl]
theorem upd_ne {H : Hp} {a b : Addr} {o : HO} (h : b ≠ a) : upd H a o b = H b := by unfold upd; rw [if_neg h]
theorem ne_of_none {H : Hp} {a b : Addr} {o : HO} (h : H a = some o) (h' : H b = none) : a ≠ b := by
  intro e; subst e; rw [h] at h'; cases h'

section
variable (P : Program) (w : World)
def ObjOk (H : Hp) (h : Heap) (a : Addr) : HO → Prop
  | .lst xs => xs.length ≤ sizeLine ∧ ∃ (its : List Value) (n : Nat), Vals xs its ∧ h.get? a = some { cls := .type "list", data := .seq its.toArray n }
  | .tup xs => xs.length ≤ sizeLine ∧ ∃ its : List Value, Vals xs its ∧ IsTup h a its.toArray
  | .dK kvs => kvs.length ≤ sizeLine ∧ (a == sysModules) = false ∧ ∃ vs, KV kvs vs ∧ h.DictOf (mixKind P w) a vs
  | .dT kvs => kvs.length ≤ sizeLine ∧ (a == sysModules) = false ∧ ∃ xs : List (List Key × Addr × Value),
      Paired (fun (p : List Key × V) (q : List Key × Addr × Value) => p.1 = q.1 ∧ H q.2.1 = some (.tup (p.1.map kV)) ∧ RelV p.2 q.2.2) kvs xs ∧
      ∃ o es ep, h.get? a = some o ∧ o.ExactDict ∧ o.data = .dict es ep ∧ es.toList = xs.map (entryOfKey (tupleKind (mixKind P w))) ∧ (xs.map (·.1)).Nodup
  | .set S n => h.SetOf (intKind P w) a S n
  | .ins C dx fs => H dx = some (.own a) ∧ fs.length ≤ 1000 ∧ dx ≠ a ∧ h.get? a = some (PySem.W.instObj C dx) ∧
      ∃ mA, h.Ns1 dx mA ∧ (∀ f, RelO (fs.lookup f) (mA f)) ∧ PySem.Within mA (fs.map (·.1))
  | .own _ => ∃ o, h.get? a = some o
  | .xd fs => ∃ mA, h.Ns1 a mA ∧ ∀ f, RelO (fs.lookup f) (mA f)
  | .rng lo hi => ∃ t u v, h.get? a = some { cls := .type "range", data := .fields #[.int lo t, .int hi u, .int 1 v] }
  | .frz o u => h.get? a = some o ∧ ObjOk H h a u
  | .tbl ps => h.get? a = some { cls := .none, data := .fields ps }
  | .met f x => h.get? a = some (PySem.W.methodObj (.ref f) (.ref x))
  | .ext φ => φ h ∧ (∃ o, h.get? a = some o) ∧ ∀ h1 h2 : Heap, φ h1 → (∀ o, h1.get? a = some o → h2.get? a = some o) → φ h2
/-- the abstract heap is held -/
structure HOk (H : Hp) (h : Heap) : Prop where
  all : ∀ a o, H a = some o → ObjOk P w H h a o
  sm : ∀ o, H sysModules = some o → ∃ ob u, o = .frz ob u
  bg : ∃ b o, 1 < b ∧ h.get? b = some o
instance (H : Hp) (h : Heap) : CoeFun (HOk P w H h) fun _ => ∀ a o, H a = some o → ObjOk P w H h a o := ⟨HOk.all⟩
end

section
variable {P : Program} {w : World} {H H' : Hp} {h h' : Heap} {a : Addr} {o : HO}
theorem ObjOk.lt (x : ObjOk P w H h a o) : a < h.objs.size := by
  cases o with
  | lst xs => obtain ⟨_, _, _, _, e⟩ := x; exact Heap.lt_size e
  | tup xs => obtain ⟨_, _, _, p⟩ := x; exact p.lt
  | dK kvs => obtain ⟨_, _, _, _, o, _, _, e, _⟩ := x; exact Heap.lt_size e
  | dT kvs => obtain ⟨_, _, _, _, o, _, _, e, _⟩ := x; exact Heap.lt_size e
  | set S n => obtain ⟨o, _, _, _, e, _⟩ := x; exact Heap.lt_size e
  | ins C dx fs => obtain ⟨_, _, _, e, _⟩ := x; exact Heap.lt_size e
  | own y => obtain ⟨_, e⟩ := x; exact Heap.lt_size e
  | xd fs => obtain ⟨_, ⟨_, _, _, e, _⟩, _⟩ := x; exact Heap.lt_size e
  | rng lo hi => obtain ⟨_, _, _, e⟩ := x; exact Heap.lt_size e
  | frz ob u => obtain ⟨e, _⟩ := x; exact Heap.lt_size e
  | tbl ps => exact Heap.lt_size (show h.get? a = some _ from x)
  | met f y => exact Heap.lt_size (show h.get? a = some _ from x)
  | ext φ => obtain ⟨_, ⟨_, e⟩, _⟩ := x; exact Heap.lt_size e
theorem Paired.mapP {α β : Type} {F G : α → β → Prop} : ∀ {l₁ : List α} {l₂ : List β}, Paired F l₁ l₂ → (∀ a b, F a b → G a b) → Paired G l₁ l₂
  | _, _, .nil, _ => .nil
  | _, _, .cons r t, f => .cons (f _ _ r) (Paired.mapP t f)
/-- what an object's description leans on: its own object, its own dict, the tuples -/
theorem ObjOk.stay (x : ObjOk P w H h a o) (k : ∀ b u, (b = a ∨ H b = some (.own a)) → h.get? b = some u → h'.get? b = some u)
    (ho : ∀ b, H b = some (.own a) → H' b = some (.own a)) (ht : ∀ b xs, H b = some (.tup xs) → H' b = some (.tup xs)) : ObjOk P w H' h' a o := by
  induction o with
  | lst xs => obtain ⟨z, its, n, r, e⟩ := x; exact ⟨z, its, n, r, k _ _ (.inl rfl) e⟩
  | tup xs => obtain ⟨z, its, r, ob, e, c⟩ := x; exact ⟨z, its, r, ob, k _ _ (.inl rfl) e, c⟩
  | dK kvs => obtain ⟨z, y, vs, r, ob, es, ep, e, c⟩ := x; exact ⟨z, y, vs, r, ob, es, ep, k _ _ (.inl rfl) e, c⟩
  | dT kvs =>
    obtain ⟨z, y, xs, r, ob, es, ep, e, c⟩ := x
    exact ⟨z, y, xs, Paired.mapP r fun p q z => ⟨z.1, ht _ _ z.2.1, z.2.2⟩, ob, es, ep, k _ _ (.inl rfl) e, c⟩
  | set S n => obtain ⟨ob, es, ep, t, e, c⟩ := x; exact ⟨ob, es, ep, t, k _ _ (.inl rfl) e, c⟩
  | ins C dx fs =>
    obtain ⟨d, z, ne, e, mA, ⟨od, es, ep, e2, c⟩, r⟩ := x
    exact ⟨ho _ d, z, ne, k _ _ (.inl rfl) e, mA, ⟨od, es, ep, k _ _ (.inr d) e2, c⟩, r⟩
  | own y => obtain ⟨ob, e⟩ := x; exact ⟨ob, k _ _ (.inl rfl) e⟩
  | xd fs => obtain ⟨mA, ⟨od, es, ep, e, c⟩, r⟩ := x; exact ⟨mA, ⟨od, es, ep, k _ _ (.inl rfl) e, c⟩, r⟩
  | rng lo hi => obtain ⟨t, u, v, e⟩ := x; exact ⟨t, u, v, k _ _ (.inl rfl) e⟩
  | frz ob u ih => obtain ⟨e, q⟩ := x; exact ⟨k _ _ (.inl rfl) e, ih q⟩
  | tbl ps =>
    have e : h.get? a = some { cls := .none, data := .fields ps } := x
    show h'.get? a = some { cls := .none, data := .fields ps }
    exact k a _ (.inl rfl) e
  | met f y =>
    have e : h.get? a = some (PySem.W.methodObj (.ref f) (.ref y)) := x
    show h'.get? a = some (PySem.W.methodObj (.ref f) (.ref y))
    exact k a _ (.inl rfl) e
  | ext φ => obtain ⟨p, ⟨o, e⟩, st⟩ := x; exact ⟨st _ _ p fun o q => k _ _ (.inl rfl) q, ⟨o, k _ _ (.inl rfl) e⟩, st⟩
theorem HOk.lt (x : HOk P w H h) (e : H a = some o) : a < h.objs.size := (x a o e).lt
theorem HOk.fresh (x : HOk P w H h) (e : h.objs.size ≤ a) : H a = none := by
  cases q : H a with
  | none => rfl
  | some u => exact absurd (Nat.lt_of_lt_of_le (x.lt q) e) (Nat.lt_irrefl _)
/-- every object of the heap is kept -/
theorem HOk.kept (x : HOk P w H h) (k : ∀ b u, h.get? b = some u → h'.get? b = some u) : HOk P w H h' := ⟨fun a o e =>
  (x a o e).stay (fun b u _ q => k b u q) (fun _ q => q) fun _ _ q => q, x.sm, let ⟨b, o, l, e⟩ := x.bg; ⟨b, o, l, k _ _ e⟩⟩
/-- a new object is laid and tracked -/
theorem HOk.laid (x : HOk P w H h) (k : ∀ b u, h.get? b = some u → h'.get? b = some u) (hp : h.objs.size ≤ a) (new : ObjOk P w (upd H a o) h' a o) : HOk P w (upd H a o) h' := by
  refine ⟨fun b u e => ?_, fun u e => ?_, let ⟨b, o, l, e⟩ := x.bg; ⟨b, o, l, k _ _ e⟩⟩
  rotate_left
  · by_cases hb : sysModules = a
    · obtain ⟨b, o, l, q⟩ := x.bg
      exact absurd (Nat.lt_trans l (show b < sysModules from by rw [hb]; exact Nat.lt_of_lt_of_le (Heap.lt_size q) hp)) (Nat.lt_irrefl 1)
    · rw [upd_ne hb] at e; exact x.sm u e
  have hn := x.fresh hp
  by_cases hb : b = a
  · subst hb; rw [upd_same] at e; cases e; exact new
  · rw [upd_ne hb] at e
    exact (x b u e).stay (fun c v _ q => k c v q) (fun c q => by rw [upd_ne (ne_of_none q hn)]; exact q) fun c xs q => by rw [upd_ne (ne_of_none q hn)]; exact q
end

/-- what may be read as u: it is u, or a known u -/
def Rd (H : Hp) (a : Addr) (u : HO) : Prop := H a = some u ∨ ∃ o, H a = some (.frz o u)
theorem Rd.of {H : Hp} {a : Addr} {u : HO} (h : H a = some u) : Rd H a u := .inl h
theorem Rd.ok {P : Program} {w : World} {H : Hp} {h : Heap} {a : Addr} {u : HO} (r : Rd H a u) (x : HOk P w H h) : ObjOk P w H h a u := by
  rcases r with r | ⟨o, r⟩
  · exact x a u r
  · obtain ⟨_, q⟩ := x a _ r
    exact q
/-- what may be written -/
def Mut : Option HO → Prop
  | some (.lst _) => True
  | some (.dK _) => True
  | some (.dT _) => True
  | some (.set _ _) => True
  | some (.ins _ _ _) => True
  | some (.ext _) => True
  | _ => False
section
variable {P : Program} {w : World} {H : Hp} {h h' : Heap} {x e : Addr} {o' : HO}
/-- the object at e is changed: x itself, or the dict of the instance x -/
theorem HOk.write (ok : HOk P w H h) (mu : Mut (H x)) (he : e = x ∨ H e = some (.own x)) (k : ∀ b u, b ≠ e → h.get? b = some u → h'.get? b = some u) (heo : ∃ u, h'.get? e = some u)
    (new : ObjOk P w (upd H x o') h' x o') : HOk P w (upd H x o') h' := by
  refine ⟨fun b u q => ?_, fun u q => ?_, ?_⟩
  rotate_left
  · by_cases hb : sysModules = x
    · exfalso
      subst hb
      cases z : H sysModules with
      | none => rw [z] at mu; exact mu
      | some o =>
        obtain ⟨ob, v, rfl⟩ := ok.sm o z
        rw [z] at mu; exact mu
    · rw [upd_ne hb] at q; exact ok.sm u q
  · obtain ⟨b, o, l, z⟩ := ok.bg
    by_cases hb : b = e
    · obtain ⟨v, hv⟩ := heo
      exact ⟨e, v, hb ▸ l, hv⟩
    · exact ⟨b, o, l, k b o hb z⟩
  have nown : ∀ c y, H c = some (.own y) → c ≠ x := fun c y r z => by subst z; rw [r] at mu; exact mu
  have ntup : ∀ c xs, H c = some (.tup xs) → c ≠ x := fun c xs r z => by subst z; rw [r] at mu; exact mu
  by_cases hb : b = x
  · subst hb; rw [upd_same] at q; cases q; exact new
  · rw [upd_ne hb] at q
    by_cases hbe : b = e
    · have q' : H b = some (.own x) := by
        rcases he with z | z
        · exact absurd (hbe.trans z) hb
        · rw [hbe]; exact z
      rw [q] at q'; cases q'
      obtain ⟨v, hv⟩ := heo
      exact ⟨v, by rw [hbe]; exact hv⟩
    · refine (ok b u q).stay (fun c v hc r => k c v ?_ r) (fun c r => by rw [upd_ne (nown c b r)]; exact r) fun c xs r => by rw [upd_ne (ntup c xs r)]; exact r
      rcases hc with rfl | hc
      · exact hbe
      · rintro rfl
        rcases he with z | z
        · exact nown c b hc z
        · rw [hc] at z; cases z; exact hb rfl
end

/-! ### kept unless tracked; of the frames at fs (the callers') the slots may change (an exception that passes writes there); of the records at ex (iterators) nothing is said -/
structure Un (fs ex : List Addr) (H H' : Hp) (h h' : Heap) : Prop where
  keep : ∀ b o, h.get? b = some o → H b = none → b ∉ fs → b ∉ ex → h'.get? b = some o
  slot : ∀ b o, h.get? b = some o → H b = none → b ∈ fs → b ∉ ex → ∃ sl, h'.get? b = some { o with slots := sl }
  free : ∀ b o, h.get? b = some o → H b = none → b ∉ ex → H' b = none
  there : ∀ b o, h.get? b = some o → b ∉ ex → ∃ o', h'.get? b = some o'
  tups : ∀ b xs, H b = some (.tup xs) → H' b = some (.tup xs)
  frzs : ∀ b o u, H b = some (.frz o u) → H' b = some (.frz o u)
  tbls : ∀ b ps, H b = some (.tbl ps) → ∃ more, H' b = some (.tbl (ps ++ more))
section
variable {fs fs' ex ex' : List Addr} {H H1 H2 : Hp} {h h1 h2 h' : Heap} {a x e : Addr} {o : HO}
theorem Un.any (u : Un fs ex H H1 h h1) {b : Addr} {ob : Obj} (q : h.get? b = some ob) (n : H b = none) (hx : b ∉ ex) : ∃ sl, h1.get? b = some { ob with slots := sl } := by
  by_cases hb : b ∈ fs
  · exact u.slot b ob q n hb hx
  · exact ⟨ob.slots, u.keep b ob q n hb hx⟩
theorem Un.trans (a : Un fs ex H H1 h h1) (b : Un fs ex H1 H2 h1 h2) : Un fs ex H H2 h h2 where
  keep := fun c ob q n hc hx => b.keep c ob (a.keep c ob q n hc hx) (a.free c ob q n hx) hc hx
  slot := fun c ob q n hc hx => by
    obtain ⟨sl, e1⟩ := a.slot c ob q n hc hx
    obtain ⟨sl', e2⟩ := b.slot c _ e1 (a.free c ob q n hx) hc hx
    exact ⟨sl', e2⟩
  free := fun c ob q n hx => by
    obtain ⟨o', e1⟩ := a.there c ob q hx
    exact b.free c o' e1 (a.free c ob q n hx) hx
  there := fun c ob q hx => by
    obtain ⟨o', e1⟩ := a.there c ob q hx
    exact b.there c o' e1 hx
  tups := fun c xs q => b.tups c xs (a.tups c xs q)
  frzs := fun c ob xs q => b.frzs c ob xs (a.frzs c ob xs q)
  tbls := fun c ps q => by
    obtain ⟨m1, e1⟩ := a.tbls c ps q
    obtain ⟨m2, e2⟩ := b.tbls c _ e1
    exact ⟨m1 ++ m2, by rw [e2, Array.append_assoc]⟩
theorem Un.kept (k : ∀ b u, h.get? b = some u → h'.get? b = some u) : Un fs ex H H h h' :=
  ⟨fun b ob q _ _ _ => k b ob q, fun b ob q _ _ _ => ⟨ob.slots, k b ob q⟩, fun _ _ _ n _ => n, fun b ob q _ => ⟨ob, k b ob q⟩, fun _ _ q => q, fun _ _ _ q => q, fun _ ps q => ⟨#[], by rw [q]; simp⟩⟩
theorem Un.refl : Un fs ex H H h h := Un.kept fun _ _ q => q
theorem Un.laid (k : ∀ b u, h.get? b = some u → h'.get? b = some u) (hp : h.objs.size ≤ a) (hn : H a = none) : Un fs ex H (upd H a o) h h' where
  keep := fun b u q _ _ _ => k b u q
  slot := fun b u q _ _ _ => ⟨u.slots, k b u q⟩
  free := fun b u q n _ => by rw [upd_ne (Nat.ne_of_lt (Nat.lt_of_lt_of_le (Heap.lt_size q) hp))]; exact n
  there := fun b u q _ => ⟨u, k b u q⟩
  tups := fun b xs q => by rw [upd_ne (ne_of_none q hn)]; exact q
  frzs := fun b u xs q => by rw [upd_ne (ne_of_none q hn)]; exact q
  tbls := fun b ps q => ⟨#[], by rw [upd_ne (ne_of_none q hn), q]; simp⟩
theorem Un.write (mu : Mut (H x)) (he : e = x ∨ H e = some (.own x)) (k : ∀ b u, b ≠ e → h.get? b = some u → h'.get? b = some u) (heo : ∃ u, h'.get? e = some u) : Un fs ex H (upd H x o) h h' := by
  have hx : ∀ b, H b = none → b ≠ x := fun b n z => by subst z; rw [n] at mu; exact mu
  have hb : ∀ b, H b = none → b ≠ e := fun b n z => by
    subst z
    rcases he with r | r
    · exact hx b n r
    · rw [n] at r; cases r
  have hm : ∀ b u, H b = some u → ¬ Mut (some u) → b ≠ x := fun b u q nm z => by subst z; rw [q] at mu; exact nm mu
  refine ⟨fun b u q n _ _ => k b u (hb b n) q, fun b u q n _ _ => ⟨u.slots, k b u (hb b n) q⟩, fun b u q n _ => by rw [upd_ne (hx b n)]; exact n, fun b u q _ => ?_,
    fun b xs q => by rw [upd_ne (hm b _ q fun z => z)]; exact q, fun b u xs q => by rw [upd_ne (hm b _ q fun z => z)]; exact q, fun b ps q => ⟨#[], by rw [upd_ne (hm b _ q fun z => z), q]; simp⟩⟩
  by_cases hbe : b = e
  · subst hbe; exact heo
  · exact ⟨u, k b u hbe q⟩
theorem Un.mono (u : Un fs ex H H1 h h1) (hs : ∀ b ∈ fs, b ∈ fs') (hx : ∀ b ∈ ex, b ∈ ex') : Un fs' ex' H H1 h h1 :=
  ⟨fun b ob q n hb he => u.keep b ob q n (fun z => hb (hs b z)) fun z => he (hx b z), fun _ _ q n _ he => u.any q n fun z => he (hx _ z), fun b ob q n he => u.free b ob q n fun z => he (hx b z), fun b ob q he => u.there b ob q fun z => he (hx b z), u.tups, u.frzs, u.tbls⟩
end

/-! ### the heap without what is tracked -/
def trk (h : Heap) (H : Hp) : List Addr := (List.range h.objs.size).filter fun a => (H a).isSome
def hidT (h : Heap) (H : Hp) : Heap := PySem.W.hideAll h (trk h H)
theorem hidT_size (h : Heap) (H : Hp) : (hidT h H).objs.size = h.objs.size := PySem.W.hideAll_size _ _
theorem hidT_get {h : Heap} {H : Hp} {b : Addr} {o : Obj} (e : h.get? b = some o) (n : H b = none) : (hidT h H).get? b = some o :=
  PySem.W.hideAll_get _ e fun hm => by
    have q : (H b).isSome = true := (List.mem_filter.mp hm).2
    rw [n] at q; simp at q
theorem of_hidT {h : Heap} {H : Hp} {b : Addr} {o : Obj} (e : (hidT h H).get? b = some o) : h.get? b = some o ∧ H b = none := by
  have e' : h.get? b = some o := PySem.W.of_hideAll (trk h H) e
  refine ⟨e', ?_⟩
  cases q : H b with
  | none => rfl
  | some x =>
    have hm : b ∈ trk h H := List.mem_filter.mpr ⟨List.mem_range.mpr (Heap.lt_size e'), by simp [q]⟩
    have z : (hidT h H).get? b = none := PySem.W.hideAll_none (trk h H) hm
    rw [z] at e; cases e

/-! ### OpenK's ledger, filled with every new object but one -/
def allNews (g h : Heap) (L : Addr) : List (Addr × Obj) := (List.range h.objs.size).filterMap fun a => if a = L ∨ (g.get? a).isSome = true then none else (h.get? a).map fun o => (a, o)
def rest (g h : Heap) (L d : Addr) : List (Addr × Obj) := (allNews g h L).filter fun p => decide (p.1 ≠ d)
end L2

namespace L2
open PySem PySem.Spec PyProof.Rows

/-- the module's facts, over the base: the heap at the law's entry without what is tracked there -/
structure Mod (K : PySem.W.Frag) (mg : Str → Option Value) (base : Heap) : Prop where
  kin : K.In base
  glob : base.Ns mainGlobals mg
  blt : ∃ mb, base.Ns builtinsNs mb ∧ ∀ x : Str, x ≠ "__name__" → mb x = bootBuiltins x
  nolimit : base.NoLimit

/-- the context: a def's body (or a comprehension's block) running. base: fixed through the whole law; s₀, H₀: the entry; outer: the frames whose slots others may change (a def's callers); stack: all frames that run;
   ex: iterators that were made ahead of the entry and are walked here (a comprehension's); fn: the names whose cells were made at the entry (a def: all; a comprehension's block: its own); calm: not within an except suite; pn: pins that every state bears; xe: what is wanted of an exception that leaves the code -/
structure Cx where
  prog : Program
  w : World
  K : PySem.W.Frag
  mg : Str → Option Value
  base : Heap
  A : Around
  N : List Str
  s₀ : Shared
  H₀ : Hp
  env : Env
  outer : List Env
  stack : List Env
  ex : List Addr
  fn : Str → Bool
  calm : Bool
  pn : List (Addr × Obj)
  xe : Value → Shared → Prop
/-- the callers' frames -/
def frs (l : List Env) : List Addr := l.filterMap (·.frame)
abbrev Cx.fs (X : Cx) : List Addr := frs X.outer

def Vis (sc : Scope) (x : Str) : Prop := sc.names.lookup x = some .local ∨ sc.names.lookup x = some .cell ∨ sc.names.lookup x = some .free
def Loc (sc : Scope) (x : Str) : Prop := sc.names.lookup x = some .local ∨ sc.names.lookup x = some .cell
def Look (env : Env) (h : Heap) (m : Str → Option Value) (x : Str) (u : Value) : Prop :=
  (env.kindOf x = some .local ∧ m x = some u) ∨ ((env.kindOf x = some .cell ∨ env.kindOf x = some .free) ∧ ∃ c, env.cells.lookup x = some c ∧ h.IsCell c (some u))

structure Cx.Ok (X : Cx) : Prop where
  mod : Mod X.K X.mg X.base
  kind : X.env.scope.kind = .function
  glob : X.env.globals = mainGlobals
  blt : X.env.builtins = builtinsNs
  above : X.s₀.heap.objs.size ≤ X.env.locals
  inj : ∀ x y c, X.env.cells.lookup x = some c → X.env.cells.lookup y = some c → x = y
  has : ∀ x, (X.env.kindOf x = some .cell ∨ X.env.kindOf x = some .free) → ∃ c, X.env.cells.lookup x = some c
  cab : ∀ x c, X.fn x = true → X.env.cells.lookup x = some c → X.s₀.heap.objs.size ≤ c
  hd : X.calm = true → X.A.handled = none
  frames : X.A.frames = some X.stack
  stk : X.stack = X.outer ∨ (X.stack = X.env :: X.outer ∧ X.env.frame = some X.env.locals)
  exf : ∀ b ∈ X.ex, b ≠ X.env.locals ∧ ∀ x c, X.env.cells.lookup x = some c → c ≠ b
  bs : ∀ b o, X.base.get? b = some o → X.s₀.heap.get? b = some o ∧ X.H₀ b = none
  bsz : X.base.objs.size ≤ X.s₀.heap.objs.size
  noex : ∀ b o, X.base.get? b = some o → b ∉ X.ex
  exfs : ∀ b ∈ X.ex, b ∉ X.fs
  funs : X.s₀.heap.FunFrames X.base X.outer
  frf : ∀ b ∈ X.fs, X.H₀ b = none

structure Inv (X : Cx) (pins : List (Addr × Obj)) (σ : List (Option V)) (H : Hp) (s : Shared) : Prop where
  ok : X.Ok
  os : s.os = X.s₀.os
  bare : AllBare s.gens
  base : Un X.fs X.ex X.H₀ H X.s₀.heap s.heap
  loc : ∃ m, s.heap.Ns X.env.locals m ∧ ∀ (i : Nat) (x : Str) (v : V), X.N[i]? = some x → σ[i]? = some (some v) → Vis X.env.scope x → ∃ u, RelV v u ∧ Look X.env s.heap m x u
  cell : ∀ x c, X.env.cells.lookup x = some c → ∃ v, s.heap.IsCell c v
  free : H X.env.locals = none
  freeC : ∀ x c, X.env.cells.lookup x = some c → H c = none
  pin : ∀ p ∈ X.pn ++ pins, s.heap.get? p.1 = some p.2 ∧ H p.1 = none ∧ p.1 ≠ X.env.locals ∧ p.1 ∉ X.fs ∧ ∀ v, p.2.data ≠ .cell v
  hok : HOk X.prog X.w H s.heap
  len : σ.length = X.N.length

section
variable {X : Cx} {pins : List (Addr × Obj)} {σ : List (Option V)} {H H' : Hp} {s : Shared} {h' : Heap}

theorem Cx.Ok.nofr (ok : X.Ok) {b : Addr} {o : Obj} (e : X.base.get? b = some o) : b ∉ X.fs := fun hb => by
  have := (ok.funs.mem hb).1
  rw [e] at this; cases this
theorem Inv.bs (I : Inv X pins σ H s) : ∀ b o, X.base.get? b = some o → s.heap.get? b = some o ∧ H b = none := fun b o e =>
  ⟨I.base.keep b o (I.ok.bs b o e).1 (I.ok.bs b o e).2 (I.ok.nofr e) (I.ok.noex b o e), I.base.free b o (I.ok.bs b o e).1 (I.ok.bs b o e).2 (I.ok.noex b o e)⟩
theorem Inv.bk (I : Inv X pins σ H s) : ∀ b o, X.base.get? b = some o → s.heap.get? b = some o := fun b o e => (I.bs b o e).1
theorem Inv.mod (I : Inv X pins σ H s) : Mod X.K X.mg X.base := I.ok.mod
theorem Inv.kIn (I : Inv X pins σ H s) : X.K.In s.heap := I.ok.mod.kin.keeps I.bk
theorem Inv.nolimit (I : Inv X pins σ H s) : s.heap.NoLimit := I.ok.mod.nolimit.keeps I.bk
/-- the frame over the base: for OpenK's rules (K.In X.base is I.mod.kin) -/
theorem Inv.fr (I : Inv X pins σ H s) : ∃ m, Fr X.base X.env.locals s.heap m :=
  let ⟨m, hn, _⟩ := I.loc
  ⟨m, hn, I.bk, Nat.le_trans I.ok.bsz I.ok.above⟩
theorem Inv.lt (I : Inv X pins σ H s) : X.env.locals < s.heap.objs.size := let ⟨_, hn, _⟩ := I.loc; hn.lt
theorem Inv.sz (I : Inv X pins σ H s) : X.s₀.heap.objs.size ≤ s.heap.objs.size := Nat.le_trans I.ok.above (Nat.le_of_lt I.lt)
theorem Inv.nofs (I : Inv X pins σ H s) {a : Addr} (h : s.heap.objs.size ≤ a) : a ∉ X.fs := fun hb => by
  obtain ⟨_, o, ho, _⟩ := I.ok.funs.mem hb
  exact absurd (Nat.lt_of_lt_of_le (Heap.lt_size ho) (Nat.le_trans I.sz h)) (Nat.lt_irrefl _)
theorem Inv.cne (I : Inv X pins σ H s) : ∀ x c, X.env.cells.lookup x = some c → c ≠ X.env.locals := fun x c e z => by
  obtain ⟨v, o, ho, hd⟩ := I.cell x c e
  obtain ⟨m, ⟨o', es, ep, ho', hd', _⟩, _⟩ := I.loc
  rw [z, ho'] at ho; cases ho; rw [hd'] at hd; cases hd
theorem Inv.funs (I : Inv X pins σ H s) : s.heap.FunFrames X.base X.outer := by
  have all : ∀ (l : List Env), (∀ b ∈ frs l, b ∈ X.fs) → X.s₀.heap.FunFrames X.base l → s.heap.FunFrames X.base l := by
    intro l
    induction l with
    | nil => intro _ _; trivial
    | cons env r ih =>
      intro hs hl
      obtain ⟨hk, ⟨L, o, hf, hn, ho, hd⟩, hr⟩ := hl
      have hL : L ∈ X.fs := hs L (by unfold frs; rw [List.filterMap_cons, hf]; exact List.mem_cons_self)
      obtain ⟨sl, e⟩ := I.base.slot L o ho (I.ok.frf L hL) hL fun z => I.ok.exfs L z hL
      exact ⟨hk, ⟨L, _, hf, hn, e, hd⟩, ih (fun b hb => hs b (by unfold frs; rw [List.filterMap_cons, hf]; exact List.mem_cons_of_mem _ hb)) hr⟩
  exact all X.outer (fun _ hb => hb) I.ok.funs

/-- the frames that run, for a call -/
theorem Inv.stack (I : Inv X pins σ H s) : s.heap.FunFrames X.base X.stack := by
  rcases I.ok.stk with e | ⟨e, hf⟩
  · rw [e]; exact I.funs
  · rw [e]
    obtain ⟨m, hn, _⟩ := I.loc
    refine .cons (by rw [I.ok.kind]; decide) hf hn ?_ I.funs
    exact Heap.get?_none_of_le (Nat.le_trans I.ok.bsz I.ok.above)
theorem Inv.stkSub (I : Inv X pins σ H s) : ∀ b ∈ frs X.stack, b ∈ X.env.locals :: X.fs := fun b hb => by
  rcases I.ok.stk with e | ⟨e, hf⟩
  · rw [e] at hb; exact List.mem_cons_of_mem _ hb
  · rw [e] at hb
    unfold frs at hb
    rw [List.filterMap_cons, hf] at hb
    exact hb
theorem Inv.stkFree (I : Inv X pins σ H s) : ∀ b ∈ frs X.stack, H b = none := fun b hb => by
  rcases List.mem_cons.mp (I.stkSub b hb) with e | hb
  · rw [e]; exact I.free
  · obtain ⟨_, o, ho, _⟩ := I.ok.funs.mem hb
    exact I.base.free b o ho (I.ok.frf b hb) fun z => I.ok.exfs b z hb

/-- THE STEP: the untracked objects but the frame and the records at ch are kept (the callers' frames up to slots), the frame's map is kept, the new abstract heap is held -/
theorem Inv.step {g' : Array GenState} {t' : Nat} {d' : Drawn} {ch : List Addr} (I : Inv X pins σ H s)
    (hch : ∀ b ∈ ch, (b ∈ X.ex ∨ X.s₀.heap.objs.size ≤ b) ∧ b ≠ X.env.locals ∧ (∀ x c, X.env.cells.lookup x = some c → c ≠ b) ∧ ∀ p ∈ X.pn ++ pins, p.1 ≠ b)
    (keep : ∀ b o, b ≠ X.env.locals → b ∉ X.fs → b ∉ ch → s.heap.get? b = some o → H b = none → h'.get? b = some o)
    (slot : ∀ b o, b ≠ X.env.locals → b ∈ X.fs → b ∉ ch → s.heap.get? b = some o → H b = none → ∃ sl, h'.get? b = some { o with slots := sl }) (free : ∀ b o, b ∉ ch → s.heap.get? b = some o → H b = none → H' b = none)
    (there : ∀ b o, b ∉ ch → s.heap.get? b = some o → ∃ o', h'.get? b = some o')
    (tups : ∀ b xs, H b = some (.tup xs) → H' b = some (.tup xs)) (frzs : ∀ b o u, H b = some (.frz o u) → H' b = some (.frz o u)) (tbls : ∀ b ps, H b = some (.tbl ps) → ∃ more, H' b = some (.tbl (ps ++ more)))
    (ns : ∀ m, s.heap.Ns X.env.locals m → h'.Ns X.env.locals m) (hok : HOk X.prog X.w H' h') (hg : AllBare g') :
    Inv X pins σ H' { s with heap := h', gens := g', drawn := d', toks := t' } := by
  have neL : ∀ b o, X.s₀.heap.get? b = some o → b ≠ X.env.locals := fun b o e => Nat.ne_of_lt (Nat.lt_of_lt_of_le (Heap.lt_size e) I.ok.above)
  have neC : ∀ b o, X.s₀.heap.get? b = some o → b ∉ X.ex → b ∉ ch := fun b o e hx hb => by
    rcases (hch b hb).1 with z | z
    · exact hx z
    · exact absurd (Nat.lt_of_lt_of_le (Heap.lt_size e) z) (Nat.lt_irrefl _)
  have cellK : ∀ x c, X.env.cells.lookup x = some c → ∀ v, s.heap.IsCell c v → h'.IsCell c v := fun x c e v ⟨o, ho, hd⟩ => by
    have nch : c ∉ ch := fun z => (hch c z).2.2.1 x c e rfl
    by_cases hc : c ∈ X.fs
    · obtain ⟨sl, q⟩ := slot c o (I.cne x c e) hc nch ho (I.freeC x c e)
      exact ⟨_, q, hd⟩
    · exact ⟨o, keep c o (I.cne x c e) hc nch ho (I.freeC x c e), hd⟩
  refine ⟨I.ok, I.os, hg, ⟨fun b o e n hb hx => ?_, fun b o e n hb hx => ?_, fun b o e n hx => ?_, fun b o e hx => ?_, fun b xs e => tups b xs (I.base.tups b xs e), fun b o xs e => frzs b o xs (I.base.frzs b o xs e), fun b ps e => ?_⟩, ?_, fun x c e => ?_, ?_, fun x c e => ?_, fun p hp => ?_, hok, I.len⟩
  · exact keep b o (neL b o e) hb (neC b o e hx) (I.base.keep b o e n hb hx) (I.base.free b o e n hx)
  · obtain ⟨sl, e1⟩ := I.base.slot b o e n hb hx
    obtain ⟨sl', e2⟩ := slot b _ (neL b o e) hb (neC b o e hx) e1 (I.base.free b o e n hx)
    exact ⟨sl', e2⟩
  · obtain ⟨o', e1⟩ := I.base.there b o e hx
    exact free b o' (neC b o e hx) e1 (I.base.free b o e n hx)
  · obtain ⟨o', e1⟩ := I.base.there b o e hx
    exact there b o' (neC b o e hx) e1
  · obtain ⟨m1, e1⟩ := I.base.tbls b ps e
    obtain ⟨m2, e2⟩ := tbls b _ e1
    exact ⟨m1 ++ m2, by rw [e2, Array.append_assoc]⟩
  · obtain ⟨m, hn, hl⟩ := I.loc
    refine ⟨m, ns m hn, fun i x v e1 e2 e3 => ?_⟩
    obtain ⟨u, r, l⟩ := hl i x v e1 e2 e3
    refine ⟨u, r, ?_⟩
    rcases l with l | ⟨k, c, e, z⟩
    · exact .inl l
    · exact .inr ⟨k, c, e, cellK x c e _ z⟩
  · obtain ⟨v, z⟩ := I.cell x c e
    exact ⟨v, cellK x c e v z⟩
  · obtain ⟨m, ⟨o, _, _, ho, _⟩, _⟩ := I.loc
    exact free _ o (fun z => (hch _ z).2.1 rfl) ho I.free
  · obtain ⟨v, o, ho, hd⟩ := I.cell x c e
    exact free c o (fun z => (hch c z).2.2.1 x c e rfl) ho (I.freeC x c e)
  · obtain ⟨e, n, ne, nf, d⟩ := I.pin p hp
    have nch : p.1 ∉ ch := fun z => (hch p.1 z).2.2.2 p hp rfl
    exact ⟨keep p.1 p.2 ne nf nch e n, free p.1 p.2 nch e n, ne, nf, d⟩
/-- .. where the frame's own object is kept too -/
theorem Inv.un {t' : Nat} (I : Inv X pins σ H s) (u : Un X.fs [] H H' s.heap h') (hok : HOk X.prog X.w H' h') : Inv X pins σ H' { s with heap := h', toks := t' } := by
  obtain ⟨m, ⟨o, es, ep, ho, r⟩, _⟩ := id I.loc
  obtain ⟨sl, hL⟩ := u.any ho I.free (by simp)
  exact I.step (g' := s.gens) (d' := s.drawn) (ch := []) (fun _ z => nomatch z) (fun b o _ hb _ e n => u.keep b o e n hb (by simp)) (fun b o _ hb _ e n => u.slot b o e n hb (by simp)) (fun b o _ e n => u.free b o e n (by simp)) (fun b o _ e => u.there b o e (by simp)) u.tups u.frzs u.tbls (fun m' hm => by
    obtain ⟨o', es', ep', ho', r'⟩ := hm
    rw [ho] at ho'; cases ho'
    exact ⟨_, es', ep', hL, r'⟩) hok I.bare
/-- behind a call (or a comprehension's block): the slots of this frame may have changed too, the records at ch may have turned -/
theorem Inv.call {g' : Array GenState} {t' : Nat} {d' : Drawn} {ch : List Addr} (I : Inv X pins σ H s) (u : Un (frs X.stack) ch H H' s.heap h') (hok : HOk X.prog X.w H' h') (hg : AllBare g')
    (hch : ∀ b ∈ ch, (b ∈ X.ex ∨ X.s₀.heap.objs.size ≤ b) ∧ b ≠ X.env.locals ∧ (∀ x c, X.env.cells.lookup x = some c → c ≠ b) ∧ ∀ p ∈ X.pn ++ pins, p.1 ≠ b) :
    Inv X pins σ H' { s with heap := h', gens := g', drawn := d', toks := t' } := by
  obtain ⟨m, ⟨o, es, ep, ho, r⟩, _⟩ := id I.loc
  obtain ⟨sl, hL⟩ := u.any ho I.free fun z => (hch _ z).2.1 rfl
  exact I.step (ch := ch) hch (fun b o hL hb hc e n => u.keep b o e n (fun z => (List.mem_cons.mp (I.stkSub b z)).elim hL hb) hc) (fun b o _ _ hc e n => u.any e n hc) (fun b o hc e n => u.free b o e n hc) (fun b o hc e => u.there b o e hc) u.tups u.frzs u.tbls (fun m' hm => by
    obtain ⟨o', es', ep', ho', r'⟩ := hm
    rw [ho] at ho'; cases ho'
    exact ⟨_, es', ep', hL, r'⟩) hok hg
/-- an untracked record of ours (an iterator) has turned -/
theorem Inv.turned {t' : Nat} {it : Addr} (I : Inv X pins σ H s) (k : ∀ b o, b ≠ it → s.heap.get? b = some o → h'.get? b = some o) (hn : H it = none) (hL : it ≠ X.env.locals)
    (h1 : it ∈ X.ex ∨ X.s₀.heap.objs.size ≤ it) (h2 : ∀ x c, X.env.cells.lookup x = some c → c ≠ it) (h3 : ∀ p ∈ X.pn ++ pins, p.1 ≠ it) : Inv X pins σ H { s with heap := h', toks := t' } := by
  have nit : ∀ b u, H b = some u → b ≠ it := fun b u e z => by rw [z, hn] at e; cases e
  refine I.step (g' := s.gens) (d' := s.drawn) (ch := [it]) (fun b hb => ?_) (fun b o _ _ hc e _ => k b o (fun z => hc (by simp [z])) e) (fun b o _ _ hc e _ => ⟨o.slots, k b o (fun z => hc (by simp [z])) e⟩) (fun _ _ _ _ n => n)
    (fun b o hc e => ⟨o, k b o (fun z => hc (by simp [z])) e⟩) (fun _ _ e => e) (fun _ _ _ e => e) (fun b ps e => ⟨#[], by rw [e]; simp⟩) (fun m hm => ?_) ⟨fun b u e => ?_, I.hok.sm, let ⟨o, _, _, e, _⟩ := I.ok.mod.glob; ⟨mainGlobals, o, by decide, k _ _ (fun z => by
      rcases h1 with q | q
      · exact I.ok.noex _ _ e (z ▸ q)
      · exact absurd (Nat.lt_of_lt_of_le (Heap.lt_size e) (Nat.le_trans I.ok.bsz q)) (by rw [z]; exact Nat.lt_irrefl _)) (I.bk _ _ e)⟩⟩ I.bare
  · have e : b = it := by simpa using hb
    subst e
    exact ⟨h1, hL, h2, h3⟩
  · obtain ⟨o, es, ep, ho, r⟩ := hm
    exact ⟨o, es, ep, k _ o (Ne.symm hL) ho, r⟩
  · refine (I.hok b u e).stay (fun c v hc q => k c v ?_ q) (fun _ q => q) fun _ _ q => q
    rcases hc with z | z
    · rw [z]; exact nit b u e
    · exact nit c _ z
theorem Inv.tok (I : Inv X pins σ H s) (t : Nat) : Inv X pins σ H { s with toks := t } := I.un (h' := s.heap) (t' := t) Un.refl I.hok
/-- all objects kept -/
theorem Inv.kept {t' : Nat} (I : Inv X pins σ H s) (k : ∀ b u, s.heap.get? b = some u → h'.get? b = some u) : Inv X pins σ H { s with heap := h', toks := t' } := I.un (Un.kept k) (I.hok.kept k)
/-- a new object laid and tracked -/
theorem Inv.laid {a : Addr} {o : HO} {t' : Nat} (I : Inv X pins σ H s) (k : ∀ b u, s.heap.get? b = some u → h'.get? b = some u) (hp : s.heap.objs.size ≤ a) (new : ObjOk X.prog X.w (upd H a o) h' a o) :
    Inv X pins σ (upd H a o) { s with heap := h', toks := t' } := I.un (Un.laid k hp (I.hok.fresh hp)) (I.hok.laid k hp new)
/-- an object written -/
theorem Inv.write {x e : Addr} {o : HO} {t' : Nat} (I : Inv X pins σ H s) (mu : Mut (H x)) (he : e = x ∨ H e = some (.own x)) (k : ∀ b u, b ≠ e → s.heap.get? b = some u → h'.get? b = some u) (heo : ∃ u, h'.get? e = some u)
    (new : ObjOk X.prog X.w (upd H x o) h' x o) : Inv X pins σ (upd H x o) { s with heap := h', toks := t' } := I.un (Un.write mu he k heo) (I.hok.write mu he k heo new)
/-- forgetting slots, pins -/
theorem Inv.weak {σ' : List (Option V)} (I : Inv X pins σ H s) (hl : σ'.length = σ.length) (w : ∀ (i : Nat) v, σ'[i]? = some (some v) → σ[i]? = some (some v)) : Inv X pins σ' H s :=
  ⟨I.ok, I.os, I.bare, I.base, let ⟨m, hn, hl'⟩ := I.loc; ⟨m, hn, fun i x v e1 e2 e3 => hl' i x v e1 (w i v e2) e3⟩, I.cell, I.free, I.freeC, I.pin, I.hok, hl.trans I.len⟩
theorem Inv.pins_of {pins' : List (Addr × Obj)} (I : Inv X pins σ H s) (h : ∀ p ∈ pins', s.heap.get? p.1 = some p.2 ∧ H p.1 = none ∧ p.1 ≠ X.env.locals ∧ p.1 ∉ X.fs ∧ ∀ v, p.2.data ≠ .cell v) : Inv X pins' σ H s :=
  ⟨I.ok, I.os, I.bare, I.base, I.loc, I.cell, I.free, I.freeC, fun p hp => (List.mem_append.mp hp).elim (fun z => I.pin p (List.mem_append_left _ z)) (h p), I.hok, I.len⟩

theorem nodup_ix {N : List Str} (hN : N.Nodup) {i j : Nat} {x : Str} (a : N[i]? = some x) (b : N[j]? = some x) : i = j := by
  obtain ⟨h1, e1⟩ := List.getElem?_eq_some_iff.mp a
  obtain ⟨h2, e2⟩ := List.getElem?_eq_some_iff.mp b
  exact (List.getElem_inj hN).mp (e1.trans e2.symm)

/-- a name is stored; what changed -/
theorem store_ok2 {M : Model} {A : Around} {E : Value → Shared → Prop} {i : Nat} {x : Str} {v : V} {u : Value} {Q : Unit → Shared → Prop} (I : Inv X pins σ H s) (hN : X.N.Nodup) (hi : X.N[i]? = some x) (hx : Loc X.env.scope x) (r : RelV v u)
    (h : ∀ s', Inv X pins (σ.set i (some v)) H s' → (∃ a, Heap.SameBut a s.heap s'.heap ∧ (a = X.env.locals ∨ X.env.cells.lookup x = some a)) → Q () s') (hf : X.fn x = true ∨ X.env.scope.names.lookup x = some .local := by first | exact .inl rfl | exact .inr rfl | assumption) : wpAny M A (storeName X.env x u) Q E s := by
  obtain ⟨m, hn, hl⟩ := id I.loc
  have hcls : (X.env.scope.kind == .class || (X.env.scope.kind == .module && X.env.locals != X.env.globals)) = false := by rw [I.ok.kind]; rfl
  have hiσ : i < σ.length := by rw [I.len]; exact (List.getElem?_eq_some_iff.mp hi).1
  have cne := I.cne
  have tracked : ∀ {a : Addr} {h' : Heap}, (∃ o, s.heap.get? a = some o ∧ H a = none) → Heap.SameBut a s.heap h' → (∃ o', h'.get? a = some o') → HOk X.prog X.w H h' := fun {a h'} ha hs hz => by
    refine ⟨fun b ob e => ?_, I.hok.sm, ?_⟩
    rotate_left
    · obtain ⟨b, o, l, e⟩ := I.hok.bg
      by_cases hb : b = a
      · obtain ⟨v, hv⟩ := hz
        exact ⟨a, v, hb ▸ l, hv⟩
      · exact ⟨b, o, l, (hs.2 b hb).trans e⟩
    obtain ⟨_, _, hfree⟩ := ha
    refine (I.hok b ob e).stay (fun c w' hc q => (hs.2 c ?_).trans q) (fun _ q => q) fun _ _ q => q
    rintro rfl
    rcases hc with rfl | hc
    · rw [hfree] at e; cases e
    · rw [hfree] at hc; cases hc
  rcases hx with hk | hk
  · refine wpAny_storeName_local hk hn (fun h' hn' hs => ?_) hcls
    obtain ⟨oL, _, _, hoL, _⟩ := id hn
    refine h _ ⟨I.ok, I.os, I.bare, ⟨fun b o e n hb hx => ?_, fun b o e n hb hx => ?_, I.base.free, fun b o e hx => ?_, I.base.tups, I.base.frzs, I.base.tbls⟩, ⟨_, hn', fun j y v' e1 e2 e3 => ?_⟩, fun y c e => ?_, I.free, I.freeC, fun p hp => ?_, tracked ⟨oL, hoL, I.free⟩ hs (let ⟨o, _, _, e, _⟩ := hn'; ⟨o, e⟩), by simpa using I.len⟩ ⟨_, hs, .inl rfl⟩
    · exact (hs.2 b (Nat.ne_of_lt (Nat.lt_of_lt_of_le (Heap.lt_size e) I.ok.above))).trans (I.base.keep b o e n hb hx)
    · obtain ⟨sl, e1⟩ := I.base.slot b o e n hb hx
      exact ⟨sl, (hs.2 b (Nat.ne_of_lt (Nat.lt_of_lt_of_le (Heap.lt_size e) I.ok.above))).trans e1⟩
    · obtain ⟨o', e1⟩ := I.base.there b o e hx
      exact ⟨o', (hs.2 b (Nat.ne_of_lt (Nat.lt_of_lt_of_le (Heap.lt_size e) I.ok.above))).trans e1⟩
    · by_cases hj : j = i
      · subst hj
        rw [hi] at e1; cases e1
        rw [List.getElem?_set_self hiσ] at e2
        cases e2
        exact ⟨u, r, .inl ⟨hk, by simp⟩⟩
      · rw [List.getElem?_set_ne (Ne.symm hj)] at e2
        obtain ⟨u', r', q⟩ := hl j y v' e1 e2 e3
        refine ⟨u', r', ?_⟩
        rcases q with ⟨k, e⟩ | ⟨k, c, e, z⟩
        · refine .inl ⟨k, ?_⟩
          have : y ≠ x := fun e => hj (nodup_ix hN e1 (e ▸ hi))
          simp [this, e]
        · exact .inr ⟨k, c, e, z.sameBut hs (cne y c e)⟩
    · obtain ⟨w', z⟩ := I.cell y c e
      exact ⟨w', z.sameBut hs (cne y c e)⟩
    · obtain ⟨e, n, ne, nf, d⟩ := I.pin p hp
      exact ⟨(hs.2 p.1 ne).trans e, n, ne, nf, d⟩
  · have hfn : X.fn x = true := by
      rcases hf with z | z
      · exact z
      · rw [z] at hk; cases hk
    obtain ⟨c, hc⟩ := I.ok.has x (.inl hk)
    obtain ⟨w', z⟩ := I.cell x c hc
    refine wpAny_storeName_cell I.ok.kind hk hc z (fun h' hc' hs => ?_)
    obtain ⟨oc, hoc, hocd⟩ := id z
    refine h { s with heap := h' } ⟨I.ok, I.os, I.bare, ⟨fun b o e n hb hx => ?_, fun b o e n hb hx => ?_, I.base.free, fun b o e hx => ?_, I.base.tups, I.base.frzs, I.base.tbls⟩, ⟨m, hn.sameBut hs (Ne.symm (cne x c hc)), fun j y v' e1 e2 e3 => ?_⟩, fun y c' e => ?_, I.free, I.freeC, fun p hp => ?_, tracked ⟨oc, hoc, I.freeC x c hc⟩ hs (let ⟨o, e, _⟩ := hc'; ⟨o, e⟩), by simpa using I.len⟩ ⟨c, hs, .inr hc⟩
    · exact (hs.2 b (Nat.ne_of_lt (Nat.lt_of_lt_of_le (Heap.lt_size e) (I.ok.cab x c hfn hc)))).trans (I.base.keep b o e n hb hx)
    · obtain ⟨sl, e1⟩ := I.base.slot b o e n hb hx
      exact ⟨sl, (hs.2 b (Nat.ne_of_lt (Nat.lt_of_lt_of_le (Heap.lt_size e) (I.ok.cab x c hfn hc)))).trans e1⟩
    · obtain ⟨o', e1⟩ := I.base.there b o e hx
      exact ⟨o', (hs.2 b (Nat.ne_of_lt (Nat.lt_of_lt_of_le (Heap.lt_size e) (I.ok.cab x c hfn hc)))).trans e1⟩
    · by_cases hj : j = i
      · subst hj
        rw [hi] at e1; cases e1
        rw [List.getElem?_set_self hiσ] at e2
        cases e2
        exact ⟨u, r, .inr ⟨.inl hk, c, hc, hc'⟩⟩
      · rw [List.getElem?_set_ne (Ne.symm hj)] at e2
        obtain ⟨u', r', q⟩ := hl j y v' e1 e2 e3
        refine ⟨u', r', ?_⟩
        rcases q with q | ⟨k, c', e, z'⟩
        · exact .inl q
        · refine .inr ⟨k, c', e, z'.sameBut hs ?_⟩
          rintro rfl
          exact hj (nodup_ix hN e1 (I.ok.inj _ _ _ e hc ▸ hi))
    · by_cases hcc : c' = c
      · subst hcc; exact ⟨_, hc'⟩
      · obtain ⟨w2, z2⟩ := I.cell y c' e
        exact ⟨w2, z2.sameBut hs hcc⟩
    · obtain ⟨e, n, ne, nf, d⟩ := I.pin p hp
      refine ⟨(hs.2 p.1 ?_).trans e, n, ne, nf, d⟩
      intro q
      rw [q, hoc] at e
      have q' : oc = p.2 := Option.some.inj e
      exact d w' (by rw [← q']; exact hocd)
theorem store_ok {M : Model} {A : Around} {E : Value → Shared → Prop} {i : Nat} {x : Str} {v : V} {u : Value} {Q : Unit → Shared → Prop} (I : Inv X pins σ H s) (hN : X.N.Nodup) (hi : X.N[i]? = some x) (hx : Loc X.env.scope x) (r : RelV v u)
    (h : ∀ s', Inv X pins (σ.set i (some v)) H s' → Q () s') (hf : X.fn x = true ∨ X.env.scope.names.lookup x = some .local := by first | exact .inl rfl | exact .inr rfl | assumption) : wpAny M A (storeName X.env x u) Q E s :=
  store_ok2 I hN hi hx r (fun s' I' _ => h s' I') hf
/-- behind a call or a block, the state as it is -/
theorem Inv.call' {s' : Shared} {ch : List Addr} (I : Inv X pins σ H s) (ho : s'.os = s.os) (u : Un (frs X.stack) ch H H' s.heap s'.heap) (hok : HOk X.prog X.w H' s'.heap) (hg : AllBare s'.gens)
    (hch : ∀ b ∈ ch, (b ∈ X.ex ∨ X.s₀.heap.objs.size ≤ b) ∧ b ≠ X.env.locals ∧ (∀ x c, X.env.cells.lookup x = some c → c ≠ b) ∧ ∀ p ∈ X.pn ++ pins, p.1 ≠ b) : Inv X pins σ H' s' := by
  obtain ⟨h', g', d', t', o'⟩ := s'
  have e : o' = s.os := ho
  subst e
  exact I.call (g' := g') (t' := t') (d' := d') u hok hg hch
end

/-! ### the judgements -/
/-- an exception: its class, its own dict's address (where it has one), the abstract heap behind it -/
abbrev XK := Value → Option Addr → Hp → Prop
abbrev St := List (Option V)
abbrev VK := V → Hp → Prop
/-- an expression's reading; a test's; an argument list's -/
abbrev TE := St → Hp → VK → Prop
abbrev TT := St → Hp → (Bool → Hp → Prop) → Prop
abbrev TA := St → Hp → (List V → Hp → Prop) → Prop
/-- what is wanted behind a statement -/
structure Ends where
  nx : St → Hp → Prop
  rt : VK
  bk : St → Hp → Prop := fun _ _ => False
  ct : St → Hp → Prop := fun _ _ => False
abbrev TS := Ends → St → Hp → Prop

def EP (X : Cx) (pins : List (Addr × Obj)) (σ : St) (Q : VK) (u : Value) (s' : Shared) : Prop := ∃ v H', Inv X pins σ H' s' ∧ RelV v u ∧ Q v H'
def TP (X : Cx) (pins : List (Addr × Obj)) (σ : St) (Q : Bool → Hp → Prop) (b : Bool) (s' : Shared) : Prop := ∃ H', Inv X pins σ H' s' ∧ Q b H'
def AP (X : Cx) (pins : List (Addr × Obj)) (σ : St) (Q : List V → Hp → Prop) (us : List Value) (s' : Shared) : Prop := ∃ vs H', Inv X pins σ H' s' ∧ Vals vs us ∧ Q vs H'
def SP (X : Cx) (pins : List (Addr × Obj)) (D : Ends) (f : Flow) (s' : Shared) : Prop :=
  match f with
  | .next => ∃ σ' H', Inv X pins σ' H' s' ∧ D.nx σ' H'
  | .brk => ∃ σ' H', Inv X pins σ' H' s' ∧ D.bk σ' H'
  | .cont => ∃ σ' H', Inv X pins σ' H' s' ∧ D.ct σ' H'
  | .ret u => ∃ v σ' H', Inv X pins σ' H' s' ∧ RelV v u ∧ D.rt v H'

def PE (X : Cx) (e : Expr) (t : TE) : Prop :=
  ∀ (pins : List (Addr × Obj)) (s : Shared) (σ : St) (H : Hp) (Q : VK), Inv X pins σ H s → t σ H Q → wpAny (model X.prog X.w) X.A (eval e X.env) (EP X pins σ Q) X.xe s
def PT (X : Cx) (e : Expr) (t : TT) : Prop :=
  ∀ (pins : List (Addr × Obj)) (s : Shared) (σ : St) (H : Hp) (Q : Bool → Hp → Prop), Inv X pins σ H s → t σ H Q → wpAny (model X.prog X.w) X.A (isTrue e X.env (eval e X.env)) (TP X pins σ Q) X.xe s
/-- a test whatever its 'whole' is (and, or) -/
def PW (X : Cx) (e : Expr) (t : TT) : Prop :=
  ∀ (whole : Sem Value) (pins : List (Addr × Obj)) (s : Shared) (σ : St) (H : Hp) (Q : Bool → Hp → Prop), Inv X pins σ H s → t σ H Q → wpAny (model X.prog X.w) X.A (isTrue e X.env whole) (TP X pins σ Q) X.xe s
theorem PW.pt {X : Cx} {e : Expr} {t : TT} (h : PW X e t) : PT X e t := h _
/-- an argument list (no star), from the left -/
def PA (X : Cx) (es : List Expr) (t : TA) : Prop :=
  ∀ (pos : Pos) (pins : List (Addr × Obj)) (s : Shared) (σ : St) (H : Hp) (Q : List V → Hp → Prop), Inv X pins σ H s → t σ H Q → wpAny (model X.prog X.w) X.A (spliced (backTo pos (starEach es X.env))) (AP X pins σ Q) X.xe s
def PS (X : Cx) (st : Stmt) (t : TS) : Prop :=
  ∀ (pins : List (Addr × Obj)) (s : Shared) (σ : St) (H : Hp) (D : Ends), Inv X pins σ H s → t D σ H → wpAny (model X.prog X.w) X.A (exec st X.env) (SP X pins D) X.xe s
def PSs (X : Cx) (st : List Stmt) (t : TS) : Prop :=
  ∀ (pins : List (Addr × Obj)) (s : Shared) (σ : St) (H : Hp) (D : Ends), Inv X pins σ H s → t D σ H → wpAny (model X.prog X.w) X.A (execs st X.env) (SP X pins D) X.xe s
/-- weaken the end -/
theorem thn {α : Type} {t : Sem α} {Q Q' : α → Shared → Prop} {M : Model} {A : Around} {E : Value → Shared → Prop} {s : Shared} (h : wpAny M A t Q E s) (hQ : ∀ a s, Q a s → Q' a s) : wpAny M A t Q' E s := wpAny_mono h hQ fun _ _ x => x
end L2

namespace L2
open PySem PySem.Spec PyProof.Rows
section
variable {X : Cx}

/-- two expressions in a row -/
theorem bin {a b : Expr} {ta tb : TE} (ha : PE X a ta) (hb : PE X b tb) {pins : List (Addr × Obj)} {s : Shared} {σ : St} {H : Hp} {R : V → V → Hp → Prop} (I : Inv X pins σ H s) (h : ta σ H fun x H1 => tb σ H1 fun y H2 => R x y H2)
    {α : Type} {Q : α → Shared → Prop} {f : Value → Value → Sem α}
    (hf : ∀ v u s2 x y H2, Inv X pins σ H2 s2 → RelV x v → RelV y u → R x y H2 → wpAny (model X.prog X.w) X.A (f v u) Q X.xe s2) :
    wpAny (model X.prog X.w) X.A (eval a X.env) (fun v s₁ => wpAny (model X.prog X.w) X.A (eval b X.env) (fun u s₂ => wpAny (model X.prog X.w) X.A (f v u) Q X.xe s₂) X.xe s₁) X.xe s := by
  refine thn (ha pins s σ H _ I h) fun v s1 ⟨x, H1, I1, r1, q1⟩ => ?_
  refine thn (hb pins s1 σ H1 _ I1 q1) fun u s2 ⟨y, H2, I2, r2, q2⟩ => ?_
  exact hf v u s2 x y H2 I2 r1 r2 q2

/-! ### names and constants -/
def tVar (i : Nat) : TE := fun σ H Q => ∃ v, σ[i]? = some (some v) ∧ Q v H
def tC (v : V) : TE := fun _ H Q => Q v H
theorem pe_var {i : Nat} {x : Str} {pos : Pos} (hN : X.N[i]? = some x) (hv : Vis X.env.scope x) (hd : (x == ("__debug__" : Str)) = false := by decide) (hcd : (x == ("__classdict__" : Str)) = false := by decide) : PE X (.Name x pos) (tVar i) := by
  intro pins s σ H Q I h
  obtain ⟨v, e, h⟩ := h
  obtain ⟨m, hn, hl⟩ := I.loc
  obtain ⟨u, r, l⟩ := hl i x v hN e hv
  have fin : EP X pins σ Q u s := ⟨v, H, I, r, h⟩
  rcases l with ⟨hk, hm⟩ | ⟨hk, c, hc, hcell⟩
  · exact wpAny_Name (wpAny_loadName_local I.ok.kind hk hn hm fin) hd
  · rcases hk with hk | hk
    · exact wpAny_Name (wpAny_loadName_cell I.ok.kind hk hc hcell fin) hd
    · exact wpAny_Name (wpAny_loadName_free I.ok.kind hk hc hcell fin hcd) hd
theorem pe_int {i j pos} : PE X (.Constant (.int i) j pos) (tC (.int i)) := fun _ _ _ H _ I h => wpAny_Constant_int ⟨.int i, H, I.tok _, ⟨_, rfl⟩, h⟩
theorem pe_bl {b j pos} : PE X (.Constant (.bool b) j pos) (tC (.bl b)) := fun _ _ _ H _ I h => Constant_bool ⟨.bl b, H, I, rfl, h⟩
theorem pe_non {j pos} : PE X (.Constant .none j pos) (tC .non) := fun _ _ _ H _ I h => Constant_none ⟨.non, H, I, rfl, h⟩
theorem pe_str {x j pos} : PE X (.Constant (.str x) j pos) (tC (.str x)) := fun _ _ _ H _ I h => Calls.Constant_str ⟨.str x, H, I.tok _, ⟨_, rfl⟩, h⟩

/-- a global name of the def -/
def Gl (X : Cx) (x : Str) : Prop := X.env.kindOf x = some .globalImplicit
theorem ld_glob {E : Value → Shared → Prop} {pins : List (Addr × Obj)} {s : Shared} {σ : St} {H : Hp} {x : Str} {u : Value} {pos : Pos} {Q : Value → Shared → Prop} (I : Inv X pins σ H s) (hg : Gl X x) (hm : X.mg x = some u) (h : Q u s)
    (hd : (x == ("__debug__" : Str)) = false := by decide) : wpAny (model X.prog X.w) X.A (eval (.Name x pos) X.env) Q E s :=
  Calls.Name_function_global I.ok.kind hg (Calls.loadGlobal_global (by rw [I.ok.glob]; exact I.mod.glob.keeps I.bk) hm h) hd
theorem ld_blt {E : Value → Shared → Prop} {pins : List (Addr × Obj)} {s : Shared} {σ : St} {H : Hp} {x : Str} {u : Value} {pos : Pos} {Q : Value → Shared → Prop} (I : Inv X pins σ H s) (hg : Gl X x) (hm : X.mg x = none) (hv : bootBuiltins x = some u) (h : Q u s)
    (hn : x ≠ "__name__" := by decide) (hd : (x == ("__debug__" : Str)) = false := by decide) : wpAny (model X.prog X.w) X.A (eval (.Name x pos) X.env) Q E s := by
  obtain ⟨mb, h1, h2⟩ := I.mod.blt
  exact Calls.Name_function_global I.ok.kind hg (Calls.loadGlobal_builtin (by rw [I.ok.glob]; exact I.mod.glob.keeps I.bk) hm (by rw [I.ok.blt]; exact h1.keeps I.bk) ((h2 x hn).trans hv) h) hd
/-- a module's constant, a class, a function, as a value -/
theorem pe_glob {x : Str} {v : V} {u : Value} {pos : Pos} (hg : Gl X x) (hm : X.mg x = some u) (r : RelV v u) (hd : (x == ("__debug__" : Str)) = false := by decide) : PE X (.Name x pos) (tC v) :=
  fun _ _ _ H _ I h => ld_glob I hg hm ⟨v, H, I, r, h⟩ hd
theorem pe_bltn {x : Str} {v : V} {u : Value} {pos : Pos} (hg : Gl X x) (hm : X.mg x = none) (hv : bootBuiltins x = some u) (r : RelV v u) (hn : x ≠ "__name__" := by decide) (hd : (x == ("__debug__" : Str)) = false := by decide) : PE X (.Name x pos) (tC v) :=
  fun _ _ _ H _ I h => ld_blt I hg hm hv ⟨v, H, I, r, h⟩ hn hd

/-! ### arithmetic -/
variable {a b : Expr} {ta tb : TE} {pos : Pos}
/-! ### comparisons -/
/-! ### and, or, not -/
variable {tA tB' : TT} {rest : List Expr}
def tAnd (t u : TT) : TT := fun σ H Q => t σ H fun c H1 => if c = true then u σ H1 Q else Q false H1
def tOr (t u : TT) : TT := fun σ H Q => t σ H fun c H1 => if c = true then Q true H1 else u σ H1 Q
def tNot (t : TT) : TT := fun σ H Q => t σ H fun c H1 => Q (!c) H1
theorem pw_and1 (ha : PT X a tA) : PW X (.BoolOp .And [a] pos) tA := by
  intro wh pins s σ H Q I h
  refine isTrue_and (thn (ha pins s σ H Q I h) fun c s1 e => ?_)
  cases c with
  | true => exact isTrue_and_nil e
  | false => exact e
theorem pw_or1 (ha : PT X a tA) : PW X (.BoolOp .Or [a] pos) tA := by
  intro wh pins s σ H Q I h
  refine isTrue_or (thn (ha pins s σ H Q I h) fun c s1 e => ?_)
  cases c with
  | false => exact isTrue_or_nil e
  | true => exact e
theorem pw_and (ha : PT X a tA) (hb : PW X (.BoolOp .And (b :: rest) pos) tB') : PW X (.BoolOp .And (a :: b :: rest) pos) (tAnd tA tB') := by
  intro wh pins s σ H Q I h
  refine isTrue_and (thn (ha pins s σ H _ I h) fun c s1 ⟨H1, I1, q1⟩ => ?_)
  cases c with
  | true => exact hb wh pins s1 σ H1 Q I1 q1
  | false => exact ⟨H1, I1, q1⟩
theorem pw_or (ha : PT X a tA) (hb : PW X (.BoolOp .Or (b :: rest) pos) tB') : PW X (.BoolOp .Or (a :: b :: rest) pos) (tOr tA tB') := by
  intro wh pins s σ H Q I h
  refine isTrue_or (thn (ha pins s σ H _ I h) fun c s1 ⟨H1, I1, q1⟩ => ?_)
  cases c with
  | true => exact ⟨H1, I1, q1⟩
  | false => exact hb wh pins s1 σ H1 Q I1 q1
theorem pt_not (ha : PT X a tA) : PT X (.UnaryOp .Not a pos) (tNot tA) := by
  intro pins s σ H Q I h
  exact isTrue_not (ha pins s σ H (fun c H1 => Q (!c) H1) I h)
/-- .. as values (bools) -/
def tAndV (ta tb : TE) : TE := fun σ H Q => ta σ H fun x H1 => ∃ c, x = .bl c ∧ if c = true then tb σ H1 Q else Q (.bl false) H1
def tOrV (ta tb : TE) : TE := fun σ H Q => ta σ H fun x H1 => ∃ c, x = .bl c ∧ if c = true then Q (.bl true) H1 else tb σ H1 Q
def tNotV (ta : TE) : TE := fun σ H Q => ta σ H fun x H1 => ∃ c, x = .bl c ∧ Q (.bl (!c)) H1
theorem pe_one {op} {t : TE} (h : PE X a t) : PE X (.BoolOp op [a] pos) t := fun pins s σ H Q I hw => BoolOp_one (h pins s σ H Q I hw)
theorem pe_and (ha : PE X a ta) (hb : PE X (.BoolOp .And (b :: rest) pos) tb) : PE X (.BoolOp .And (a :: b :: rest) pos) (tAndV ta tb) := by
  intro pins s σ H Q I h
  refine BoolOp_and (thn (ha pins s σ H _ I h) fun v s1 ⟨x, H1, I1, r1, q1⟩ => ?_)
  obtain ⟨c, rfl, q1⟩ := q1
  cases r1
  refine wpAny_truthy_bool ?_
  cases c with
  | true => exact hb pins s1 σ H1 Q I1 q1
  | false => exact ⟨.bl false, H1, I1, rfl, q1⟩
theorem pe_not (ha : PE X a ta) : PE X (.UnaryOp .Not a pos) (tNotV ta) := by
  intro pins s σ H Q I h
  refine UnaryOp_ (thn (ha pins s σ H _ I h) fun v s1 ⟨x, H1, I1, r1, q1⟩ => ?_)
  obtain ⟨c, rfl, q1⟩ := q1
  cases r1
  exact not_of (wpAny_truthy_bool ⟨.bl (!c), H1, I1, rfl, q1⟩)
/-- a if t else b -/
def tIf (t : TT) (ta tb : TE) : TE := fun σ H Q => t σ H fun c H1 => if c = true then ta σ H1 Q else tb σ H1 Q
theorem pe_ifExp {c : Expr} (hc : PT X c tA) (ha : PE X a ta) (hb : PE X b tb) : PE X (.IfExp c a b pos) (tIf tA ta tb) := by
  intro pins s σ H Q I h
  refine wpAny_IfExp (thn (hc pins s σ H _ I h) fun d s1 ⟨H1, I1, q1⟩ => ?_)
  cases d with
  | true => exact ha pins s1 σ H1 Q I1 q1
  | false => exact hb pins s1 σ H1 Q I1 q1
end
end L2

namespace L2
open PySem PySem.Spec PyProof.Rows

/-! ### a list, a tuple that is read: tracked, frozen, or an object of the module -/
def SqL (K : PySem.W.Frag) (H : Hp) (a : Addr) (xs : List V) : Prop :=
  Rd H a (.lst xs) ∨
    ∃ (o : Obj) (its : Array Value) (n : Nat), K.lookup a = some o ∧ o.cls = .type "list" ∧ o.dict = none ∧ o.data = .seq its n ∧ its.size ≤ sizeLine ∧ Vals xs its.toList
def SqT (K : PySem.W.Frag) (H : Hp) (a : Addr) (xs : List V) : Prop :=
  Rd H a (.tup xs) ∨
    ∃ (o : Obj) (its : Array Value) (n : Nat), K.lookup a = some o ∧ o.cls = .type "tuple" ∧ o.data = .seq its n ∧ its.size ≤ sizeLine ∧ Vals xs its.toList
def absV : Value → Option V
  | .none => some .non
  | .bool b => some (.bl b)
  | .int i _ => some (.int i)
  | .str x _ => some (.str x)
  | .bytes b _ => some (.byt b)
  | .float b _ => some (.flt b)
  | .ref a => some (.ref a)
  | .type n => some (.ty n)
  | _ => none
theorem RelV.abs {x : V} {u : Value} (r : RelV x u) : absV u = some x := by
  cases x with
  | non => cases r; rfl
  | bl _ => cases r; rfl
  | int _ => obtain ⟨t, rfl⟩ := r; rfl
  | str _ => obtain ⟨t, rfl⟩ := r; rfl
  | byt _ => obtain ⟨t, rfl⟩ := r; rfl
  | flt _ => obtain ⟨t, rfl⟩ := r; rfl
  | ref _ => cases r; rfl
  | ty _ => cases r; rfl
theorem RelV.inj {x y : V} {u : Value} (r : RelV x u) (q : RelV y u) : x = y := Option.some.inj (r.abs.symm.trans q.abs)
theorem Vals.inj : ∀ {xs ys : List V} {us : List Value}, Vals xs us → Vals ys us → xs = ys
  | _, _, _, .nil, .nil => rfl
  | _, _, _, .cons r t, .cons r' t' => by rw [r.inj r', Vals.inj t t']
section
variable {X : Cx} {pins : List (Addr × Obj)} {σ : St} {H : Hp} {s : Shared} {a : Addr} {xs ys : List V}
theorem SqL.of {K : PySem.W.Frag} (h : H a = some (.lst xs)) : SqL K H a xs := .inl (.inl h)
theorem SqT.of {K : PySem.W.Frag} (h : H a = some (.tup xs)) : SqT K H a xs := .inl (.inl h)
theorem Inv.list (I : Inv X pins σ H s) (h : SqL X.K H a xs) : ∃ its : List Value, Vals xs its ∧ PlainL s.heap a its.toArray ∧ xs.length ≤ sizeLine := by
  rcases h with h | ⟨o, its, n, hk, hc, hd, hs, hz, r⟩
  · obtain ⟨z, its, n, r, e⟩ := h.ok I.hok
    exact ⟨its, r, ⟨_, n, e, rfl, rfl, rfl⟩, z⟩
  · refine ⟨its.toList, r, ⟨o, n, I.kIn a o hk, hc, hd, by simpa using hs⟩, ?_⟩
    have e := r.length
    simp only [Array.length_toList] at e
    omega
theorem Inv.tuple (I : Inv X pins σ H s) (h : SqT X.K H a xs) : ∃ its : List Value, Vals xs its ∧ IsTup s.heap a its.toArray ∧ xs.length ≤ sizeLine := by
  rcases h with h | ⟨o, its, n, hk, hc, hs, hz, r⟩
  · obtain ⟨z, its, r, p⟩ := h.ok I.hok
    exact ⟨its, r, p, z⟩
  · refine ⟨its.toList, r, ⟨o, I.kIn a o hk, hc, n, by simpa using hs⟩, ?_⟩
    have e := r.length
    simp only [Array.length_toList] at e
    omega
theorem Inv.list_inj (I : Inv X pins σ H s) (h : SqL X.K H a xs) (h' : SqL X.K H a ys) : xs = ys := by
  obtain ⟨its, r, ⟨o, n, e, _, _, d⟩, _⟩ := I.list h
  obtain ⟨its', r', ⟨o', n', e', _, _, d'⟩, _⟩ := I.list h'
  rw [e] at e'; cases e'
  rw [d] at d'
  injection d' with d1 _
  have : its = its' := by simpa using congrArg Array.toList d1
  subst this
  exact r.inj r'
end

/-! ### another wish about exceptions -/
abbrev Cx.wish (X : Cx) (E : Value → Shared → Prop) : Cx := { X with xe := E }
/-- no exception leaves -/
abbrev Cx.nox (X : Cx) : Cx := X.wish fun _ _ => False
theorem Cx.Ok.wish {X : Cx} (ok : X.Ok) (E : Value → Shared → Prop) : (X.wish E).Ok :=
  ⟨ok.mod, ok.kind, ok.glob, ok.blt, ok.above, ok.inj, ok.has, ok.cab, ok.hd, ok.frames, ok.stk, ok.exf, ok.bs, ok.bsz, ok.noex, ok.exfs, ok.funs, ok.frf⟩
theorem Cx.Ok.unwish {X : Cx} {E : Value → Shared → Prop} (ok : (X.wish E).Ok) : X.Ok :=
  ⟨ok.mod, ok.kind, ok.glob, ok.blt, ok.above, ok.inj, ok.has, ok.cab, ok.hd, ok.frames, ok.stk, ok.exf, ok.bs, ok.bsz, ok.noex, ok.exfs, ok.funs, ok.frf⟩
section
variable {X : Cx} {pins : List (Addr × Obj)} {σ : St} {H : Hp} {s : Shared} {E : Value → Shared → Prop}
theorem Inv.wish (I : Inv X pins σ H s) (E : Value → Shared → Prop) : Inv (X.wish E) pins σ H s := ⟨I.ok.wish E, I.os, I.bare, I.base, I.loc, I.cell, I.free, I.freeC, I.pin, I.hok, I.len⟩
theorem Inv.unwish (I : Inv (X.wish E) pins σ H s) : Inv X pins σ H s := ⟨I.ok.unwish, I.os, I.bare, I.base, I.loc, I.cell, I.free, I.freeC, I.pin, I.hok, I.len⟩
theorem SP.unwish {D : Ends} {f : Flow} {s' : Shared} (h : SP (X.wish E) pins D f s') : SP X pins D f s' := by
  cases f with
  | next => obtain ⟨σ', H', I, q⟩ := h; exact ⟨σ', H', I.unwish, q⟩
  | brk => obtain ⟨σ', H', I, q⟩ := h; exact ⟨σ', H', I.unwish, q⟩
  | cont => obtain ⟨σ', H', I, q⟩ := h; exact ⟨σ', H', I.unwish, q⟩
  | ret u => obtain ⟨v, σ', H', I, r, q⟩ := h; exact ⟨v, σ', H', I.unwish, r, q⟩
theorem PE.nox {e : Expr} {t : TE} (h : PE X.nox e t) : PE X e t := fun pins s σ H Q I hw =>
  wpAny_mono (h pins s σ H Q (I.wish _) hw) (fun _ _ ⟨v, H', I', r, q⟩ => ⟨v, H', I'.unwish, r, q⟩) fun _ _ z => False.elim z
theorem PT.nox {e : Expr} {t : TT} (h : PT X.nox e t) : PT X e t := fun pins s σ H Q I hw =>
  wpAny_mono (h pins s σ H Q (I.wish _) hw) (fun _ _ ⟨H', I', q⟩ => ⟨H', I'.unwish, q⟩) fun _ _ z => False.elim z
theorem PSs.nox {st : List Stmt} {t : TS} (h : PSs X.nox st t) : PSs X st t := fun pins s σ H D I hw =>
  wpAny_mono (h pins s σ H D (I.wish _) hw) (fun _ _ q => q.unwish) fun _ _ z => False.elim z
end

/-! ### blocks and small statements -/
section
variable {X : Cx} {st : Stmt} {rest : List Stmt} {t u : TS} {e : Expr} {te : TE} {pos : Pos}
def tNext : TS := fun D σ H => D.nx σ H
def tSeq (t u : TS) : TS := fun D σ H => t { D with nx := u D } σ H
theorem pss_nil : PSs X [] tNext := fun _ _ σ H _ I h => wpAny_execs_nil ⟨σ, H, I, h⟩
theorem pss_cons (h1 : PS X st t) (h2 : PSs X rest u) : PSs X (st :: rest) (tSeq t u) := by
  intro pins s σ H D I h
  refine wpAny_execs_cons (thn (h1 pins s σ H { D with nx := u D } I h) fun f s1 q => ?_)
  cases f with
  | next =>
    obtain ⟨σ', H', I', q⟩ := q
    exact h2 pins s1 σ' H' D I' q
  | ret v => exact q
  | brk => exact q
  | cont => exact q
theorem pss_one (h1 : PS X st t) : PSs X [st] t := by
  intro pins s σ H D I h
  refine wpAny_execs_cons (thn (h1 pins s σ H D I h) fun f s1 q => ?_)
  cases f with
  | next => exact wpAny_execs_nil q
  | ret v => exact q
  | brk => exact q
  | cont => exact q
def tBreak : TS := fun D σ H => D.bk σ H
def tCont : TS := fun D σ H => D.ct σ H
theorem ps_continue : PS X (.Continue pos) tCont := fun _ _ σ H _ I h => wpAny_Continue ⟨σ, H, I, h⟩
/-- in a def's body nothing is shown -/
theorem Inv.quiet {pins : List (Addr × Obj)} {σ : St} {H : Hp} {s : Shared} (I : Inv X pins σ H s) : interactive X.env = false := by simp [interactive, I.ok.kind]
/-- an expression whose value is dropped -/
def tDrop (te : TE) : TS := fun D σ H => te σ H fun _ H1 => D.nx σ H1
theorem ps_expr (he : PE X e te) (hs : swapsWith e none pos.line X.env = pure false := by rfl) : PS X (.Expr e pos) (tDrop te) := by
  intro pins s σ H D I h
  exact wpAny_Expr_any (thn (he pins s σ H _ I h) fun v s1 ⟨x, H1, I1, r1, q1⟩ => ⟨σ, H1, I1, q1⟩) I.quiet hs
def tRet (te : TE) : TS := fun D σ H => te σ H D.rt
theorem ps_ret (he : PE X e te) : PS X (.Return (some e) pos) (tRet te) := by
  intro pins s σ H D I h
  exact wpAny_Return_some (thn (he pins s σ H _ I h) fun v s1 ⟨x, H1, I1, r1, q1⟩ => ⟨x, σ, H1, I1, r1, q1⟩)
def tIfS (c : TT) (t u : TS) : TS := fun D σ H => c σ H fun b H1 => if b = true then t D σ H1 else u D σ H1
theorem ps_if {c : Expr} {a b : List Stmt} {tc : TT} (hc : PT X c tc) (ha : PSs X a t) (hb : PSs X b u) : PS X (.If c a b pos) (tIfS tc t u) := by
  intro pins s σ H D I h
  refine wpAny_If (thn (hc pins s σ H _ I h) fun d s1 ⟨H1, I1, q1⟩ => ?_)
  cases d with
  | true => exact ha pins s1 σ H1 D I1 q1
  | false => exact hb pins s1 σ H1 D I1 q1
/-- code that the proof never comes to -/
def tNever : TS := fun _ _ _ => False
theorem ps_never : PS X st tNever := fun _ _ _ _ _ _ h => h.elim
end

/-! ### targets -/
abbrev TG := V → St → Hp → (St → Hp → Prop) → Prop
abbrev TGs := List V → St → Hp → (St → Hp → Prop) → Prop
def PG (X : Cx) (target : Expr) (t : TG) : Prop :=
  ∀ (pins : List (Addr × Obj)) (s : Shared) (σ : St) (H : Hp) (v : V) (u : Value) (Q : St → Hp → Prop), Inv X pins σ H s → RelV v u → t v σ H Q →
    wpAny (model X.prog X.w) X.A (assign target X.env u) (fun _ s' => ∃ σ' H', Inv X pins σ' H' s' ∧ Q σ' H') X.xe s
/-- several targets, one after another -/
def PGs (X : Cx) (ts : List Expr) (t : TGs) : Prop :=
  ∀ (pins : List (Addr × Obj)) (s : Shared) (σ : St) (H : Hp) (vs : List V) (us : List Value) (Q : St → Hp → Prop), Inv X pins σ H s → Vals vs us → t vs σ H Q →
    wpAny (model X.prog X.w) X.A (assignInOrder ((assignEach ts X.env).map (·.2)) us) (fun _ s' => ∃ σ' H', Inv X pins σ' H' s' ∧ Q σ' H') X.xe s
/-- o[i] = v, by values -/
abbrev TSet := V → V → V → Hp → (Hp → Prop) → Prop
def PSet (X : Cx) (t : TSet) : Prop :=
  ∀ (pins : List (Addr × Obj)) (s : Shared) (σ : St) (H : Hp) (o i v : V) (ov iv u : Value) (Q : Hp → Prop), Inv X pins σ H s → RelV o ov → RelV i iv → RelV v u → t o i v H Q →
    wpAny (model X.prog X.w) X.A (setItem ov iv u) (fun _ s' => ∃ H', Inv X pins σ H' s' ∧ Q H') X.xe s
/-- a op= b, by values -/
abbrev TIp := V → V → Hp → VK → Prop
section
variable {X : Cx} {pos : Pos}
def gName (i : Nat) : TG := fun v σ H Q => Q (σ.set i (some v)) H
theorem pg_name {i : Nat} {x : Str} (hN : X.N.Nodup) (hi : X.N[i]? = some x) (hx : Loc X.env.scope x) (hf : X.fn x = true ∨ X.env.scope.names.lookup x = some .local := by first | exact .inl rfl | exact .inr rfl | assumption) : PG X (.Name x pos) (gName i) := by
  intro pins s σ H v u Q I r h
  exact wpAny_assign_Name (store_ok I hN hi hx r (fun s' I' => ⟨_, H, I', h⟩) hf)
def gNil : TGs := fun vs σ H Q => vs = [] ∧ Q σ H
def gCons (t : TG) (u : TGs) : TGs := fun vs σ H Q => ∃ v r, vs = v :: r ∧ t v σ H fun σ' H' => u r σ' H' Q
theorem pgs_nil : PGs X [] gNil := by
  intro pins s σ H vs us Q I r h
  obtain ⟨e, h⟩ := h
  subst e
  cases r
  exact assignInOrder_nil ⟨σ, H, I, h⟩
theorem pgs_cons {e : Expr} {es : List Expr} {t : TG} {u : TGs} (h1 : PG X e t) (h2 : PGs X es u)
    (hs : (assignEach (e :: es) X.env).map (·.2) = assign e X.env :: (assignEach es X.env).map (·.2) := by rfl) : PGs X (e :: es) (gCons t u) := by
  intro pins s σ H vs us Q I r h
  obtain ⟨v, vr, e1, h⟩ := h
  subst e1
  cases r with
  | cons r rr =>
    rw [hs]
    refine assignInOrder_cons (thn (h1 pins s σ H _ _ _ I r h) fun _ s1 ⟨σ1, H1, I1, q1⟩ => ?_)
    exact h2 pins s1 σ1 H1 _ _ Q I1 rr q1
/-- (a, b, ..) = a tuple of that length -/
def gTup (K : PySem.W.Frag) (n : Nat) (t : TGs) : TG := fun v σ H Q => ∃ a xs, v = .ref a ∧ SqT K H a xs ∧ xs.length = n ∧ t xs σ H Q
theorem pg_tup {es : List Expr} {k : Nat} {t : TGs} {n : Nat} (hc : X.calm = true) (h : PGs X es t)
    (hn : (assignEach es X.env).length = n := by rfl) (hst : (assignEach es X.env).findIdx? (·.1) = none := by rfl) : PG X (.Tuple es k pos) (gTup X.K n t) := by
  intro pins s σ H v u Q I r hw
  obtain ⟨a, xs, e1, hq, hl, hw⟩ := hw
  subst e1
  cases r
  obtain ⟨its, rv, ht, hz⟩ := I.tuple hq
  refine assign_Tuple_tuple (I.ok.hd hc) ht (by simp [hn, ← hl, rv.length]) hst fun h' hx => ?_
  have I1 : Inv X pins σ H { s with heap := h' } := I.kept (t' := s.toks) fun b o e => hx b o (Nat.ne_of_lt (Heap.lt_size e)) e
  exact h pins _ σ H xs _ Q I1 (by simpa using rv) hw
/-- o[i] = .. -/
def gSub (to ti : TE) (t : TSet) : TG := fun v σ H Q => to σ H fun o H1 => ti σ H1 fun i H2 => t o i v H2 fun H3 => Q σ H3
theorem pg_sub {o i : Expr} {to ti : TE} {t : TSet} (ho : PE X o to) (hi : PE X i ti) (hs : PSet X t)
    (ha : ∀ v, assign (.Subscript o i pos) X.env v = (do
      let ov ← holding [v] (eval o X.env)
      let iv ← holding [v, ov] (eval i X.env)
      standAt pos
      holding [v, ov, iv] (setItem ov iv v)
      release [v, ov, iv] []) := by intro _; rfl) : PG X (.Subscript o i pos) (gSub to ti t) := by
  intro pins s σ H v u Q I r h
  rw [ha]
  refine wpAny_bind (wpAny_holding (thn (ho pins s σ H _ I h) fun ov s1 ⟨x, H1, I1, r1, q1⟩ => ?_))
  refine wpAny_bind (wpAny_holding (thn (hi pins s1 σ H1 _ I1 q1) fun iv s2 ⟨y, H2, I2, r2, q2⟩ => ?_))
  refine wpAny_bind (wpAny_standAt (wpAny_bind (wpAny_holding (thn (hs pins s2 σ H2 x y v ov iv u _ I2 r1 r2 r q2) fun _ s3 ⟨H3, I3, q3⟩ => ?_))))
  exact wpAny_release ⟨σ, H3, I3, q3⟩
/-- target = value -/
def tAsg (te : TE) (g : TG) : TS := fun D σ H => te σ H fun x H1 => g x σ H1 D.nx
theorem ps_asg {tg e : Expr} {te : TE} {g : TG} (he : PE X e te) (hg : PG X tg g) (hs : swapsWithSole [tg] e pos.line X.env = pure false := by rfl) (hw : swappedStores [tg] e X.env = pure none := by rfl)
    (h1 : (assignEach [tg] X.env).map (·.2) = [assign tg X.env] := by rfl) : PS X (.Assign [tg] e pos) (tAsg te g) := by
  intro pins s σ H D I h
  refine wpAny_Assign_stores (thn (he pins s σ H _ I h) fun v s1 ⟨x, H1, I1, r1, q1⟩ => ?_) hs hw
  rw [h1]
  exact thn (hg pins s1 σ H1 x v _ I1 r1 q1) fun _ s2 q => q
/-- name = value -/
theorem ps_set {i : Nat} {x : Str} {e : Expr} {te : TE} {pos' : Pos} (hN : X.N.Nodup) (hi : X.N[i]? = some x) (hx : Loc X.env.scope x) (he : PE X e te) (hs : swapsWith e (some (.Name x pos')) pos.line X.env = pure false := by rfl) (hf : X.fn x = true ∨ X.env.scope.names.lookup x = some .local := by first | exact .inl rfl | exact .inr rfl | assumption) :
    PS X (.Assign [.Name x pos'] e pos) (tAsg te (gName i)) := by
  intro pins s σ H D I h
  refine wpAny_Assign_Name (thn (he pins s σ H _ I h) fun v s1 ⟨y, H1, I1, r1, q1⟩ => ?_) hs
  exact store_ok I1 hN hi hx r1 (fun s2 I2 => ⟨_, H1, I2, q1⟩) hf
/-- name op= e -/
def tAug (i : Nat) (te : TE) (ti : TIp) : TS := fun D σ H => ∃ x, σ[i]? = some (some x) ∧ te σ H fun y H1 => ti x y H1 fun z H2 => D.nx (σ.set i (some z)) H2
/-- o[i] op= e -/
def tAugS (to ti te : TE) (tget : V → V → Hp → VK → Prop) (tip : TIp) (tset : TSet) : TS := fun D σ H => to σ H fun o H1 => ti σ H1 fun i H2 => tget o i H2 fun x H3 => te σ H3 fun y H4 => tip x y H4 fun z H5 => tset o i z H5 fun H6 => D.nx σ H6
/-- ints -/
def ipI (f : Int → Int → Int) : TIp := fun x y H Q => ∃ i j, x = .int i ∧ y = .int j ∧ Q (.int (f i j)) H
end

/-! ### while -/
section
variable {X : Cx} {pos : Pos}
/-- the invariant W with its measure -/
def tWhile (c : TT) (tb : TS) : TS := fun D σ H => ∃ W : Nat → St → Hp → Prop, (∃ m, W m σ H) ∧ ∀ m σ H, W m σ H →
  c σ H fun b H1 => if b = true then ∃ N : St → Hp → Prop, (∀ σ' H', N σ' H' → ∃ m', m' < m ∧ W m' σ' H') ∧ tb { D with nx := N, ct := N, bk := D.nx } σ H1 else D.nx σ H1
theorem ps_while {c : Expr} {body : List Stmt} {tc : TT} {tb : TS} (hp : PassesOwn (model X.prog X.w) X.A X.env X.xe) (hc : PT X c tc) (hb : PSs X body tb) : PS X (.While c body [] pos) (tWhile tc tb) := by
  intro pins s σ H D I h
  obtain ⟨W, ⟨m0, w0⟩, turn⟩ := h
  refine wpAny_While (codeAny_whileLoop (fun n s' => ∃ σ' H', Inv X pins σ' H' s' ∧ W n σ' H') ?_ m0 ⟨σ, H, I, w0⟩)
  rintro n s1 ⟨σ1, H1, I1, w1⟩
  refine wpAny_passesOwn hp (thn (hc pins s1 σ1 H1 _ I1 (turn n σ1 H1 w1)) fun b s2 ⟨H2, I2, q2⟩ => ?_)
  cases b with
  | true =>
    obtain ⟨N, hN, q2⟩ := q2
    rw [if_pos rfl]
    refine wpAny_passesOwn hp (thn (hb pins s2 σ1 H2 _ I2 q2) fun f s3 q3 => ?_)
    cases f with
    | next =>
      obtain ⟨σ3, H3, I3, n3⟩ := q3
      obtain ⟨m', hm, w3⟩ := hN σ3 H3 n3
      exact ⟨m', hm, σ3, H3, I3, w3⟩
    | cont =>
      obtain ⟨σ3, H3, I3, n3⟩ := q3
      obtain ⟨m', hm, w3⟩ := hN σ3 H3 n3
      exact ⟨m', hm, σ3, H3, I3, w3⟩
    | brk => exact q3
    | ret v => exact q3
  | false =>
    rw [if_neg Bool.false_ne_true]
    exact wpAny_execs_nil ⟨σ1, H2, I2, q2⟩
end

/-! ### what a loop or a comprehension walks -/
/-- at turn i: it yields x (the heap may grow), or it stops -/
structure It where
  go : Nat → Hp → Prop
  yld : Nat → Hp → V → Hp → Prop
  stop : Nat → Hp → Prop
/-- the iterator's own objects may turn: they are not the frame's, not pinned, younger than the entry (or a comprehension's own) -/
def FpOk (X : Cx) (pins : List (Addr × Obj)) (H : Hp) (b : Addr) : Prop :=
  H b = none ∧ b ≠ X.env.locals ∧ b ∉ X.fs ∧ (b ∈ X.ex ∨ X.s₀.heap.objs.size ≤ b) ∧ (∀ x c, X.env.cells.lookup x = some c → c ≠ b) ∧ ∀ p ∈ X.pn ++ pins, p.1 ≠ b
theorem Inv.fpOk {X : Cx} {pins : List (Addr × Obj)} {σ : St} {H H' : Hp} {s : Shared} {b : Addr} (I : Inv X pins σ H s) (hb : s.heap.objs.size ≤ b) (hn : H' b = none) : FpOk X pins H' b := by
  refine ⟨hn, Nat.ne_of_gt (Nat.lt_of_lt_of_le I.lt hb), I.nofs hb, .inr (Nat.le_trans I.sz hb), fun x c e z => ?_, fun p hp z => ?_⟩
  · obtain ⟨v, q⟩ := I.cell x c e
    exact absurd (Nat.lt_of_lt_of_le q.lt (by rw [z]; exact hb)) (Nat.lt_irrefl _)
  · exact absurd (Nat.lt_of_lt_of_le (Heap.lt_size (I.pin p hp).1) (by rw [z]; exact hb)) (Nat.lt_irrefl _)
structure Turn (P : Program) (w : World) (K : PySem.W.Frag) (tg : Expr) (J : It) (fp : List Addr) (it : Addr) (tn : Nat → Heap → Prop) : Prop where
  mem : it ∈ fp
  obj : ∀ i h, tn i h → ∀ b ∈ fp, ∃ o, h.get? b = some o ∧ ∀ v, o.data ≠ .cell v
  keep : ∀ i h h', tn i h → (∀ b ∈ fp, ∀ o, h.get? b = some o → h'.get? b = some o) → tn i h'
  item : ∀ (X : Cx), X.prog = P → X.w = w → X.K = K → X.calm = true → ∀ (i : Nat) (pins : List (Addr × Obj)) (s : Shared) (σ : St) (H : Hp) (E : Value → Shared → Prop), Inv X pins σ H s → (∀ b ∈ fp, FpOk X pins H b) → tn i s.heap → J.go i H →
    wpAny (model P w) X.A (pyNext (.ref it)) (fun r s1 => ∃ u, r = some u ∧
      wpAny (model P w) X.A (letOwnedTupleGo tg (.ref it) u) (fun _ s2 => ∃ x H', Inv X pins σ H' s2 ∧ RelV x u ∧ J.yld i H x H' ∧ tn (i + 1) s2.heap ∧ ∀ b ∈ fp, H' b = none) E s1) E s
  done : ∀ (X : Cx), X.prog = P → X.w = w → X.K = K → X.calm = true → ∀ (i : Nat) (pins : List (Addr × Obj)) (s : Shared) (σ : St) (H : Hp) (E : Value → Shared → Prop), Inv X pins σ H s → (∀ b ∈ fp, FpOk X pins H b) → tn i s.heap → J.stop i H →
    wpAny (model P w) X.A (pyNext (.ref it)) (fun r s1 => r = none ∧ Inv X pins σ H s1) E s
  self : ∀ (A : Around) (i : Nat) (s : Shared) (Q : Value → Shared → Prop) (E : Value → Shared → Prop), tn i s.heap → Q (.ref it) s → wpAny (model P w) A (pyIter (.ref it)) Q E s
abbrev TI := St → Hp → (It → Hp → Prop) → Prop
/-- an iterator has come -/
def PIE (X : Cx) (pins : List (Addr × Obj)) (σ : St) (tg : Expr) (R : It → Hp → Prop) (itv : Value) (s2 : Shared) : Prop :=
  ∃ (it : Addr) (fp : List Addr) (tn : Nat → Heap → Prop) (J : It) (H' : Hp), itv = .ref it ∧ Inv X pins σ H' s2 ∧ Turn X.prog X.w X.K tg J fp it tn ∧ tn 0 s2.heap ∧ (∀ b ∈ fp, FpOk X pins H' b) ∧ R J H'
def PI (X : Cx) (tg iter : Expr) (wi : TI) : Prop :=
  ∀ (pins : List (Addr × Obj)) (s : Shared) (σ : St) (H : Hp) (R : It → Hp → Prop), Inv X pins σ H s → wi σ H R →
    wpAny (model X.prog X.w) X.A (eval iter X.env) (fun v s1 => wpAny (model X.prog X.w) X.A (pyIter v) (PIE X pins σ tg R) X.xe s1) X.xe s

/-- the step ahead of the store is nothing for an iterator that keeps no tuple -/
theorem go_of {M : Model} {A : Around} {E : Value → Shared → Prop} {s : Shared} {tg : Expr} {it : Addr} {u : Value} {o : Obj} {n : String} {vs : Array Value} {Q : Unit → Shared → Prop} (ho : s.heap.get? it = some o) (hc : o.cls = .type n) (hd : o.data = .fields vs)
    (hn : ["enumerate", "zip", "dict_itemiterator", "dict_reverseitemiterator", "odict_iterator", "itertools.zip_longest", "itertools.pairwise"].contains n = false) (hQ : Q () s) : wpAny M A (letOwnedTupleGo tg (.ref it) u) Q E s := by
  unfold letOwnedTupleGo
  cases tg <;> first
    | exact wpAny_pure hQ
    | (cases u <;> first
        | exact wpAny_pure hQ
        | (refine wpAny_bind (wpAny_load ho ?_)
           rw [hc, hd]
           show wpAny M A (if (["enumerate", "zip", "dict_itemiterator", "dict_reverseitemiterator", "odict_iterator", "itertools.zip_longest", "itertools.pairwise"].contains n && vs[0]? == some (rawInt _)) = true then _ else _) Q E s
           rw [if_neg (by intro h; rw [hn, Bool.false_and] at h; cases h)]
           exact wpAny_pure hQ))

/-- the list at a, as it stands at each turn (a loop may append to it) -/
def Itl (K : PySem.W.Frag) (a : Addr) : It :=
  ⟨fun i H => ∃ xs x, SqL K H a xs ∧ xs[i]? = some x, fun i H x H' => H' = H ∧ ∀ xs, SqL K H a xs → xs[i]? = some x, fun i H => ∃ xs, SqL K H a xs ∧ xs.length ≤ i⟩
/-- lo, lo + 1, .. (n of them) -/
def Itr (lo : Int) (n : Nat) : It := ⟨fun i _ => i < n, fun i H x H' => H' = H ∧ x = .int (lo + i), fun i _ => n ≤ i⟩
theorem turn_list {P : Program} {w : World} {K : PySem.W.Frag} {tg : Expr} (a it : Addr) : Turn P w K tg (Itl K a) [it] it (fun i h => h.IsListIter it a i) where
  mem := by simp
  obj := fun i h st b hb => by
    have e : b = it := by simpa using hb
    subst e
    obtain ⟨o, e, c, d⟩ := st
    exact ⟨o, e, fun v z => by rw [d] at z; cases z⟩
  keep := fun i h h' st k => st.at fun o e => k it (by simp) o e
  item := by
    intro X hP hw hK hc i pins s σ H E I hf st hg
    subst hP hw hK
    obtain ⟨xs, x, hq, hx⟩ := hg
    obtain ⟨its, rv, p, hz⟩ := I.list hq
    obtain ⟨u, hu, ru⟩ := rv.get hx
    obtain ⟨f0, f1, f2, f3, f4, f5⟩ := hf it (by simp)
    refine wpAny_pyNext_list_item st p.isList (x := u) (by simpa using hu) fun h' st' sb => ?_
    have I1 : Inv X pins σ H { s with heap := h' } := I.turned (t' := s.toks) (fun b o hb e => (sb.2 b hb).trans e) f0 f1 f3 f4 f5
    obtain ⟨o, e, c, d⟩ := id st'
    exact ⟨u, rfl, go_of (s := { s with heap := h' }) e c d (by decide) ⟨x, H, I1, ru, ⟨rfl, fun ys hy => by rw [I.list_inj hy hq]; exact hx⟩, st', fun b hb => (hf b hb).1⟩⟩
  done := by
    intro X hP hw hK hc i pins s σ H E I hf st hg
    subst hP hw hK
    obtain ⟨xs, hq, hx⟩ := hg
    obtain ⟨its, rv, p, hz⟩ := I.list hq
    obtain ⟨f0, f1, f2, f3, f4, f5⟩ := hf it (by simp)
    have hl := rv.length
    exact wpAny_pyNext_list_end (I.ok.hd hc) st p.isList (by simp; omega) fun h' eb => ⟨rfl, I.turned (t' := s.toks) (fun b o hb e => eb b o hb e) f0 f1 f3 f4 f5⟩
  self := fun _ _ _ _ _ st h => wpAny_pyIter_listiter st h
theorem turn_range {P : Program} {w : World} {K : PySem.W.Frag} {tg : Expr} (it : Addr) (lo : Int) (n : Nat) : Turn P w K tg (Itr lo n) [it] it (fun i h => IsRangeIter h it (lo + (i : Nat) * 1) ((n : Int) - (i : Nat)) 1) where
  mem := by simp
  obj := fun i h st b hb => by
    have e : b = it := by simpa using hb
    subst e
    exact ⟨_, st, fun v z => by
      have z' : Data.fields _ = Data.cell v := z
      cases z'⟩
  keep := fun i h h' st k => k it (by simp) _ st
  item := by
    intro X hP hw hK hc i pins s σ H E I hf st hg
    subst hP hw hK
    obtain ⟨f0, f1, f2, f3, f4, f5⟩ := hf it (by simp)
    have W := Walks.range (prog := X.prog) (w := X.w) (I.ok.hd hc) it lo 1 n
    refine W.item i s _ _ hg st fun v h' tk hv st' kk => ?_
    obtain ⟨t, rfl⟩ := hv
    have I1 : Inv X pins σ H { s with heap := h', toks := tk } := I.turned (fun b o hb e => kk b o (by simpa using hb) e) f0 f1 f3 f4 f5
    refine ⟨_, rfl, go_of (s := { s with heap := h', toks := tk }) (n := "range_iterator") st' rfl rfl (by decide) ⟨.int (lo + i), H, I1, ⟨t, ?_⟩, ⟨rfl, rfl⟩, st', fun b hb => (hf b hb).1⟩⟩
    rw [Int.mul_one]
  done := by
    intro X hP hw hK hc i pins s σ H E I hf st hg
    subst hP hw hK
    obtain ⟨f0, f1, f2, f3, f4, f5⟩ := hf it (by simp)
    exact wpAny_pyNext_range_end (I.ok.hd hc) st (by have : n ≤ i := hg; omega) fun h' eb => ⟨rfl, I.turned (t' := s.toks) (fun b o hb e => eb b o hb e) f0 f1 f3 f4 f5⟩
  self := fun _ _ _ _ _ st h => wpAny_pyIter_rangeiter st h
end L2

namespace L2
open PySem PySem.Spec PyProof.Rows
section
variable {X : Cx} {tg : Expr}
def iList (K : PySem.W.Frag) (tl : TE) : TI := fun σ H R => tl σ H fun x H1 => ∃ a, x = .ref a ∧ (∃ xs, SqL K H1 a xs) ∧ R (Itl K a) H1
theorem pi_list {l : Expr} {tl : TE} (hl : PE X l tl) : PI X tg l (iList X.K tl) := by
  intro pins s σ H R I h
  refine thn (hl pins s σ H _ I h) fun v s1 ⟨x, H1, I1, r1, q1⟩ => ?_
  obtain ⟨a, e, ⟨xs, hq⟩, q⟩ := q1
  subst e
  cases r1
  obtain ⟨its, rv, p, hz⟩ := I1.list hq
  refine wpAny_pyIter_list p.isList ?_
  refine ⟨s1.heap.objs.size, [s1.heap.objs.size], _, _, H1, rfl, I1.kept (t' := s1.toks) fun b o e => Heap.get?_push_of_some _ e, turn_list a _, ⟨_, Heap.get?_push_size _ rfl, rfl, rfl⟩, fun b hb => ?_, q⟩
  have e : b = s1.heap.objs.size := by simpa using hb
  subst e
  exact I1.fpOk (Nat.le_refl _) (I1.hok.fresh (Nat.le_refl _))
/-- a range object just made, walked -/
theorem range_it {pins : List (Addr × Obj)} {σ : St} {H : Hp} {s : Shared} {R : It → Hp → Prop} {E : Value → Shared → Prop} {lo hi : Int} {t u v : Tok} {tk : Nat} (I : Inv X pins σ H s) (h1 : -(2 ^ 62) ≤ lo) (h2 : lo < 2 ^ 62) (h3 : -(2 ^ 62) ≤ hi) (h4 : hi < 2 ^ 62)
    (q : R (Itr lo (hi - lo).toNat) H) : wpAny (model X.prog X.w) X.A (pyIter (.ref s.heap.objs.size)) (PIE X pins σ tg R) E { s with heap := s.heap.push { cls := .type "range", data := .fields #[.int lo t, .int hi u, .int 1 v] }, toks := tk } := by
  refine wpAny_pyIter_range (IsRange.new ..) (small_one h1 h2 h3 h4) ?_
  have I1 : Inv X pins σ H { s with heap := s.heap.push { cls := .type "range", data := .fields #[.int lo t, .int hi u, .int 1 v] }, toks := tk } := I.kept fun b o e => Heap.get?_push_of_some _ e
  refine ⟨(s.heap.push { cls := .type "range", data := .fields #[.int lo t, .int hi u, .int 1 v] }).objs.size, [(s.heap.push { cls := .type "range", data := .fields #[.int lo t, .int hi u, .int 1 v] }).objs.size], _, _, H, rfl,
    I1.kept (t' := tk) fun b o e => Heap.get?_push_of_some _ e, turn_range _ lo (hi - lo).toNat, ?_, fun b hb => ?_, q⟩
  · have e1 : lo + ((0 : Nat) : Int) * 1 = lo := by simp
    have e2 : (((hi - lo).toNat : Nat) : Int) - ((0 : Nat) : Int) = Builtin.Range.rangeSize lo hi 1 := by rw [rangeSize_one]; split <;> omega
    show IsRangeIter _ _ (lo + ((0 : Nat) : Int) * 1) ((((hi - lo).toNat : Nat) : Int) - ((0 : Nat) : Int)) 1
    rw [e1, e2]
    exact Heap.get?_push_size _ rfl
  · have e : b = (s.heap.push { cls := .type "range", data := .fields #[.int lo t, .int hi u, .int 1 v] }).objs.size := by simpa using hb
    subst e
    exact I1.fpOk (Nat.le_refl _) (I1.hok.fresh (Nat.le_refl _))
def iRng1 (ta : TA) : TI := fun σ H R => ta σ H fun vs H1 => ∃ j : Int, vs = [.int j] ∧ -(2 ^ 62) ≤ j ∧ j < 2 ^ 62 ∧ R (Itr 0 j.toNat) H1
def iRng2 (ta : TA) : TI := fun σ H R => ta σ H fun vs H1 => ∃ i j : Int, vs = [.int i, .int j] ∧ (-(2 ^ 62) ≤ i ∧ i < 2 ^ 62 ∧ -(2 ^ 62) ≤ j ∧ j < 2 ^ 62) ∧ R (Itr i (j - i).toNat) H1
theorem pi_range1 {a : Expr} {ta : TA} {p pos : Pos} (hg : Gl X "range") (hm : X.mg "range" = none) (ha : PA X [a] ta) (hs : starEach [a] X.env = [(false, eval a X.env)] := by rfl) : PI X tg (.Call (.Name "range" p) [a] [] pos) (iRng1 ta) := by
  intro pins s σ H R I h
  refine Call_ (ld_blt I hg hm boot_range (PyProof.Rows.callWith_type1 (thn (ha pos pins s σ H _ I h) fun us s1 ⟨vs, H1, I1, r1, q1⟩ => ?_) hs rfl))
  obtain ⟨j, e, q1, q2, q⟩ := q1
  subst e
  cases r1 with
  | cons r rr =>
    cases rr
    obtain ⟨t, rfl⟩ := r
    exact call_range_1 (range_it I1 (by omega) (by omega) q1 q2 (by simpa using q))
theorem pi_range2 {a b : Expr} {ta : TA} {p pos : Pos} (hg : Gl X "range") (hm : X.mg "range" = none) (ha : PA X [a, b] ta) (hs : starEach [a, b] X.env = [(false, eval a X.env), (false, eval b X.env)] := by rfl) (hs2 : starEach [b] X.env = [(false, eval b X.env)] := by rfl) :
    PI X tg (.Call (.Name "range" p) [a, b] [] pos) (iRng2 ta) := by
  intro pins s σ H R I h
  refine Call_ (ld_blt I hg hm boot_range (PyProof.Rows.callWith_type1 (thn (ha pos pins s σ H _ I h) fun us s1 ⟨vs, H1, I1, r1, q1⟩ => ?_) (by rw [hs, hs2]) (by rw [hs2]; rfl)))
  obtain ⟨i, j, e, ⟨q1, q2, q3, q4⟩, q⟩ := q1
  subst e
  cases r1 with
  | cons r rr =>
    cases rr with
    | cons r' rr =>
      cases rr
      obtain ⟨t, rfl⟩ := r
      obtain ⟨t', rfl⟩ := r'
      exact call_range_2 (range_it I1 q1 q2 q3 q4 q)

/-! ### for -/
/-- W: the invariant by the turn and a measure; N: what the body is to reach -/
def tFor (wi : TI) (g : TG) (tb : TS) : TS := fun D σ H => wi σ H fun J H1 => ∃ W : Nat → Nat → St → Hp → Prop, (∃ m, W 0 m σ H1) ∧ ∀ i m σ H, W i m σ H →
  (J.stop i H ∧ D.nx σ H) ∨ (J.go i H ∧ ∃ N : St → Hp → Prop, (∀ σ' H', N σ' H' → ∃ m', m' < m ∧ W (i + 1) m' σ' H') ∧ ∀ x H', J.yld i H x H' → g x σ H' fun σ2 H2 => tb { D with nx := N, ct := N, bk := D.nx } σ2 H2)
/-- the records at fp as they stand -/
def pinsAt (fp : List Addr) (h : Heap) : List (Addr × Obj) := fp.filterMap fun b => (h.get? b).map fun o => (b, o)
theorem mem_pinsAt {fp : List Addr} {h : Heap} {b : Addr} {o : Obj} (hb : b ∈ fp) (e : h.get? b = some o) : (b, o) ∈ pinsAt fp h := List.mem_filterMap.mpr ⟨b, hb, by rw [e]; rfl⟩
theorem of_pinsAt {fp : List Addr} {h : Heap} {p : Addr × Obj} (hp : p ∈ pinsAt fp h) : p.1 ∈ fp ∧ h.get? p.1 = some p.2 := by
  obtain ⟨b, hb, e⟩ := List.mem_filterMap.mp hp
  cases q : h.get? b with
  | none => rw [q] at e; cases e
  | some o =>
    rw [q] at e
    have e' : (b, o) = p := Option.some.inj e
    subst e'
    exact ⟨hb, q⟩
theorem Inv.pinned {pins : List (Addr × Obj)} {σ : St} {H : Hp} {s : Shared} {fp : List Addr} (I : Inv X pins σ H s) (hf : ∀ b ∈ fp, FpOk X pins H b) (ho : ∀ b ∈ fp, ∃ o, s.heap.get? b = some o ∧ ∀ v, o.data ≠ .cell v) : Inv X (pins ++ pinsAt fp s.heap) σ H s :=
  I.pins_of fun p hp => (List.mem_append.mp hp).elim (fun z => I.pin p (List.mem_append_right _ z)) fun z => by
    obtain ⟨hb, e⟩ := of_pinsAt z
    obtain ⟨f0, f1, f2, _⟩ := hf p.1 hb
    obtain ⟨o, e', d⟩ := ho p.1 hb
    rw [e] at e'; cases e'
    exact ⟨e, f0, f1, f2, d⟩
theorem Inv.unpinned {pins pl : List (Addr × Obj)} {σ : St} {H : Hp} {s : Shared} (I : Inv X (pins ++ pl) σ H s) : Inv X pins σ H s := I.pins_of fun p hp => I.pin p (List.mem_append_right _ (List.mem_append_left _ hp))
theorem ps_for {iter : Expr} {body : List Stmt} {wi : TI} {g : TG} {tb : TS} {pos : Pos} (hp : PassesOwn (model X.prog X.w) X.A X.env X.xe) (hc : X.calm = true) (hi : PI X tg iter wi) (hg : PG X tg g) (hb : PSs X body tb)
    (hs : ∀ x, foldedSetIterable iter X.env x = pure x := by intro _; rfl) : PS X (.For tg iter body [] pos) (tFor wi g tb) := by
  intro pins s σ H D I h
  refine wpAny_For (thn (hi pins s σ H _ I h) fun v s1 h1 => thn h1 fun itv s2 h2 => ?_) hs
  obtain ⟨it, fp, tn, J, H2, e, I2, T, st2, f2, W, ⟨m0, w0⟩, turn⟩ := h2
  subst e
  -- what stays true of the iterator's objects through the loop
  have stat : ∀ {H' : Hp}, (∀ b ∈ fp, H' b = none) → ∀ b ∈ fp, FpOk X pins H' b := fun hn b hb => ⟨hn b hb, (f2 b hb).2⟩
  refine codeAny_forLoop_any (fun n s' => ∃ i σ' H', Inv X pins σ' H' s' ∧ tn i s'.heap ∧ (∀ b ∈ fp, H' b = none) ∧ W i n σ' H') ?_ m0 ⟨0, σ, H2, I2, st2, fun b hb => (f2 b hb).1, w0⟩
  rintro n s3 ⟨i, σ3, H3, I3, st3, fr3, w3⟩
  rcases turn i n σ3 H3 w3 with ⟨stop, qn⟩ | ⟨go, N, hN, step⟩
  · refine wpAny_passesOwn hp (thn (T.done X rfl rfl rfl hc i pins s3 σ3 H3 X.xe I3 (stat fr3) st3 stop) fun r s4 ⟨hr, I4⟩ => ?_)
    subst hr
    exact wpAny_execs_nil ⟨σ3, H3, I4, qn⟩
  · refine wpAny_passesOwn hp (thn (T.item X rfl rfl rfl hc i pins s3 σ3 H3 X.xe I3 (stat fr3) st3 go) fun r s4 ⟨u, hr, h4⟩ => ?_)
    subst hr
    refine wpAny_passesOwn hp (thn h4 fun _ s5 ⟨x, H5, I5, r5, y5, st5, fr5⟩ => ?_)
    have I5' := I5.pinned (stat fr5) (T.obj _ _ st5)
    refine wpAny_passesOwn hp (thn (hg _ s5 σ3 H5 x u _ I5' r5 (step x H5 y5)) fun _ s6 ⟨σ6, H6, I6, q6⟩ => ?_)
    refine wpAny_passesOwn hp (thn (hb _ s6 σ6 H6 _ I6 q6) fun f s7 q7 => ?_)
    have again : ∀ {σ7 : St} {H7 : Hp}, Inv X (pins ++ pinsAt fp s5.heap) σ7 H7 s7 → N σ7 H7 → ∃ m, m < n ∧ ∃ i σ' H', Inv X pins σ' H' s7 ∧ tn i s7.heap ∧ (∀ b ∈ fp, H' b = none) ∧ W i m σ' H' := fun {σ7 H7} I7 n7 => by
      obtain ⟨m', hm, w7⟩ := hN σ7 H7 n7
      refine ⟨m', hm, i + 1, σ7, H7, I7.unpinned, T.keep _ _ _ st5 fun b hb o e => (I7.pin (b, o) (List.mem_append_right _ (List.mem_append_right _ (mem_pinsAt hb e)))).1, fun b hb => ?_, w7⟩
      obtain ⟨o, e, d⟩ := T.obj _ _ st5 b hb
      exact (I7.pin (b, o) (List.mem_append_right _ (List.mem_append_right _ (mem_pinsAt hb e)))).2.1
    cases f with
    | next => obtain ⟨σ7, H7, I7, n7⟩ := q7; exact again I7 n7
    | cont => obtain ⟨σ7, H7, I7, n7⟩ := q7; exact again I7 n7
    | brk => obtain ⟨σ7, H7, I7, q7⟩ := q7; exact ⟨σ7, H7, I7.unpinned, q7⟩
    | ret v => obtain ⟨x7, σ7, H7, I7, r7, q7⟩ := q7; exact ⟨x7, σ7, H7, I7.unpinned, r7, q7⟩
end

/-! ### the forms one uses -/
/-- over a list that the body leaves as it is -/
theorem for_list {K : PySem.W.Frag} {a : Addr} {xs : List V} {g : TG} {tb : TS} {D : Ends} {σ : St} {H : Hp} (Pv : Nat → St → Hp → Prop) (h0 : Pv 0 σ H) (hl : ∀ i σ H, i ≤ xs.length → Pv i σ H → SqL K H a xs)
    (hs : ∀ i x σ H, xs[i]? = some x → Pv i σ H → g x σ H fun σ2 H2 => tb { D with nx := Pv (i + 1), ct := Pv (i + 1), bk := D.nx } σ2 H2) (hd : ∀ σ H, Pv xs.length σ H → D.nx σ H) :
    ∃ W : Nat → Nat → St → Hp → Prop, (∃ m, W 0 m σ H) ∧ ∀ i m σ H, W i m σ H →
      ((Itl K a).stop i H ∧ D.nx σ H) ∨ ((Itl K a).go i H ∧ ∃ N : St → Hp → Prop, (∀ σ' H', N σ' H' → ∃ m', m' < m ∧ W (i + 1) m' σ' H') ∧ ∀ x H', (Itl K a).yld i H x H' → g x σ H' fun σ2 H2 => tb { D with nx := N, ct := N, bk := D.nx } σ2 H2) := by
  refine ⟨fun i m σ H => m = xs.length - i ∧ i ≤ xs.length ∧ Pv i σ H, ⟨xs.length, by simp, Nat.zero_le _, h0⟩, ?_⟩
  rintro i m σ H ⟨rfl, hi, p⟩
  have q := hl i σ H hi p
  by_cases hlt : i < xs.length
  · refine .inr ⟨⟨xs, xs[i], q, by simp [hlt]⟩, Pv (i + 1), fun σ' H' p' => ⟨xs.length - (i + 1), by omega, rfl, hlt, p'⟩, fun x H' y => ?_⟩
    obtain ⟨e, y⟩ := y
    subst e
    exact hs i x σ _ (y xs q) p
  · have e : i = xs.length := by omega
    subst e
    exact .inl ⟨⟨xs, q, Nat.le_refl _⟩, hd σ H p⟩
theorem for_range {lo : Int} {n : Nat} {g : TG} {tb : TS} {D : Ends} {σ : St} {H : Hp} (Pv : Nat → St → Hp → Prop) (h0 : Pv 0 σ H)
    (hs : ∀ i σ H, i < n → Pv i σ H → g (.int (lo + i)) σ H fun σ2 H2 => tb { D with nx := Pv (i + 1), ct := Pv (i + 1), bk := D.nx } σ2 H2) (hd : ∀ σ H, Pv n σ H → D.nx σ H) :
    ∃ W : Nat → Nat → St → Hp → Prop, (∃ m, W 0 m σ H) ∧ ∀ i m σ H, W i m σ H →
      ((Itr lo n).stop i H ∧ D.nx σ H) ∨ ((Itr lo n).go i H ∧ ∃ N : St → Hp → Prop, (∀ σ' H', N σ' H' → ∃ m', m' < m ∧ W (i + 1) m' σ' H') ∧ ∀ x H', (Itr lo n).yld i H x H' → g x σ H' fun σ2 H2 => tb { D with nx := N, ct := N, bk := D.nx } σ2 H2) := by
  refine ⟨fun i m σ H => m = n - i ∧ i ≤ n ∧ Pv i σ H, ⟨n, by simp, Nat.zero_le _, h0⟩, ?_⟩
  rintro i m σ H ⟨rfl, hi, p⟩
  by_cases hlt : i < n
  · refine .inr ⟨hlt, Pv (i + 1), fun σ' H' p' => ⟨n - (i + 1), by omega, rfl, hlt, p'⟩, fun x H' y => ?_⟩
    obtain ⟨e, y⟩ := y
    subst e y
    exact hs i σ _ hlt p
  · have e : i = n := by omega
    subst e
    exact .inl ⟨Nat.le_refl _, hd σ H p⟩
end L2

namespace L2
open PySem PySem.Spec PyProof.Rows

abbrev R2 := V → V → Hp → VK → Prop
/-- a two-place operation on values: f is binaryOp op, inplaceOp op or compareOp op -/
def OpR (X : Cx) (f : Value → Value → Sem Value) (r : R2) : Prop :=
  ∀ (pins : List (Addr × Obj)) (s : Shared) (σ : St) (H : Hp) (x y : V) (v u : Value) (Q : VK), Inv X pins σ H s → RelV x v → RelV y u → r x y H Q →
    wpAny (model X.prog X.w) X.A (f v u) (EP X pins σ Q) X.xe s
/-- a one-place operation -/
def UnR (X : Cx) (f : Value → Sem Value) (r : V → Hp → VK → Prop) : Prop :=
  ∀ (pins : List (Addr × Obj)) (s : Shared) (σ : St) (H : Hp) (x : V) (v : Value) (Q : VK), Inv X pins σ H s → RelV x v → r x H Q →
    wpAny (model X.prog X.w) X.A (f v) (EP X pins σ Q) X.xe s
/-- a call of a value that is known (a builtin, a type) with values -/
def CallR (X : Cx) (f : Value) (r : List V → Hp → VK → Prop) : Prop :=
  ∀ (pins : List (Addr × Obj)) (s : Shared) (σ : St) (H : Hp) (xs : List V) (us : List Value) (Q : VK), Inv X pins σ H s → Vals xs us → r xs H Q →
    wpAny (model X.prog X.w) X.A (call f us) (EP X pins σ Q) X.xe s
/-- a value's truth -/
def TruR (X : Cx) (r : V → Hp → (Bool → Hp → Prop) → Prop) : Prop :=
  ∀ (pins : List (Addr × Obj)) (s : Shared) (σ : St) (H : Hp) (x : V) (v : Value) (Q : Bool → Hp → Prop), Inv X pins σ H s → RelV x v → r x H Q →
    wpAny (model X.prog X.w) X.A (truthy v) (TP X pins σ Q) X.xe s

def tOp (r : R2) (ta tb : TE) : TE := fun σ H Q => ta σ H fun x H1 => tb σ H1 fun y H2 => r x y H2 Q
def tUn (r : V → Hp → VK → Prop) (ta : TE) : TE := fun σ H Q => ta σ H fun x H1 => r x H1 Q
/-- ints in, under C, and a value out -/
def rI (C : Int → Int → Prop) (g : Int → Int → V) : R2 := fun x y H Q => ∃ i j, x = .int i ∧ y = .int j ∧ C i j ∧ Q (g i j) H
def rI0 (g : Int → Int → V) : R2 := fun x y H Q => ∃ i j, x = .int i ∧ y = .int j ∧ Q (g i j) H
def rU (g : Int → V) : V → Hp → VK → Prop := fun x H Q => ∃ i, x = .int i ∧ Q (g i) H

section
variable {X : Cx} {a b c : Expr} {ta tb tc : TE} {pos : Pos}

theorem binT (ha : PE X a ta) (hb : PE X b tb) {pins : List (Addr × Obj)} {s : Shared} {σ : St} {H : Hp} {R : V → V → Hp → Prop} (I : Inv X pins σ H s)
    (h : ta σ H fun x H1 => tb σ H1 fun y H2 => R x y H2) {Q : Value → Shared → Prop} {f : Value → Value → Sem Value}
    (hf : ∀ v u s2 x y H2, Inv X pins σ H2 s2 → RelV x v → RelV y u → R x y H2 → wpAny (model X.prog X.w) X.A (f v u) Q X.xe s2) :
    wpAny (model X.prog X.w) X.A (eval a X.env) (fun v s₁ => wpAny (model X.prog X.w) X.A (eval b X.env) (fun u s₂ => wpAny (model X.prog X.w) X.A (f v u) Q X.xe s₂) X.xe s₁) X.xe s := by
  refine thn (ha pins s σ H _ I h) fun v s1 ⟨x, H1, I1, r1, q1⟩ => ?_
  refine thn (hb pins s1 σ H1 _ I1 q1) fun u s2 ⟨y, H2, I2, r2, q2⟩ => ?_
  exact hf v u s2 x y H2 I2 r1 r2 q2

theorem pe_op {op : Operator} {r : R2} (ho : OpR X (binaryOp op) r) (ha : PE X a ta) (hb : PE X b tb) : PE X (.BinOp a op b pos) (tOp r ta tb) := by
  intro pins s σ H Q I h
  exact wpAny_BinOp (binT ha hb I h fun v u s2 x y H2 I2 rx ry q => ho pins s2 σ H2 x y v u Q I2 rx ry q)
theorem pe_un {op : UnaryOp} {r : V → Hp → VK → Prop} (ho : UnR X (unaryOp op) r) (ha : PE X a ta) : PE X (.UnaryOp op a pos) (tUn r ta) := by
  intro pins s σ H Q I h
  exact UnaryOp_ (thn (ha pins s σ H _ I h) fun v s1 ⟨x, H1, I1, r1, q1⟩ => ho pins s1 σ H1 x v Q I1 r1 q1)
/-! ### ints -/
theorem opI {f : Value → Value → Sem Value} {C : Int → Int → Prop} {g : Int → Int → Int}
    (rule : ∀ (i j : Int) (t u : Tok) (s : Shared) (Q : Value → Shared → Prop) (E : Value → Shared → Prop), C i j → Q (.int (g i j) s.toks) { s with toks := s.toks + 1 } → wpAny (model X.prog X.w) X.A (f (.int i t) (.int j u)) Q E s) :
    OpR X f (rI C fun i j => .int (g i j)) := by
  intro pins s σ H x y v u Q I rx ry h
  obtain ⟨i, j, rfl, rfl, hc, q⟩ := h
  obtain ⟨t, rfl⟩ := rx
  obtain ⟨t', rfl⟩ := ry
  exact rule i j t t' s _ _ hc ⟨.int (g i j), H, I.tok _, ⟨_, rfl⟩, q⟩
theorem opI0 {f : Value → Value → Sem Value} {g : Int → Int → Int}
    (rule : ∀ (i j : Int) (t u : Tok) (s : Shared) (Q : Value → Shared → Prop) (E : Value → Shared → Prop), Q (.int (g i j) s.toks) { s with toks := s.toks + 1 } → wpAny (model X.prog X.w) X.A (f (.int i t) (.int j u)) Q E s) :
    OpR X f (rI0 fun i j => .int (g i j)) := by
  intro pins s σ H x y v u Q I rx ry h
  obtain ⟨i, j, rfl, rfl, q⟩ := h
  obtain ⟨t, rfl⟩ := rx
  obtain ⟨t', rfl⟩ := ry
  exact rule i j t t' s _ _ ⟨.int (g i j), H, I.tok _, ⟨_, rfl⟩, q⟩
theorem opB0 {f : Value → Value → Sem Value} {g : Int → Int → Bool}
    (rule : ∀ (i j : Int) (t u : Tok) (s : Shared) (Q : Value → Shared → Prop) (E : Value → Shared → Prop), Q (.bool (g i j)) s → wpAny (model X.prog X.w) X.A (f (.int i t) (.int j u)) Q E s) :
    OpR X f (rI0 fun i j => .bl (g i j)) := by
  intro pins s σ H x y v u Q I rx ry h
  obtain ⟨i, j, rfl, rfl, q⟩ := h
  obtain ⟨t, rfl⟩ := rx
  obtain ⟨t', rfl⟩ := ry
  exact rule i j t t' s _ _ ⟨.bl (g i j), H, I, rfl, q⟩

def CDiv (i j : Int) : Prop := 0 < j ∧ j < 1073741824
def CPow (i j : Int) : Prop := 0 ≤ j ∧ j ≤ 1000000 ∧ i.natAbs < 2 ^ 64
def CMul (i j : Int) : Prop := (-(2 ^ 64) < i ∧ i < 2 ^ 64) ∨ (-(2 ^ 64) < j ∧ j < 2 ^ 64)
theorem CMul.ok {i j : Int} (h : CMul i j) : IntMulOk i j := by
  rcases h with ⟨h1, h2⟩ | ⟨h1, h2⟩
  · exact .of_left (intBits_le_64 h1 h2)
  · exact .of_right (intBits_le_64 h1 h2)
theorem op_add : OpR X (binaryOp .Add) (rI0 fun i j => .int (i + j)) := opI0 fun _ _ _ _ _ _ _ q => add_int q
theorem op_sub : OpR X (binaryOp .Sub) (rI0 fun i j => .int (i - j)) := opI0 fun _ _ _ _ _ _ _ q => sub_int q
theorem op_mul : OpR X (binaryOp .Mult) (rI CMul fun i j => .int (i * j)) := opI fun _ _ _ _ _ _ _ hc q => mul_int q hc.ok
/-- // by a positive divisor -/
theorem op_fdiv : OpR X (binaryOp .FloorDiv) (rI CDiv fun i j => .int (i / j)) := opI fun i j _ _ _ _ _ hc q => by
  have h1 : (0 : Int) < j := hc.1
  have h2 : j < 1073741824 := hc.2
  exact floordiv_int (by omega) (by rw [Int.fdiv_eq_ediv_of_nonneg i (by omega)]; exact q) (.inl (PyProof.noPylong_small (by omega)))
/-- % by a positive divisor of any size -/
theorem op_mod : OpR X (binaryOp .Mod) (rI (fun _ j => 0 < j) fun i j => .int (i % j)) := opI fun i j _ _ _ _ _ hc q => by
  have h1 : (0 : Int) < j := hc
  exact mod_int' (by omega) (by rw [Int.fmod_eq_emod_of_nonneg i (by omega)]; exact q)
theorem op_pow : OpR X (binaryOp .Pow) (rI CPow fun i j => .int (i ^ j.toNat)) := opI fun _ _ _ _ _ _ _ hc q => pow_int_small hc.1 hc.2.1 hc.2.2 q
theorem unI {f : Value → Sem Value} {g : Int → Int}
    (rule : ∀ (i : Int) (t : Tok) (s : Shared) (Q : Value → Shared → Prop) (E : Value → Shared → Prop), Q (.int (g i) s.toks) { s with toks := s.toks + 1 } → wpAny (model X.prog X.w) X.A (f (.int i t)) Q E s) :
    UnR X f (rU fun i => .int (g i)) := by
  intro pins s σ H x v Q I rx h
  obtain ⟨i, rfl, q⟩ := h
  obtain ⟨t, rfl⟩ := rx
  exact rule i t s _ _ ⟨.int (g i), H, I.tok _, ⟨_, rfl⟩, q⟩
theorem un_neg : UnR X (unaryOp .USub) (rU fun i => .int (-i)) := unI fun _ _ _ _ _ q => neg_int q
/-! ### bools among ints: n += (a < b) -/
end

/-! ### comparisons -/
/-- the scalars that == tells apart as data does -/
def scal : V → V → Bool
  | .non, .non => true | .non, .int _ => true | .int _, .non => true | .non, .bl _ => true | .bl _, .non => true | .non, .str _ => true | .str _, .non => true
  | .int _, .int _ => true | .bl _, .bl _ => true | .str _, .str _ => true | .byt _, .byt _ => true
  | .int _, .str _ => true | .str _, .int _ => true | .bl _, .str _ => true | .str _, .bl _ => true
  | _, _ => false
def rEq : R2 := fun x y H Q => scal x y = true ∧ Q (.bl (decide (x = y))) H
def rNe : R2 := fun x y H Q => scal x y = true ∧ Q (.bl (!decide (x = y))) H

theorem dec_int {i j : Int} : decide (V.int i = V.int j) = (i == j) := by
  rw [Bool.eq_iff_iff]
  simp
theorem dec_bl {i j : Bool} : decide (V.bl i = V.bl j) = (i == j) := by
  rw [Bool.eq_iff_iff]
  simp
theorem dec_str {i j : Str} : decide (V.str i = V.str j) = (i == j) := by
  rw [Bool.eq_iff_iff]
  simp
theorem dec_byt {i j : Array UInt8} : decide (V.byt i = V.byt j) = (i.toList == j.toList) := by
  rw [Bool.eq_iff_iff]
  cases i
  cases j
  simp

section
variable {X : Cx} {a b c : Expr} {ta tb tc : TE} {pos : Pos}
theorem fin_bl {pins : List (Addr × Obj)} {σ : St} {H : Hp} {s : Shared} {Q : VK} {k k' : Bool} (I : Inv X pins σ H s) (q : Q (.bl k) H) (e : k = k') : EP X pins σ Q (.bool k') s := by
  subst e
  exact ⟨.bl k, H, I, rfl, q⟩
theorem op_eq : OpR X (compareOp .Eq) rEq := by
  intro pins s σ H x y v u Q I rx ry h
  obtain ⟨hs, q⟩ := h
  cases x with
  | non =>
    cases rx
    cases y with
    | non => cases ry; exact PySem.EqNone.eq_none_none (fin_bl I q (by simp))
    | bl j => cases ry; exact PySem.EqNone.eq_none_bool (fin_bl I q (by simp))
    | int j => obtain ⟨t', rfl⟩ := ry; exact PySem.EqNone.eq_none_int (fin_bl I q (by simp))
    | str j => obtain ⟨t', rfl⟩ := ry; exact PySem.EqNone.eq_none_str (fin_bl I q (by simp))
    | _ => exact absurd (show false = true from hs) Bool.false_ne_true
  | bl i =>
    cases rx
    cases y with
    | non => cases ry; exact PySem.EqNone.eq_bool_none (fin_bl I q (by simp))
    | bl j => cases ry; exact eq_bool (fin_bl I q dec_bl)
    | str j => obtain ⟨t', rfl⟩ := ry; exact PySem.EqMixed.eq_bool_str (fin_bl I q (by simp))
    | _ => exact absurd (show false = true from hs) Bool.false_ne_true
  | int i =>
    obtain ⟨t, rfl⟩ := rx
    cases y with
    | non => cases ry; exact PySem.EqNone.eq_int_none (fin_bl I q (by simp))
    | int j => obtain ⟨t', rfl⟩ := ry; exact eq_int (fin_bl I q dec_int)
    | str j => obtain ⟨t', rfl⟩ := ry; exact PySem.EqMixed.eq_int_str (fin_bl I q (by simp))
    | _ => exact absurd (show false = true from hs) Bool.false_ne_true
  | str i =>
    obtain ⟨t, rfl⟩ := rx
    cases y with
    | non => cases ry; exact PySem.EqNone.eq_str_none (fin_bl I q (by simp))
    | bl j => cases ry; exact PySem.EqMixed.eq_str_bool (fin_bl I q (by simp))
    | int j => obtain ⟨t', rfl⟩ := ry; exact PySem.EqMixed.eq_str_int (fin_bl I q (by simp))
    | str j => obtain ⟨t', rfl⟩ := ry; exact eq_str (fin_bl I q dec_str)
    | _ => exact absurd (show false = true from hs) Bool.false_ne_true
  | byt i =>
    obtain ⟨t, rfl⟩ := rx
    cases y with
    | byt j => obtain ⟨t', rfl⟩ := ry; exact PySem.W.eq_bytes (fin_bl I q dec_byt)
    | _ => exact absurd (show false = true from hs) Bool.false_ne_true
  | _ => cases y <;> exact absurd (show false = true from hs) Bool.false_ne_true
theorem op_ne : OpR X (compareOp .NotEq) rNe := by
  intro pins s σ H x y v u Q I rx ry h
  obtain ⟨hs, q⟩ := h
  cases x with
  | non =>
    cases rx
    cases y with
    | non => cases ry; exact PySem.EqNone.ne_none_none (fin_bl I q (by simp))
    | bl j => cases ry; exact PySem.EqNone.ne_none_bool (fin_bl I q (by simp))
    | int j => obtain ⟨t', rfl⟩ := ry; exact PySem.EqNone.ne_none_int (fin_bl I q (by simp))
    | str j => obtain ⟨t', rfl⟩ := ry; exact PySem.EqNone.ne_none_str (fin_bl I q (by simp))
    | _ => exact absurd (show false = true from hs) Bool.false_ne_true
  | bl i =>
    cases rx
    cases y with
    | non => cases ry; exact PySem.EqNone.ne_bool_none (fin_bl I q (by simp))
    | bl j => cases ry; exact ne_bool (fin_bl I q (congrArg not dec_bl))
    | str j => obtain ⟨t', rfl⟩ := ry; exact PySem.EqMixed.ne_bool_str (fin_bl I q (by simp))
    | _ => exact absurd (show false = true from hs) Bool.false_ne_true
  | int i =>
    obtain ⟨t, rfl⟩ := rx
    cases y with
    | non => cases ry; exact PySem.EqNone.ne_int_none (fin_bl I q (by simp))
    | int j => obtain ⟨t', rfl⟩ := ry; exact ne_int (fin_bl I q (congrArg not dec_int))
    | str j => obtain ⟨t', rfl⟩ := ry; exact PySem.EqMixed.ne_int_str (fin_bl I q (by simp))
    | _ => exact absurd (show false = true from hs) Bool.false_ne_true
  | str i =>
    obtain ⟨t, rfl⟩ := rx
    cases y with
    | non => cases ry; exact PySem.EqNone.ne_str_none (fin_bl I q (by simp))
    | bl j => cases ry; exact PySem.EqMixed.ne_str_bool (fin_bl I q (by simp))
    | int j => obtain ⟨t', rfl⟩ := ry; exact PySem.EqMixed.ne_str_int (fin_bl I q (by simp))
    | str j => obtain ⟨t', rfl⟩ := ry; exact ne_str (fin_bl I q (congrArg not dec_str))
    | _ => exact absurd (show false = true from hs) Bool.false_ne_true
  | byt i =>
    obtain ⟨t, rfl⟩ := rx
    cases y with
    | byt j => obtain ⟨t', rfl⟩ := ry; exact PySem.W.ne_bytes (fin_bl I q (congrArg not dec_byt))
    | _ => exact absurd (show false = true from hs) Bool.false_ne_true
  | _ => cases y <;> exact absurd (show false = true from hs) Bool.false_ne_true

theorem op_lt : OpR X (compareOp .Lt) (rI0 fun i j => .bl (decide (i < j))) := opB0 fun _ _ _ _ _ _ _ q => lt_int q
theorem op_le : OpR X (compareOp .LtE) (rI0 fun i j => .bl (decide (i ≤ j))) := opB0 fun _ _ _ _ _ _ _ q => le_int q
theorem op_gt : OpR X (compareOp .Gt) (rI0 fun i j => .bl (decide (j < i))) := opB0 fun _ _ _ _ _ _ _ q => gt_int q
theorem op_ge : OpR X (compareOp .GtE) (rI0 fun i j => .bl (decide (j ≤ i))) := opB0 fun _ _ _ _ _ _ _ q => ge_int q
/-- the one string within the other -/
theorem op_in_str : OpR X (compareOp .In) (fun x y H Q => ∃ i j, x = .str i ∧ y = .str j ∧ Q (.bl (!(Builtin.Str.occurrences j i 0 j.length 1).isEmpty)) H) := by
  intro pins s σ H x y v u Q I rx ry h
  obtain ⟨i, j, rfl, rfl, q⟩ := h
  obtain ⟨t, rfl⟩ := rx
  obtain ⟨t', rfl⟩ := ry
  exact in_str (fin_bl I q rfl)

theorem op_notin_str : OpR X (compareOp .NotIn) (fun x y H Q => ∃ i j, x = .str i ∧ y = .str j ∧ Q (.bl (!(!(Builtin.Str.occurrences j i 0 j.length 1).isEmpty))) H) := by
  intro pins s σ H x y v u Q I rx ry h
  obtain ⟨i, j, rfl, rfl, q⟩ := h
  obtain ⟨t, rfl⟩ := rx
  obtain ⟨t', rfl⟩ := ry
  exact notIn_str (fin_bl I q rfl)
/-- two rules for one operation: by cases -/
theorem OpR.or {f : Value → Value → Sem Value} {r r' : R2} (h : OpR X f r) (h' : OpR X f r') : OpR X f (fun x y H Q => r x y H Q ∨ r' x y H Q) := by
  intro pins s σ H x y v u Q I rx ry q
  rcases q with q | q
  · exact h pins s σ H x y v u Q I rx ry q
  · exact h' pins s σ H x y v u Q I rx ry q

theorem nomark (b : Expr) {op : CmpOp} (h : op ≠ .In := by decide) (h2 : op ≠ .NotIn := by decide) : behindInMarks op b = false := by
  have e1 : (op == CmpOp.In) = false := by cases op <;> first | rfl | exact absurd rfl h
  have e2 : (op == CmpOp.NotIn) = false := by cases op <;> first | rfl | exact absurd rfl h2
  cases b <;> simp [behindInMarks, e1, e2]
/-- a comparison as a value; hm: nomark b, or (for in, not in) by with_unfolding_all rfl -/
theorem pe_cmpR {op : CmpOp} {r : R2} (ho : OpR X (compareOp op) r) (ha : PE X a ta) (hb : PE X b tb) (hm : behindInMarks op b = false) : PE X (.Compare a [op] [b] pos) (tOp r ta tb) := by
  intro pins s σ H Q I h
  exact wpAny_Compare1 (binT ha hb I h fun v u s2 x y H2 I2 rx ry q => ho pins s2 σ H2 x y v u Q I2 rx ry q) hm
/-- a reading of a value as a test -/
def tTest (t : TE) : TT := fun σ H Q => t σ H fun x H' => ∃ k, x = .bl k ∧ Q k H'
theorem pt_cmpR {op : CmpOp} {r : R2} (ho : OpR X (compareOp op) r) (ha : PE X a ta) (hb : PE X b tb) (hm : behindInMarks op b = false) : PT X (.Compare a [op] [b] pos) (tTest (tOp r ta tb)) := by
  intro pins s σ H Q I h
  refine wpAny_isTrue_Compare1 (thn (ha pins s σ H _ I h) fun v s1 ⟨x, H1, I1, r1, q1⟩ => thn (hb pins s1 σ H1 _ I1 q1) fun u s2 ⟨y, H2, I2, r2, q2⟩ =>
    thn (ho pins s2 σ H2 x y v u _ I2 r1 r2 q2) fun c s3 ⟨z, H3, I3, r3, k, e, q3⟩ => ?_) hm
  subst e
  cases r3
  exact wpAny_truthy_bool ⟨H3, I3, q3⟩
/-- a op1 b op2 c -/
def tChain (r r' : R2) (ta tb tc : TE) : TE := fun σ H Q => ta σ H fun x H1 => tb σ H1 fun y H2 => r x y H2 fun z H3 => ∃ k, z = .bl k ∧
  (if k = true then tc σ H3 fun w' H4 => r' y w' H4 Q else Q (.bl false) H3)
theorem pt_chain {op op' : CmpOp} {r r' : R2} (ho : OpR X (compareOp op) r) (ho' : OpR X (compareOp op') r') (ha : PE X a ta) (hb : PE X b tb) (hc : PE X c tc)
    (hm : lastMarks [op, op'] [b, c] = false := by with_unfolding_all rfl) : PT X (.Compare a [op, op'] [b, c] pos) (tTest (tChain r r' ta tb tc)) := by
  intro pins s σ H Q I h
  refine isTrue_chain (thn (ha pins s σ H _ I h) fun v s1 ⟨x, H1, I1, r1, q1⟩ => test_link (thn (hb pins s1 σ H1 _ I1 q1) fun u s2 ⟨y, H2, I2, r2, q2⟩ =>
    thn (ho pins s2 σ H2 x y v u _ I2 r1 r2 q2) fun d s3 ⟨z, H3, I3, r3, k, e, q3⟩ => ?_)) hm
  subst e
  cases r3
  refine wpAny_truthy_bool ?_
  cases k with
  | false =>
    obtain ⟨k', e', q'⟩ := q3
    cases e'
    exact ite_ff ⟨H3, I3, q'⟩
  | true =>
    refine ite_tt (test_last (thn (hc pins s3 σ H3 _ I3 q3) fun w' s4 ⟨z', H4, I4, r4, q4⟩ => thn (ho' pins s4 σ H4 y z' u w' _ I4 r2 r4 q4) fun d' s5 ⟨z2, H5, I5, r5, k2, e2, q5⟩ => ?_))
    subst e2
    cases r5
    exact wpAny_truthy_bool ⟨H5, I5, q5⟩

/-! ### truth -/
/-- a value's truth by the abstract heap -/
def TruV (K : PySem.W.Frag) (x : V) (H : Hp) (k : Bool) : Prop :=
  match x with
  | .non => k = false
  | .bl b => k = b
  | .int i => k = (i != 0)
  | .str y => y.length ≤ sizeLine ∧ k = ((y.length : Int) != 0)
  | .byt y => y.size ≤ sizeLine ∧ k = ((y.size : Int) != 0)
  | .ref p => (∃ xs, SqL K H p xs ∧ k = !xs.isEmpty) ∨ (∃ xs, SqT K H p xs ∧ k = !xs.isEmpty) ∨ ∃ kvs, H p = some (.dK kvs) ∧ k = !kvs.isEmpty
  | _ => False
theorem isEmpty_kv {κ : Type} {kvs : List (κ × V)} {vs : List (κ × Value)} (r : KV kvs vs) : (!vs.isEmpty) = !kvs.isEmpty := by
  cases r <;> rfl
theorem isEmpty_of {xs : List V} {its : List Value} (r : Vals xs its) : (!its.toArray.isEmpty) = !xs.isEmpty := by
  cases r <;> simp
theorem line63 : (sizeLine : Nat) < 2 ^ 63 := by rw [sizeLine_eq]; decide
theorem tru_ok : TruR X (fun x H Q => ∃ k, TruV X.K x H k ∧ Q k H) := by
  intro pins s σ H x v Q I rx h
  obtain ⟨k, e, q⟩ := h
  have hl := line63
  have hs : sizeLine = 16777216 := sizeLine_eq
  cases x with
  | non =>
    cases rx
    have e' : k = false := e
    subst e'
    exact truthy_none ⟨H, I, q⟩
  | bl b =>
    cases rx
    have e' : k = b := e
    subst e'
    exact wpAny_truthy_bool ⟨H, I, q⟩
  | int i =>
    obtain ⟨t, rfl⟩ := rx
    have e' : k = (i != 0) := e
    subst e'
    exact PySem.P.truthy_int ⟨H, I, q⟩
  | str y =>
    obtain ⟨t, rfl⟩ := rx
    obtain ⟨hy, e'⟩ : y.length ≤ sizeLine ∧ k = ((y.length : Int) != 0) := e
    subst e'
    exact PySem.P.truthy_str (by omega) ⟨H, I.tok _, q⟩
  | byt y =>
    obtain ⟨t, rfl⟩ := rx
    obtain ⟨hy, e'⟩ : y.size ≤ sizeLine ∧ k = ((y.size : Int) != 0) := e
    subst e'
    exact PySem.W.truthy_bytes (by omega) ⟨H, I.tok _, q⟩
  | ref p =>
    cases rx
    have e' : (∃ xs, SqL X.K H p xs ∧ k = !xs.isEmpty) ∨ (∃ xs, SqT X.K H p xs ∧ k = !xs.isEmpty) ∨ ∃ kvs, H p = some (.dK kvs) ∧ k = !kvs.isEmpty := e
    rcases e' with ⟨xs, hx, e'⟩ | ⟨xs, hx, e'⟩ | ⟨kvs, hx, e'⟩
    · subst e'
      obtain ⟨its, r, pl, hz⟩ := I.list hx
      have hlen := r.length
      exact wpAny_truthy_list pl.isList (by simp only [List.size_toArray]; omega) ⟨H, I.tok _, by rw [isEmpty_of r]; exact q⟩
    · subst e'
      obtain ⟨its, r, pl, hz⟩ := I.tuple hx
      have hlen := r.length
      exact truthy_tuple pl (by simp only [List.size_toArray]; omega) ⟨H, I.tok _, by rw [isEmpty_of r]; exact q⟩
    · subst e'
      obtain ⟨hz, hS, vs, r, m⟩ : kvs.length ≤ sizeLine ∧ (p == sysModules) = false ∧ ∃ vs, KV kvs vs ∧ s.heap.DictOf (mixKind X.prog X.w) p vs := I.hok p _ hx
      have hlen : kvs.length = vs.length := Paired.length r
      exact wpAny_truthy_dict hS m (by omega) ⟨H, I.tok _, by rw [isEmpty_kv r]; exact q⟩
  | _ => exact (show False from e).elim
/-- any expression whose test is its value's truth (a name, a call, a subscript, a field ..: he by fun _ => rfl) -/
theorem pt_truth (ha : PE X a ta) (he : ∀ whole, isTrue a X.env whole = (do let v ← whole; standAt a.pos; holding [v] (truthy v))) :
    PT X a (fun σ H Q => ta σ H fun x H' => ∃ k, TruV X.K x H' k ∧ Q k H') := by
  intro pins s σ H Q I h
  exact isTrue_plain (thn (ha pins s σ H _ I h) fun v s1 ⟨x, H1, I1, r1, q1⟩ => tru_ok pins s1 σ H1 x v Q I1 r1 q1) (he _)

/-! ### strs and bytes -/
theorem op_add_str : OpR X (binaryOp .Add) (fun x y H Q => ∃ i j, x = .str i ∧ y = .str j ∧ i.length + j.length ≤ sizeLine ∧ Q (.str (i ++ j)) H) := by
  intro pins s σ H x y v u Q I rx ry h
  obtain ⟨i, j, rfl, rfl, hz, q⟩ := h
  obtain ⟨t, rfl⟩ := rx
  obtain ⟨t', rfl⟩ := ry
  exact add_str (fun t' tk => ⟨.str (i ++ j), H, I.tok _, ⟨_, rfl⟩, q⟩) hz
/-! ### scalar builtins, by CallR -/
theorem vals1 {x : V} {us : List Value} (r : Vals [x] us) : ∃ u, us = [u] ∧ RelV x u := by
  cases r with
  | cons r1 r2 => cases r2; exact ⟨_, rfl, r1⟩
theorem vals2 {x y : V} {us : List Value} (r : Vals [x, y] us) : ∃ u w', us = [u, w'] ∧ RelV x u ∧ RelV y w' := by
  cases r with
  | cons r1 r2 =>
    cases r2 with
    | cons r3 r4 => cases r4; exact ⟨_, _, rfl, r1, r3⟩
theorem call_max2 (hc : X.calm = true) : CallR X (.builtin "max") (fun xs H Q => ∃ i j, xs = [.int i, .int j] ∧ Q (.int (if j > i then j else i)) H) := by
  intro pins s σ H xs us Q I r h
  obtain ⟨i, j, rfl, q⟩ := h
  obtain ⟨u, w', rfl, ⟨t, rfl⟩, ⟨t', rfl⟩⟩ := vals2 r
  refine max_two_ints (I.ok.hd hc) fun h' tk k => ⟨_, H, I.kept k, ?_, q⟩
  by_cases hj : j > i
  · rw [if_pos hj, if_pos hj]; exact ⟨_, rfl⟩
  · rw [if_neg hj, if_neg hj]; exact ⟨_, rfl⟩
theorem call_min2 (hc : X.calm = true) : CallR X (.builtin "min") (fun xs H Q => ∃ i j, xs = [.int i, .int j] ∧ Q (.int (if j < i then j else i)) H) := by
  intro pins s σ H xs us Q I r h
  obtain ⟨i, j, rfl, q⟩ := h
  obtain ⟨u, w', rfl, ⟨t, rfl⟩, ⟨t', rfl⟩⟩ := vals2 r
  refine min_two_ints (I.ok.hd hc) fun h' tk k => ⟨_, H, I.kept k, ?_, q⟩
  by_cases hj : j < i
  · rw [if_pos hj, if_pos hj]; exact ⟨_, rfl⟩
  · rw [if_neg hj, if_neg hj]; exact ⟨_, rfl⟩
theorem call_int1 : CallR X (.type "int") (fun xs H Q => (∃ i, xs = [.int i] ∧ Q (.int i) H) ∨ ∃ k, xs = [.bl k] ∧ Q (.int (if k then 1 else 0)) H) := by
  intro pins s σ H xs us Q I r h
  rcases h with ⟨i, rfl, q⟩ | ⟨k, rfl, q⟩
  · obtain ⟨u, rfl, t, rfl⟩ := vals1 r
    exact call_int_int ⟨.int i, H, I, ⟨_, rfl⟩, q⟩
  · obtain ⟨u, rfl, r1⟩ := vals1 r
    cases r1
    exact call_int_bool ⟨.int (if k then 1 else 0), H, I.tok _, ⟨_, rfl⟩, q⟩
end
end L2

namespace L2
open PySem PySem.Spec PyProof.Rows

/-! ### an instance, its attributes a map -/
structure ObjM (h : Heap) (x dx C : Addr) (mA : Str → Option Value) : Prop where
  obj : h.get? x = some (PySem.W.instObj C dx)
  ns : h.Ns1 dx mA
  ne : dx ≠ x

theorem lookIn_ns {h : Heap} {dx : Addr} {mA : Str → Option Value} (n : h.Ns1 dx mA) : ∃ od, h.get? dx = some od ∧ ∀ name, PySem.W.lookIn name od = some (mA name) := by
  obtain ⟨o, es, ep, ho, hd, hk, _, hm⟩ := n
  refine ⟨o, ho, fun name => ?_⟩
  have e := hm name
  unfold nsFind findBy at e
  rw [← Array.find?_toList] at e
  unfold PySem.W.lookIn
  rw [hd]
  dsimp only
  split
  · rename_i y q
    rw [q] at e
    exact congrArg some e
  · rename_i q
    rw [q] at e
    have a : es.toList.any (·.refKey) = false := by
      rw [List.any_eq_false]
      intro y hy
      obtain ⟨z, t, hkey⟩ := hk y (Array.mem_toList_iff.mp hy)
      simp [DictEntry.refKey, hkey]
    have a' : ¬ es.toList.any (·.refKey) = true := by rw [a]; exact Bool.false_ne_true
    rw [if_neg a']
    exact congrArg some e

theorem ObjM.look {h : Heap} {x dx C : Addr} {mA : Str → Option Value} (I : ObjM h x dx C mA) : ∃ od, PySem.W.InstAt h x (PySem.W.instObj C dx) C (some od) ∧ ∀ name, PySem.W.lookIn name od = some (mA name) :=
  let ⟨od, ho, hl⟩ := lookIn_ns I.ns
  ⟨od, ⟨I.obj, rfl, rfl, ho⟩, hl⟩

section
variable {prog : Program} {w : World} {A : Around} {E : Value → Shared → Prop} {s : Shared} {K : PySem.W.Frag} {x dx C f : Addr} {mA : Str → Option Value} {name : Str} {v : Value}

end

/-! ### the attributes as a list of pairs -/
section
variable {P : Program} {w : World} {H H' : Hp} {h h' : Heap} {a C dx : Addr} {fs fs' : List (Str × V)}
theorem ins_get (hok : HOk P w H h) (e : H a = some (.ins C dx fs)) : ∃ mA, ObjM h a dx C mA ∧ (∀ f, RelO (fs.lookup f) (mA f)) ∧ PySem.Within mA (fs.map (·.1)) ∧ fs.length ≤ 1000 ∧ H dx = some (.own a) := by
  obtain ⟨d, z, ne, ob, mA, n, r, q⟩ := (show ObjOk P w H h a (.ins C dx fs) from hok a _ e)
  exact ⟨mA, ⟨ob, n, ne⟩, r, q, z, d⟩
end

/-! ### what of the text a class must have -/
structure Cls (K : PySem.W.Frag) (C : Addr) : Prop where
  pg : PySem.W.plainGet K C Str.empty = true
  hd : PySem.W.hasDictIn K C = true
  po : PySem.W.plainOver K C = true
  sa : PySem.W.findIn K (.ref C) "__setattr__" = some (some (.builtin "object.__setattr__"))
theorem Cls.get {K : PySem.W.Frag} {C : Addr} (c : Cls K C) (f : Str) : PySem.W.plainGet K C f = true := c.pg
/-- a constant of the class -/
structure Con (K : PySem.W.Frag) (C : Addr) (f : Str) (v : V) (u : Value) : Prop where
  at_ : PySem.W.findIn K (.ref C) f = some (some u)
  rel : RelV v u
  get : PySem.W.specialIn K u "__get__" = some none
  cp : PySem.W.copiedNames.contains f = false
/-- a method: a plain def of the class or of one above it -/
structure Meth (K : PySem.W.Frag) (C : Addr) (m : Str) (f : Addr) : Prop where
  at_ : PySem.W.findIn K (.ref C) m = some (some (.ref f))
  fn : PySem.W.isFn K (.ref f) = true
  kp : PySem.W.keepIn K (.ref f) = true

section
variable {X : Cx} {pins : List (Addr × Obj)} {σ : St} {H : Hp} {s : Shared} {a C dx : Addr} {fs : List (Str × V)} {f : Str} {v : V} {A : Around} {E : Value → Shared → Prop}

/-- a new instance, tracked, without attributes -/
theorem Inv.made (I : Inv X pins σ H s) : Inv X pins σ (upd (upd H s.heap.objs.size (.own (s.heap.objs.size + 1))) (s.heap.objs.size + 1) (.ins C s.heap.objs.size []))
    { s with heap := (s.heap.push PySem.W.emptyDict).push (PySem.W.instObj C s.heap.objs.size) } := by
  have e1 : (s.heap.push PySem.W.emptyDict).get? s.heap.objs.size = some PySem.W.emptyDict := Heap.get?_push_size s.heap rfl
  have e2 : ((s.heap.push PySem.W.emptyDict).push (PySem.W.instObj C s.heap.objs.size)).get? (s.heap.objs.size + 1) = some (PySem.W.instObj C s.heap.objs.size) := by
    have := Heap.get?_push_size (s.heap.push PySem.W.emptyDict) (o := PySem.W.instObj C s.heap.objs.size) rfl
    rwa [Heap.size_push] at this
  have e3 : (s.heap.push PySem.W.emptyDict).Ns s.heap.objs.size (fun _ => none) := ⟨PySem.W.emptyDict, #[], _, e1, rfl, (fun e he => absurd he (by simp)), fun _ => rfl⟩
  have I1 := I.laid (a := s.heap.objs.size) (o := .own (s.heap.objs.size + 1)) (h' := s.heap.push PySem.W.emptyDict) (t' := s.toks) (fun b u q => Heap.get?_push_of_some _ q) (Nat.le_refl _) ⟨_, e1⟩
  refine I1.laid (a := s.heap.objs.size + 1) (o := .ins C s.heap.objs.size []) (t' := s.toks) (fun b u q => Heap.get?_push_of_some _ q) (Nat.le_of_eq (Heap.size_push _ _)) ?_
  have ne : s.heap.objs.size ≠ s.heap.objs.size + 1 := Nat.ne_of_lt (Nat.lt_succ_self _)
  refine ⟨by rw [upd_ne ne, upd_same], Nat.zero_le _, ne, e2, fun _ => none, (Heap.Ns1.of_empty e3).at fun o q => Heap.get?_push_of_some _ q, fun _ => True.intro, fun y hy => absurd rfl hy⟩

end

/-! ### readings and rules -/
section
variable {X : Cx} {o e value : Expr} {f : Str} {pos pos' tpos : Pos} {ta tv : TE}
end

/-! ### isinstance -/
section
variable {X : Cx} {pins : List (Addr × Obj)} {σ : St} {H : Hp} {s : Shared} {A : Around} {E : Value → Shared → Prop} {Q : Value → Shared → Prop} {c : Value} {b : Bool}
/-- the type of a value, as the fragment's deciders take it; for an instance its class -/
inductive TyOf (K : PySem.W.Frag) (H : Hp) : V → Value → Prop where
  | non : TyOf K H .non (.type "NoneType")
  | bl (x : Bool) : TyOf K H (.bl x) (.type "bool")
  | int (i : Int) : TyOf K H (.int i) (.type "int")
  | str (x : Str) : TyOf K H (.str x) (.type "str")
  | flt (x : UInt64) : TyOf K H (.flt x) (.type "float")
  | lst {a : Addr} {xs : List V} (e : H a = some (.lst xs)) : TyOf K H (.ref a) (.type "list")
  | frz {a : Addr} {o : Obj} {xs : List V} (e : H a = some (.frz o (.lst xs))) : TyOf K H (.ref a) (.type "list")
  | tup {a : Addr} {xs : List V} (e : H a = some (.tup xs)) : TyOf K H (.ref a) (.type "tuple")
  | dK {a : Addr} {kvs : List (Key × V)} (e : H a = some (.dK kvs)) : TyOf K H (.ref a) (.type "dict")
  | dT {a : Addr} {kvs : List (List Key × V)} (e : H a = some (.dT kvs)) : TyOf K H (.ref a) (.type "dict")
  | ins {a C dx : Addr} {fs : List (Str × V)} (e : H a = some (.ins C dx fs)) (cl : Cls K C) (ha : PySem.W.findIn K (.ref C) "__class__" = some (some (.builtin "object.__class__")))
      (hn : PySem.W.specialIn K (.builtin "object.__class__") "__get__" = some (some (.builtin "getset_descriptor.__get__"))) (htk : PySem.W.takesIn K (.builtin "object.__class__") = some true)
      (hm : PySem.W.mroIn K C (.type "object") = some true) : TyOf K H (.ref a) (.ref C)
/-- isinstance(x, c) for one class c, a built-in or an own one: kitOne's answer -/
theorem isinst_ok {x : V} {u t : Value} (I : Inv X pins σ H s) (rx : RelV x u) (ty : TyOf X.K H x t) (e : PySem.W.kitOne X.K t c = some b) (h : ∀ tk, Q (.bool b) { s with toks := tk }) :
    wpAny (model X.prog X.w) A (call (.builtin "isinstance") [u, c]) Q E s := by
  cases ty with
  | non => cases (show u = Value.none from rx); exact PySem.W.kia_one PySem.W.kitx_none I.kIn True.intro e (fun z => nomatch z) h
  | bl y => cases (show u = Value.bool y from rx); exact PySem.W.kia_one PySem.W.kitx_bool I.kIn True.intro e (fun z => nomatch z) h
  | int i => obtain ⟨t, q⟩ := (show ∃ t, u = Value.int i t from rx); cases q; exact PySem.W.kia_one PySem.W.kitx_int I.kIn True.intro e (fun z => nomatch z) h
  | str y => obtain ⟨t, q⟩ := (show ∃ t, u = Value.str y t from rx); cases q; exact PySem.W.kia_one PySem.W.kitx_str I.kIn True.intro e (fun z => nomatch z) h
  | flt y => obtain ⟨t, q⟩ := (show ∃ t, u = Value.float y t from rx); cases q; exact PySem.W.kia_one PySem.W.kitx_float I.kIn True.intro e (fun z => nomatch z) h
  | @lst a xs ea =>
    cases (show u = Value.ref a from rx)
    obtain ⟨_, _, n, _, h1⟩ := (show ObjOk X.prog X.w H s.heap a (.lst xs) from I.hok a _ ea)
    exact PySem.W.kia_one PySem.W.kitx_list I.kIn ⟨_, h1, rfl⟩ e (fun z => nomatch z) h
  | @frz a ob xs ea =>
    cases (show u = Value.ref a from rx)
    obtain ⟨_, _, _, n, _, h1⟩ := (show ObjOk X.prog X.w H s.heap a (.frz ob (.lst xs)) from I.hok a _ ea)
    exact PySem.W.kia_one PySem.W.kitx_list I.kIn ⟨_, h1, rfl⟩ e (fun z => nomatch z) h
  | @tup a xs ea =>
    cases (show u = Value.ref a from rx)
    obtain ⟨_, _, _, p⟩ := (show ObjOk X.prog X.w H s.heap a (.tup xs) from I.hok a _ ea)
    obtain ⟨o, h1, h2, _⟩ := p
    exact PySem.W.kia_one PySem.W.kitx_tuple I.kIn ⟨o, h1, h2⟩ e (fun z => nomatch z) h
  | @dK a kvs ea =>
    cases (show u = Value.ref a from rx)
    obtain ⟨_, _, vs, _, p⟩ := (show ObjOk X.prog X.w H s.heap a (.dK kvs) from I.hok a _ ea)
    obtain ⟨o, es, ep, h1, h2, _⟩ := p
    exact PySem.W.kia_one PySem.W.kitx_dict I.kIn ⟨o, h1, h2.1⟩ e (fun z => nomatch z) h
  | @dT a kvs ea =>
    cases (show u = Value.ref a from rx)
    obtain ⟨_, _, xs, _, o, es, ep, h1, h2, _⟩ := (show ObjOk X.prog X.w H s.heap a (.dT kvs) from I.hok a _ ea)
    exact PySem.W.kia_one PySem.W.kitx_dict I.kIn ⟨o, h1, h2.1⟩ e (fun z => nomatch z) h
  | @ins a C dx fs ea cl ha hn htk hm =>
    cases (show u = Value.ref a from rx)
    obtain ⟨mA, O, _⟩ := ins_get I.hok ea
    obtain ⟨od, J, _⟩ := O.look
    exact PySem.W.kia_one (PySem.W.kitx_own (cl.get _) cl.hd ha hn htk hm) I.kIn J e (fun z => nomatch z) h
end
end L2

namespace L2
open PySem PySem.Spec PyProof.Rows

/-! ### room -/
structure Room (k : Nat) (A : Around) : Prop where
  hd : A.handled = none
  dp : A.depth + 3 * k + 5 < recursionLimit
  un : A.units + 16 * k + 200 < cLine
  gd : A.guards = some []
theorem Room.mono {j k : Nat} {A : Around} (r : Room k A) (h : j ≤ k) : Room j A := ⟨r.hd, by have := r.dp; omega, by have := r.un; omega, by first | exact r.gd | simpa [Around.deeper, Around.under, Code.guards, Code.isGuard, guardIds, pushGuards] using r.gd⟩
theorem Room.deeper {k : Nat} {A : Around} (r : Room (k + 1) A) (env : Env) : Room k (A.deeper env) :=
  ⟨r.hd, by have := r.dp; show A.depth + 1 + 3 * k + 5 < _; omega, by have := r.un; show A.units + 3 + 16 * k + 200 < _; omega, by first | exact r.gd | simpa [Around.deeper, Around.under, Code.guards, Code.isGuard, guardIds, pushGuards] using r.gd⟩
theorem Room.in1 {k : Nat} {A : Around} (r : Room (k + 1) A) : Room k A.in1 :=
  ⟨r.hd, by have := r.dp; show A.depth + 3 * k + 5 < _; omega, by have := r.un; show A.units + 1 + 16 * k + 200 < _; omega, by first | exact r.gd | simpa [Around.deeper, Around.under, Code.guards, Code.isGuard, guardIds, pushGuards] using r.gd⟩
theorem Room.depth {k : Nat} {A : Around} (r : Room k A) : A.depth < recursionLimit := by have := r.dp; omega
theorem Room.units {k : Nat} {A : Around} (r : Room k A) : A.units + 64 < cLine := by have := r.un; omega
theorem Room.units0 {k : Nat} {A : Around} (r : Room k A) : A.units < cLine := by have := r.un; omega

/-! ### argument lists and displays -/
def tNil : TA := fun _ H Q => Q [] H
def tCons (ta : TE) (tr : TA) : TA := fun σ H Q => ta σ H fun x H1 => tr σ H1 fun xs H2 => Q (x :: xs) H2
section
variable {X : Cx} {e : Expr} {es : List Expr} {te : TE} {t : TA} {pos : Pos}
theorem pa_nil : PA X [] tNil := fun _ _ _ _ H Q I h => Calls.spliced_nil ⟨[], H, I, .nil, h⟩
theorem pa_cons (ha : PE X e te) (hr : PA X es t) (hs : starEach (e :: es) X.env = (false, eval e X.env) :: starEach es X.env := by rfl) : PA X (e :: es) (tCons te t) := by
  intro pos pins s σ H Q I h
  rw [hs]
  show wpAny _ _ (spliced ((false, eval e X.env) :: backTo pos (starEach es X.env))) _ _ s
  refine Calls.spliced_cons (thn (ha pins s σ H _ I h) fun u s1 ⟨x, H1, I1, r1, q1⟩ => ?_)
  exact thn (hr pos pins s1 σ H1 _ I1 q1) fun us s2 ⟨xs, H2, I2, r2, q2⟩ => ⟨x :: xs, H2, I2, .cons r1 r2, q2⟩

/-- a tuple, a list of written items -/
def tTup (t : TA) : TE := fun σ H Q => t σ H fun xs H1 => xs.length ≤ sizeLine ∧ ∀ p, H1 p = none → Q (.ref p) (upd H1 p (.tup xs))
def tLst (t : TA) : TE := fun σ H Q => t σ H fun xs H1 => xs.length ≤ sizeLine ∧ ∀ p, H1 p = none → Q (.ref p) (upd H1 p (.lst xs))
theorem pe_lst (h : PA X es t) : PE X (.List es pos) (tLst t) := by
  intro pins s σ H Q I hq
  refine wpAny_List_spliced (thn (h pos pins s σ H _ I hq) fun us s1 ⟨xs, H1, I1, r, z, q⟩ => ⟨by rw [← r.length]; exact z, ?_⟩)
  have hf : H1 s1.heap.objs.size = none := I1.hok.fresh (Nat.le_refl _)
  refine ⟨.ref s1.heap.objs.size, upd H1 s1.heap.objs.size (.lst xs), I1.laid (t' := s1.toks) (fun b u e => Heap.get?_push_of_some _ e) (Nat.le_refl _) ?_, rfl, q _ hf⟩
  exact ⟨z, us, 0, r, Heap.get?_push_size _ rfl⟩
end

/-! ### what a def promises -/
/-- a def's promise: the bound arguments in the parameters' order, the heap, the wanted end, the wanted exception -/
abbrev Sp := List V → Hp → VK → XK → Prop
/-- how an exception lies behind a call (file 08 gives it): the callers' frames, abstract heap and state ahead of the call, the wish, the exception, the state -/
abbrev CXT := List Env → Hp → Shared → XK → Value → Shared → Prop

/-- the state at a call -/
structure Env0 (P : Program) (w : World) (K : PySem.W.Frag) (mg : Str → Option Value) (base : Heap) (A : Around) (outer : List Env) (s : Shared) (H : Hp) : Prop where
  frames : A.frames = some outer
  mod : Mod K mg base
  bs : ∀ b o, base.get? b = some o → s.heap.get? b = some o ∧ H b = none
  bsz : base.objs.size ≤ s.heap.objs.size
  funs : s.heap.FunFrames base outer
  frf : ∀ b ∈ frs outer, H b = none
  hok : HOk P w H s.heap
  bare : AllBare s.gens
/-- a call's end -/
def CE (outer : List Env) (P : Program) (w : World) (H : Hp) (s : Shared) (Q : VK) (u : Value) (s' : Shared) : Prop :=
  ∃ v H', s'.os = s.os ∧ AllBare s'.gens ∧ Un (frs outer) [] H H' s.heap s'.heap ∧ HOk P w H' s'.heap ∧ RelV v u ∧ Q v H'
def CR (CX : CXT) (outer : List Env) (P : Program) (w : World) (H : Hp) (s : Shared) (Q : VK) (E : XK) (r : Result) (s' : Shared) : Prop :=
  match r with
  | .ok (.ret u) => CE outer P w H s Q u s'
  | .ok _ => False
  | .error e => CX outer H s E e s'
structure FnOk (P : Program) (w : World) (K : PySem.W.Frag) (mg : Str → Option Value) (base : Heap) (CX : CXT) (k : Nat) (f : Addr) (fd : FuncData) (ps : List Str) (sp : Sp) : Prop where
  len : ∀ vs H Q E, sp vs H Q E → vs.length = ps.length
  run : ∀ (A : Around) (outer : List Env) (s : Shared) (H : Hp) (args : Args) (us : List Value) (vs : List V) (Q : VK) (E : XK), Room k A → Env0 P w K mg base A outer s H → BindsTo s fd args (ps.zip us) → Vals vs us → sp vs H Q E →
    codeAny (model P w) A (.call (.ref f) args) (CR CX outer P w H s Q E) s
theorem FnOk.mono {P : Program} {w : World} {K : PySem.W.Frag} {mg : Str → Option Value} {base : Heap} {CX : CXT} {j k : Nat} {f : Addr} {fd : FuncData} {ps : List Str} {sp : Sp} (F : FnOk P w K mg base CX j f fd ps sp) (h : j ≤ k) :
    FnOk P w K mg base CX k f fd ps sp := ⟨F.len, fun A outer s H args us vs Q E hr => F.run A outer s H args us vs Q E (hr.mono h)⟩
theorem Env0.in1 {P : Program} {w : World} {K : PySem.W.Frag} {mg : Str → Option Value} {base : Heap} {A : Around} {outer : List Env} {s : Shared} {H : Hp} (e : Env0 P w K mg base A outer s H) :
    Env0 P w K mg base A.in1 outer s H := ⟨e.frames, e.mod, e.bs, e.bsz, e.funs, e.frf, e.hok, e.bare⟩

section
variable {X : Cx} {pins : List (Addr × Obj)} {σ : St} {H : Hp} {s s' : Shared}
/-- from a body: what a callee wants -/
theorem Inv.env0 (I : Inv X pins σ H s) : Env0 X.prog X.w X.K X.mg X.base X.A X.stack s H :=
  ⟨I.ok.frames, I.ok.mod, I.bs, Nat.le_trans I.ok.bsz I.sz, I.stack, I.stkFree, I.hok, I.bare⟩
/-- behind a call -/
theorem Inv.after {Q : VK} {u : Value} (I : Inv X pins σ H s) (h : CE X.stack X.prog X.w H s Q u s') : EP X pins σ Q u s' := by
  obtain ⟨v, H', os, bare, un, hok, r, q⟩ := h
  obtain ⟨hh, g, d, t, os'⟩ := s'
  obtain rfl : os' = s.os := os
  exact ⟨v, H', I.call (h' := hh) (g' := g) (d' := d) (t' := t) (ch := []) un hok bare (fun b z => absurd z (by simp)), r, q⟩
end

/-! ### calls -/
/-- f(..): the written arguments, then the defaults dvs; E: what is wanted of an exception -/
def tCall (sp : Sp) (dvs : List V) (E : XK) (t : TA) : TE := fun σ H Q => t σ H fun vs H1 => sp (vs ++ dvs) H1 Q E
/-- how the parameters are bound: us the positional arguments, kw the keywords' values by name, ds the defaults that fill up -/
def Binds (K : PySem.W.Frag) (fd : FuncData) (ps : List Str) (ds : List Value) : Prop :=
  ∀ (s : Shared) (us : List Value), K.In s.heap → (us ++ ds).length = ps.length → BindsTo s fd ⟨us, []⟩ (ps.zip (us ++ ds))
/-- every parameter is given -/
theorem Binds.all {K : PySem.W.Frag} {fd : FuncData} {ps : List Str} (h : ∀ us : List Value, us.length = ps.length → bindArgs fd ⟨us, []⟩ = pure (ps.zip us)) : Binds K fd ps [] := fun s us _ hl => by
  rw [List.append_nil] at hl ⊢
  exact .of_eq (h us hl)

/-- an exception of a callee reaches what this body wants of exceptions -/
def Passes (CX : CXT) (X : Cx) (E : XK) : Prop := ∀ (pins : List (Addr × Obj)) (σ : St) (H : Hp) (s : Shared) (e : Value) (s' : Shared), Inv X pins σ H s → CX X.stack H s E e s' → X.xe e s'

section
variable {X : Cx} {CX : CXT} {k : Nat} {f C : Addr} {fd : FuncData} {ps : List Str} {sp : Sp} {dvs : List V} {ds : List Value} {E : XK} {x m : Str} {p pos apos : Pos} {e o : Expr} {es : List Expr} {ta : TE} {t : TA}

/-- the callee runs -/
theorem run_fn {pins : List (Addr × Obj)} {σ : St} {H : Hp} {s : Shared} {Q : VK} {us : List Value} {vs : List V} (F : FnOk X.prog X.w X.K X.mg X.base CX k f fd ps sp) (hr : Room k X.A) (hb : Binds X.K fd ps ds) (hd : Vals dvs ds) (hx : Passes CX X E)
    (I : Inv X pins σ H s) (r : Vals vs us) (h : sp (vs ++ dvs) H Q E) : wpAny (model X.prog X.w) X.A (call (.ref f) us) (EP X pins σ Q) X.xe s := by
  have r2 : Vals (vs ++ dvs) (us ++ ds) := r.append hd
  have hl : (us ++ ds).length = ps.length := by rw [← r2.length]; exact F.len _ _ _ _ h
  refine wpAny_call (codeAny_mono (F.run X.A X.stack s H ⟨us, []⟩ (us ++ ds) (vs ++ dvs) Q E hr I.env0 (hb s us I.kIn hl) r2 h) fun r s' hq => ?_)
  cases r with
  | error e => exact hx pins σ H s e s' I hq
  | ok fl =>
    cases fl with
    | ret u => exact I.after hq
    | next => exact False.elim hq
    | brk => exact False.elim hq
    | cont => exact False.elim hq

theorem pe_call (F : FnOk X.prog X.w X.K X.mg X.base CX k f fd ps sp) (hr : Room k X.A) (hg : Gl X x) (hm : X.mg x = some (.ref f)) (hk : PySem.W.keepIn X.K (.ref f) = true) (hb : Binds X.K fd ps ds) (hd : Vals dvs ds) (hx : Passes CX X E)
    (ha : PA X (e :: es) t) (hdb : (x == ("__debug__" : Str)) = false := by decide) (he : starEach (e :: es) X.env = (false, eval e X.env) :: starEach es X.env := by rfl) (hpl : (backTo pos (starEach es X.env)).any (·.1) = false := by rfl) :
    PE X (.Call (.Name x p) (e :: es) [] pos) (tCall sp dvs E t) := by
  intro pins s σ H Q I h
  refine wpAny_Call_Name_kw (ld_glob I hg hm ?_ hdb)
  refine PySem.W.callWith_K (h₀ := X.base) I.ok.mod.kin hk (thn (ha pos pins s σ H _ I h) fun us s1 ⟨vs, H1, I1, r, q⟩ => ⟨I1.kIn, ?_⟩) he hpl
  exact run_fn F hr hb hd hx I1 r q
/-- what a class must have to be made -/
structure Mk (K : PySem.W.Frag) (C f : Addr) : Prop where
  makes : PySem.W.makesIn K C = true
  init : PySem.W.findIn K (.ref C) "__init__" = some (some (.ref f))
  fn : PySem.W.isFn K (.ref f) = true
  kp : PySem.W.keepIn K (.ref C) = true

end

/-! ### keywords -/
section
variable {X : Cx} {CX : CXT} {k : Nat} {f C : Addr} {fd : FuncData} {ps ks : List Str} {sp : Sp} {E : XK} {x m : Str} {p pos apos kpos : Pos} {e o : Expr} {es : List Expr} {kws : List Keyword} {te ta : TE} {t tk : TA} {nm : Option Str}
/-- how a call with keywords binds: g puts the positional values us and the keywords' values ws (names ks) in the parameters' order, defaults among them -/
structure KBinds (K : PySem.W.Frag) (fd : FuncData) (ps ks : List Str) (g : List Value → List Value → List Value) (gV : List V → List V → List V) : Prop where
  to : ∀ (s : Shared) (us ws : List Value), K.In s.heap → (g us ws).length = ps.length → BindsTo s fd ⟨us, ks.zip ws⟩ (ps.zip (g us ws))
  rel : ∀ {vs : List V} {us : List Value} {zs : List V} {ws : List Value}, Vals vs us → Vals zs ws → Vals (gV vs zs) (g us ws)
variable {g : List Value → List Value → List Value} {gV : List V → List V → List V}
end

/-! ### a def's body keeps its promise -/
/-- names: the parameters first -/
structure FnScope (N P : List Str) (sc : Scope) : Prop where
  kind : sc.kind = .function
  co : sc.isCoroutine = false
  gen : sc.isGenerator = false
  nd : N.Nodup
  pre : N.take P.length = P
  par : ∀ x ∈ P, sc.names.lookup x = some .local ∨ sc.names.lookup x = some .cell
  nofree : ∀ y ∈ sc.names, y.2 ≠ .free

theorem bindL_out {kindOf : Str → Option NameKind} {x : Str} : ∀ {binds : List (Str × Value)} {m : Str → Option Value}, (∀ v, (x, v) ∉ binds) → bindL kindOf binds m x = m x
  | [], _, _ => rfl
  | (n, v) :: r, m, h => by
    unfold bindL
    rw [bindL_out fun w hw => h w (List.mem_cons_of_mem _ hw)]
    split
    · have : x ≠ n := by rintro rfl; exact h v List.mem_cons_self
      simp [this]
    · rfl
theorem bindC_out {kindOf : Str → Option NameKind} {x : Str} : ∀ {binds : List (Str × Value)} {m : Str → Option Value}, (∀ v, (x, v) ∉ binds) → bindC kindOf binds m x = m x
  | [], _, _ => rfl
  | (n, v) :: r, m, h => by
    unfold bindC
    rw [bindC_out fun w hw => h w (List.mem_cons_of_mem _ hw)]
    split
    · rfl
    · have : x ≠ n := by rintro rfl; exact h v List.mem_cons_self
      simp [this]
theorem bindL_get {kindOf : Str → Option NameKind} {x : Str} {v : Value} : ∀ {P : List Str} {vs : List Value} {i : Nat} {m : Str → Option Value}, P.Nodup → P[i]? = some x → vs[i]? = some v → kindOf x = some .local →
    bindL kindOf (P.zip vs) m x = some v
  | [], _, _, _, _, h, _, _ => by simp at h
  | _ :: _, [], _, _, _, _, h, _ => by simp at h
  | p :: P, w :: vs, 0, m, nd, h1, h2, hk => by
    simp at h1 h2; subst h1; subst h2
    show bindL kindOf ((p, w) :: P.zip vs) m p = _
    unfold bindL
    rw [bindL_out fun v hv => (List.nodup_cons.mp nd).1 (List.of_mem_zip hv).1, if_pos hk]
    simp
  | p :: P, w :: vs, i + 1, m, nd, h1, h2, hk => by
    show bindL kindOf ((p, w) :: P.zip vs) m x = _
    unfold bindL
    exact bindL_get (i := i) (List.nodup_cons.mp nd).2 (by simpa using h1) (by simpa using h2) hk
theorem bindC_get {kindOf : Str → Option NameKind} {x : Str} {v : Value} : ∀ {P : List Str} {vs : List Value} {i : Nat} {m : Str → Option Value}, P.Nodup → P[i]? = some x → vs[i]? = some v → kindOf x ≠ some .local →
    bindC kindOf (P.zip vs) m x = some v
  | [], _, _, _, _, h, _, _ => by simp at h
  | _ :: _, [], _, _, _, _, h, _ => by simp at h
  | p :: P, w :: vs, 0, m, nd, h1, h2, hk => by
    simp at h1 h2; subst h1; subst h2
    show bindC kindOf ((p, w) :: P.zip vs) m p = _
    unfold bindC
    rw [bindC_out fun v hv => (List.nodup_cons.mp nd).1 (List.of_mem_zip hv).1, if_neg hk]
    simp
  | p :: P, w :: vs, i + 1, m, nd, h1, h2, hk => by
    show bindC kindOf ((p, w) :: P.zip vs) m x = _
    unfold bindC
    exact bindC_get (i := i) (List.nodup_cons.mp nd).2 (by simpa using h1) (by simpa using h2) hk

/-- the names' values at the entry -/
def start (N : List Str) (vs : List V) : St := vs.map some ++ List.replicate (N.length - vs.length) none

/-- the context of a def's body, at its entry; an exception leaves the frame, then lies as CX says -/
def cxOf (CX : CXT) (P : Program) (w : World) (K : PySem.W.Frag) (mg : Str → Option Value) (base : Heap) (N : List Str) (qual : Str) (scope : Scope) (f : Addr) (cd : Value) (A : Around) (outer : List Env) (s : Shared) (H : Hp) (E : XK) : Cx where
  prog := P
  w := w
  K := K
  mg := mg
  base := base
  A := A.deeper (envOfC qual scope s.heap.objs.size f cd)
  N := N
  s₀ := s
  H₀ := H
  env := envOfC qual scope s.heap.objs.size f cd
  outer := outer
  stack := envOfC qual scope s.heap.objs.size f cd :: outer
  ex := []
  calm := true
  fn := fun _ => true
  pn := []
  xe := fun e s' => wpAny (model P w) (A.deeper (envOfC qual scope s.heap.objs.size f cd)) (leaving (envOfC qual scope s.heap.objs.size f cd) e) (fun _ s'' => CX outer H s E e s'') (fun e' s'' => CX outer H s E e' s'') s'

theorem cell_has {sc : Scope} {n : Nat} {x : Str} (h : sc.names.lookup x = some .cell) : ∃ c, (cellsFrom n sc.names []).lookup x = some c := by
  have q := PySem.W.cellsFrom_some sc.names n [] (.inl h)
  exact Option.isSome_iff_exists.mp q

theorem inv_start {CX : CXT} {P : Program} {w : World} {K : PySem.W.Frag} {mg : Str → Option Value} {base : Heap} {N ps : List Str} {qual : Str} {scope : Scope} {f : Addr} {cd : Value} {A : Around} {outer : List Env} {s s1 : Shared} {H : Hp} {E : XK} {us : List Value} {vs : List V}
    (S : FnScope N ps scope) (hd : A.handled = none) (e0 : Env0 P w K mg base A outer s H) (hl : vs.length = ps.length) (r : Vals vs us)
    (x : InCallC s s.heap.objs.size (bindL (envOfC qual scope s.heap.objs.size f cd).kindOf (ps.zip us) fun _ => none) (cellsFrom (s.heap.objs.size + 1) scope.names []) (bindC (envOfC qual scope s.heap.objs.size f cd).kindOf (ps.zip us) fun _ => none) s1) :
    Inv (cxOf CX P w K mg base N qual scope f cd A outer s H E) [] (start N vs) H s1 := by
  have hpl : ps.length ≤ N.length := by have := congrArg List.length S.pre; rw [List.length_take] at this; omega
  obtain ⟨h1, tk, rfl, hk⟩ := x.done
  have noA : ∀ b : Addr, b ∉ (cxOf CX P w K mg base N qual scope f cd A outer s H E).ex := fun b z => absurd (show b ∈ ([] : List Addr) from z) (by simp)
  refine ⟨⟨e0.mod, S.kind, rfl, rfl, Nat.le_refl _, fun y z c h1 h2 => ?_, fun y hy => ?_, fun y c _ h => ?_, fun _ => hd, Around.frames_deeper e0.frames, .inr ⟨rfl, rfl⟩, fun b z => absurd z (noA b), e0.bs, e0.bsz, fun b _ _ => noA b, fun b z => absurd z (noA b), e0.funs, e0.frf⟩,
    rfl, e0.bare, Un.kept hk, ⟨_, x.toInCall.ns, fun i y v h1 h2 h3 => ?_⟩, fun y c h => ⟨_, x.cell y c h⟩, e0.hok.fresh (Nat.le_refl _), fun y c h => ?_, fun p hp => absurd (show p ∈ ([] : List (Addr × Obj)) from hp) (by simp), e0.hok.kept hk, ?_⟩
  · exact name_of_addr x.apart (PySem.mem_of_lookup h1) (PySem.mem_of_lookup h2)
  · have hy : scope.names.lookup y = some .cell ∨ scope.names.lookup y = some .free := hy
    rcases hy with hy | hy
    · exact cell_has hy
    · exact absurd rfl (S.nofree _ (PySem.mem_of_lookup hy))
  · exact Nat.le_of_lt (x.above y c (PySem.mem_of_lookup h))
  · have hi : i < vs.length := by
      unfold start at h2
      by_cases hi : i < vs.length
      · exact hi
      · rw [List.getElem?_append_right (by simpa using hi)] at h2
        rw [List.getElem?_replicate] at h2
        split at h2 <;> cases h2
    have ha : vs[i]? = some v := by
      unfold start at h2
      rw [List.getElem?_append_left (by simpa using hi), List.getElem?_map] at h2
      cases e : vs[i]? with
      | none => rw [e] at h2; cases h2
      | some a => rw [e] at h2; cases h2; rfl
    obtain ⟨u, hu, rv⟩ := r.get ha
    have hp : ps[i]? = some y := by
      rw [← S.pre, List.getElem?_take_of_lt (by omega)]; exact h1
    have ndP : ps.Nodup := by rw [← S.pre]; exact S.nd.sublist (List.take_sublist _ _)
    refine ⟨u, rv, ?_⟩
    rcases S.par y (List.mem_of_getElem? hp) with k | k
    · exact .inl ⟨k, bindL_get ndP hp hu k⟩
    · obtain ⟨c, e⟩ := cell_has (n := s.heap.objs.size + 1) k
      refine .inr ⟨.inl k, c, e, ?_⟩
      have q := x.cell y c e
      rw [bindC_get ndP hp hu (by show scope.names.lookup y ≠ _; rw [k]; decide)] at q
      exact q
  · exact e0.hok.fresh (Nat.le_of_lt (x.above y c (PySem.mem_of_lookup h)))
  · unfold start
    show _ = N.length
    rw [List.length_append, List.length_map, List.length_replicate]
    omega

/-- THE RULE: a def (or a method) of the text, by its body. The body's reading t is chosen for each entry; it is run at the parameters' values -/
theorem fn_of {CX : CXT} {P : Program} {w : World} {K : PySem.W.Frag} {mg : Str → Option Value} {base : Heap} {k : Nat} {f : Addr} {name qual : Str} {params : Arguments} {body : List Stmt} {scope : Scope} {dV kV doc pm cdv ct oc : Value} {an od : Option Addr}
    {osl : Array (Option Value)} {N ps : List Str} {sp : Sp} (lk : K.lookup f = some ⟨oc, od, .func (PySem.W.fnOf name qual params body scope dV kV doc pm an cdv ct), osl⟩) (hcd : PySem.W.codeIn K cdv qual = true) (S : FnScope N ps scope)
    (len : ∀ vs H Q E, sp vs H Q E → vs.length = ps.length)
    (hbody : ∀ (A : Around) (outer : List Env) (s : Shared) (H : Hp) (vs : List V) (Q : VK) (E : XK), Room k (A.deeper (envOfC qual scope s.heap.objs.size f cdv)) → sp vs H Q E →
      ∃ t, PSs (cxOf CX P w K mg base N qual scope f cdv A outer s H E) body t ∧ t { nx := fun _ H' => Q .non H', rt := Q } (start N vs) H) :
    FnOk P w K mg base CX (k + 1) f (PySem.W.fnOf name qual params body scope dV kV doc pm an cdv ct) ps sp := by
  refine ⟨len, fun A outer s H args us vs Q E hr e0 hb r hsp => ?_⟩
  have hl := len _ _ _ _ hsp
  have KX : K.In s.heap := e0.mod.kin.keeps fun b o e => (e0.bs b o e).1
  have lim : s.heap.NoLimit := e0.mod.nolimit.keeps fun b o e => (e0.bs b o e).1
  have hkind : ∀ y ∈ ps.zip us, scope.names.lookup y.1 = some .local ∨ (scope.names.lookup y.1 = some .cell ∧ ((cellsFrom (s.heap.objs.size + 1) scope.names []).lookup y.1).isSome = true) := fun ⟨n, v⟩ hy => by
    rcases S.par n (List.of_mem_zip hy).1 with q | q
    · exact .inl q
    · exact .inr ⟨q, PySem.W.cellsFrom_some _ _ _ (.inl q)⟩
  refine codeAny_call_function hr.depth (KX _ _ lk) rfl S.co S.gen rfl (PySem.W.codeRec_of KX hcd) (hb _ _ _ _ ?_)
  refine wpAny_newFunctionEnv_cells S.kind hkind fun env he s1 x => ?_
  subst he
  refine ⟨lim.keeps x.toInCall.keep, codeAny_func ?_⟩
  obtain ⟨t, ht, hq⟩ := hbody A outer s H vs Q E (hr.deeper _) hsp
  have I : Inv (cxOf CX P w K mg base N qual scope f cdv A outer s H E) [] (start N vs) H s1 := inv_start S hr.hd e0 hl r x
  refine wpAny_mono (ht [] s1 (start N vs) H _ I hq) (fun fl s' hs => ?_) fun e s' hs => hs
  have fin : ∀ {σ' : St} {H' : Hp} {v : V} {u : Value}, Inv (cxOf CX P w K mg base N qual scope f cdv A outer s H E) [] σ' H' s' → RelV v u → Q v H' → CE outer P w H s Q u s' :=
    fun {σ' H' v u} J rv q => ⟨v, H', J.os, J.bare, J.base, J.hok, rv, q⟩
  cases fl with
  | ret u =>
    obtain ⟨v, σ', H', J, rv, q⟩ := hs
    exact fin J rv q
  | next =>
    obtain ⟨σ', H', J, q⟩ := hs
    exact fin (v := V.non) (u := Value.none) J rfl q
  | brk =>
    obtain ⟨_, _, _, q⟩ := hs
    exact False.elim q
  | cont =>
    obtain ⟨_, _, _, q⟩ := hs
    exact False.elim q
end L2

namespace L2
open PySem PySem.Spec PyProof.Rows
section
variable {X : Cx} {x : Str} {p pos : Pos} {e : Expr} {es : List Expr} {t : TA} {id T : String} {r : List V → Hp → VK → Prop}

def tCB (r : List V → Hp → VK → Prop) (t : TA) : TE := fun σ H Q => t σ H fun vs H1 => r vs H1 Q
/-- f(e, ..), f a built-in function -/
theorem pe_callB (hc : CallR X (.builtin id) r) (hg : Gl X x) (hm : X.mg x = none) (hv : bootBuiltins x = some (.builtin id)) (ha : PA X (e :: es) t) (hn : x ≠ "__name__" := by decide) (hdb : (x == ("__debug__" : Str)) = false := by decide)
    (he : starEach (e :: es) X.env = (false, eval e X.env) :: starEach es X.env := by rfl) (hpl : (backTo pos (starEach es X.env)).any (·.1) = false := by rfl) : PE X (.Call (.Name x p) (e :: es) [] pos) (tCB r t) := by
  intro pins s σ H Q I h
  refine wpAny_Call_Name_kw (ld_blt I hg hm hv ?_ hn hdb)
  exact PyProof.Rows.callWith_builtin1 (thn (ha pos pins s σ H _ I h) fun us s1 ⟨vs, H1, I1, r1, q1⟩ => hc pins s1 σ H1 vs us Q I1 r1 q1) he hpl
/-- T(e, ..), T a built-in type -/
theorem pe_callTy (hc : CallR X (.type T) r) (hg : Gl X x) (hm : X.mg x = none) (hv : bootBuiltins x = some (.type T)) (ha : PA X (e :: es) t) (hn : x ≠ "__name__" := by decide) (hdb : (x == ("__debug__" : Str)) = false := by decide)
    (he : starEach (e :: es) X.env = (false, eval e X.env) :: starEach es X.env := by rfl) (hpl : (backTo pos (starEach es X.env)).any (·.1) = false := by rfl) : PE X (.Call (.Name x p) (e :: es) [] pos) (tCB r t) := by
  intro pins s σ H Q I h
  refine wpAny_Call_Name_kw (ld_blt I hg hm hv ?_ hn hdb)
  exact PyProof.Rows.callWith_type1 (thn (ha pos pins s σ H _ I h) fun us s1 ⟨vs, H1, I1, r1, q1⟩ => hc pins s1 σ H1 vs us Q I1 r1 q1) he hpl
end
end L2

namespace HT
open PySem PyProof.Rows

section
open PySem.SeqAt
open PySem.AutoSeq1 (wpAny_loadPart')
open PySem.MeetsSeq PySem.MeetsSeq2 PySem.MeetsSeq3

end

section
variable {prog : Program} {w : World} {A : Around} {E : Value → Shared → Prop} {s : Shared}

/-! ### t[a:b], not the whole -/
/-- a slice's bound as a place among n (d where it is left out) -/
def sIx (n d : Nat) : Option Int → Nat
  | none => d
  | some v => if v < 0 then (v + (n : Int)).toNat else min v.toNat n
theorem sIx_none (n d : Nat) : sIx n d none = d := rfl
theorem sIx_nat (n d k : Nat) : sIx n d (some (k : Int)) = min k n := by
  show (if (k : Int) < 0 then ((k : Int) + (n : Int)).toNat else min (k : Int).toNat n) = min k n
  rw [if_neg (by omega), Int.toNat_natCast]
theorem sIx_le (n d : Nat) (hd : d ≤ n) (o : Option Int) : sIx n d o ≤ n := by
  cases o with
  | none => exact hd
  | some v =>
    show (if v < 0 then (v + (n : Int)).toNat else min v.toNat n) ≤ n
    by_cases hv : v < 0
    · rw [if_pos hv]; omega
    · rw [if_neg hv]; exact Nat.min_le_right _ _
end
end HT

namespace L2
open PySem PySem.Spec PyProof.Rows

/-! ### the parts of a slice -/
abbrev TO := St → Hp → (Option Int → Hp → Prop) → Prop
/-- a slice's part (left out, or an int) -/
def PO (X : Cx) (e : Option Expr) (t : TO) : Prop :=
  ∀ (pins : List (Addr × Obj)) (s : Shared) (σ : St) (H : Hp) (Q : Option Int → Hp → Prop), Inv X pins σ H s → t σ H Q →
    wpAny (model X.prog X.w) X.A (evalPart e X.env) (fun u s' => ∃ o H', Inv X pins σ H' s' ∧ IsPart u o ∧ Q o H') X.xe s
def tNoPart : TO := fun _ H Q => Q none H
def tPart (t : TE) : TO := fun σ H Q => t σ H fun x H1 => ∃ i, x = .int i ∧ Q (some i) H1

section
variable {X : Cx} {e : Expr} {te : TE} {lo hi : Option Expr} {tl th : TO} {pos p2 : Pos}

theorem po_none : PO X none tNoPart := by
  intro pins s σ H Q I h
  rw [evalPart_none]
  exact wpAny_pure ⟨none, H, I, .none, h⟩
theorem po_some (h : PE X e te) : PO X (some e) (tPart te) := by
  intro pins s σ H Q I hw
  rw [evalPart_some]
  refine thn (h pins s σ H _ I hw) fun u s1 ⟨x, H1, I1, r1, q1⟩ => ?_
  obtain ⟨i, rfl, q⟩ := q1
  obtain ⟨t, rfl⟩ := r1
  exact ⟨some i, H1, I1, .int i t, q⟩

/-- what a slice of a value is, by values: the slice object stands at sl -/
def SlR (X : Cx) (r : V → Option Int → Option Int → Hp → VK → Prop) : Prop :=
  ∀ (pins : List (Addr × Obj)) (s : Shared) (σ : St) (H : Hp) (x : V) (v vl vu : Value) (lo hi : Option Int) (sl : Addr) (Q : VK), Inv X pins σ H s → RelV x v → s.heap.IsSliceOf sl vl vu .none → IsPart vl lo → IsPart vu hi → r x lo hi H Q →
    ∃ T id, typeLookup (.type T) "__getitem__" = pure (some (.builtin id)) ∧ s.TypeIs v T ∧ wpAny (model X.prog X.w) X.A (getItem v (.ref sl)) (EP X pins σ Q) X.xe s
theorem SlR.or {r r' : V → Option Int → Option Int → Hp → VK → Prop} (h : SlR X r) (h' : SlR X r') : SlR X (fun x lo hi H Q => r x lo hi H Q ∨ r' x lo hi H Q) := by
  intro pins s σ H x v vl vu lo hi sl Q I rx hs pl pu q
  rcases q with q | q
  · exact h pins s σ H x v vl vu lo hi sl Q I rx hs pl pu q
  · exact h' pins s σ H x v vl vu lo hi sl Q I rx hs pl pu q
def tSl (r : V → Option Int → Option Int → Hp → VK → Prop) (te : TE) (tl th : TO) : TE := fun σ H Q => te σ H fun x H1 => tl σ H1 fun l H2 => th σ H2 fun u H3 => r x l u H3 Q
/-- a[lo:hi], any a -/
theorem pe_slice {r : V → Option Int → Option Int → Hp → VK → Prop} (hr : SlR X r) (he : PE X e te) (hl : PO X lo tl) (hu : PO X hi th) : PE X (.Subscript e (.Slice lo hi none p2) pos) (tSl r te tl th) := by
  intro pins s σ H Q I h
  refine Subscript_ (thn (he pins s σ H _ I h) fun v s1 ⟨x, H1, I1, r1, q1⟩ => ?_)
  refine wpAny_Slice (thn (hl pins s1 σ H1 _ I1 q1) fun vl s2 ⟨l, H2, I2, pl, q2⟩ => thn (hu pins s2 σ H2 _ I2 q2) fun vu s3 ⟨u, H3, I3, pu, q3⟩ => ?_)
  rw [evalPart_none]
  refine wpAny_pure ?_
  have I4 : Inv X pins σ H3 { s3 with heap := s3.heap.push { cls := .type "slice", data := .fields #[vl, vu, .none] } } := I3.kept (t' := s3.toks) fun b ob q => Heap.get?_push_of_some _ q
  obtain ⟨T, id, hT, ht, hg⟩ := hr pins { s3 with heap := s3.heap.push { cls := .type "slice", data := .fields #[vl, vu, .none] } } σ H3 x v vl vu l u s3.heap.objs.size Q I4 r1 (Heap.IsSliceOf.new ..) pl pu q3
  show wpAny (model X.prog X.w) X.A (subscriptTail e (.Slice lo hi none p2) v (.ref s3.heap.objs.size)) (EP X pins σ Q) X.xe { s3 with heap := s3.heap.push { cls := .type "slice", data := .fields #[vl, vu, .none] } }
  exact tail_any (ops := [.ref s3.heap.objs.size, v]) ht hT hg (by with_unfolding_all rfl)

/-- the items of xs[lo:hi] -/
def cutV (xs : List V) (lo hi : Option Int) : List V := (xs.drop (HT.sIx xs.length 0 lo)).take (HT.sIx xs.length xs.length hi - HT.sIx xs.length 0 lo)
theorem cutV_length (xs : List V) (lo hi : Option Int) : (cutV xs lo hi).length ≤ xs.length := by
  unfold cutV
  rw [List.length_take, List.length_drop]
  omega
/-! ### t < u, t + u -/
end
end L2

namespace L2
open PySem PySem.Spec PyProof.Rows

/-! ### places -/
/-- the place that an index of any sign means -/
def ixN (n : Nat) (i : Int) : Option Nat := if 0 ≤ i then (if i < n then some i.toNat else none) else if -(n : Int) ≤ i then some (i + n).toNat else none
def atI {α : Type} (xs : List α) (i : Int) : Option α := (ixN xs.length i).bind fun j => xs[j]?
theorem ixN_seq {n : Nat} {i : Int} {j : Nat} (h : ixN n i = some j) : seqIndex? i n = some j ∧ j < n ∧ -(n : Int) ≤ i ∧ i < n := by
  unfold ixN at h
  by_cases h0 : 0 ≤ i
  · rw [if_pos h0] at h
    by_cases h1 : i < n
    · rw [if_pos h1] at h
      have e : i.toNat = j := Option.some.inj h
      exact ⟨by rw [seqIndex_of h0 h1, e], by omega, by omega, h1⟩
    · rw [if_neg h1] at h; cases h
  · rw [if_neg h0] at h
    by_cases h1 : -(n : Int) ≤ i
    · rw [if_pos h1] at h
      have e : (i + n).toNat = j := Option.some.inj h
      exact ⟨by rw [seqIndex_neg (by omega) h1, e], by omega, h1, by omega⟩
    · rw [if_neg h1] at h; cases h
theorem atI_get {α : Type} {xs : List α} {i : Int} {v : α} (h : atI xs i = some v) : ∃ j, seqIndex? i xs.length = some j ∧ xs[j]? = some v ∧ j < xs.length ∧ -(xs.length : Int) ≤ i ∧ i < xs.length := by
  unfold atI at h
  cases e : ixN xs.length i with
  | none => rw [e] at h; cases h
  | some j =>
    rw [e] at h
    obtain ⟨h1, h2, h3, h4⟩ := ixN_seq e
    exact ⟨j, h1, h, h2, h3, h4⟩
theorem atI_nat {α : Type} {xs : List α} {j : Nat} {v : α} (h : xs[j]? = some v) : atI xs (j : Int) = some v := by
  have hj : j < xs.length := (List.getElem?_eq_some_iff.mp h).1
  have e : ixN xs.length (j : Int) = some j := by
    unfold ixN
    rw [if_pos (by omega), if_pos (by omega)]; simp
  unfold atI; rw [e]; exact h
theorem atI_last {α : Type} (xs : List α) (v : α) : atI (xs ++ [v]) (-1) = some v := by
  have hl : (xs ++ [v]).length = xs.length + 1 := by simp
  have e : ixN (xs ++ [v]).length (-1) = some xs.length := by
    unfold ixN
    rw [hl, if_neg (by decide), if_pos (by omega)]
    congr 1
    omega
  unfold atI
  rw [e]
  show (xs ++ [v])[xs.length]? = some v
  simp

/-! ### what may be subscripted -/
/-- what stands as an index of a plain subscript -/
def PlainIx (b : Expr) : Prop := ∀ o i, subscripted b false o i = operate [o, i] (getItem o i)
/-- a subscript by values -/
def IxR (X : Cx) (r : R2) : Prop :=
  ∀ (value slice : Expr) (pins : List (Addr × Obj)) (s : Shared) (σ : St) (H : Hp) (x y : V) (v u : Value) (Q : VK), Inv X pins σ H s → RelV x v → RelV y u → r x y H Q →
    subscripted slice false v u = operate [v, u] (getItem v u) → wpAny (model X.prog X.w) X.A (subscriptTail value slice v u) (EP X pins σ Q) X.xe s
/-- a call of a builtin's method by values: the receiver, the arguments -/
def MtR (X : Cx) (id : String) (r : V → List V → Hp → VK → Prop) : Prop :=
  ∀ (pins : List (Addr × Obj)) (s : Shared) (σ : St) (H : Hp) (x : V) (xs : List V) (v : Value) (us : List Value) (Q : VK), Inv X pins σ H s → RelV x v → Vals xs us → r x xs H Q →
    wpAny (model X.prog X.w) X.A (call (.builtin id) (v :: us)) (EP X pins σ Q) X.xe s
section
variable {X : Cx} {a b : Expr} {ta tb : TE} {pos : Pos}
theorem IxR.or {r r' : R2} (h : IxR X r) (h' : IxR X r') : IxR X (fun x y H Q => r x y H Q ∨ r' x y H Q) := by
  intro value slice pins s σ H x y v u Q I rx ry q hs
  rcases q with q | q
  · exact h value slice pins s σ H x y v u Q I rx ry q hs
  · exact h' value slice pins s σ H x y v u Q I rx ry q hs
theorem MtR.or {id : String} {r r' : V → List V → Hp → VK → Prop} (h : MtR X id r) (h' : MtR X id r') : MtR X id (fun x xs H Q => r x xs H Q ∨ r' x xs H Q) := by
  intro pins s σ H x xs v us Q I rx rs q
  rcases q with q | q
  · exact h pins s σ H x xs v us Q I rx rs q
  · exact h' pins s σ H x xs v us Q I rx rs q
/-- a[b] -/
theorem pe_ix {r : R2} (hr : IxR X r) (ha : PE X a ta) (hb : PE X b tb) (hs : PlainIx b) : PE X (.Subscript a b pos) (tOp r ta tb) := by
  intro pins s σ H Q I h
  exact Subscript_ (binT ha hb I h fun v u s2 x y H2 I2 rx ry q => hr a b pins s2 σ H2 x y v u Q I2 rx ry q (hs _ _))

def rIxL (K : PySem.W.Frag) : R2 := fun x y H Q => ∃ p xs i v, x = .ref p ∧ y = .int i ∧ SqL K H p xs ∧ atI xs i = some v ∧ Q v H
def rIxT (K : PySem.W.Frag) : R2 := fun x y H Q => ∃ p xs i v, x = .ref p ∧ y = .int i ∧ SqT K H p xs ∧ atI xs i = some v ∧ Q v H
def rIxS : R2 := fun x y H Q => ∃ z i c, x = .str z ∧ y = .int i ∧ z.length ≤ sizeLine ∧ atI z.cps.toList i = some c ∧ Q (.str ⟨#[c]⟩) H
theorem ix_list : IxR X (rIxL X.K) := by
  intro value slice pins s σ H x y v u Q I rx ry h hs
  obtain ⟨p, xs, i, z, rfl, rfl, hq, he, q⟩ := h
  cases rx
  obtain ⟨t, rfl⟩ := ry
  obtain ⟨its, r, pl, hz⟩ := I.list hq
  obtain ⟨j, h1, h2, h3, h4, h5⟩ := atI_get he
  obtain ⟨w, ew, rw'⟩ := r.get h2
  have hl := r.length
  have hn := line63
  have fin : EP X pins σ Q w s := ⟨z, H, I, rw', q⟩
  by_cases h0 : 0 ≤ i
  · have hj : i.toNat = j := by
      rw [seqIndex_of h0 h5] at h1
      exact Option.some.inj h1
    exact item_listR pl.isList h0 (by omega) (by rw [hj]; simpa using ew) fin hs
  · have hj : (i + (its.toArray.size : Int)).toNat = j := by
      rw [seqIndex_neg (by omega) h4] at h1
      rw [List.size_toArray, ← hl]
      exact Option.some.inj h1
    exact subscriptTail_builtinR (x := w) pl.isList.typeIs slot_list_getitem.lookup
      (wpAny_getItem_list_neg (Q := fun r s' => r = w ∧ EP X pins σ Q r s') pl.isList (by omega) (by rw [List.size_toArray] <;> omega) (by omega) (by rw [hj]; simpa using ew) ⟨rfl, fin⟩) hs
theorem ix_tup : IxR X (rIxT X.K) := by
  intro value slice pins s σ H x y v u Q I rx ry h hs
  obtain ⟨p, xs, i, z, rfl, rfl, hq, he, q⟩ := h
  cases rx
  obtain ⟨t, rfl⟩ := ry
  obtain ⟨its, r, pl, hz⟩ := I.tuple hq
  obtain ⟨j, h1, h2, h3, h4, h5⟩ := atI_get he
  obtain ⟨w, ew, rw'⟩ := r.get h2
  have hl := r.length
  have hn := line63
  have fin : EP X pins σ Q w s := ⟨z, H, I, rw', q⟩
  exact subscriptTail_builtinR (x := w) pl.typeIs slot_tuple_getitem.lookup
    (getItem_tuple (j := j) (Q := fun r s' => r = w ∧ EP X pins σ Q r s') pl (by omega) (by omega) (by rw [List.size_toArray, ← hl]; exact h1) (by simpa using ew) ⟨rfl, fin⟩) hs
theorem ix_str : IxR X rIxS := by
  intro value slice pins s σ H x y v u Q I rx ry h hs
  obtain ⟨z, i, c, rfl, rfl, hz, he, q⟩ := h
  obtain ⟨t, rfl⟩ := rx
  obtain ⟨t', rfl⟩ := ry
  obtain ⟨j, h1, h2, h3, h4, h5⟩ := atI_get he
  have hl : z.cps.toList.length = z.length := by simp [Str.length]
  rw [hl] at h1 h4 h5
  have hn := line63
  exact tail_any (typeIs_str s z t) slot_str_getitem.lookup (getItem_str (c := c) (by
    have e1 : decide (i < -(2 ^ 63 : Int)) = false := decide_eq_false (by omega)
    have e2 : decide (i ≥ 2 ^ 63) = false := decide_eq_false (by omega)
    rw [e1, e2, Bool.or_false]) (by rw [h1]; simpa using h2) ⟨.str ⟨#[c]⟩, H, I.tok _, ⟨_, rfl⟩, q⟩) hs
/-! ### xs[i] = v, any sign -/
/-- the list's object behind a store -/
theorem mapSeq_set (its : List Value) (n j : Nat) (u : Value) : Obj.mapSeq (·.setIfInBounds j u) { cls := .type "list", data := .seq its.toArray n } = { cls := .type "list", data := .seq (its.set j u).toArray n } := by
  simp [Obj.mapSeq]
theorem Inv.lst {pins : List (Addr × Obj)} {σ : St} {H : Hp} {s : Shared} {p : Addr} {xs : List V} (I : Inv X pins σ H s) (h : H p = some (.lst xs)) :
    ∃ (its : List Value) (n : Nat), Vals xs its ∧ s.heap.get? p = some { cls := .type "list", data := .seq its.toArray n } ∧ xs.length ≤ sizeLine := by
  obtain ⟨z, its, n, r, e⟩ := I.hok p _ h
  exact ⟨its, n, r, e, z⟩
/-- the list at p is written by an update of its object -/
theorem Inv.lstUpd {pins : List (Addr × Obj)} {σ : St} {H : Hp} {s : Shared} {p : Addr} {xs ys : List V} {its its' : List Value} {n n' : Nat} {f : Obj → Obj} (I : Inv X pins σ H s) (h : H p = some (.lst xs))
    (ho : s.heap.get? p = some { cls := .type "list", data := .seq its.toArray n }) (hf : f { cls := .type "list", data := .seq its.toArray n } = { cls := .type "list", data := .seq its'.toArray n' }) (r : Vals ys its') (hz : ys.length ≤ sizeLine) (t : Nat) :
    Inv X pins σ (upd H p (.lst ys)) { s with heap := s.heap.update p f, toks := t } := by
  have e : (s.heap.update p f).get? p = some { cls := .type "list", data := .seq its'.toArray n' } := by
    rw [Heap.get?_update_self f ho (by rw [hf] <;> rfl), hf]
  refine I.write (x := p) (e := p) (by rw [h]; trivial) (.inl rfl) (fun b u hb q => (Heap.get?_update_other _ _ (Ne.symm hb)).trans q) ⟨_, e⟩ ?_
  exact ⟨hz, its', n', r, e⟩
def rSetL : V → V → V → Hp → (Hp → Prop) → Prop := fun o i v H Q => ∃ p xs k j, o = .ref p ∧ i = .int k ∧ H p = some (.lst xs) ∧ ixN xs.length k = some j ∧ Q (upd H p (.lst (xs.set j v)))
theorem set_list : PSet X rSetL := by
  intro pins s σ H o i v ov iv u Q I ro ri rv h
  obtain ⟨p, xs, k, j, rfl, rfl, hp, hj, q⟩ := h
  cases ro
  obtain ⟨t, rfl⟩ := ri
  obtain ⟨its, n, r, ho, hz⟩ := I.lst hp
  obtain ⟨h1, h2, h3, h4⟩ := ixN_seq hj
  have hl := r.length
  have hn := line63
  have I' : Inv X pins σ (upd H p (.lst (xs.set j v))) { s with heap := s.heap.update p (Obj.mapSeq (·.setIfInBounds j u)) } :=
    I.lstUpd hp ho (mapSeq_set its n j u) (r.set rv j) (by rw [List.length_set]; exact hz) s.toks
  by_cases h0 : 0 ≤ k
  · have hk : k.toNat = j := by
      rw [seqIndex_of h0 h4] at h1
      exact Option.some.inj h1
    exact PySem.W.ki_setAt ho h0 (by omega) (by rw [List.size_toArray, ← hl]; exact h4) (by rw [hk]; exact ⟨_, I', q⟩)
  · have hk : (k + (its.toArray.size : Int)).toNat = j := by
      rw [seqIndex_neg (by omega) h3] at h1
      rw [List.size_toArray, ← hl]
      exact Option.some.inj h1
    exact PySem.W.ki_setBack ho (by omega) (by rw [List.size_toArray, ← hl]; exact h3) (by omega) (by rw [hk]; exact ⟨_, I', q⟩)

/-! ### slices -/
theorem slice_bounds (lo hi : Option Int) (n : Nat) : (sliceBounds lo hi none n).1 = ((HT.sIx n 0 lo : Nat) : Int) ∧ (sliceBounds lo hi none n).2.1 = ((HT.sIx n n hi : Nat) : Int) ∧ (sliceBounds lo hi none n).2.2 = 1 := by
  refine ⟨?_, ?_, rfl⟩
  · cases lo with
    | none => simp [sliceBounds, HT.sIx]
    | some i =>
      simp only [sliceBounds, HT.sIx, Option.getD_none, show (1 : Int) > 0 by decide, if_true]
      by_cases h : i < 0
      · simp only [h, if_true] <;> omega
      · simp only [h, if_false] <;> omega
  · cases hi with
    | none => simp [sliceBounds, HT.sIx]
    | some i =>
      simp only [sliceBounds, HT.sIx, Option.getD_none, show (1 : Int) > 0 by decide, if_true]
      by_cases h : i < 0
      · simp only [h, if_true] <;> omega
      · simp only [h, if_false] <;> omega
theorem slicePick_cut (its : List Value) (lo hi : Option Int) : slicePick its.toArray lo hi none = ((its.drop (HT.sIx its.length 0 lo)).take (HT.sIx its.length its.length hi - HT.sIx its.length 0 lo)).toArray := by
  obtain ⟨h1, h2, h3⟩ := slice_bounds lo hi its.toArray.size
  unfold slicePick
  rw [h1, h2, h3]
  simp only [sliceRange_one, pick_run, List.size_toArray] <;> rfl
/-- xs[lo:hi] of a list: a new list -/
def rSlL (K : PySem.W.Frag) : V → Option Int → Option Int → Hp → VK → Prop := fun x lo hi H Q => ∃ a xs, x = .ref a ∧ SqL K H a xs ∧ ∀ p, H p = none → Q (.ref p) (upd H p (.lst (cutV xs lo hi)))
theorem sl_list : SlR X (rSlL X.K) := by
  intro pins s σ H x v vl vu lo hi sl Q I rx hs pl pu h
  obtain ⟨a, xs, rfl, hx, q⟩ := h
  cases rx
  obtain ⟨its, r, ht, hz⟩ := I.list hx
  have hlen := r.length
  refine ⟨"list", _, slot_list_getitem.lookup, ht.isList.typeIs, ?_⟩
  refine wpAny_getItem_list_slice ht.isList hs pl pu .none (by simp) ?_ (by rw [List.size_toArray] <;> omega)
  rw [slicePick_cut, ← hlen]
  refine ⟨.ref s.heap.objs.size, _, I.laid (t' := s.toks) (o := .lst (cutV xs lo hi)) (fun b ob q => Heap.get?_push_of_some _ q) (Nat.le_refl _) ?_, rfl, q _ (I.hok.fresh (Nat.le_refl _))⟩
  exact ⟨Nat.le_trans (cutV_length xs lo hi) hz, _, 0, (r.drop (HT.sIx xs.length 0 lo)).take (HT.sIx xs.length xs.length hi - HT.sIx xs.length 0 lo), Heap.get?_push_size _ rfl⟩

/-! ### in, not in: flat items -/
def flatV : V → Bool
  | .non => true
  | .bl _ => true
  | .int _ => true
  | .str _ => true
  | _ => false
/-- == of flat values -/
def eqV : V → V → Bool
  | .non, .non => true
  | .bl a, .bl b => a == b
  | .bl a, .int b => (if a then 1 else 0) == b
  | .int a, .bl b => a == (if b then 1 else 0)
  | .int a, .int b => a == b
  | .str a, .str b => a == b
  | _, _ => false
theorem eqAt_V {A : Around} {s : Shared} {y x : V} {u v : Value} (ry : RelV y u) (rx : RelV x v) (fy : flatV y = true) (fx : flatV x = true) : SeqAt.EqAt A s u v (eqV y x) := by
  cases y with
  | non =>
    cases ry
    cases x with
    | non => cases rx; exact SeqAt.EqAt.same _
    | bl b => cases rx; exact SeqAt.EqAt.none_bool b
    | int b => obtain ⟨t, rfl⟩ := rx; exact SeqAt.EqAt.none_int b t
    | str b => obtain ⟨t, rfl⟩ := rx; exact SeqAt.EqAt.none_str b t
    | _ => exact absurd (show false = true from fx) Bool.false_ne_true
  | bl a =>
    cases ry
    cases x with
    | non => cases rx; exact SeqAt.EqAt.bool_none a
    | bl b => cases rx; exact SeqAt.EqAt.bool_bool a b
    | int b => obtain ⟨t, rfl⟩ := rx; exact SeqAt.EqAt.bool_int a b t
    | str b => obtain ⟨t, rfl⟩ := rx; exact SeqAt.EqAt.bool_str a b t
    | _ => exact absurd (show false = true from fx) Bool.false_ne_true
  | int a =>
    obtain ⟨t', rfl⟩ := ry
    cases x with
    | non => cases rx; exact SeqAt.EqAt.int_none a t'
    | bl b => cases rx; exact SeqAt.EqAt.int_bool a t' b
    | int b => obtain ⟨t, rfl⟩ := rx; exact SeqAt.EqAt.int_int a t' b t
    | str b => obtain ⟨t, rfl⟩ := rx; exact SeqAt.EqAt.int_str a t' b t
    | _ => exact absurd (show false = true from fx) Bool.false_ne_true
  | str a =>
    obtain ⟨t', rfl⟩ := ry
    cases x with
    | non => cases rx; exact SeqAt.EqAt.str_none a t'
    | bl b => cases rx; exact SeqAt.EqAt.str_bool a t' b
    | int b => obtain ⟨t, rfl⟩ := rx; exact SeqAt.EqAt.str_int a t' b t
    | str b => obtain ⟨t, rfl⟩ := rx; exact SeqAt.EqAt.str_str a t' b t
    | _ => exact absurd (show false = true from fx) Bool.false_ne_true
  | _ => exact absurd (show false = true from fy) Bool.false_ne_true
/-- the items' answers, read off the values (a value's own answer does not lean on its token) -/
def eqU (x : V) (u : Value) : Bool := match u with
  | .none => eqV .non x
  | .bool b => eqV (.bl b) x
  | .int i _ => eqV (.int i) x
  | .str z _ => eqV (.str z) x
  | _ => false
theorem eqU_of {x y : V} {u : Value} (r : RelV y u) (f : flatV y = true) : eqU x u = eqV y x := by
  cases y with
  | non => cases r; rfl
  | bl b => cases r; rfl
  | int i => obtain ⟨t, rfl⟩ := r; rfl
  | str z => obtain ⟨t, rfl⟩ := r; rfl
  | _ => exact absurd (show false = true from f) Bool.false_ne_true
theorem any_eqU {x : V} : ∀ {xs : List V} {us : List Value}, Vals xs us → xs.all flatV = true → us.any (eqU x) = xs.any fun y => eqV y x
  | _, _, .nil, _ => rfl
  | y :: xs, u :: us, .cons r t, f => by
    rw [List.all_cons, Bool.and_eq_true] at f
    rw [List.any_cons, List.any_cons, eqU_of r f.1, any_eqU t f.2]
theorem mem_eqAt {A : Around} {s : Shared} {x : V} {v : Value} (rx : RelV x v) (fx : flatV x = true) : ∀ {xs : List V} {us : List Value}, Vals xs us → xs.all flatV = true → ∀ u ∈ us, SeqAt.EqAt A s u v (eqU x u)
  | _, _, .nil, _ => fun u hu => by cases hu
  | y :: xs, u :: us, .cons r t, f => fun u' hu => by
    rw [List.all_cons, Bool.and_eq_true] at f
    rcases List.mem_cons.mp hu with rfl | hu
    · rw [eqU_of r f.1]; exact eqAt_V r rx f.1 fx
    · exact mem_eqAt rx fx t f.2 u' hu
def inV (x : V) (xs : List V) : Bool := xs.any fun y => eqV y x
/-- x in a list or tuple of flat items -/
def rIn (K : PySem.W.Frag) (neg : Bool) : R2 := fun x y H Q => ∃ p xs, y = .ref p ∧ (SqL K H p xs ∨ SqT K H p xs) ∧ flatV x = true ∧ xs.all flatV = true ∧ Q (.bl (if neg then !inV x xs else inV x xs)) H
theorem op_in_seq : OpR X (compareOp .In) (rIn X.K false) := by
  intro pins s σ H x y v u Q I rx ry h
  obtain ⟨p, xs, rfl, hq, fx, fs, q⟩ := h
  cases ry
  rcases hq with hq | hq
  · obtain ⟨its, r, pl, hz⟩ := I.list hq
    refine SeqAt.in_listAt (eqU x) pl.isList (fun w hw => mem_eqAt rx fx r fs w (by simpa using hw)) ⟨.bl _, H, I, rfl, ?_⟩
    rw [show its.toArray.any (eqU x) = its.any (eqU x) by simp, any_eqU r fs]
    exact q
  · obtain ⟨its, r, pl, hz⟩ := I.tuple hq
    refine SeqAt.in_tupleAt (eqU x) pl (fun w hw => mem_eqAt rx fx r fs w (by simpa using hw)) ⟨.bl _, H, I, rfl, ?_⟩
    rw [show its.toArray.any (eqU x) = its.any (eqU x) by simp, any_eqU r fs]
    exact q
theorem op_notIn_seq : OpR X (compareOp .NotIn) (rIn X.K true) := by
  intro pins s σ H x y v u Q I rx ry h
  obtain ⟨p, xs, rfl, hq, fx, fs, q⟩ := h
  cases ry
  rcases hq with hq | hq
  · obtain ⟨its, r, pl, hz⟩ := I.list hq
    refine SeqAt.notIn_listAt (eqU x) pl.isList (fun w hw => mem_eqAt rx fx r fs w (by simpa using hw)) ⟨.bl _, H, I, rfl, ?_⟩
    rw [show its.toArray.any (eqU x) = its.any (eqU x) by simp, any_eqU r fs]
    exact q
  · obtain ⟨its, r, pl, hz⟩ := I.tuple hq
    refine SeqAt.notIn_tupleAt (eqU x) pl (fun w hw => mem_eqAt rx fx r fs w (by simpa using hw)) ⟨.bl _, H, I, rfl, ?_⟩
    rw [show its.toArray.any (eqU x) = its.any (eqU x) by simp, any_eqU r fs]
    exact q
/-! ### len, list(x), tuple(x) of any list or tuple that is read -/
theorem call_len_seq : CallR X (.builtin "len") (fun xs H Q => ∃ p ys, xs = [.ref p] ∧ (SqL X.K H p ys ∨ SqT X.K H p ys) ∧ Q (.int ys.length) H) := by
  intro pins s σ H xs us Q I r h
  obtain ⟨p, ys, rfl, hq, q⟩ := h
  obtain ⟨u, rfl, rx⟩ := vals1 r
  cases rx
  have hn := line63
  rcases hq with hq | hq
  · obtain ⟨its, r', pl, hz⟩ := I.list hq
    have hlen := r'.length
    exact Calls.call_len_list pl.isList (by simp only [List.size_toArray] <;> omega) ⟨.int ys.length, H, I.tok _, ⟨s.toks + 1, by rw [List.size_toArray, hlen]⟩, q⟩
  · obtain ⟨its, r', pl, hz⟩ := I.tuple hq
    have hlen := r'.length
    exact len_tuple pl (by simp only [List.size_toArray] <;> omega) ⟨.int ys.length, H, I.tok _, ⟨s.toks + 1, by rw [List.size_toArray, hlen]⟩, q⟩
theorem call_len_str : CallR X (.builtin "len") (fun xs H Q => ∃ z, xs = [.str z] ∧ z.length ≤ sizeLine ∧ Q (.int z.length) H) := by
  intro pins s σ H xs us Q I r h
  obtain ⟨z, rfl, hz, q⟩ := h
  obtain ⟨u, rfl, t, rfl⟩ := vals1 r
  have hn := line63
  exact len_str (by omega) ⟨.int z.length, H, I.tok _, ⟨_, rfl⟩, q⟩
theorem CallR.or {f : Value} {r r' : List V → Hp → VK → Prop} (h : CallR X f r) (h' : CallR X f r') : CallR X f (fun xs H Q => r xs H Q ∨ r' xs H Q) := by
  intro pins s σ H xs us Q I rs q
  rcases q with q | q
  · exact h pins s σ H xs us Q I rs q
  · exact h' pins s σ H xs us Q I rs q
/-! ### the call of a builtin's method: o.m(..) -/
/-- the value is of that builtin type -/
def tyV (K : PySem.W.Frag) (T : String) (x : V) (H : Hp) : Prop := match x with
  | .str _ => T = "str"
  | .int _ => T = "int"
  | .ref p => (T = "list" ∧ ∃ xs, SqL K H p xs) ∨ (T = "tuple" ∧ ∃ o, K.lookup p = some o ∧ o.cls = .type "tuple" ∧ o.dict = none) ∨
      (T = "dict" ∧ ((∃ kvs, H p = some (.dK kvs)) ∨ ∃ kvs, H p = some (.dT kvs))) ∨ (T = "set" ∧ ∃ S n, H p = some (.set S n))
  | _ => False
theorem tyV_is {pins : List (Addr × Obj)} {σ : St} {H : Hp} {s : Shared} {T : String} {x : V} {v : Value} (I : Inv X pins σ H s) (r : RelV x v) (ty : tyV X.K T x H) :
    s.TypeIs v T ∧ ∀ a, v = .ref a → ∃ ob, s.heap.get? a = some ob ∧ ob.dict = none := by
  cases x with
  | str z =>
    obtain ⟨t, rfl⟩ := r
    cases (show T = "str" from ty)
    exact ⟨typeIs_str s z t, fun _ e => nomatch e⟩
  | int i =>
    obtain ⟨t, rfl⟩ := r
    cases (show T = "int" from ty)
    exact ⟨typeIs_int s i t, fun _ e => nomatch e⟩
  | ref p =>
    cases r
    rcases ty with ⟨rfl, xs, hq⟩ | ⟨rfl, o, hk, hc, hd⟩ | ⟨rfl, hk⟩ | ⟨rfl, S, n, hk⟩
    · obtain ⟨its, _, pl, _⟩ := I.list hq
      refine ⟨pl.isList.typeIs, fun a e => ?_⟩
      cases e
      obtain ⟨o, n, e, c, hd, _⟩ := pl
      exact ⟨o, e, hd⟩
    · refine ⟨⟨o, I.kIn p o hk, hc⟩, fun a e => ?_⟩
      cases e
      exact ⟨o, I.kIn _ o hk, hd⟩
    · have z : ∃ o, s.heap.get? p = some o ∧ o.ExactDict := by
        rcases hk with ⟨kvs, hk⟩ | ⟨kvs, hk⟩
        · obtain ⟨_, _, _, _, o, _, _, e, ex, _⟩ := I.hok p _ hk
          exact ⟨o, e, ex⟩
        · obtain ⟨_, _, _, _, o, _, _, e, ex, _⟩ := I.hok p _ hk
          exact ⟨o, e, ex⟩
      obtain ⟨o, e, ex⟩ := z
      refine ⟨⟨o, e, ex.1⟩, fun a e2 => ?_⟩
      cases e2
      exact ⟨o, e, ex.2.1⟩
    · obtain ⟨o, _, _, _, e, ex, _⟩ := I.hok p _ hk
      refine ⟨⟨o, e, ex.1⟩, fun a e2 => ?_⟩
      cases e2
      exact ⟨o, e, ex.2.1⟩
  | _ => exact False.elim ty
def tBM0 (K : PySem.W.Frag) (T : String) (r : V → List V → Hp → VK → Prop) (to : TE) : TE := fun σ H Q => to σ H fun x H1 => tyV K T x H1 ∧ r x [] H1 Q
def tBM (K : PySem.W.Frag) (T : String) (r : V → List V → Hp → VK → Prop) (to : TE) (t : TA) : TE := fun σ H Q => to σ H fun x H1 => tyV K T x H1 ∧ t σ H1 fun xs H2 => r x xs H2 Q
variable {o e : Expr} {es : List Expr} {to : TE} {t : TA} {name : Str} {apos cpos : Pos} {T id : String} {r : V → List V → Hp → VK → Prop}
theorem pe_bm0 (pa : PlainAttrs T) (slot : Slot T name id) (hty : typeOf (.builtin id) = pure (.type "method_descriptor")) (hm : MtR X id r) (ho : PE X o to)
    (hbase : attributeBase o name X.env (eval o X.env) = eval o X.env := by rfl) (hline : (apos.endLine == cpos.line) = true := by rfl) : PE X (.Call (.Attribute o name apos) [] [] cpos) (tBM0 X.K T r to) := by
  intro pins s σ H Q I h
  refine wpAny_Call_method0_late hbase hline (thn (ho pins s σ H _ I h) fun v s1 ⟨x, H1, I1, r1, ty, q1⟩ => ?_)
  obtain ⟨h1, h2⟩ := tyV_is I1 r1 ty
  exact ⟨T, id, pa, slot, hty, h1, h2, Calls.callWith_builtin rfl (PySem.evalArgs_none (hm pins s1 σ H1 x [] v [] Q I1 r1 .nil q1))⟩
theorem pe_bm (pa : PlainAttrs T) (slot : Slot T name id) (hty : typeOf (.builtin id) = pure (.type "method_descriptor")) (hm : MtR X id r) (ho : PE X o to) (ha : PA X (e :: es) t)
    (hbase : attributeBase o name X.env (eval o X.env) = eval o X.env := by rfl)
    (hfew : ((backTo cpos (starEach (e :: es) X.env)).all (fun x => !x.1) && (backToKw cpos (keywordEach [] X.env)).all (fun x => x.1.isSome)
      && decide ((e :: es).length + ([] : List Keyword).length + (if ([] : List Keyword).isEmpty then 0 else 1) < 30)) = true := by rfl)
    (hline : (apos.endLine == cpos.line) = true := by rfl) (hs : starEach (e :: es) X.env = (false, eval e X.env) :: starEach es X.env := by rfl) (hplain : (backTo cpos (starEach es X.env)).any (·.1) = false := by rfl) :
    PE X (.Call (.Attribute o name apos) (e :: es) [] cpos) (tBM X.K T r to t) := by
  intro pins s σ H Q I h
  refine wpAny_Call_method_late hbase hfew hline rfl (thn (ho pins s σ H _ I h) fun v s1 ⟨x, H1, I1, r1, ty, q1⟩ => ?_)
  obtain ⟨h1, h2⟩ := tyV_is I1 r1 ty
  refine ⟨T, id, pa, slot, hty, h1, h2, ?_⟩
  have hA := ha cpos pins s1 σ H1 _ I1 q1
  rw [hs] at hA ⊢
  refine Calls.callWith_builtin (by show (false || (backTo cpos (starEach es X.env)).any (·.1)) = false; rw [hplain] <;> rfl) (Calls.evalArgs_plain ?_)
  exact thn hA fun us s2 ⟨vs, H2, I2, r2, q2⟩ => hm pins s2 σ H2 x vs v us Q I2 r1 r2 q2
/- xs.append(e), list.index on a module's tuple .. are MtR facts of 06m -/
end
end L2

namespace L2
open PySem PySem.Spec PyProof.Rows

def MtM (X : Cx) (id : String) (r : V → List V → Hp → VK → Prop) : Prop :=
  ∀ (pins : List (Addr × Obj)) (s : Shared) (σ : St) (H : Hp) (x : V) (xs : List V) (v : Value) (us : List Value) (Q : VK), Inv X pins σ H s → RelV x v → Vals xs us → r x xs H Q →
    wpAny (model X.prog X.w) X.A (call (.builtin id) (v :: us)) (EP X pins σ Q) X.xe s

/-! ### lists of values -/
theorem Vals.one : ∀ {x : V} {us : List Value}, Vals [x] us → ∃ u, us = [u] ∧ RelV x u
  | _, _, .cons r .nil => ⟨_, rfl, r⟩
theorem Vals.two : ∀ {x y : V} {us : List Value}, Vals [x, y] us → ∃ u v, us = [u, v] ∧ RelV x u ∧ RelV y v
  | _, _, _, .cons r (.cons q .nil) => ⟨_, _, rfl, r, q⟩
theorem Vals.zero : ∀ {us : List Value}, Vals [] us → us = []
  | _, .nil => rfl
theorem Vals.dropLast {xs : List V} {us : List Value} (h : Vals xs us) : Vals xs.dropLast us.dropLast := by
  induction h with
  | nil => exact .nil
  | cons r t ih =>
    cases t with
    | nil => exact .nil
    | cons q t' => exact .cons r ih
theorem Vals.eraseIdx : ∀ {xs : List V} {us : List Value} (i : Nat), Vals xs us → Vals (xs.eraseIdx i) (us.eraseIdx i)
  | _, _, _, .nil => .nil
  | _, _, 0, .cons _ t => t
  | _, _, i + 1, .cons r t => .cons r (Vals.eraseIdx i t)
theorem Vals.reverse {xs : List V} {us : List Value} (h : Vals xs us) : Vals xs.reverse us.reverse := by
  induction h with
  | nil => exact .nil
  | cons r t ih => rw [List.reverse_cons, List.reverse_cons]; exact Vals.append ih (.cons r .nil)
theorem Vals.rep {xs : List V} {us : List Value} (h : Vals xs us) : ∀ k : Nat, Vals (List.replicate k xs).flatten (List.replicate k us).flatten
  | 0 => .nil
  | k + 1 => by
    rw [List.replicate_succ, List.replicate_succ, List.flatten_cons, List.flatten_cons]
    exact Vals.append h (Vals.rep h k)
theorem erase_last {α : Type} (l : List α) : l.eraseIdx (l.length - 1) = l.dropLast := by
  induction l with
  | nil => rfl
  | cons a r ih =>
    cases r with
    | nil => rfl
    | cons b r =>
      have e : (a :: b :: r).length - 1 = ((b :: r).length - 1) + 1 := by
        have h1 : (a :: b :: r).length = r.length + 2 := rfl
        have h2 : (b :: r).length = r.length + 1 := rfl
        omega
      rw [e, List.eraseIdx_cons_succ, ih]
      all_goals rfl
theorem foldl_rep (its : List Value) : ∀ (k : Nat) (acc : List Value),
    List.foldl (fun x1 x2 => x1 ++ x2) acc.toArray (List.replicate k its.toArray) = (acc ++ (List.replicate k its).flatten).toArray
  | 0, acc => by simp
  | k + 1, acc => by
    have e : acc.toArray ++ its.toArray = (acc ++ its).toArray := by simp
    have e2 : (acc ++ its) ++ (List.replicate k its).flatten = acc ++ (List.replicate (k + 1) its).flatten := by
      rw [List.replicate_succ, List.flatten_cons, List.append_assoc]
    rw [← e2, ← foldl_rep its k (acc ++ its), ← e, List.replicate_succ, List.foldl_cons]

section
variable {X : Cx} {pins : List (Addr × Obj)} {σ : St} {H : Hp} {s : Shared} {l b : Addr} {xs ys zs : List V}

/-! ### the two steps: a tracked list is rewritten, a new list is laid -/
theorem Inv.lset {its its' : List Value} {n : Nat} {f : Array Value → Array Value} {t' : Nat} (I : Inv X pins σ H s) (hH : H l = some (.lst xs))
    (e : s.heap.get? l = some { cls := .type "list", data := .seq its.toArray n }) (hf : f its.toArray = its'.toArray) (hv : Vals ys its') (hz : ys.length ≤ sizeLine) :
    Inv X pins σ (upd H l (.lst ys)) { s with heap := s.heap.update l (Obj.mapSeq f), toks := t' } := by
  have q := PySem.IsL.update e f
  rw [hf] at q
  refine I.write (x := l) (e := l) (by rw [hH]; exact trivial) (.inl rfl) (fun b' u hb hu => (Heap.get?_update_other s.heap (Obj.mapSeq f) (Ne.symm hb)).trans hu) ⟨_, q⟩ ?_
  exact ⟨hz, its', _, hv, q⟩
theorem Inv.lnew {its : List Value} {t' : Nat} (I : Inv X pins σ H s) (hv : Vals ys its) (hz : ys.length ≤ sizeLine) :
    Inv X pins σ (upd H s.heap.objs.size (.lst ys)) { s with heap := s.heap.push { cls := .type "list", data := .seq its.toArray }, toks := t' } :=
  I.laid (fun _ _ q => Heap.get?_push_of_some _ q) (Nat.le_refl _) ⟨hz, its, 0, hv, Heap.get?_push_size _ rfl⟩
theorem Inv.fresh (I : Inv X pins σ H s) : H s.heap.objs.size = none := I.hok.fresh (Nat.le_refl _)
theorem Inv.lstM (I : Inv X pins σ H s) (hH : H l = some (.lst xs)) : xs.length ≤ sizeLine ∧ ∃ (its : List Value) (n : Nat), Vals xs its ∧ xs.length = its.length ∧ s.heap.get? l = some { cls := .type "list", data := .seq its.toArray n } := by
  obtain ⟨z, its, n, r, e⟩ := I.hok l _ hH
  exact ⟨z, its, n, r, r.length, e⟩

theorem notLongL {n : Nat} (h : n ≤ sizeLine) : Builtin.List.listTooLong n = false := by
  unfold Builtin.List.listTooLong
  exact decide_eq_false (by omega)
end

section
variable {X : Cx}

/-! ### methods -/
def rAppend : V → List V → Hp → VK → Prop := fun x vs H Q => ∃ l xs y, x = .ref l ∧ vs = [y] ∧ H l = some (.lst xs) ∧ xs.length < sizeLine ∧ Q .non (upd H l (.lst (xs ++ [y])))
theorem mt_append : MtM X "list.append" rAppend := by
  intro pins s σ H x vs v us Q I rx rv h
  obtain ⟨l, xs, y, rfl, rfl, hH, hz, q⟩ := h
  cases rx
  obtain ⟨u, rfl, ru⟩ := rv.one
  obtain ⟨z, its, n, r, hl, e⟩ := I.lstM hH
  refine call_meets F.slot_list_append ⟨_, e, rfl⟩ F.entry_list_append (F.args_list_append_2 _ _) (PySem.list_append l its.toArray n u (by rw [List.size_toArray]; omega)) ⟨e, ?_⟩
  refine ⟨.non, _, I.lset (its' := its ++ [u]) hH e (by simp) (r.append (.cons ru .nil)) ?_, rfl, q⟩
  rw [List.length_append, List.length_singleton]
  omega

def rPop : V → List V → Hp → VK → Prop := fun x vs H Q => ∃ l xs y, x = .ref l ∧ vs = [] ∧ H l = some (.lst xs) ∧ xs[xs.length - 1]? = some y ∧ Q y (upd H l (.lst xs.dropLast))
theorem mt_pop : MtM X "list.pop" rPop := by
  intro pins s σ H x vs v us Q I rx rv h
  obtain ⟨l, xs, y, rfl, rfl, hH, hy, q⟩ := h
  cases rx
  have hus := rv.zero
  subst hus
  obtain ⟨z, its, n, r, hl, e⟩ := I.lstM hH
  obtain ⟨u, hu, ru⟩ := r.get hy
  have hy' : its.toArray[its.toArray.size - 1]? = some u := by
    show its.toArray[its.length - 1]? = some u
    rw [← Array.getElem?_toList, ← hl]
    exact hu
  refine call_meets F.slot_list_pop ⟨_, e, rfl⟩ F.entry_list_pop (F.args_list_pop_1 _) (MeetsSeq.list_pop_last l its.toArray n u hy' (by rw [List.size_toArray]; omega)) ⟨e, ?_⟩
  refine ⟨y, _, I.lset (its' := its.dropLast) hH e ?_ r.dropLast ?_, ru, q⟩
  · show its.toArray.eraseIdxIfInBounds (its.toArray.size - 1) = its.dropLast.toArray
    rw [List.size_toArray, List.eraseIdxIfInBounds_toArray, erase_last]
  · rw [List.length_dropLast]
    omega

/-! ### list + list, list += list, list * int -/
def rCat : R2 := fun x y H Q => ∃ l b xs zs, x = .ref l ∧ y = .ref b ∧ H l = some (.lst xs) ∧ H b = some (.lst zs) ∧ xs.length + zs.length ≤ sizeLine ∧ ∀ p, H p = none → Q (.ref p) (upd H p (.lst (xs ++ zs)))
theorem op_cat : OpR X (binaryOp .Add) rCat := by
  intro pins s σ H x y v u Q I rx ry h
  obtain ⟨l, b, xs, zs, rfl, rfl, hH, hB, hz, q⟩ := h
  cases rx
  cases ry
  obtain ⟨z, its, n, r, hl, e⟩ := I.lstM hH
  obtain ⟨z2, its2, n2, r2, hl2, e2⟩ := I.lstM hB
  refine PySem.P.add_list e e2 ?_ (by rw [List.size_toArray, List.size_toArray]; omega)
  have ea : its.toArray ++ its2.toArray = (its ++ its2).toArray := by simp
  rw [ea]
  exact ⟨.ref _, _, I.lnew (t' := s.toks) (r.append r2) (by rw [List.length_append]; omega), rfl, q _ I.fresh⟩
/-- a list times an int (a negative one is nothing) -/
def rRep : R2 := fun x y H Q => ∃ l k xs, x = .ref l ∧ y = .int k ∧ H l = some (.lst xs) ∧ -(2 ^ 63) ≤ k ∧ k < 2 ^ 63 ∧ xs.length * k.toNat ≤ sizeLine ∧
  ∀ p, H p = none → Q (.ref p) (upd H p (.lst (List.replicate k.toNat xs).flatten))
theorem len_rep {α : Type} (xs : List α) (k : Nat) : (List.replicate k xs).flatten.length = k * xs.length := by
  induction k with
  | zero => simp
  | succ k ih => rw [List.replicate_succ, List.flatten_cons, List.length_append, ih, Nat.succ_mul, Nat.add_comm]
theorem op_rep : OpR X (binaryOp .Mult) rRep := by
  intro pins s σ H x y v u Q I rx ry h
  obtain ⟨l, k, xs, rfl, rfl, hH, h1, h2, hz, q⟩ := h
  cases rx
  obtain ⟨t, rfl⟩ := ry
  obtain ⟨z, its, n, r, hl, e⟩ := I.lstM hH
  have hlen : its.toArray.size * k.toNat ≤ sizeLine := by rw [List.size_toArray, ← hl]; exact hz
  have hcap : ¬ its.toArray.size * k.toNat > (2 ^ 63 - 1) / 8 := by
    have : (sizeLine : Nat) ≤ (2 ^ 63 - 1) / 8 := by decide
    omega
  have hfit : ¬ (!Builtin.List.listFitsIndex k) = true := by
    rw [fitsIndex_both h1 h2]
    exact Bool.false_ne_true
  have hlong : ¬ Builtin.List.listTooLong (its.toArray.size * k.toNat) = true := by
    rw [notLongL hlen]
    exact Bool.false_ne_true
  have hnew : List.foldl (fun x1 x2 => x1 ++ x2) #[] (List.replicate (if its.toArray.isEmpty = true then 0 else k.toNat) its.toArray) = (List.replicate k.toNat its).flatten.toArray := by
    have f0 : ∀ m : Nat, List.foldl (fun x1 x2 => x1 ++ x2) #[] (List.replicate m its.toArray) = (List.replicate m its).flatten.toArray := fun m => by
      have := foldl_rep its m []
      rw [List.nil_append] at this
      exact this
    rw [f0]
    cases its with
    | nil => simp
    | cons a r' => rw [if_neg (by simp)]
  refine wpAny_binaryOp_repeat_ref (T := "list") (U := "int") (by decide) ⟨_, e, rfl⟩ (fun s' => typeIs_int s' k t) noFill_list_mul F.fills_int_mul F.slot_int_rmul repeat_list F.slot_int_index.lookup
    (call_meets F.slot_int_rmul (typeIs_int s k t) F.entry_int_rmul (F.args_int_rmul_2 _ _) (int___rmul___int_list k t l its.toArray n)
      ⟨e, rfl, ⟨_, e, rfl⟩, call_meets F.slot_list_mul ⟨_, e, rfl⟩ F.entry_list_mul (F.args_list_mul_2 _ _) (AutoListH.list___mul___list_int_3 l its.toArray n k t hfit hcap hlong) ⟨e, ?_⟩⟩)
  rw [hnew]
  exact ⟨.ref _, _, I.lnew (t' := s.toks) (r.rep k.toNat) (by rw [len_rep, Nat.mul_comm]; exact hz), rfl, q _ I.fresh⟩

/-! ### del xs[i] -/
end

/-! ### xs[a:b] = ys -/
section
variable {prog : Program} {w : World} {A : Around} {E : Value → Shared → Prop} {s : Shared}
theorem bounds_run {a c n : Nat} (hac : a ≤ c) (hc : c ≤ n) : sliceBounds (some (a : Int)) (some (c : Int)) none n = ((a : Int), (c : Int), 1) := by
  simp only [sliceBounds, Option.getD_none]
  have h1 : ¬ ((a : Int) < 0) := by omega
  have h2 : ¬ ((c : Int) < 0) := by omega
  simp only [h1, h2, if_false, show (1 : Int) > 0 by decide, if_true]
  congr 1
  · omega
  · congr 1; omega
set_option maxRecDepth 100000 in
/-- list.__setitem__ with a slice of step one and another list -/
theorem setItem_slice {l b sl : Addr} {items new : Array Value} {n n2 : Nat} {vl vu : Value} {a c : Nat} {Q : Unit → Shared → Prop}
    (e : s.heap.get? l = some { cls := .type "list", data := .seq items n }) (e2 : s.heap.get? b = some { cls := .type "list", data := .seq new n2 }) (hne : l ≠ b)
    (hs : s.heap.IsSliceOf sl vl vu .none) (pl : IsPart vl (some (a : Int))) (pu : IsPart vu (some (c : Int))) (hac : a ≤ c) (hc : c ≤ items.size)
    (hsz : items.size + new.size ≤ sizeLine) (h : Q () { s with heap := s.heap.update l (Obj.mapSeq fun xs => xs.extract 0 a ++ new ++ xs.extract c xs.size) }) :
    wpAny (model prog w) A (setItem (.ref l) (.ref sl) (.ref b)) Q E s := by
  have hl : s.heap.IsList l items := PySem.IsL.isList e
  have hb : s.heap.IsList b new := PySem.IsL.isList e2
  obtain ⟨os, hos, hcs, hds⟩ := id hs
  have hTs : s.TypeIs (.ref sl) "slice" := ⟨os, hos, hcs⟩
  have hstep : ¬ ((rawPart none == rawInt 0) = true) := Bool.false_ne_true
  have hsame : Builtin.List.listSameRef (.ref l) (.ref b) = false := by
    unfold Builtin.List.listSameRef
    exact beq_eq_false_iff_ne.mpr hne
  have hmax : (max (a : Int) (c : Int)).toNat = c := by omega
  have hz' : ((fun xs : Array Value => xs.extract 0 a ++ new ++ xs.extract c xs.size) items).size ≤ sizeLine + 1 := by
    simp only [Array.size_append, Array.size_extract]
    omega
  unfold setItem
  try with_reducible refine wpAny_holding ?_
  first | refine wpAny_bind (wpAny_pure ?_) | skip
  refine wpAny_bind (wpAny_sequenceKey hl.typeIs (by decide) ?_)
  refine wpAny_bind (wpAny_callSpecial?_slot (name := Str.ofString "__setitem__") hl.typeIs slot_list_setitem
    (wpAny_call_entry slot_list_setitem hl.typeIs entry_list_setitem ?_ (args_list_setitem _ _ _)))
  show wpAny _ _ (Builtin.List.listSubscript? (.ref sl) >>= _) _ _ s
  refine wpAny_bind ?_
  unfold Builtin.List.listSubscript?
  refine wpAny_bind (wpAny_specialOf hTs slice_no_index ?_)
  simp only [Option.isNone_none, if_true]
  refine wpAny_pure ?_
  show wpAny _ _ (typeOf (.ref sl) >>= _) _ _ s
  refine wpAny_bind (wpAny_typeOf hTs ?_)
  first
    | rw [if_neg (by decide)]
    | refine PySem.W.KFB.if_not (by decide) ?_
  rw [listSliceParts_eq]
  refine wpAny_bind (wpAny_bind (wpAny_field hos hds (x := .none) rfl (wpAny_bind (wpAny_listPart .none ?_))))
  rw [if_neg hstep]
  refine wpAny_bind (wpAny_field hos hds (x := vl) rfl (wpAny_bind (wpAny_listPart pl ?_)))
  refine wpAny_bind (wpAny_field hos hds (x := vu) rfl (wpAny_bind (wpAny_listPart pu (wpAny_pure ?_))))
  first
    | simp only [hsame, Bool.false_eq_true, if_false]
    | refine PySem.W.KFB.if_not hsame ?_
    | (dsimp only
       rw [if_neg (by rw [hsame]; exact Bool.false_ne_true)])
  refine wpAny_bind (m := Builtin.List.listAllItems (.ref b) "must assign iterable to extended slice") ?_
  unfold Builtin.List.listAllItems
  refine wpAny_bind (wpAny_typeOf hb.typeIs ?_)
  first
    | refine PySem.W.KFB.if_so (by decide) ?_
    | rw [if_pos (by decide)]
    | simp only [beq_self_eq_true, Bool.true_or, if_true]
  unfold Builtin.List.listItems
  refine wpAny_bind (wpAny_seqItems e2 rfl (wpAny_pure ?_))
  refine wpAny_bind (wpAny_bind (wpAny_seqItems e rfl (wpAny_pure ?_)))
  refine wpAny_bind (wpAny_of_eq ((sliceIndices_raw (some (a : Int)) (some (c : Int)) none items.size (by simp)).trans (congrArg (pure : Int × Int × Int → Sem (Int × Int × Int)) (bounds_run hac hc))) ?_)
  show wpAny _ _ (if ((1 : Int) == 1) = true then _ else _) _ _ s
  rw [if_pos (by decide)]
  refine wpAny_bind (wpAny_rule ?_)
  first
    | simp only [notLongL hsz, Bool.false_eq_true, if_false]
    | refine PySem.W.KFB.if_not (notLongL hsz) ?_
  first | refine wpAny_bind (wpAny_pure ?_) | skip
  show wpAny _ _ (updateSeq l (fun xs => xs.extract 0 ((a : Int)).toNat ++ new ++ xs.extract (max (a : Int) (c : Int)).toNat xs.size) >>= _) _ _ s
  rw [hmax, Int.toNat_natCast]
  refine wpAny_bind (wpAny_updateSeq (hz := Nat.le_trans (Nat.le_add_right _ _) hsz) (_hz' := hz') e rfl ?_)
  refine wpAny_bind (wpAny_letGo ?_)
  first
    | exact wpAny_bind (wpAny_pure (wpAny_pure ⟨.none, rfl, wpAny_pure h⟩))
    | exact wpAny_pure ⟨.none, rfl, wpAny_pure h⟩
end

section
variable {X : Cx}
end
end L2

namespace Att
open PySem PySem.W PySem.Calls PyProof.Rows

/-! ### the script -/
theorem ints_of_wellAll {P : Params} {h : Heap} : ∀ (ns : List Int) (vs : List Value), WellAll P h vs (ns.map WData.int) → IntsAre vs ns := by
  intro ns
  induction ns with
  | nil =>
    intro vs w
    rw [List.map_nil] at w
    cases w
    exact .nil
  | cons n ns ih =>
    intro vs w
    rw [List.map_cons] at w
    cases w with
    | cons a b =>
      cases a
      exact .cons _ _ (ih _ b)

theorem script_of {l : OpenLaw} {n : Nat} (hn : l.most = some n) {P : Params} {h : Heap} {args : List WData} {vals : List Value}
    (hpre : l.row.toRowW.claim.pre args = true) (hwl : WellAll P h vals args) :
    ∃ a vs ns, vals = [Value.ref a] ∧ args = [WData.list (ns.map WData.int)] ∧ h.get? a = some { cls := .type "list", data := .seq vs.toArray } ∧ IntsAre vs ns ∧ ns.length ≤ n := by
  have hsh : WShape.hasAll [] args [.list .int] = true := (pre_splitW hpre).1
  have hc : l.pre.holds [] { args := args } = true := (pre_splitW hpre).2
  obtain ⟨d, r, rfl, h1, h2⟩ := hasAllW_cons hsh
  obtain rfl := hasAllW_nil h2
  obtain ⟨xs, rfl, h3⟩ := hasW_list h1
  obtain ⟨ns, rfl⟩ := items_int h3
  have hlen : ns.length ≤ n := by
    unfold OpenLaw.pre at hc
    have h4 : (WTm.not (.lt (.lit (.int (n : Int))) (.len (.arg 0)))).holds [] { args := [.list (ns.map .int)] } = true := by
      have h4 := (holds_andW hc).1
      rw [hn] at h4
      exact h4
    have h5 := condW_of h4 (w_not (w_lt w_lit (w_len_list (w_arg rfl))))
    rw [List.length_map] at h5
    refine Nat.le_of_not_lt fun q => ?_
    have q' : (n : Int) < ((ns.length : Nat) : Int) := by omega
    first
      | (rw [decide_eq_true q'] at h5; exact absurd h5 (by decide))
      | (simp at h5; omega)
  cases hwl with
  | cons w1 w2 =>
    cases w2
    cases w1 with
    | list ho hall => exact ⟨_, _, ns, rfl, rfl, ho, ints_of_wellAll ns _ hall, hlen⟩

theorem post_true (l : OpenLaw) (args : List WData) : l.row.toRowW.claim.post args (.bool true) args = true :=
  postW_of (r := l.row.toRowW) (X := (true == true))
    (show WShape.has [] (.bool true) .bool = true by first | rfl | decide | simp [WShape.has, WShape.arms, WShape.armsAll])
    (show (WTm.eq .res (.lit (.bool true))).value [] { args := args, res := some (.bool true), after := args } = some (.bool (true == true)) from w_eq_bool (w_res rfl) w_lit) rfl

/-! ### the attachment: holds_open's last premise (the goal 'hc' behind k_head) from a wpAny of the law's body -/
/-- the same from a codeAny of the CALL (for a layer whose function contracts speak of calls) -/
theorem attach_call {l : OpenLaw} {n : Nat} {q : Program} {loose : List Str} {XP : (Str → Option Value) → Heap → Prop} {YP : World → Heap → Prop} {d : DefRec}
    (hn : l.most = some n) (hdf : d.params.defaults = [])
    (call : ∀ (w : World) (s₀ s₁ : Shared) (mg mb : Str → Option Value) (fa : Addr) (o : Obj) (pm cd doc : Value) (a : Addr) (vs : List Value) (ns : List Int),
      Ground q loose [] XP w s₀ mg mb s₁.heap → YP w s₁.heap →
      s₁.heap.get? fa = some o → o.data = .func (docDef d.name d.params d.body d.scope pm cd doc) → s₁.heap.CodeRec cd d.name → mg d.name = some (.ref fa) →
      s₁.heap.get? a = some { cls := .type "list", data := .seq vs.toArray } → IntsAre vs ns → ns.length ≤ n → s₁.gens = #[] →
      codeAny (model l.prog w) callerA (.call (.ref fa) ⟨[.ref a], []⟩) (fun r s' => r = .ok (.ret (.bool true)) ∧ OldK s₁.heap s'.heap ∧ s'.os = s₁.os ∧ AllBare s'.gens) s₁) :
    WalkO q loose XP YP l.row.toRowW d [] (fun f vs => PySem.call f vs) := by
  intro w s₀ s₁ mg mb G Y fa o pm cd doc dV kV ho hd hcd hD hmg hg args vals as hpre hlay hrd hwl hlo
  obtain rfl : dV = .none := Dflts.none hD hdf
  obtain rfl : kV = .none := Dflts.noKw hD
  obtain ⟨a, vs, ns, rfl, rfl, hobj, hints, hlen⟩ := script_of hn hpre hwl
  refine enter_call (codeAny_mono (call w s₀ s₁ mg mb fa o pm cd doc a vs ns G Y ho (fd_plain hd) hcd hmg hobj hints hlen hg) fun r s' hq => ?_)
  obtain ⟨rfl, h2, h3, h4⟩ := hq
  exact ⟨.inl ⟨.bool true, .bool true, [], rfl, fun _ => rfl, .bool true, post_true l _, fun _ => ⟨List.Pairwise.nil, fun _ hm => (nomatch hm)⟩⟩, h2, h3, h4⟩

/-! ### rules over ANY heap (no ledger) from facts about the written part K: the library's own take a ledger (News) for what they write -/
section
variable {prog : Program} {w : World} {A : Around} {E : Value → Shared → Prop} {s : Shared} {K : Frag}

/-! the whole heap as the ledger: makes every rule that writes through a ledger a rule over any heap -/
def ledger (h : Heap) (L d : Addr) : List (Addr × Obj) := (List.range h.objs.size).filterMap fun a => if a = L ∨ a = d then none else (h.get? a).map fun o => (a, o)
end
end Att

namespace L2
open PySem PySem.Spec PyProof.Rows

theorem vals_ints : ∀ {vs : List Value} {ns : List Int}, IntsAre vs ns → Vals (ns.map V.int) vs
  | _, _, .nil => .nil
  | _, _, .cons n t h => .cons ⟨t, rfl⟩ (vals_ints h)

/-- nothing is tracked but the script, known to the object (or it is an object of the module) -/
def Only (H : Hp) : Prop := ∀ b, H b = none ∨ ∃ o xs, H b = some (.frz o (.lst xs))

/-- THE HEAD: the law's promise, at the heap behind the top. F, the promise of the law's def, may use that base is part of the heap (so K.In base, base.Ns mainGlobals mg stand in Mod) -/
theorem law_call {P : Program} {w : World} {K : PySem.W.Frag} {mg mb : Str → Option Value} {CX : CXT} {k : Nat} {fa a : Addr} {fd : FuncData} {x : Str} {sp : Sp} {s₁ : Shared} {vs : List Value} {ns : List Int}
    (KX : K.In s₁.heap) (hns : s₁.heap.Ns mainGlobals mg) (hb : s₁.heap.Ns builtinsNs mb) (hbb : ∀ x : Str, x ≠ "__name__" → mb x = bootBuiltins x) (hlim : s₁.heap.NoLimit) (hg : s₁.gens = #[])
    (ha : s₁.heap.get? a = some { cls := .type "list", data := .seq vs.toArray }) (hi : IntsAre vs ns) (hl : ns.length ≤ sizeLine) (hr : Room k callerA)
    (F : ∀ base : Heap, K.In base → base.Ns mainGlobals mg → FnOk P w K mg base CX k fa fd [x] sp) (hbind : ∀ (s : Shared) (u : Value), BindsTo s fd ⟨[u], []⟩ [(x, u)])
    (hsp : ∀ H : Hp, Only H → SqL K H a (ns.map V.int) → sp [.ref a] H (fun v _ => v = .bl true) fun _ _ _ => False)
    (hCX : ∀ H e s', CX [] H s₁ (fun _ _ _ => False) e s' → False) :
    codeAny (model P w) callerA (.call (.ref fa) ⟨[.ref a], []⟩) (fun r s' => r = .ok (.ret (.bool true)) ∧ OldK s₁.heap s'.heap ∧ s'.os = s₁.os ∧ AllBare s'.gens) s₁ := by
  have rv := vals_ints hi
  have lenV := hi.length
  -- from an abstract heap in which nothing but the script may be tracked
  have core : ∀ H : Hp, Only H → SqL K H a (ns.map V.int) → HOk P w H s₁.heap → (∀ b, H b ≠ none → b = a) → (H a ≠ none → K.lookup a = none) →
      codeAny (model P w) callerA (.call (.ref fa) ⟨[.ref a], []⟩) (fun r s' => r = .ok (.ret (.bool true)) ∧ OldK s₁.heap s'.heap ∧ s'.os = s₁.os ∧ AllBare s'.gens) s₁ := by
    intro H hO hS hok hA hK
    have base_of : ∀ {b : Addr} {o : Obj}, s₁.heap.get? b = some o → H b = none → (hidT s₁.heap H).get? b = some o := fun e n => hidT_get e n
    have noA : ∀ {b : Addr} {o : Obj} {es : Array DictEntry} {ep : Nat}, s₁.heap.get? b = some o → o.data = .dict es ep → H b = none := fun {b o es ep} e d => by
      cases q : H b with
      | none => rfl
      | some u =>
        have e' : b = a := hA b (by rw [q]; simp)
        subst e'
        rw [ha] at e; cases e
        have d' : Data.seq vs.toArray _ = Data.dict es ep := d
        cases d'
    have nsK : ∀ {b : Addr} {m : Str → Option Value}, s₁.heap.Ns b m → (hidT s₁.heap H).Ns b m := fun {b m} ⟨o, es, ep, e, d, r⟩ => ⟨o, es, ep, base_of e (noA e d), d, r⟩
    have hKb : K.In (hidT s₁.heap H) := fun b o e => base_of (KX b o e) (by
      cases q : H b with
      | none => rfl
      | some u =>
        have e' : b = a := hA b (by rw [q]; simp)
        subst e'
        rw [hK (by rw [q]; simp)] at e; cases e)
    have hM : Mod K mg (hidT s₁.heap H) := ⟨hKb, nsK hns, ⟨mb, nsK hb, hbb⟩, let ⟨mc, h1, h2⟩ := hlim; ⟨mc, nsK h1, h2⟩⟩
    have e0 : Env0 P w K mg (hidT s₁.heap H) callerA [] s₁ H := ⟨rfl, hM, fun b o e => of_hidT e, Nat.le_of_eq (hidT_size _ _), trivial, fun b hb => absurd (show b ∈ ([] : List Addr) from hb) (by simp), hok, .of_eq hg⟩
    refine codeAny_mono ((F _ hKb (nsK hns)).run callerA [] s₁ H ⟨[.ref a], []⟩ [.ref a] [.ref a] _ _ hr e0 (hbind s₁ (.ref a)) (.cons rfl .nil) (hsp H hO hS)) fun r s' h => ?_
    cases r with
    | error e => exact (hCX H e s' h).elim
    | ok fl =>
      cases fl with
      | next => exact False.elim h
      | brk => exact False.elim h
      | cont => exact False.elim h
      | ret u =>
        obtain ⟨v, H', os, bare, un, hok', r', q⟩ := h
        have q' : v = .bl true := q
        subst q'
        obtain rfl : u = Value.bool true := r'
        refine ⟨rfl, OldK.of_keep fun b o e => ?_, os, bare⟩
        cases q : H b with
        | none => exact un.keep b o e q (by intro z; exact absurd (show b ∈ ([] : List Addr) from z) (by simp)) (by simp)
        | some u =>
          rcases hO b with z | ⟨ob, xs, z⟩
          · rw [q] at z; cases z
          · have z2 := un.frzs b ob _ z
            obtain ⟨e1, _⟩ := hok b _ z
            obtain ⟨e2, _⟩ := hok' b _ z2
            rw [e] at e1; cases e1
            exact e2
  cases hk : K.lookup a with
  | some o =>
    -- the script is one of the module's own objects
    have e := KX a o hk
    rw [ha] at e
    cases e
    refine core (fun _ => none) (fun _ => .inl rfl) (.inr ⟨_, vs.toArray, _, hk, rfl, rfl, rfl, by rw [List.size_toArray, lenV]; exact hl, by simpa using rv⟩) ⟨(fun b u z => by have z' : (none : Option HO) = some u := z; cases z'), (fun u z => nomatch (show (none : Option HO) = some u from z)), let ⟨o, _, _, e, _⟩ := hns; ⟨mainGlobals, o, by decide, e⟩⟩ (fun b z => absurd rfl z) fun z => absurd rfl z
  | none =>
    refine core (fun b => if b = a then some (.frz { cls := .type "list", data := .seq vs.toArray } (.lst (ns.map V.int))) else none) (fun b => ?_) (.inl (.inr ⟨{ cls := .type "list", data := .seq vs.toArray }, if_pos rfl⟩)) ⟨fun b u z => ?_, (fun u z => by
      by_cases hb : sysModules = a
      · have z' := (if_pos hb).symm.trans z
        cases z'; exact ⟨_, _, rfl⟩
      · have z' := (if_neg hb).symm.trans z
        cases z'), let ⟨o, _, _, e, _⟩ := hns; ⟨mainGlobals, o, by decide, e⟩⟩ (fun b z => ?_) fun _ => hk
    · by_cases hb : b = a
      · exact .inr ⟨_, _, if_pos hb⟩
      · exact .inl (if_neg hb)
    · by_cases hb : b = a
      · have z' := (if_pos hb).symm.trans z
        cases z'
        subst hb
        exact ⟨ha, by rw [List.length_map]; exact hl, vs, _, rv, ha⟩
      · have z' := (if_neg hb).symm.trans z
        cases z'
    · by_cases hb : b = a
      · exact hb
      · exact absurd (if_neg hb) z
end L2

namespace L2
open PySem PySem.Spec PyProof.Rows

abbrev KOf {K : PySem.W.Frag} {h : Heap} (_ : K.In h) : PySem.W.Frag := K

/-- the goal that k_head leaves (case hc), from the law's promise. F gives the function object fd (K's own) once, then the promise over every base -/
theorem walk_of {l : PySem.W.OpenLaw} {n k : Nat} {q : Program} {loose : List Str} {XP : (Str → Option Value) → Heap → Prop} {YP : World → Heap → Prop} {d : DefRec} {K : Params → PySem.W.Frag} {CX : World → CXT} {sp : World → Sp} {x : Str}
    (hn : l.most = some n) (hn2 : n ≤ sizeLine) (hdf : d.params.defaults = []) (hr : Room k callerA)
    (hY : ∀ (w : World) (h : Heap), YP w h → (K w.params).In h)
    (F : ∀ (w : World) (mg : Str → Option Value) (fa : Addr) (h : Heap), (K w.params).In h → h.Ns mainGlobals mg → mg d.name = some (.ref fa) →
      ∃ fd : FuncData, (∀ (s : Shared) (u : Value), BindsTo s fd ⟨[u], []⟩ [(x, u)]) ∧
        ∀ base : Heap, (K w.params).In base → base.Ns mainGlobals mg → FnOk l.prog w (K w.params) mg base (CX w) k fa fd [x] (sp w))
    (hsp : ∀ (w : World) (H : Hp) (a : Addr) (ns : List Int), ns.length ≤ n → Only H → SqL (K w.params) H a (ns.map V.int) → sp w [.ref a] H (fun v _ => v = .bl true) fun _ _ _ => False)
    (hCX : ∀ (w : World) (H : Hp) (s : Shared) (e : Value) (s' : Shared), CX w [] H s (fun _ _ _ => False) e s' → False) :
    PySem.W.WalkO q loose XP YP l.row.toRowW d [] (fun f vs => PySem.call f vs) := by
  refine Att.attach_call hn hdf fun w s₀ s₁ mg mb fa o pm cd doc a vs ns G Y ho hd hcd hmg hobj hints hlen hg => ?_
  have KX := hY w _ Y
  obtain ⟨fd, hb, hF⟩ := F w mg fa _ KX G.T.g hmg
  exact law_call KX G.T.g G.T.b G.T.builtins G.T.nolimit hg hobj hints (Nat.le_trans hlen hn2) hr hF hb (fun H hO hS => hsp w H a ns hlen hO hS) fun H e s' => hCX w H s₁ e s'
end L2

/- THE LAST THEOREM (shape; LID, My.* are yours):
   My.Adr: a structure of the addresses that your layer names (classes, functions); My.Txt K t: a structure (Prop) of the equations over K;
   My.txt_mk : {K} {implicit addresses ..} (e1 : nsIn K mainGlobals "law" = some (some (.ref f))) (e2 : K.lookup f = some ⟨oc, od, .func (fnOf "law" "law" params body scope dV kV doc pm an cdv ct), sl⟩) (e3 : codeIn K cdv "law" = true) .. : ∃ t, My.Txt K t

set_option maxRecDepth 100000 in
set_option maxHeartbeats 0 in
theorem PySem.Challenge.cw_LID_holds : PySem.Challenge.rw_LID.Holds := by
  w_on; o_law; k_head; (case hw => w_witness2)
  k_fill
  refine L2.walk_of (l := PySem.Challenge.rw_LID) (n := 63) (k := 40) (x := "script") (CX := fun w => ..) (sp := fun _ => My.sp_law) rfl (by decide) rfl ⟨rfl, by decide, by decide⟩ (fun w h Y => PySem.W.kIn_of Y) ?F ?S ?C
  case F =>
    intro w mg fa h KX G hmg
    have T : ∃ t, My.Txt (L2.KOf KX) t := by
      dsimp only [L2.KOf]                          -- K must stand as «<heap const> w.params» for k_is
      refine' My.txt_mk ?e1 ?e2 ?e3 ..
      (case e1 => PySem.W.k_is)                    -- in the order: a name -> its address -> its object -> its parts
      (case e2 => PySem.W.k_is)
      ..
    obtain ⟨t, T⟩ := T
    have e0 := hmg.symm.trans (PySem.W.mg_of KX G T.law)
    cases e0                                       -- fa is the law's own address
    exact ⟨_, fun s u => .of_eq rfl, fun base kb nb => My.law_fn T kb nb⟩     -- if «.of_eq rfl» comes too early: refine' ⟨_, ?b, fun base kb nb => My.law_fn T kb nb⟩; exact fun s u => .of_eq rfl
  case S => exact fun w H a ns hl hO hS => ..
  case C => exact ..
(the tactic k_is has no namespace: write k_is) -/

/-! SHORT WORDS over the layer: a def of the text, its body, what a loop and a test want. -/
namespace L2
open PySem PySem.Spec PyProof.Rows

/-! ### the text by places -/
def defArgs (s : Stmt) : Arguments := match s with
  | .FunctionDef _ a _ _ _ _ _ _ _ _ => a
  | _ => { posonlyargs := [], args := [], vararg := none, kwonlyargs := [], kw_defaults := [], kwarg := none, defaults := [] }
def defBody (s : Stmt) : List Stmt := match s with
  | .FunctionDef _ _ b _ _ _ _ _ _ _ => b
  | _ => []
def defScope (s : Stmt) : Scope := match s with
  | .FunctionDef _ _ _ _ _ _ sc _ _ _ => sc
  | _ => { kind := .function, names := [], isGenerator := false, isCoroutine := false }

/-! ### no exception leaves a def -/
abbrev CX0 : CXT := fun _ _ _ _ _ _ => False
abbrev E0 : XK := fun _ _ _ => False
theorem pass0 {X : Cx} : Passes CX0 X E0 := fun _ _ _ _ _ _ _ h => h.elim

/-! ### a def (or method) of the text as it stands behind the top -/
structure Fun (K : PySem.W.Frag) (x qual : Str) (st : Stmt) (f : Addr) (fd : FuncData) : Prop where
  ex : ∃ (oc : Value) (od : Option Addr) (kV doc pm : Value) (an : Option Addr) (cdv ct : Value) (osl : Array (Option Value)),
    fd = PySem.W.fnOf x qual (defArgs st) (defBody st) (defScope st) .none kV doc pm an cdv ct ∧ K.lookup f = some ⟨oc, od, .func fd, osl⟩ ∧ PySem.W.codeIn K cdv qual = true
  kp : PySem.W.keepIn K (.ref f) = true
section
variable {P : Program} {w : World} {K : PySem.W.Frag} {mg : Str → Option Value} {base : Heap}
/-- THE RULE for a def: its body as a term of rules, and the reading of that term -/
theorem Fun.ok {x qual : Str} {st : Stmt} {f : Addr} {fd : FuncData} {N ps : List Str} {k : Nat} {sp : Sp} (F : Fun K x qual st f fd) (S : FnScope N ps (defScope st)) (len : ∀ vs H Q E, sp vs H Q E → vs.length = ps.length)
    (hbody : ∀ (cdv : Value) (A : Around) (outer : List Env) (s : Shared) (H : Hp) (vs : List V) (Q : VK) (E : XK), Room k (A.deeper (envOfC qual (defScope st) s.heap.objs.size f cdv)) → sp vs H Q E →
      ∃ t, PSs (cxOf CX0 P w K mg base N qual (defScope st) f cdv A outer s H E).nox (defBody st) t ∧ t { nx := fun _ H' => Q .non H', rt := Q } (start N vs) H) : FnOk P w K mg base CX0 (k + 1) f fd ps sp := by
  obtain ⟨oc, od, kV, doc, pm, an, cdv, ct, osl, rfl, lk, hcd⟩ := F.ex
  refine fn_of lk hcd S len fun A outer s H vs Q E hr hsp => ?_
  obtain ⟨t, h, q⟩ := hbody cdv A outer s H vs Q E hr hsp
  exact ⟨t, h.nox, q⟩
/-- how its arguments bind (no defaults): h is «fun _ _ _ _ _ _ us hl => match us, hl with | [_, _], _ => rfl», one _ a parameter -/
theorem Fun.binds {x qual : Str} {st : Stmt} {f : Addr} {fd : FuncData} {ps : List Str} (F : Fun K x qual st f fd)
    (h : ∀ (kV doc pm : Value) (an : Option Addr) (cdv ct : Value) (us : List Value), us.length = ps.length → bindArgs (PySem.W.fnOf x qual (defArgs st) (defBody st) (defScope st) .none kV doc pm an cdv ct) ⟨us, []⟩ = pure (ps.zip us)) : Binds K fd ps [] := by
  obtain ⟨oc, od, kV, doc, pm, an, cdv, ct, osl, rfl, lk, hcd⟩ := F.ex
  exact .all (h kV doc pm an cdv ct)
theorem fun_mk {x qual : Str} {st : Stmt} {f : Addr} {oc : Value} {od an : Option Addr} {osl : Array (Option Value)} {kV doc pm cdv ct : Value} (l : K.lookup f = some ⟨oc, od, .func (PySem.W.fnOf x qual (defArgs st) (defBody st) (defScope st) .none kV doc pm an cdv ct), osl⟩)
    (c : PySem.W.codeIn K cdv qual = true) (k : PySem.W.keepIn K (.ref f) = true) : Fun K x qual st f (PySem.W.fnOf x qual (defArgs st) (defBody st) (defScope st) .none kV doc pm an cdv ct) := ⟨⟨oc, od, kV, doc, pm, an, cdv, ct, osl, rfl, l, c⟩, k⟩
end
theorem small1000 {n : Nat} (h : n ≤ 1000) : n < sizeLine := Nat.lt_of_le_of_lt h (by decide)

/-! ### expressions in short: the name that stands in the i-th slot -/
section
variable {X : Cx}
theorem pv (i : Nat) {x : Str} {pos : Pos} (hN : X.N[i]? = some x := by rfl) (hv : Vis X.env.scope x := by first | exact Or.inl rfl | exact Or.inr (Or.inl rfl) | exact Or.inr (Or.inr rfl)) (hd : (x == ("__debug__" : Str)) = false := by decide)
    (hcd : (x == ("__classdict__" : Str)) = false := by decide) : PE X (.Name x pos) (tVar i) := pe_var hN hv hd hcd
end

/-! ### tests -/
theorem iteF {A B : Prop} (h : B) : if false = true then A else B := by
  rw [if_neg Bool.false_ne_true]
  exact h
theorem iteT {A B : Prop} (h : A) : if true = true then A else B := by
  rw [if_pos rfl]
  exact h
theorem ite2 {c A B : Prop} [Decidable c] (h1 : c → A) (h2 : ¬ c → B) : if c then A else B := by
  by_cases h : c
  · rw [if_pos h]
    exact h1 h
  · rw [if_neg h]
    exact h2 h
/-! ### heaps -/
/-- all that was tracked is as it was -/
def Same (H H' : Hp) : Prop := ∀ b o, H b = some o → H' b = some o
theorem Same.refl (H : Hp) : Same H H := fun _ _ h => h
theorem Same.trans {H H1 H2 : Hp} (a : Same H H1) (b : Same H1 H2) : Same H H2 := fun c o h => b c o (a c o h)
theorem Same.free {H H' : Hp} (e : Same H H') {l : Addr} (h : H' l = Option.none) : H l = Option.none := by
  cases q : H l with
  | none => rfl
  | some o =>
    rw [e l o q] at h
    cases h
theorem Same.seq {K : PySem.W.Frag} {H H' : Hp} {a : Addr} {xs : List V} (e : Same H H') (h : SqL K H a xs) : SqL K H' a xs := by
  rcases h with (h | ⟨o, h⟩) | h
  · exact .inl (.inl (e _ _ h))
  · exact .inl (.inr ⟨o, e _ _ h⟩)
  · exact .inr h

end L2

set_option maxHeartbeats 8000000

namespace L2
open PySem PySem.Spec PyProof.Rows

/-! ## a comprehension's block -/
/-- the free names of a block all have cells -/
theorem clos_go {env : Env} : ∀ (ns : List (Str × NameKind)) (acc : List (Str × Addr)), (∀ y ∈ ns, y.2 = .free → ∃ c, env.cells.lookup y.1 = some c) → (∀ x c, acc.lookup x = some c → env.cells.lookup x = some c) →
    ∃ cl, (forIn ns acc fun (y : Str × NameKind) cs => (if (y.2 == .free) = true then (do let c ← cellOf env y.1; pure (ForInStep.yield ((y.1, c) :: cs))) else pure (ForInStep.yield cs) : Sem (ForInStep (List (Str × Addr))))) = pure cl ∧
      (∀ x c, cl.lookup x = some c → env.cells.lookup x = some c) ∧ (∀ y ∈ ns, y.2 = .free → ∃ c, cl.lookup y.1 = some c) ∧ ∀ x c, acc.lookup x = some c → ∃ c', cl.lookup x = some c'
  | [], acc, _, ha => ⟨acc, rfl, ha, (fun _ h => nomatch h), fun x c e => ⟨c, e⟩⟩
  | (n, k) :: r, acc, hf, ha => by
    rw [List.forIn_cons]
    by_cases hk : k = .free
    · subst hk
      obtain ⟨c, hc⟩ := hf (n, .free) List.mem_cons_self rfl
      have hcell : cellOf env n = pure c := by unfold cellOf; rw [hc]
      have ha' : ∀ x c', List.lookup x ((n, c) :: acc) = some c' → env.cells.lookup x = some c' := fun x c' e => by
        rw [List.lookup_cons] at e
        cases hx : x == n with
        | true => rw [hx] at e; simp at e; subst e; rw [eq_of_beq hx]; exact hc
        | false => rw [hx] at e; exact ha x c' e
      obtain ⟨cl, e1, e2, e3, e4⟩ := clos_go r ((n, c) :: acc) (fun y hy => hf y (List.mem_cons_of_mem _ hy)) ha'
      refine ⟨cl, ?_, e2, fun y hy hyf => ?_, fun x c' e => ?_⟩
      · simp only [beq_self_eq_true, if_true, hcell, pure_bind]
        exact e1
      · rcases List.mem_cons.mp hy with rfl | hy
        · exact e4 n c (by simp [List.lookup_cons])
        · exact e3 y hy hyf
      · cases hx : x == n with
        | true => rw [eq_of_beq hx]; exact e4 n c (by simp [List.lookup_cons])
        | false => exact e4 x c' (by rw [List.lookup_cons, hx]; exact e)
    · have hb : (k == NameKind.free) = false := by simpa using hk
      obtain ⟨cl, e1, e2, e3, e4⟩ := clos_go r acc (fun y hy => hf y (List.mem_cons_of_mem _ hy)) ha
      refine ⟨cl, ?_, e2, fun y hy hyf => ?_, e4⟩
      · simp only [hb, Bool.false_eq_true, if_false, pure_bind]
        exact e1
      · rcases List.mem_cons.mp hy with rfl | hy
        · exact absurd hyf hk
        · exact e3 y hy hyf
theorem clos_ex {scope : Scope} {env : Env} (h : ∀ y ∈ scope.names, y.2 = .free → ∃ c, env.cells.lookup y.1 = some c) :
    ∃ cl, closureFor scope env = pure cl ∧ (∀ x c, cl.lookup x = some c → env.cells.lookup x = some c) ∧ ∀ y ∈ scope.names, y.2 = .free → ∃ c, cl.lookup y.1 = some c := by
  obtain ⟨cl, e1, e2, e3, _⟩ := clos_go (env := env) scope.names [] h (fun x c e => nomatch e)
  refine ⟨cl, ?_, e2, e3⟩
  have e : closureFor scope env = (forIn scope.names ([] : List (Str × Addr)) fun (y : Str × NameKind) cs => (if (y.2 == .free) = true then (do let c ← cellOf env y.1; pure (ForInStep.yield ((y.1, c) :: cs))) else pure (ForInStep.yield cs) : Sem (ForInStep (List (Str × Addr))))) >>= pure := by
    rfl
  rw [e, e1, pure_bind]

/-- the block's own context -/
def cxIn (X : Cx) (own : List Str) (sel : List Nat) (scope : Scope) (cl : List (Str × Addr)) (C : Addr) (s2 : Shared) (H2 : Hp) (fp : List Addr) : Cx where
  prog := X.prog
  w := X.w
  K := X.K
  mg := X.mg
  base := X.base
  A := X.A
  N := own ++ sel.map fun j => X.N.getD j Str.empty
  s₀ := s2
  H₀ := H2
  env := compEnvC scope cl C X.env
  outer := X.stack
  stack := X.stack
  ex := fp
  fn := fun _ => false
  calm := X.calm
  pn := []
  xe := fun _ _ => False
def inSt (own : List Str) (sel : List Nat) (σ : St) : St := own.map (fun _ => none) ++ sel.map fun j => σ.getD j none

/-- what is asked of the block's scope (osc, N: of the code around it) -/
structure CompOk (osc : Scope) (N : List Str) (own : List Str) (sel : List Nat) (scope : Scope) : Prop where
  kind : scope.kind = .function
  cell : ∀ y ∈ scope.names, y.2 ≠ .cell
  names : ∀ y ∈ scope.names, y.2 = .local → scope.names.lookup y.1 = some .local
  free : ∀ y ∈ scope.names, y.2 = .free → osc.names.lookup y.1 = some .cell ∨ osc.names.lookup y.1 = some .free
  seln : ∀ j ∈ sel, j < N.length ∧ scope.names.lookup (N.getD j Str.empty) = some .free ∧ (osc.names.lookup (N.getD j Str.empty) = some .cell ∨ osc.names.lookup (N.getD j Str.empty) = some .free)

/-- the tests of a block -/
def PIf (Y : Cx) (ifs : List Expr) (t : TT) : Prop :=
  ∀ (pins : List (Addr × Obj)) (s : Shared) (σ : St) (H : Hp) (Q : Bool → Hp → Prop), Inv Y pins σ H s → t σ H Q →
    wpAny (model Y.prog Y.w) Y.A (forIn ifs true fun c r => if r = true then do let ok ← isTrue c Y.env (eval c Y.env); pure (ForInStep.yield ok) else pure (ForInStep.yield r)) (TP Y pins σ Q) Y.xe s
def tYes : TT := fun _ H Q => Q true H
theorem pif_nil {Y : Cx} : PIf Y [] tYes := fun pins s σ H Q I h => wpAny_tests_nil ⟨H, I, h⟩
/-- a target stores into the first n slots alone -/
def GK (n : Nat) (g : TG) : Prop := ∀ v σ H Q, g v σ H Q → g v σ H fun σ' H' => Q σ' H' ∧ σ'.length = σ.length ∧ ∀ i, n ≤ i → σ'[i]? = σ[i]?
theorem gk_name {n i : Nat} (h : i < n) : GK n (gName i) := fun v σ H Q q => ⟨q, by simp, fun j hj => by rw [List.getElem?_set_ne (by omega)]⟩
def tComp (own : List Str) (sel : List Nat) (wi : TI) (g : TG) (tt : TT) (te : TE) : TE := fun σ H Q => wi σ H fun J H1 => ∀ D, H1 D = none →
  ∃ W : Nat → Nat → Hp → Prop, (∃ m, W 0 m (upd H1 D (.lst []))) ∧ ∀ i m H2, W i m H2 →
    (J.stop i H2 ∧ Q (.ref D) H2) ∨ (J.go i H2 ∧ ∀ x H3, J.yld i H2 x H3 → g x (inSt own sel σ) H3 fun σ4 H4 => tt σ4 H4 fun b H5 =>
      if b = true then te σ4 H5 fun v H6 => ∃ ys, H6 D = some (.lst ys) ∧ ys.length < sizeLine ∧ ∃ m', m' < m ∧ W (i + 1) m' (upd H6 D (.lst (ys ++ [v])))
      else ∃ m', m' < m ∧ W (i + 1) m' H5)

section
variable {prog : Program} {w : World} {A : Around} {R : Result → Shared → Prop} {s : Shared}
/-- the loop of a block: one clause, any target -/
theorem comp_turns {elt target iter : Expr} {ifs : List Expr} {scope : Scope} {pos : Pos} {it acc : Value} {env : Env} (I : Nat → Shared → Prop)
    (turn : ∀ n s, I n s → wpAny (model prog w) A (pyNext it) (fun r s1 => match r with
      | none => R (.ok .next) s1
      | some v => wpAny (model prog w) A (letOwnedTupleGo target it v) (fun _ s0 => wpAny (model prog w) A (assign target env v) (fun _ s2 =>
          wpAny (model prog w) A (forIn ifs true fun c r => if r = true then do let ok ← isTrue c env (eval c env); pure (ForInStep.yield ok) else pure (ForInStep.yield r)) (fun ok s3 =>
            if ok = true then wpAny (model prog w) A (eval elt env) (fun x s4 => wpAny (model prog w) A (call (.builtin "list.append") [acc, x]) (fun _ s5 => ∃ m, m < n ∧ I m s5) (fun _ _ => False) s4) (fun _ _ => False) s3
            else ∃ m, m < n ∧ I m s3) (fun _ _ => False) s2) (fun _ _ => False) s0) (fun _ _ => False) s1) (fun _ _ => False) s)
    (n : Nat) (h : I n s) :
    codeAny (model prog w) A (.compLoop (.ListComp elt [⟨target, iter, ifs, 0⟩] scope pos) 0 it acc env) R s := by
  refine codeAny_loop rfl I (fun n s hI => ?_) n h
  show wpAny _ A ((compTurn (.ListComp elt [⟨target, iter, ifs, 0⟩] scope pos) 0 it acc env).onRaise (fun x => do noteFrame x env; theTreesLotGoes x)) _ _ s
  refine wpAny_noted ?_
  rw [compTurn_list]
  refine wpAny_bind (wpAny_standAt (wpAny_bind (wpAny_mono (turn n s hI) (fun r s1 h1 => ?_) fun _ _ z => z.elim)))
  cases r with
  | none => exact wpAny_pure h1
  | some v =>
    refine wpAny_bind (wpAny_mono h1 (fun _ s0 h0 => wpAny_bind (wpAny_mono h0 (fun _ s2 h2 => wpAny_bind (wpAny_mono h2 (fun ok s3 h3 => ?_) fun _ _ z => z.elim)) fun _ _ z => z.elim)) fun _ _ z => z.elim)
    cases ok with
    | false => exact wpAny_pure ⟨rfl, h3⟩
    | true =>
      exact wpAny_bind (wpAny_bind (wpAny_mono h3 (fun x s4 h4 => wpAny_bind (wpAny_mono h4 (fun _ s5 h5 => wpAny_pure (wpAny_pure ⟨rfl, h5⟩)) fun _ _ z => z.elim)) fun _ _ z => z.elim))
end

section
variable {X : Cx}
theorem relabel_lookup {env : Env} : ∀ {names : List (Str × NameKind)} {x : Str} {k : NameKind},
    (names.map fun (n, k) => if (k == NameKind.free && env.scope.kind == .function && env.kindOf n == some .cell) then (n, NameKind.cell) else (n, k)).lookup x = some k →
    names.lookup x = some k ∨ names.lookup x = some .free
  | [], _, _, h => by simp at h
  | (n, k') :: r, x, k, h => by
    have ih := @relabel_lookup env r x k
    have h' : List.lookup x ((if (k' == NameKind.free && env.scope.kind == .function && env.kindOf n == some .cell) = true then (n, NameKind.cell) else (n, k')) :: r.map fun (n, k) => if (k == NameKind.free && env.scope.kind == .function && env.kindOf n == some .cell) then (n, NameKind.cell) else (n, k)) = some k := h
    cases hx : x == n with
    | true =>
      rw [List.lookup_cons, hx]
      by_cases hc : (k' == NameKind.free && env.scope.kind == .function && env.kindOf n == some .cell) = true
      · have : k' = .free := by simp only [Bool.and_eq_true, beq_iff_eq] at hc; exact hc.1.1
        subst this
        exact .inr rfl
      · rw [if_neg hc, List.lookup_cons, hx] at h'
        exact .inl h'
    | false =>
      rw [List.lookup_cons, hx]
      by_cases hc : (k' == NameKind.free && env.scope.kind == .function && env.kindOf n == some .cell) = true
      · rw [if_pos hc, List.lookup_cons, hx] at h'; exact ih h'
      · rw [if_neg hc, List.lookup_cons, hx] at h'; exact ih h'

theorem relabel_free {env : Env} (hk : env.scope.kind = .function) : ∀ {names : List (Str × NameKind)} {x : Str}, names.lookup x = some .free → 
    (names.map fun (n, k) => if (k == NameKind.free && env.scope.kind == .function && env.kindOf n == some .cell) then (n, NameKind.cell) else (n, k)).lookup x = some .cell ∨
    (names.map fun (n, k) => if (k == NameKind.free && env.scope.kind == .function && env.kindOf n == some .cell) then (n, NameKind.cell) else (n, k)).lookup x = some .free
  | [], _, h => by simp at h
  | (n, k') :: r, x, h => by
    have ih := @relabel_free env hk r x
    show List.lookup x ((if (k' == NameKind.free && env.scope.kind == .function && env.kindOf n == some .cell) = true then (n, NameKind.cell) else (n, k')) :: _) = _ ∨ List.lookup x ((if (k' == NameKind.free && env.scope.kind == .function && env.kindOf n == some .cell) = true then (n, NameKind.cell) else (n, k')) :: _) = _
    cases hx : x == n with
    | true =>
      rw [List.lookup_cons, hx] at h
      by_cases hc : (k' == NameKind.free && env.scope.kind == .function && env.kindOf n == some .cell) = true
      · rw [if_pos hc, List.lookup_cons, hx]; exact .inl rfl
      · rw [if_neg hc, List.lookup_cons, hx]; exact .inr h
    | false =>
      rw [List.lookup_cons, hx] at h
      by_cases hc : (k' == NameKind.free && env.scope.kind == .function && env.kindOf n == some .cell) = true
      · rw [if_pos hc, List.lookup_cons, hx]; exact ih h
      · rw [if_neg hc, List.lookup_cons, hx]; exact ih h
end
end L2

namespace L2
open PySem PySem.Spec PyProof.Rows
section
variable {X : Cx}

theorem inSt_own {own : List Str} {sel : List Nat} {σ : St} {i : Nat} (h : i < own.length) : (inSt own sel σ)[i]? = some none := by
  unfold inSt
  rw [List.getElem?_append_left (by simpa using h), List.getElem?_map, List.getElem?_eq_getElem h]
  rfl
theorem inSt_sel {own : List Str} {sel : List Nat} {σ : St} {i : Nat} {v : V} (h : (inSt own sel σ)[i]? = some (some v)) : ∃ k j, i = own.length + k ∧ sel[k]? = some j ∧ σ[j]? = some (some v) := by
  by_cases hi : i < own.length
  · rw [inSt_own hi] at h; cases h
  · unfold inSt at h
    rw [List.getElem?_append_right (by simpa using hi), List.getElem?_map] at h
    rw [List.length_map] at h
    cases e : sel[i - own.length]? with
    | none => rw [e] at h; cases h
    | some j =>
      rw [e] at h
      simp only [Option.map_some, Option.some.injEq] at h
      refine ⟨i - own.length, j, by omega, e, ?_⟩
      rw [List.getD_eq_getElem?_getD] at h
      cases q : σ[j]? with
      | none => rw [q] at h; cases h
      | some u => rw [q] at h; simp at h; rw [h]
theorem inSt_len {own : List Str} {sel : List Nat} {σ : St} : (inSt own sel σ).length = own.length + sel.length := by
  unfold inSt; simp

/-- the block's frame, seen from the code around it -/
structure Far (X : Cx) (pins : List (Addr × Obj)) (H : Hp) (C : Addr) : Prop where
  nt : H C = none
  nl : C ≠ X.env.locals
  up : X.s₀.heap.objs.size ≤ C
  nc : ∀ x c, X.env.cells.lookup x = some c → c ≠ C
  np : ∀ p ∈ X.pn ++ pins, p.1 ≠ C
theorem Inv.far {pins : List (Addr × Obj)} {σ : St} {H : Hp} {s : Shared} {h' : Heap} {C : Addr} (I : Inv X pins σ H s) (f : Far X pins H C) (k : Heap.SameBut C s.heap h') : Inv X pins σ H { s with heap := h' } :=
  I.turned (t' := s.toks) (fun b o hb e => (k.2 b hb).trans e) f.nt f.nl (.inr f.up) f.nc f.np

theorem comp_core {elt tg iter : Expr} {ifs : List Expr} {scope : Scope} {pos : Pos} {own : List Str} {sel : List Nat} {wi : TI} {g : TG} {tt : TT} {te : TE} {use : Option (Value → Sem Unit)} {Qo : Value → Shared → Prop}
    (S : CompOk X.env.scope X.N own sel scope) (hc : X.calm = true) (hi : PI X tg iter wi)
    (hg : ∀ cl C s2 H2 fp, PG (cxIn X own sel scope cl C s2 H2 fp) tg g) (hk : GK own.length g)
    (ht : ∀ cl C s2 H2 fp, PIf (cxIn X own sel scope cl C s2 H2 fp) ifs tt) (he : ∀ cl C s2 H2 fp, PE (cxIn X own sel scope cl C s2 H2 fp) elt te)
    (hs : ∀ x, foldedSetIterable iter X.env x = pure x) {pins : List (Addr × Obj)} {s : Shared} {σ : St} {H : Hp} {Q : VK} {ps : Pos} (I0 : Inv X pins σ H s) (h : tComp own sel wi g tt te σ H Q)
    (fin : ∀ (D C : Addr) (H' : Hp) (s' : Shared) (m : Str → Option Value), Inv X pins σ H' s' → s'.heap.Ns C m → Far X pins H' C → Q (.ref D) H' → compPost (model X.prog X.w) X.A X.xe use Qo (.ref D) C (.ok .next) s') :
    wpAny (model X.prog X.w) X.A (comprehension (.ListComp elt [⟨tg, iter, ifs, 0⟩] scope pos) scope X.env ps (newList []) false (eval iter X.env) use) Qo X.xe s := by
  obtain ⟨cl, hclos, hcl, hfree⟩ := clos_ex (scope := scope) (env := X.env) fun y hy e => I0.ok.has y.1 (S.free y hy e)
  refine wpAny_comprehension_free (use := use) rfl hs hclos S.kind S.names (thn (hi pins s σ H _ I0 h) fun v s1 h1 => thn h1 fun itv s2 h2 => ?_)
  obtain ⟨it, fp, tn, J, H2, e, I, T, st2, f2, h3⟩ := h2
  subst e
  clear h h1 I0
  refine wpAny_newObj_type (wpAny_newFunctionEnv S.cell (by intro y hy; simp at hy) (fun h1 hns1 hsb1 => ?_) S.kind)
  dsimp only at hns1 hsb1 ⊢
  generalize hP : s2.heap.push { cls := .type "list", dict := none, data := .seq ([] : List Value).toArray } = P1 at hns1 hsb1 ⊢
  generalize hD : s2.heap.objs.size = D at hns1 hsb1 ⊢
  generalize hC : P1.objs.size = C at hns1 hsb1 ⊢
  have hCD : C = D + 1 := by rw [← hC, ← hP, Heap.size_push, hD]
  have hlt : D < C := by rw [hCD]; exact Nat.lt_succ_self D
  have hDC : D ≠ C := Nat.ne_of_lt hlt
  have neC : ∀ b : Addr, b < D → b ≠ C := fun b hb => Nat.ne_of_lt (Nat.lt_trans hb hlt)
  have neD : ∀ b : Addr, b < D → b ≠ D := fun b hb => Nat.ne_of_lt hb
  have hsD : s2.heap.objs.size ≤ D := Nat.le_of_eq hD
  have hsC : s2.heap.objs.size ≤ C := Nat.le_trans hsD (Nat.le_of_lt hlt)
  have fresh : ∀ a, D ≤ a → H2 a = none := fun a ha => I.hok.fresh (by rw [hD]; exact ha)
  have hnD : H2 D = none := fresh D (Nat.le_refl _)
  have hnC : H2 C = none := fresh C (Nat.le_of_lt hlt)
  have below : ∀ b o, s2.heap.get? b = some o → b < D := fun b o e => by rw [← hD]; exact Heap.lt_size e
  have keep1 : ∀ b o, s2.heap.get? b = some o → h1.get? b = some o := fun b o e =>
    hsb1.extBut b o (neC b (below b o e)) (Heap.get?_push_of_some _ (hP ▸ Heap.get?_push_of_some _ e))
  have gD : h1.get? D = some { cls := .type "list", dict := none, data := .seq ([] : List Value).toArray } := by
    refine hsb1.extBut _ _ hDC (Heap.get?_push_of_some _ ?_)
    rw [← hP, ← hD]
    exact Heap.get?_push_size _ rfl
  obtain ⟨W, ⟨m0, w0⟩, turn⟩ := h3 D hnD
  have fpb : ∀ b ∈ fp, b < D := fun b hb => by obtain ⟨o, e, _⟩ := T.obj _ _ st2 b hb; exact below b o e
  -- the block's context
  generalize hY : cxIn X own sel scope cl C s2 H2 fp = Y
  have hg := hg cl C s2 H2 fp
  have ht := ht cl C s2 H2 fp
  have he := he cl C s2 H2 fp
  rw [hY] at hg ht he
  have okY : Y.Ok := by
    subst hY
    refine ⟨I.ok.mod, S.kind, I.ok.glob, I.ok.blt, ?_, fun x y c a b => I.ok.inj x y c (hcl _ _ a) (hcl _ _ b), fun x hx => ?_, (fun _ _ z => nomatch z), fun z => I.ok.hd z, I.ok.frames, .inl rfl, fun b hb => ⟨?_, fun x c e => (f2 b hb).2.2.2.2.1 x c (hcl _ _ e)⟩, I.bs,
      Nat.le_trans I.ok.bsz I.sz, fun b o e hb => ?_, fun b hb z => ?_, I.stack, I.stkFree⟩
    · exact hsC
    · have hx' : (relabel scope X.env).names.lookup x = some .cell ∨ (relabel scope X.env).names.lookup x = some .free := hx
      have hf : scope.names.lookup x = some .free := by
        rcases hx' with z | z
        · rcases relabel_lookup z with q | q
          · exact absurd rfl (S.cell _ (PySem.mem_of_lookup q))
          · exact q
        · rcases relabel_lookup z with q | q <;> exact q
      exact hfree _ (PySem.mem_of_lookup hf) rfl
    · exact neC b (fpb b hb)
    · rcases (f2 b hb).2.2.2.1 with z | z
      · exact I.ok.noex b o e z
      · exact absurd (Nat.lt_of_lt_of_le (Heap.lt_size e) (Nat.le_trans I.ok.bsz z)) (Nat.lt_irrefl _)
    · rcases List.mem_cons.mp (I.stkSub b z) with q | q
      · exact (f2 b hb).2.1 q
      · exact (f2 b hb).2.2.1 q
  -- the state ahead of the first turn
  have eo : ObjOk X.prog X.w (upd H2 D (.lst [])) h1 D (.lst []) := ⟨by decide, [], _, .nil, gD⟩
  have I1 : Inv Y [] (inSt own sel σ) (upd H2 D (.lst [])) { s2 with heap := h1, toks := s2.toks + ([] : List (Str × Value)).length } := by
    subst hY
    refine ⟨okY, rfl, I.bare, Un.laid keep1 hsD hnD, ⟨_, hns1, fun i x v e1 e2 e3 => ?_⟩, fun x c e => ?_, ?_, fun x c e => ?_, fun p hp => absurd (show p ∈ ([] : List (Addr × Obj)) from hp) (by simp), I.hok.laid keep1 hsD eo, ?_⟩
    · obtain ⟨k, j, ei, ej, es⟩ := inSt_sel e2
      subst ei
      have e1' : (own ++ sel.map fun j => X.N.getD j Str.empty)[own.length + k]? = some x := e1
      rw [List.getElem?_append_right (by omega), List.getElem?_map, show own.length + k - own.length = k by omega, ej] at e1'
      simp only [Option.map_some, Option.some.injEq] at e1'
      obtain ⟨hj, hfx, hkd⟩ := S.seln j (List.mem_of_getElem? ej)
      have hN : X.N[j]? = some x := by rw [← e1', List.getD_eq_getElem?_getD, List.getElem?_eq_getElem hj]; rfl
      rw [e1'] at hkd hfx
      obtain ⟨m, _, hl⟩ := I.loc
      obtain ⟨u, r, lk⟩ := hl j x v hN es (.inr hkd)
      refine ⟨u, r, .inr ⟨relabel_free I.ok.kind hfx, ?_⟩⟩
      rcases lk with ⟨z1, _⟩ | ⟨_, c, hc1, hc2⟩
      · have z1' : X.env.scope.names.lookup x = some .local := z1
        rcases hkd with q | q <;> (rw [z1'] at q; cases q)
      · obtain ⟨c', q⟩ := hfree _ (PySem.mem_of_lookup hfx) rfl
        have q2 := hcl _ _ q
        rw [hc1] at q2
        cases q2
        exact ⟨c, q, hc2.keeps keep1⟩
    · obtain ⟨u, z⟩ := I.cell x c (hcl _ _ e)
      exact ⟨u, z.keeps keep1⟩
    · show upd H2 D (.lst []) C = none
      rw [upd_ne (Ne.symm hDC)]; exact hnC
    · have q := I.freeC x c (hcl _ _ e)
      obtain ⟨u, o, z, _⟩ := I.cell x c (hcl _ _ e)
      rw [upd_ne (neD c (below c o z))]
      exact q
    · show (inSt own sel σ).length = (own ++ sel.map fun j => X.N.getD j Str.empty).length
      rw [inSt_len]; simp
  -- its end
  have fin : ∀ (σ' : St) (H' : Hp) (s' : Shared), Inv Y [] σ' H' s' → Q (.ref D) H' → compPost (model X.prog X.w) X.A X.xe use Qo (.ref D) C (.ok .next) s' := by
    intro σ' H' s' I' q
    subst hY
    obtain ⟨m, hn, _⟩ := I'.loc
    have J' : Inv X pins σ H' s' := I.call' I'.os I'.base I'.hok I'.bare fun b hb => ⟨(f2 b hb).2.2.2.1, (f2 b hb).2.1, (f2 b hb).2.2.2.2.1, (f2 b hb).2.2.2.2.2⟩
    refine fin D C H' s' m J' hn ⟨I'.free, Ne.symm (neC _ (by rw [← hD]; exact I.lt)), Nat.le_trans I.sz hsC, fun x c e => ?_, fun p hp => ?_⟩ q
    · obtain ⟨u, o, z, _⟩ := I.cell x c e
      exact neC c (below c o z)
    · exact neC p.1 (below p.1 p.2 (I.pin p hp).1)
  -- what stays true of the iterator's objects
  have stat : ∀ {H' : Hp}, (∀ b ∈ fp, H' b = none) → ∀ b ∈ fp, FpOk Y [] H' b := fun {H'} hn b hb => by
    subst hY
    refine ⟨hn b hb, neC b (fpb b hb), fun z => ?_, .inl hb, fun x c e => (f2 b hb).2.2.2.2.1 x c (hcl _ _ e), fun p hp => absurd (show p ∈ ([] : List (Addr × Obj)) from hp) (by simp)⟩
    rcases List.mem_cons.mp (I.stkSub b z) with q | q
    · exact (f2 b hb).2.1 q
    · exact (f2 b hb).2.2.1 q
  have loop : ∀ s3 : Shared, s3 = { s2 with heap := h1, toks := s2.toks + ([] : List (Str × Value)).length } →
      codeAny (model X.prog X.w) X.A (.compLoop (.ListComp elt [⟨tg, iter, ifs, 0⟩] scope pos) 0 (.ref it) (.ref D) (compEnvC scope cl C X.env)) (compPost (model X.prog X.w) X.A X.xe use Qo (.ref D) C) s3 := by
    rintro s3 rfl
    have eP : Y.prog = X.prog := by subst hY; rfl
    have eW : Y.w = X.w := by subst hY; rfl
    have eA : Y.A = X.A := by subst hY; rfl
    have eK : Y.K = X.K := by subst hY; rfl
    have eE : Y.env = compEnvC scope cl C X.env := by subst hY; rfl
    have eX : Y.xe = fun _ _ => False := by subst hY; rfl
    have eC : Y.calm = true := by subst hY; exact hc
    refine comp_turns (fun n s' => ∃ i H', Inv Y [] (inSt own sel σ) H' s' ∧ tn i s'.heap ∧ (∀ b ∈ fp, H' b = none) ∧ W i n H') ?_ m0
      ⟨0, _, I1, T.keep _ _ _ st2 fun b _ o e => keep1 b o e, fun b hb => by rw [upd_ne (neD b (fpb b hb))]; exact (f2 b hb).1, w0⟩
    rintro n s4 ⟨i, H4, I4, st4, fr4, w4⟩
    rcases turn i n H4 w4 with ⟨stop, q⟩ | ⟨go, step⟩
    · have dn := T.done Y eP eW eK eC i [] s4 _ H4 (fun _ _ => False) I4 (stat fr4) st4 stop
      rw [eA] at dn
      refine thn dn fun r s5 ⟨hr, I5⟩ => ?_
      subst hr
      exact fin _ _ _ I5 q
    · have im := T.item Y eP eW eK eC i [] s4 _ H4 (fun _ _ => False) I4 (stat fr4) st4 go
      rw [eA] at im
      refine thn im fun r s5 ⟨u, hr, h5⟩ => ?_
      subst hr
      refine thn h5 fun _ s6 ⟨x, H6, I6, r6, y6, st6, fr6⟩ => ?_
      have I6' := I6.pinned (stat fr6) (T.obj _ _ st6)
      have back : ∀ {σ7 : St} {H7 : Hp} {s7 : Shared} {k : Nat}, Inv Y ([] ++ pinsAt fp s6.heap) σ7 H7 s7 → σ7.length = (inSt own sel σ).length → (∀ j, own.length ≤ j → σ7[j]? = (inSt own sel σ)[j]?) → (∃ m', m' < n ∧ W (i + 1) m' H7) →
          ∃ m', m' < n ∧ ∃ i H', Inv Y [] (inSt own sel σ) H' s7 ∧ tn i s7.heap ∧ (∀ b ∈ fp, H' b = none) ∧ W i m' H' := fun {σ7 H7 s7 k} I7 l7 k7 w7 => by
        obtain ⟨m', hm, w7⟩ := w7
        refine ⟨m', hm, i + 1, H7, I7.unpinned.weak l7.symm fun j v e => ?_, T.keep _ _ _ st6 fun b hb o e => (I7.pin (b, o) (List.mem_append_right _ (List.mem_append_right _ (mem_pinsAt hb e)))).1, fun b hb => ?_, w7⟩
        · by_cases hj : j < own.length
          · rw [inSt_own hj] at e; cases e
          · rw [k7 j (Nat.le_of_not_lt hj)]; exact e
        · obtain ⟨o, e, d⟩ := T.obj _ _ st6 b hb
          exact (I7.pin (b, o) (List.mem_append_right _ (List.mem_append_right _ (mem_pinsAt hb e)))).2.1
      have ga := hg _ s6 _ H6 x u _ I6' r6 (hk _ _ _ _ (step x H6 y6))
      rw [eP, eW, eA, eE, eX] at ga
      refine thn ga fun _ s7 ⟨σ7, H7, I7, q7, l7, k7⟩ => ?_
      have ta := ht _ s7 σ7 H7 _ I7 q7
      rw [eP, eW, eA, eE, eX] at ta
      refine thn ta fun b s8 ⟨H8, I8, q8⟩ => ?_
      cases b with
      | false =>
        rw [if_neg Bool.false_ne_true] at q8 ⊢
        exact back (k := 0) I8 l7 k7 q8
      | true =>
        rw [if_pos rfl] at q8 ⊢
        have ea := he _ s8 σ7 H8 _ I8 q8
        rw [eP, eW, eA, eE, eX] at ea
        refine thn ea fun v s9 ⟨x9, H9, I9, r9, ys, hD9, hz9, q9⟩ => ?_
        have aa := mt_append (X := Y) _ s9 σ7 H9 (.ref D) [x9] (.ref D) [v] (fun _ H' => ∃ m', m' < n ∧ W (i + 1) m' H') I9 rfl (.cons r9 .nil) ⟨D, ys, x9, rfl, rfl, hD9, hz9, q9⟩
        rw [eP, eW, eA, eX] at aa
        exact thn aa fun _ s10 ⟨_, H10, I10, _, q10⟩ => back (k := 0) I10 l7 k7 q10
  exact codeAny_compStart_list (loop _ rfl) (T.self X.A 0 _ _ _ (T.keep _ _ _ st2 fun b _ o e => keep1 b o e) (loop _ rfl))
/-- [elt for tg in iter if ..] -/
theorem pe_comp {elt tg iter : Expr} {ifs : List Expr} {scope : Scope} {pos : Pos} {own : List Str} {sel : List Nat} {wi : TI} {g : TG} {tt : TT} {te : TE}
    (S : CompOk X.env.scope X.N own sel scope) (hc : X.calm = true) (hi : PI X tg iter wi)
    (hg : ∀ cl C s2 H2 fp, PG (cxIn X own sel scope cl C s2 H2 fp) tg g) (hk : GK own.length g)
    (ht : ∀ cl C s2 H2 fp, PIf (cxIn X own sel scope cl C s2 H2 fp) ifs tt) (he : ∀ cl C s2 H2 fp, PE (cxIn X own sel scope cl C s2 H2 fp) elt te)
    (hs : ∀ x, foldedSetIterable iter X.env x = pure x := by intro _; rfl) :
    PE X (.ListComp elt [⟨tg, iter, ifs, 0⟩] scope pos) (tComp own sel wi g tt te) := by
  intro pins s σ H Q I h
  rw [eval_ListComp]
  refine comp_core (use := none) S hc hi hg hk ht he hs I h fun D C H' s' m I' hn f q => ?_
  exact ⟨m, hn, fun h' k => ⟨.ref D, H', I'.far f k, rfl, q⟩⟩
end
end L2

namespace L2
open PySem PySem.Spec PyProof.Rows
section
variable {X : Cx} {pins : List (Addr × Obj)} {σ : St} {H : Hp} {s : Shared} {h' : Heap}
theorem Inv.bigAfter {ch : List Addr} (I : Inv X pins σ H s) (hf : ∀ b ∈ ch, FpOk X pins H b) (k : ∀ b u, b ∉ ch → s.heap.get? b = some u → h'.get? b = some u) : ∃ b o, 1 < b ∧ h'.get? b = some o := by
  obtain ⟨o, _, _, e, _⟩ := I.ok.mod.glob
  refine ⟨mainGlobals, o, by decide, k _ _ (fun z => ?_) (I.bk _ _ e)⟩
  rcases (hf _ z).2.2.2.1 with q | q
  · exact I.ok.noex _ _ e q
  · exact absurd (Nat.lt_of_lt_of_le (Heap.lt_size e) (Nat.le_trans I.ok.bsz q)) (Nat.lt_irrefl _)
/-- the records at ch have turned, a new object is laid and tracked -/
theorem Inv.turnedLaid {a : Addr} {o : HO} {t' : Nat} {ch : List Addr} (I : Inv X pins σ H s) (hf : ∀ b ∈ ch, FpOk X pins H b) (k : ∀ b u, b ∉ ch → s.heap.get? b = some u → h'.get? b = some u) (hp : s.heap.objs.size ≤ a)
    (new : ObjOk X.prog X.w (upd H a o) h' a o) : Inv X pins σ (upd H a o) { s with heap := h', toks := t' } := by
  have hn : H a = none := I.hok.fresh hp
  have ne : ∀ b u, s.heap.get? b = some u → b ≠ a := fun b u e => Nat.ne_of_lt (Nat.lt_of_lt_of_le (Heap.lt_size e) hp)
  have nt : ∀ b u, H b = some u → b ∉ ch := fun b u e z => by rw [(hf b z).1] at e; cases e
  refine I.step (g' := s.gens) (d' := s.drawn) (ch := ch) (fun b hb => ⟨(hf b hb).2.2.2.1, (hf b hb).2.1, (hf b hb).2.2.2.2.1, (hf b hb).2.2.2.2.2⟩) (fun b u _ _ hc e _ => k b u hc e) (fun b u _ _ hc e _ => ⟨u.slots, k b u hc e⟩)
    (fun b u _ e n => by rw [upd_ne (ne b u e)]; exact n) (fun b u hc e => ⟨u, k b u hc e⟩) (fun b xs e => by rw [upd_ne (ne_of_none e hn)]; exact e) (fun b u xs e => by rw [upd_ne (ne_of_none e hn)]; exact e)
    (fun b ps e => ⟨#[], by rw [upd_ne (ne_of_none e hn), e]; simp⟩) (fun m hm => ?_) ⟨fun b u e => ?_, fun u e => I.hok.sm u (by
      by_cases hb : sysModules = a
      · obtain ⟨b, o', l, q⟩ := I.hok.bg
        exact absurd (Nat.lt_trans l (show b < sysModules from by rw [hb]; exact Nat.lt_of_lt_of_le (Heap.lt_size q) hp)) (Nat.lt_irrefl 1)
      · rw [upd_ne hb] at e; exact e), I.bigAfter hf k⟩ I.bare
  · obtain ⟨ob, es, ep, ho, r⟩ := hm
    exact ⟨ob, es, ep, k _ ob (fun z => (hf _ z).2.1 rfl) ho, r⟩
  · by_cases hb : b = a
    · subst hb; rw [upd_same] at e; cases e; exact new
    · rw [upd_ne hb] at e
      refine (I.hok b u e).stay (fun c v hc q => k c v ?_ q) (fun c q => by rw [upd_ne (ne_of_none q hn)]; exact q) fun c xs q => by rw [upd_ne (ne_of_none q hn)]; exact q
      rcases hc with z | z
      · rw [z]; exact nt b u e
      · exact nt c _ z
theorem Inv.turnedAll {t' : Nat} {ch : List Addr} (I : Inv X pins σ H s) (hf : ∀ b ∈ ch, FpOk X pins H b) (k : ∀ b u, b ∉ ch → s.heap.get? b = some u → h'.get? b = some u) : Inv X pins σ H { s with heap := h', toks := t' } := by
  have nt : ∀ b u, H b = some u → b ∉ ch := fun b u e z => by rw [(hf b z).1] at e; cases e
  refine I.step (g' := s.gens) (d' := s.drawn) (ch := ch) (fun b hb => ⟨(hf b hb).2.2.2.1, (hf b hb).2.1, (hf b hb).2.2.2.2.1, (hf b hb).2.2.2.2.2⟩) (fun b u _ _ hc e _ => k b u hc e) (fun b u _ _ hc e _ => ⟨u.slots, k b u hc e⟩)
    (fun b u _ e n => n) (fun b u hc e => ⟨u, k b u hc e⟩) (fun b xs e => e) (fun b u xs e => e) (fun b ps e => ⟨#[], by rw [e]; simp⟩) (fun m hm => ?_) ⟨fun b u e => ?_, I.hok.sm, I.bigAfter hf k⟩ I.bare
  · obtain ⟨ob, es, ep, ho, r⟩ := hm
    exact ⟨ob, es, ep, k _ ob (fun z => (hf _ z).2.1 rfl) ho, r⟩
  · refine (I.hok b u e).stay (fun c v hc q => k c v ?_ q) (fun c q => q) fun c xs q => q
    rcases hc with z | z
    · rw [z]; exact nt b u e
    · exact nt c _ z
end

/-! ## signs of a text -/
def Its (x : Str) : It := ⟨fun i _ => i < x.cps.size, fun i H v H' => H' = H ∧ ∃ c, x.cps[i]? = some c ∧ v = .str ⟨#[c]⟩, fun i _ => i = x.cps.size⟩
section
variable {P : Program} {w : World} {K : PySem.W.Frag} {tg : Expr}
theorem turn_str {x : Str} {t : Tok} {T : String} {it : Addr} (hT : T = "str_ascii_iterator" ∨ T = "str_iterator")
    (W : ∀ A : Around, A.handled = none → Walks P w A it [it] [it] x.cps.size (SignAt x) (fun i h => h.IsStrIter it T x t i))
    (sf : ∀ (A : Around) (i : Nat) (s : Shared) (Q : Value → Shared → Prop) (E : Value → Shared → Prop), s.heap.IsStrIter it T x t i → Q (.ref it) s → wpAny (model P w) A (pyIter (.ref it)) Q E s) :
    Turn P w K tg (Its x) [it] it (fun i h => h.IsStrIter it T x t i) where
  mem := by simp
  obj := fun i h st b hb => by
    obtain ⟨o, ho, _, hd⟩ := st
    have e : b = it := by simpa using hb
    subst e
    exact ⟨o, ho, fun v z => by rw [hd] at z; cases z⟩
  keep := fun i h h' st k => by
    obtain ⟨o, ho, r⟩ := st
    exact ⟨o, k it (by simp) o ho, r⟩
  item := by
    intro X hP hw hK hc i pins s σ H E I hf st hg
    subst hP hw hK
    refine (W X.A (I.ok.hd hc)).item i s _ _ hg st fun v h' tk hv st' kk => ?_
    obtain ⟨c, u, hx, rfl⟩ := hv
    obtain ⟨o, ho, hcl, hd⟩ := id st'
    have I1 : Inv X pins σ H { s with heap := h', toks := tk } := I.turnedAll hf kk
    refine ⟨_, rfl, go_of (s := { s with heap := h', toks := tk }) (n := T) ho hcl hd (by rcases hT with rfl | rfl <;> decide) ⟨.str ⟨#[c]⟩, H, I1, ⟨u, rfl⟩, ⟨rfl, c, hx, rfl⟩, st', fun b hb => (hf b hb).1⟩⟩
  done := by
    intro X hP hw hK hc i pins s σ H E I hf st hg
    subst hP hw hK
    have e : i = x.cps.size := hg
    subst e
    exact (W X.A (I.ok.hd hc)).done s _ _ st fun h' tk kk => ⟨rfl, I.turnedAll hf kk⟩
  self := fun A i s Q E st h => sf A i s Q E st h
end
def iStr (tl : TE) : TI := fun σ H R => tl σ H fun x H1 => ∃ z, x = .str z ∧ R (Its z) H1
theorem pi_str {X : Cx} {tg l : Expr} {tl : TE} (hl : PE X l tl) : PI X tg l (iStr tl) := by
  intro pins s σ H R I h
  refine thn (hl pins s σ H _ I h) fun v s1 ⟨x, H1, I1, r1, q1⟩ => ?_
  obtain ⟨z, rfl, q⟩ := q1
  obtain ⟨t, rfl⟩ := r1
  have side : ∀ b ∈ [s1.heap.objs.size], FpOk X pins H1 b := fun b hb => by
    have e : b = s1.heap.objs.size := by simpa using hb
    subst e
    exact I1.fpOk (Nat.le_refl _) (I1.hok.fresh (Nat.le_refl _))
  cases ha : z.cps.all (· < 128)
  · refine wpAny_pyIter_wide ha ⟨s1.heap.objs.size, [s1.heap.objs.size], _, _, H1, rfl, I1.kept (t' := s1.toks) fun b o e => Heap.get?_push_of_some _ e, turn_str (t := t) (T := "str_iterator") (.inr rfl) (fun A hh => Walks.strWide hh _ z t) (fun A i s Q E st h => wpAny_pyIter_striter_wide st h), ⟨_, Heap.get?_push_size _ rfl, rfl, rfl⟩, side, q⟩
  · refine wpAny_pyIter_ascii ha ⟨s1.heap.objs.size, [s1.heap.objs.size], _, _, H1, rfl, I1.kept (t' := s1.toks) fun b o e => Heap.get?_push_of_some _ e, turn_str (t := t) (T := "str_ascii_iterator") (.inl rfl) (fun A hh => Walks.strAscii hh _ z t) (fun A i s Q E st h => wpAny_pyIter_striter_ascii st h), ⟨_, Heap.get?_push_size _ rfl, rfl, rfl⟩, side, q⟩

/-! ## enumerate -/
def IteS (x : Str) : It := ⟨fun i _ => i < x.cps.size, fun i H v H' => ∃ T c, H T = none ∧ x.cps[i]? = some c ∧ v = .ref T ∧ H' = upd H T (.tup [.int i, .str ⟨#[c]⟩]), fun i _ => i = x.cps.size⟩
def IteL (K : PySem.W.Frag) (a : Addr) : It := ⟨fun i H => ∃ xs x, SqL K H a xs ∧ xs[i]? = some x, fun i H v H' => ∃ T x, H T = none ∧ (∀ xs, SqL K H a xs → xs[i]? = some x) ∧ v = .ref T ∧ H' = upd H T (.tup [.int i, x]),
  fun i H => ∃ xs, SqL K H a xs ∧ i = xs.length⟩
section
variable {P : Program} {w : World} {K : PySem.W.Frag} {elts : List Expr} {k : Nat} {tpos : Pos}
/-- one step of an enumerate over what draws -/
theorem enum_item {X : Cx} {pins : List (Addr × Obj)} {σ : St} {H : Hp} {s : Shared} {E : Value → Shared → Prop} {e it : Addr} {fp : List Addr} {n i : Nat} {Pr : Nat → Value → Prop} {St : Nat → Heap → Prop} {old : Value} {Qx : Value → Hp → V → Prop} {tn : Heap → Prop}
    (D : Draws X.prog X.w X.A.in1 it fp n Pr St) (I : Inv X pins σ H s) (hf : ∀ b ∈ [e, it], FpOk X pins H b) (he : IsEnum s.heap e it i old) (hst : St i s.heap) (hlt : i < n) (hne : e ≠ it) (hef : e ∉ fp)
    (tnk : ∀ h' o, IsEnum h' e it ((i : Int) + 1) o → St (i + 1) h' → tn h') (y : ∀ v, Pr i v → ∃ z, RelV z v ∧ Qx v H z) :
    wpAny (model X.prog X.w) X.A (pyNext (.ref e)) (fun r s1 => ∃ u, r = some u ∧ wpAny (model X.prog X.w) X.A (letOwnedTupleGo (.Tuple elts k tpos) (.ref e) u) (fun _ s2 => ∃ x H', Inv X pins σ H' s2 ∧ RelV x u ∧
      (∃ T z v, H T = none ∧ Pr i v ∧ RelV z v ∧ Qx v H z ∧ x = .ref T ∧ H' = upd H T (.tup [.int i, z])) ∧ tn s2.heap ∧ ∀ b ∈ [e, it], H' b = none) E s1) E s := by
  refine wpAny_pyNext_enum_itemD D he hst hlt hne hef fun v h1 tk hP ho hs' hT hsz hk => ⟨_, rfl, wpAny_letOwnedTupleGo_enum ho fun h2 he2 hs2 => ?_⟩
  obtain ⟨z, rz, qz⟩ := y v hP
  have hel : e < s.heap.objs.size := Heap.lt_size he
  have hil : it < s.heap.objs.size := by obtain ⟨_, q⟩ := D.live _ _ hst; exact Heap.lt_size q
  have hT2 : h2.get? s.heap.objs.size = some { cls := .type "tuple", data := .seq #[.int i tk, v] } := (hs2.2 _ (Nat.ne_of_gt hel)).trans hT
  have ob : ObjOk X.prog X.w (upd H s.heap.objs.size (.tup [.int i, z])) h2 s.heap.objs.size (.tup [.int i, z]) := ⟨(by show 2 ≤ sizeLine; decide), [.int i tk, v], .cons ⟨tk, rfl⟩ (.cons rz .nil), ⟨_, hT2, rfl, _, rfl⟩⟩
  have I2 : Inv X pins σ (upd H s.heap.objs.size (.tup [.int i, z])) { s with heap := h2, toks := tk + 1 } := I.turnedLaid hf (fun b u hb q => (hs2.2 b (fun z => hb (by simp [z]))).trans (hk b u (fun z => hb (by simp [z])) (fun z => hb (by simp [z])) q)) (Nat.le_refl _) ob
  refine ⟨.ref s.heap.objs.size, _, I2, rfl, ⟨s.heap.objs.size, z, v, I.hok.fresh (Nat.le_refl _), hP, rz, qz, rfl, rfl⟩, tnk h2 _ he2 (D.frame _ _ _ hs' fun b hb o q => (hs2.2 b fun z => hef (z ▸ hb)).trans q), fun b hb => ?_⟩
  have hb' : b ≠ s.heap.objs.size := by
    rcases List.mem_cons.mp hb with z | hb
    · rw [z]; exact Nat.ne_of_lt hel
    · rw [List.mem_singleton.mp hb]; exact Nat.ne_of_lt hil
  rw [upd_ne hb']
  exact (hf b hb).1
theorem turn_enumS {x : Str} {t : Tok} {T : String} {e it : Addr} (hne : e ≠ it)
    (W : ∀ A : Around, A.handled = none → Draws P w A it [it] x.cps.size (fun i v => ∃ c u, x.cps[i]? = some c ∧ v = .str ⟨#[c]⟩ u) (fun i h => h.IsStrIter it T x t i)) :
    Turn P w K (.Tuple elts k tpos) (IteS x) [e, it] e (fun i h => (∃ old, IsEnum h e it i old) ∧ h.IsStrIter it T x t i) where
  mem := by simp
  obj := fun i h st b hb => by
    obtain ⟨⟨old, he⟩, o, ho, _, hd⟩ := st
    rcases List.mem_cons.mp hb with z | hb
    · subst z; exact ⟨_, he, fun v z => by cases z⟩
    · rw [List.mem_singleton.mp hb]; exact ⟨o, ho, fun v z => by rw [hd] at z; cases z⟩
  keep := fun i h h' st k => by
    obtain ⟨⟨old, he⟩, o, ho, r⟩ := st
    exact ⟨⟨old, k e (by simp) _ he⟩, o, k it (by simp) o ho, r⟩
  item := by
    intro X hP hw hK hc i pins s σ H E I hf st hg
    subst hP hw hK
    obtain ⟨⟨old, he⟩, st⟩ := st
    refine thn (enum_item (elts := elts) (k := k) (tpos := tpos) (Qx := fun v H z => ∃ c, x.cps[i]? = some c ∧ z = .str ⟨#[c]⟩) (tn := fun h => (∃ old, IsEnum h e it ((i + 1 : Nat) : Int) old) ∧ h.IsStrIter it T x t (i + 1)) (W X.A.in1 (I.ok.hd hc)) I hf he st hg hne (fun z => hne (List.mem_singleton.mp z)) (fun h' o a b => ⟨⟨o, by simpa using a⟩, b⟩) ?_) ?_
    · rintro v ⟨c, u, hx, rfl⟩
      exact ⟨.str ⟨#[c]⟩, ⟨u, rfl⟩, c, hx, rfl⟩
    · rintro r s1 ⟨u, hr, h1⟩
      refine ⟨u, hr, thn h1 ?_⟩
      rintro _ s2 ⟨xv, H', I2, rx, ⟨Ta, z, v, hT, hv, rz, ⟨c, hx, rfl⟩, ex, eH⟩, tn2, fr⟩
      exact ⟨xv, H', I2, rx, ⟨Ta, c, hT, hx, ex, eH⟩, tn2, fr⟩
  done := by
    intro X hP hw hK hc i pins s σ H E I hf st hg
    subst hP hw hK
    obtain ⟨⟨old, he⟩, st⟩ := st
    have ei : i = x.cps.size := hg
    subst ei
    exact wpAny_pyNext_enum_endD (W X.A.in1 (I.ok.hd hc)) he st fun h' hx => ⟨rfl, I.turnedAll (t' := s.toks) hf fun b o hb q => hx b o (fun z => hb (by simp [z])) q⟩
  self := fun A i s Q E st h => by
    obtain ⟨⟨old, he⟩, _⟩ := st
    exact wpAny_pyIter_enum he h
end
def iEnS (ta : TA) : TI := fun σ H R => ta σ H fun vs H1 => ∃ z, vs = [.str z] ∧ R (IteS z) H1
def iEnL (K : PySem.W.Frag) (ta : TA) : TI := fun σ H R => ta σ H fun vs H1 => ∃ a, vs = [.ref a] ∧ (∃ xs, SqL K H1 a xs) ∧ R (IteL K a) H1
section
variable {X : Cx} {a : Expr} {ta : TA} {p pos : Pos} {elts : List Expr} {k : Nat} {tpos : Pos}
theorem fresh2 {pins : List (Addr × Obj)} {σ : St} {H : Hp} {s : Shared} (I : Inv X pins σ H s) : ∀ b ∈ [s.heap.objs.size + 1, s.heap.objs.size], FpOk X pins H b := fun b hb => by
  rcases List.mem_cons.mp hb with z | hb
  · subst z; exact I.fpOk (Nat.le_succ _) (I.hok.fresh (Nat.le_succ _))
  · rw [List.mem_singleton.mp hb]; exact I.fpOk (Nat.le_refl _) (I.hok.fresh (Nat.le_refl _))
theorem pi_enumS (hg : Gl X "enumerate") (hm : X.mg "enumerate" = none) (ha : PA X [a] ta) (hs : starEach [a] X.env = [(false, eval a X.env)] := by rfl) : PI X (.Tuple elts k tpos) (.Call (.Name "enumerate" p) [a] [] pos) (iEnS ta) := by
  intro pins s σ H R I h
  refine Call_ (ld_blt I hg hm boot_enumerate (PyProof.Rows.callWith_type1 (thn (ha pos pins s σ H _ I h) fun us s1 ⟨vs, H1, I1, r1, q1⟩ => ?_) hs rfl))
  obtain ⟨z, e, q⟩ := q1
  subst e
  cases r1 with
  | cons r rr =>
    cases rr
    obtain ⟨t, rfl⟩ := r
    refine call_enumerate_str fun h' he hit hsz hk => wpAny_pyIter_enum he ?_
    cases hall : z.cps.all (· < 128)
    · have hit' : h'.IsStrIter s1.heap.objs.size "str_iterator" z t 0 := by simpa [strIterType, hall] using hit
      exact ⟨s1.heap.objs.size + 1, [s1.heap.objs.size + 1, s1.heap.objs.size], _, _, H1, rfl, I1.kept (t' := s1.toks) hk, turn_enumS (t := t) (T := "str_iterator") (Nat.succ_ne_self _) (fun A hh => Draws.strWide hh _ z t), ⟨⟨_, he⟩, hit'⟩, fresh2 I1, q⟩
    · have hit' : h'.IsStrIter s1.heap.objs.size "str_ascii_iterator" z t 0 := by simpa [strIterType, hall] using hit
      exact ⟨s1.heap.objs.size + 1, [s1.heap.objs.size + 1, s1.heap.objs.size], _, _, H1, rfl, I1.kept (t' := s1.toks) hk, turn_enumS (t := t) (T := "str_ascii_iterator") (Nat.succ_ne_self _) (fun A hh => Draws.strAscii hh _ z t), ⟨⟨_, he⟩, hit'⟩, fresh2 I1, q⟩
end
end L2

namespace L2
open PySem PySem.Spec PyProof.Rows

/-! ## texts as lists of codes -/
def tx (l : List Nat) : V := .str ⟨l.toArray⟩
theorem tx_inj {a b : List Nat} : tx a = tx b ↔ a = b := by
  unfold tx
  constructor
  · intro h
    injection h with h
    injection h with h
    simpa using congrArg Array.toList h
  · rintro rfl; rfl
theorem tx_len (a : List Nat) : (⟨a.toArray⟩ : Str).length = a.length := by simp [Str.length]
theorem eqV_tx (a b : List Nat) : eqV (tx a) (tx b) = decide (a = b) := by
  have e : eqV (tx a) (tx b) = ((⟨a.toArray⟩ : Str) == ⟨b.toArray⟩) := rfl
  rw [e]
  by_cases h : a = b
  · subst h; simp
  · rw [decide_eq_false h, beq_eq_false_iff_ne]
    intro q
    exact h (tx_inj.mp (congrArg V.str q))
theorem dec_tx (a b : List Nat) : decide (tx a = tx b) = decide (a = b) := by
  by_cases h : a = b
  · subst h; simp
  · rw [decide_eq_false h, decide_eq_false (fun q => h (tx_inj.mp q))]

section
variable {X : Cx}
theorem pe_tx {x : Str} {l : List Nat} {j pos} (h : x = ⟨l.toArray⟩) : PE X (.Constant (.str x) j pos) (tC (tx l)) := by
  subst h
  exact pe_str
theorem op_addT : OpR X (binaryOp .Add) (fun x y H Q => ∃ a b, x = tx a ∧ y = tx b ∧ a.length + b.length ≤ sizeLine ∧ Q (tx (a ++ b)) H) := by
  intro pins s σ H x y v u Q I rx ry ⟨a, b, e1, e2, hz, q⟩
  subst e1 e2
  refine op_add_str pins s σ H _ _ v u Q I rx ry ⟨_, _, rfl, rfl, by rw [tx_len, tx_len]; exact hz, ?_⟩
  have e : (V.str ((⟨a.toArray⟩ : Str) ++ ⟨b.toArray⟩)) = tx (a ++ b) := by
    unfold tx
    congr 1
    show (⟨a.toArray ++ b.toArray⟩ : Str) = _
    simp
  rw [e]; exact q
def rIxT' : R2 := fun x y H Q => ∃ a i c, x = tx a ∧ y = .int i ∧ a.length ≤ sizeLine ∧ atI a i = some c ∧ Q (tx [c]) H
theorem ix_T : IxR X rIxT' := by
  intro value slice pins s σ H x y v u Q I rx ry ⟨a, i, c, e1, e2, hz, he, q⟩ hs
  subst e1 e2
  exact ix_str value slice pins s σ H _ _ v u Q I rx ry ⟨_, i, c, rfl, rfl, by rw [tx_len]; exact hz, by simpa using he, q⟩ hs
theorem call_lenT : CallR X (.builtin "len") (fun xs H Q => ∃ a, xs = [tx a] ∧ a.length ≤ sizeLine ∧ Q (.int a.length) H) := by
  intro pins s σ H xs us Q I r ⟨a, e, hz, q⟩
  subst e
  refine call_len_str pins s σ H _ us Q I r ⟨_, rfl, by rw [tx_len]; exact hz, ?_⟩
  rw [tx_len]; exact q
theorem op_inT : OpR X (compareOp .In) (fun x y H Q => ∃ c l, x = tx [c] ∧ y = tx l ∧ Q (.bl (decide (c ∈ l))) H) := by
  intro pins s σ H x y v u Q I rx ry ⟨c, l, e1, e2, q⟩
  subst e1 e2
  refine op_in_str pins s σ H _ _ v u Q I rx ry ⟨_, _, rfl, rfl, ?_⟩
  have e := PySem.StrLaws.found_one (⟨l.toArray⟩ : Str) c
  simp only at e
  rw [show (⟨[c].toArray⟩ : Str) = ⟨#[c]⟩ from rfl, e]
  exact q
theorem op_notinT : OpR X (compareOp .NotIn) (fun x y H Q => ∃ c l, x = tx [c] ∧ y = tx l ∧ Q (.bl (!decide (c ∈ l))) H) := by
  intro pins s σ H x y v u Q I rx ry ⟨c, l, e1, e2, q⟩
  subst e1 e2
  refine op_notin_str pins s σ H _ _ v u Q I rx ry ⟨_, _, rfl, rfl, ?_⟩
  have e := PySem.StrLaws.found_one (⟨l.toArray⟩ : Str) c
  simp only at e
  rw [show (⟨[c].toArray⟩ : Str) = ⟨#[c]⟩ from rfl, e]
  exact q
/-! ### a text several times -/
theorem rep_fold (a : List Nat) : ∀ (n : Nat) (acc : Array Nat), ((List.replicate n a.toArray).foldl (· ++ ·) acc) = (acc.toList ++ (List.replicate n a).flatten).toArray
  | 0, acc => by simp
  | n + 1, acc => by
    rw [List.replicate_succ, List.foldl_cons, rep_fold a n, List.replicate_succ, List.flatten_cons]
    simp
theorem op_mulT : OpR X (binaryOp .Mult) (fun x y H Q => ∃ a k, x = tx a ∧ y = .int k ∧ 0 ≤ k ∧ k ≤ 1000 ∧ a.length ≤ 1000 ∧ Q (tx (List.replicate k.toNat a).flatten) H) := by
  intro pins s σ H x y v u Q I rx ry ⟨a, k, e1, e2, h0, h1, hl, q⟩
  subst e1 e2
  obtain ⟨t, rfl⟩ := rx
  obtain ⟨t', rfl⟩ := ry
  have e : Txt.mul ⟨a.toArray⟩ k = ⟨((List.replicate k.toNat a).flatten).toArray⟩ := by
    unfold Txt.mul
    by_cases hk : k < 1
    · have : k = 0 := by omega
      subst this
      rfl
    · rw [if_neg hk]
      split
      · rename_i hc
        rw [tx_len] at hc
        simp only [Bool.or_eq_true, beq_iff_eq] at hc
        rcases hc with hc | hc
        · subst hc; simp
        · have : a = [] := List.length_eq_zero_iff.mp hc
          subst this
          simp
      · simp only
        rw [rep_fold]
        simp
  refine SB.mul ⟨by simp; omega, fun h2 _ => ?_, fun h2 _ => ?_⟩ fun t2 tk => ⟨tx (List.replicate k.toNat a).flatten, H, I.tok tk, ⟨t2, by rw [e]⟩, q⟩
  · rw [tx_len]
    have : (1000 : Int) ≤ (2 ^ 63 - 1) / k := by
      refine Int.le_ediv_of_mul_le (by omega) ?_
      omega
    omega
  · rw [tx_len]
    unfold Builtin.Str.tooLong
    have hs : sizeLine = 16777216 := sizeLine_eq
    have : a.length * k.toNat ≤ 1000 * 1000 := Nat.mul_le_mul hl (by omega)
    simp; omega

/-! ### a[lo:hi] of a text -/
def cutL {α : Type} (xs : List α) (lo hi : Option Int) : List α := (xs.drop (HT.sIx xs.length 0 lo)).take (HT.sIx xs.length xs.length hi - HT.sIx xs.length 0 lo)
theorem clipS (v : Option Int) (n d : Nat) (hd : d ≤ n) : (match v with | none => (d : Int) | some i => max 0 (min (if i < 0 then i + (n : Int) else i) (n : Int))) = ((HT.sIx n d v : Nat) : Int) := by
  cases v with
  | none => rfl
  | some i =>
    show max 0 (min (if i < 0 then i + (n : Int) else i) (n : Int)) = (((if i < 0 then (i + (n : Int)).toNat else min i.toNat n) : Nat) : Int)
    by_cases hv : i < 0
    · simp only [if_pos hv]; omega
    · simp only [if_neg hv]; omega
theorem idx_run (lo hi : Option Int) (n : Nat) : Builtin.Str.strSliceIndices lo hi 1 n = (List.range (HT.sIx n n hi - HT.sIx n 0 lo)).map fun k => HT.sIx n 0 lo + k := by
  have h1 : (1 : Int) > 0 := by omega
  have key : Builtin.Str.strSliceIndices lo hi 1 n = sliceRange ((HT.sIx n 0 lo : Nat) : Int) ((HT.sIx n n hi : Nat) : Int) 1 := by
    unfold Builtin.Str.strSliceIndices
    simp only [h1, if_true]
    congr 1
    · cases lo with
      | none => rfl
      | some i => exact clipS (some i) n 0 (Nat.zero_le _)
    · cases hi with
      | none => rfl
      | some i => exact clipS (some i) n n (Nat.le_refl _)
  rw [key]
  unfold sliceRange
  simp only [h1, if_true]
  have e3 : (if ((HT.sIx n 0 lo : Nat) : Int) < ((HT.sIx n n hi : Nat) : Int) then (((HT.sIx n n hi : Nat) : Int) - ((HT.sIx n 0 lo : Nat) : Int) + 1 - 1) / 1 else 0).toNat = HT.sIx n n hi - HT.sIx n 0 lo := by
    split <;> omega
  rw [e3]
  refine List.map_congr_left fun k _ => ?_
  omega
theorem pick_cut (a : List Nat) (i k : Nat) : ((List.range k).map fun m => i + m).filterMap (fun j => a.toArray[j]?) = (a.drop i).take k := by
  rw [List.filterMap_map]
  induction k generalizing i with
  | zero => simp
  | succ k ih =>
    rw [List.range_succ, List.filterMap_append, ih i, List.take_add_one]
    congr 1
    simp only [List.filterMap_cons, List.filterMap_nil, Function.comp]
    rw [List.getElem?_drop]
    simp only [List.getElem?_toArray]
    cases a[i + k]? <;> rfl
theorem cut_le {α : Type} (a : List α) (lo hi : Option Int) : (cutL a lo hi).length ≤ a.length := by
  unfold cutL; rw [List.length_take, List.length_drop]; omega
def rSlS : V → Option Int → Option Int → Hp → VK → Prop := fun x lo hi H Q => ∃ a, x = tx a ∧ a.length ≤ sizeLine ∧ Q (tx (cutL a lo hi)) H
theorem sl_T : SlR X rSlS := by
  intro pins s σ H x v vl vu lo hi sl Q I rx hs pl pu ⟨a, e, hz, q⟩
  subst e
  obtain ⟨t, rfl⟩ := rx
  refine ⟨"str", _, F.slot_str_getitem.lookup, typeIs_str _ _ _, ?_⟩
  obtain ⟨l, el, ml⟩ : ∃ l : Option (Int × Tok), vl = partValue l ∧ l.map (·.1) = lo := by
    cases pl with
    | none => exact ⟨none, rfl, rfl⟩
    | int i t => exact ⟨some (i, t), rfl, rfl⟩
  obtain ⟨u, eu, mu⟩ : ∃ u : Option (Int × Tok), vu = partValue u ∧ u.map (·.1) = hi := by
    cases pu with
    | none => exact ⟨none, rfl, rfl⟩
    | int i t => exact ⟨some (i, t), rfl, rfl⟩
  subst el eu
  refine wpAny_getItem_str_slice (l := l) (u := u) (st := none) hs rfl ?_
  have hle := cut_le a lo hi
  have ep : slicePicked ⟨a.toArray⟩ l u none = (List.range (HT.sIx a.length a.length hi - HT.sIx a.length 0 lo)).map fun k => HT.sIx a.length 0 lo + k := by
    unfold slicePicked
    rw [ml, mu, tx_len]
    exact idx_run lo hi a.length
  have ec : ((slicePicked ⟨a.toArray⟩ l u none).filterMap (a.toArray[·]?)) = cutL a lo hi := by
    rw [ep]; exact pick_cut a _ _
  unfold sliceMade
  refine post_val_or_str ?_
  have fin : (if ((Option.map (fun x => x.1) (none : Option (Int × Tok))).getD 1 == 1 && (slicePicked ⟨a.toArray⟩ l u none).length == (⟨a.toArray⟩ : Str).length) = true then (⟨a.toArray⟩ : Str) else ⟨((slicePicked ⟨a.toArray⟩ l u none).filterMap (a.toArray[·]?)).toArray⟩) = ⟨(cutL a lo hi).toArray⟩ := by
    rw [ec]
    split
    · rename_i hc
      rw [ep, tx_len] at hc
      simp only [Option.map_none, Option.getD_none, beq_self_eq_true, Bool.true_and, List.length_map, List.length_range, beq_iff_eq] at hc
      have hl : HT.sIx a.length a.length hi ≤ a.length := HT.sIx_le _ _ (Nat.le_refl _) _
      have h0 : HT.sIx a.length 0 lo = 0 ∨ a.length = 0 := by omega
      unfold cutL
      rw [hc]
      rcases h0 with h0 | h0
      · rw [h0, List.drop_zero, List.take_length]
      · have : a = [] := List.length_eq_zero_iff.mp h0
        subst this
        simp
    · rfl
  have fin' := fin
  simp only at fin' ⊢
  rw [fin']
  refine ⟨by rw [tx_len]; omega, fun t' k => ⟨tx (cutL a lo hi), H, I.tok k, ⟨t', rfl⟩, q⟩⟩

/-! ### isinstance -/
theorem call_isi : CallR X (.builtin "isinstance") (fun xs H Q => ∃ x T t b, xs = [x, .ty T] ∧ TyOf X.K H x t ∧ PySem.W.kitOne X.K t (.type T) = some b ∧ Q (.bl b) H) := by
  intro pins s σ H xs us Q I r ⟨x, T, t, b, e, ty, hk, q⟩
  subst e
  obtain ⟨u, w', rfl, ru, rw'⟩ := vals2 r
  cases rw'
  exact isinst_ok I ru ty hk fun tk => ⟨.bl b, H, I.tok tk, rfl, q⟩

/-! ### all of a list of truths -/
theorem call_allL : CallR X (.builtin "all") (fun xs H Q => X.calm = true ∧ ∃ (a : Addr) (bs : List Bool), xs = [.ref a] ∧ SqL X.K H a (bs.map V.bl) ∧ Q (.bl (bs.all id)) H) := by
  intro pins s σ H xs us Q I r ⟨hc, a, bs, e, hq, q⟩
  subst e
  obtain ⟨u, rfl, ru⟩ := vals1 r
  cases ru
  obtain ⟨its, rv, pl, hz⟩ := I.list hq
  obtain ⟨ol, hol, _⟩ := id pl.isList
  have hl : a < s.heap.objs.size := Heap.lt_size hol
  have hlen := rv.length
  rw [List.length_map] at hlen
  refine call_all_walk (wpAny_pyIter_list pl.isList ⟨s.heap.objs.size, _, _, _, _, _, fun i => bs.getD i false, rfl, Walks.list (A := X.A.in1) (I.ok.hd hc) s.heap.objs.size a (Nat.ne_of_lt hl) its.toArray, ⟨⟨_, Heap.get?_push_size _ rfl, rfl, rfl⟩, pl.isList.at fun o e => Heap.get?_push_of_some _ e⟩, ?_, fun h' tk kk => ?_⟩)
  · intro i v s' Q' E' hv hQ'
    have hv' : its[i]? = some v := by simpa using hv
    have hi : i < bs.length := by rw [hlen]; exact (List.getElem?_eq_some_iff.mp hv').1
    obtain ⟨w', e1, e2⟩ := rv.get (i := i) (x := V.bl bs[i]) (by simp [hi])
    rw [hv'] at e1
    cases e1
    cases e2
    have : bs.getD i false = bs[i] := by simp [List.getD_eq_getElem?_getD, hi]
    simp only [this] at hQ'
    exact wpAny_truthy_bool hQ'
  · have e : (List.range its.toArray.size).all (fun i => bs.getD i false) = bs.all id := by
      rw [List.size_toArray, ← hlen]
      rw [Bool.eq_iff_iff]
      simp only [List.all_eq_true, List.mem_range, id]
      constructor
      · intro h b hb
        obtain ⟨i, hi, rfl⟩ := List.mem_iff_getElem.mp hb
        have := h i hi
        simpa [List.getD_eq_getElem?_getD, hi] using this
      · intro h i hi
        have := h bs[i] (List.getElem_mem hi)
        simpa [List.getD_eq_getElem?_getD, hi] using this
    rw [e]
    have I1 : Inv X pins σ H { s with heap := s.heap.push { cls := .type "list_iterator", data := .fields #[.ref a, .int 0 0] } } := I.kept (t' := s.toks) fun b o z => Heap.get?_push_of_some _ z
    refine ⟨.bl (bs.all id), H, I.kept (t' := tk) fun b o z => kk b o (fun y => ?_) (Heap.get?_push_of_some _ z), rfl, q⟩
    exact absurd (Heap.lt_size z) (by rw [List.mem_singleton.mp y]; exact Nat.lt_irrefl _)

/-! ### == and != of lists of flat things -/
def eqVs : List V → List V → Bool
  | [], [] => true
  | x :: xs, y :: ys => eqV x y && eqVs xs ys
  | _, _ => false
theorem eqVs_len : ∀ {xs ys : List V}, xs.length ≠ ys.length → eqVs xs ys = false
  | [], [], h => absurd rfl h
  | [], _ :: _, _ => rfl
  | _ :: _, [], _ => rfl
  | x :: xs, y :: ys, h => by
    have : eqVs xs ys = false := eqVs_len (by simpa using h)
    show (eqV x y && eqVs xs ys) = false
    rw [this, Bool.and_false]
theorem eqVs_range : ∀ (xs ys : List V), xs.length = ys.length → (List.range xs.length).all (fun i => eqV (xs.getD i .non) (ys.getD i .non)) = eqVs xs ys
  | [], [], _ => rfl
  | x :: xs, y :: ys, h => by
    have ih := eqVs_range xs ys (by simpa using h)
    rw [List.length_cons, List.range_succ_eq_map, List.all_cons, List.all_map]
    show (eqV x y && _) = (eqV x y && eqVs xs ys)
    rw [← ih]
    rfl
  | [], _ :: _, h => by simp at h
  | _ :: _, [], h => by simp at h
theorem eqVs_at {A : Around} {s : Shared} {xs ys : List V} {us ws : List Value} (r1 : Vals xs us) (r2 : Vals ys ws) (f1 : xs.all flatV = true) (f2 : ys.all flatV = true) :
    ∀ j (h1 : j < us.toArray.size) (h2 : j < ws.toArray.size), SeqAt.EqAt A s us.toArray[j] ws.toArray[j] (eqV (xs.getD j .non) (ys.getD j .non)) := by
  intro j h1 h2
  have l1 := r1.length
  have l2 := r2.length
  rw [List.size_toArray] at h1 h2
  have k1 : j < xs.length := by omega
  have k2 : j < ys.length := by omega
  obtain ⟨u, e1, q1⟩ := r1.get (i := j) (x := xs[j]) (by simp [k1])
  obtain ⟨w', e2, q2⟩ := r2.get (i := j) (x := ys[j]) (by simp [k2])
  have eu : us.toArray[j] = u := by
    have := List.getElem?_eq_getElem (l := us) (i := j) h1
    rw [e1] at this
    simpa using (Option.some.inj this).symm
  have ew : ws.toArray[j] = w' := by
    have := List.getElem?_eq_getElem (l := ws) (i := j) h2
    rw [e2] at this
    simpa using (Option.some.inj this).symm
  rw [eu, ew]
  have g1 : xs.getD j .non = xs[j] := by simp [List.getD_eq_getElem?_getD, k1]
  have g2 : ys.getD j .non = ys[j] := by simp [List.getD_eq_getElem?_getD, k2]
  rw [g1, g2]
  exact eqAt_V q1 q2 (List.all_eq_true.mp f1 _ (List.getElem_mem k1)) (List.all_eq_true.mp f2 _ (List.getElem_mem k2))
def rEqL (K : PySem.W.Frag) (neg : Bool) : R2 := fun x y H Q => ∃ a b xs ys, x = .ref a ∧ y = .ref b ∧ SqL K H a xs ∧ SqL K H b ys ∧ xs.all flatV = true ∧ ys.all flatV = true ∧ Q (.bl (if neg then !eqVs xs ys else eqVs xs ys)) H
theorem op_eqL (hu : X.A.units < cLine) : OpR X (compareOp .Eq) (rEqL X.K false) := by
  intro pins s σ H x y v u Q I rx ry ⟨a, b, xs, ys, e1, e2, q1, q2, f1, f2, q⟩
  subst e1 e2
  cases rx
  cases ry
  obtain ⟨us, r1, p1, z1⟩ := I.list q1
  obtain ⟨ws, r2, p2, z2⟩ := I.list q2
  have l1 := r1.length
  have l2 := r2.length
  by_cases hl : xs.length = ys.length
  · refine SeqAt.eq_listAt p1.isList p2.isList (by simp; omega) hu (eqVs_at r1 r2 f1 f2) ⟨.bl _, H, I, rfl, ?_⟩
    rw [List.size_toArray, ← l1, eqVs_range xs ys hl]
    exact q
  · refine SeqAt.eq_list_lengthsAt p1.isList p2.isList (by simp; omega) hu ⟨.bl _, H, I, rfl, ?_⟩
    rw [← eqVs_len hl]
    exact q
theorem op_neL (hu : X.A.units < cLine) : OpR X (compareOp .NotEq) (rEqL X.K true) := by
  intro pins s σ H x y v u Q I rx ry ⟨a, b, xs, ys, e1, e2, q1, q2, f1, f2, q⟩
  subst e1 e2
  cases rx
  cases ry
  obtain ⟨us, r1, p1, z1⟩ := I.list q1
  obtain ⟨ws, r2, p2, z2⟩ := I.list q2
  have l1 := r1.length
  have l2 := r2.length
  by_cases hl : xs.length = ys.length
  · refine SeqAt.RcNeAt.lists p1.isList p2.isList (by simp; omega) hu (eqVs_at r1 r2 f1 f2) _ _ _ _ ⟨.bl _, H, I, rfl, ?_⟩
    rw [List.size_toArray, ← l1, eqVs_range xs ys hl]
    exact q
  · refine SeqAt.RcNeAt.lists_lengths p1.isList p2.isList (by simp; omega) hu _ _ _ _ ⟨.bl _, H, I, rfl, ?_⟩
    have : eqVs xs ys = false := eqVs_len hl
    rw [if_pos rfl, this] at q
    exact q
/-- is, is not of truths and of none -/
def litV : V → Bool
  | .non => true
  | .bl _ => true
  | _ => false
theorem op_isB : OpR X (compareOp .Is) (fun x y H Q => litV y = true ∧ Q (.bl (decide (x = y))) H) := by
  intro pins s σ H x y v u Q I rx ry ⟨hl, q⟩
  refine wpAny_is_plain ?_ ⟨.bl _, H, I, ?_, q⟩
  · cases y <;> first
      | (exact absurd hl Bool.false_ne_true)
      | (cases ry; cases x <;> first | (cases rx; rfl) | (obtain ⟨t, rfl⟩ := rx; rfl))
  · cases y <;> first
      | (exact absurd hl Bool.false_ne_true)
      | (cases ry; cases x <;> first | (cases rx; rfl) | (obtain ⟨t, rfl⟩ := rx; rfl) | (cases rx; rename_i b1 _ b2; cases b1 <;> cases b2 <;> rfl) | (cases rx; rename_i b1 b2; cases b1 <;> cases b2 <;> rfl) | (cases rx; rename_i b1 _ b2 _; cases b1 <;> cases b2 <;> rfl))
theorem op_isNotB : OpR X (compareOp .IsNot) (fun x y H Q => litV y = true ∧ Q (.bl (!decide (x = y))) H) := by
  intro pins s σ H x y v u Q I rx ry ⟨hl, q⟩
  refine wpAny_isNot_plain ?_ ⟨.bl _, H, I, ?_, q⟩
  · cases y <;> first
      | (exact absurd hl Bool.false_ne_true)
      | (cases ry; cases x <;> first | (cases rx; rfl) | (obtain ⟨t, rfl⟩ := rx; rfl))
  · cases y <;> first
      | (exact absurd hl Bool.false_ne_true)
      | (cases ry; cases x <;> first | (cases rx; rfl) | (obtain ⟨t, rfl⟩ := rx; rfl) | (cases rx; rename_i b1 _ b2; cases b1 <;> cases b2 <;> rfl) | (cases rx; rename_i b1 b2; cases b1 <;> cases b2 <;> rfl) | (cases rx; rename_i b1 _ b2 _; cases b1 <;> cases b2 <;> rfl))
end
end L2

namespace L2
open PySem PySem.Spec PyProof.Rows
section
variable {X : Cx}
/-! ## the operations, whatever kinds stand there -/
def rPlus : R2 := fun x y H Q => (∃ i j, x = .int i ∧ y = .int j ∧ Q (.int (i + j)) H) ∨ (∃ a b, x = tx a ∧ y = tx b ∧ a.length + b.length ≤ sizeLine ∧ Q (tx (a ++ b)) H) ∨ rCat x y H Q
theorem op_plus : OpR X (binaryOp .Add) rPlus := op_add.or (op_addT.or op_cat)
def rMulT : R2 := fun x y H Q => ∃ a k, x = tx a ∧ y = .int k ∧ 0 ≤ k ∧ k ≤ 1000 ∧ a.length ≤ 1000 ∧ Q (tx (List.replicate k.toNat a).flatten) H
def rTimes : R2 := fun x y H Q => (∃ i j, x = .int i ∧ y = .int j ∧ CMul i j ∧ Q (.int (i * j)) H) ∨ rRep x y H Q ∨ rMulT x y H Q
theorem op_times : OpR X (binaryOp .Mult) rTimes := op_mul.or (op_rep.or op_mulT)
def rEqA (K : PySem.W.Frag) : R2 := fun x y H Q => rEq x y H Q ∨ rEqL K false x y H Q
theorem op_eqA (K : PySem.W.Frag) (hu : X.A.units < cLine) (hK : X.K = K := by rfl) : OpR X (compareOp .Eq) (rEqA K) := by subst hK; exact op_eq.or (op_eqL hu)
def rNeA (K : PySem.W.Frag) : R2 := fun x y H Q => rNe x y H Q ∨ rEqL K true x y H Q
theorem op_neA (K : PySem.W.Frag) (hu : X.A.units < cLine) (hK : X.K = K := by rfl) : OpR X (compareOp .NotEq) (rNeA K) := by subst hK; exact op_ne.or (op_neL hu)
def rInA (K : PySem.W.Frag) : R2 := fun x y H Q => (∃ c l, x = tx [c] ∧ y = tx l ∧ Q (.bl (decide (c ∈ l))) H) ∨ rIn K false x y H Q
theorem op_inA (K : PySem.W.Frag) (hK : X.K = K := by rfl) : OpR X (compareOp .In) (rInA K) := by subst hK; exact op_inT.or op_in_seq
def rNotInA (K : PySem.W.Frag) : R2 := fun x y H Q => (∃ c l, x = tx [c] ∧ y = tx l ∧ Q (.bl (!decide (c ∈ l))) H) ∨ rIn K true x y H Q
theorem op_notinA (K : PySem.W.Frag) (hK : X.K = K := by rfl) : OpR X (compareOp .NotIn) (rNotInA K) := by subst hK; exact op_notinT.or op_notIn_seq
def rIsA : R2 := fun x y H Q => litV y = true ∧ Q (.bl (decide (x = y))) H
theorem op_isA : OpR X (compareOp .Is) rIsA := op_isB
def rIsNotA : R2 := fun x y H Q => litV y = true ∧ Q (.bl (!decide (x = y))) H
theorem op_isnotA : OpR X (compareOp .IsNot) rIsNotA := op_isNotB
def rIxA (K : PySem.W.Frag) : R2 := fun x y H Q => rIxT' x y H Q ∨ rIxL K x y H Q ∨ rIxT K x y H Q
theorem ix_A (K : PySem.W.Frag) (hK : X.K = K := by rfl) : IxR X (rIxA K) := by subst hK; exact ix_T.or (ix_list.or ix_tup)
def rSlA (K : PySem.W.Frag) : V → Option Int → Option Int → Hp → VK → Prop := fun x lo hi H Q => rSlS x lo hi H Q ∨ rSlL K x lo hi H Q
theorem sl_A (K : PySem.W.Frag) (hK : X.K = K := by rfl) : SlR X (rSlA K) := by subst hK; exact sl_T.or sl_list
def rLen (K : PySem.W.Frag) : List V → Hp → VK → Prop := fun xs H Q => (∃ a, xs = [tx a] ∧ a.length ≤ sizeLine ∧ Q (.int a.length) H) ∨ ∃ p ys, xs = [.ref p] ∧ (SqL K H p ys ∨ SqT K H p ys) ∧ Q (.int ys.length) H
theorem call_lenA (K : PySem.W.Frag) (hK : X.K = K := by rfl) : CallR X (.builtin "len") (rLen K) := by subst hK; exact call_lenT.or call_len_seq
def rAll (K : PySem.W.Frag) : List V → Hp → VK → Prop := fun xs H Q => ∃ (a : Addr) (bs : List Bool), xs = [.ref a] ∧ SqL K H a (bs.map V.bl) ∧ Q (.bl (bs.all id)) H
theorem call_allA (K : PySem.W.Frag) (hc : X.calm = true) (hK : X.K = K := by rfl) : CallR X (.builtin "all") (rAll K) := by subst hK; exact fun pins s σ H xs us Q I r h => call_allL pins s σ H xs us Q I r ⟨hc, h⟩
def rIsi (K : PySem.W.Frag) : List V → Hp → VK → Prop := fun xs H Q => ∃ x T t b, xs = [x, .ty T] ∧ TyOf K H x t ∧ PySem.W.kitOne K t (.type T) = some b ∧ Q (.bl b) H
theorem call_isiA (K : PySem.W.Frag) (hK : X.K = K := by rfl) : CallR X (.builtin "isinstance") (rIsi K) := by subst hK; exact call_isi
def rMax : List V → Hp → VK → Prop := fun xs H Q => ∃ i j, xs = [.int i, .int j] ∧ Q (.int (if j > i then j else i)) H
def rMin : List V → Hp → VK → Prop := fun xs H Q => ∃ i j, xs = [.int i, .int j] ∧ Q (.int (if j < i then j else i)) H
theorem call_maxA (hc : X.calm = true) : CallR X (.builtin "max") rMax := call_max2 hc
theorem call_minA (hc : X.calm = true) : CallR X (.builtin "min") rMin := call_min2 hc
def rInt : List V → Hp → VK → Prop := fun xs H Q => (∃ i, xs = [.int i] ∧ Q (.int i) H) ∨ ∃ k, xs = [.bl k] ∧ Q (.int (if k then 1 else 0)) H
theorem call_intA : CallR X (.type "int") rInt := call_int1
def tTru (K : PySem.W.Frag) (ta : TE) : TT := fun σ H Q => ta σ H fun x H' => ∃ k, TruV K x H' k ∧ Q k H'
theorem pt_tru (K : PySem.W.Frag) {a : Expr} {ta : TE} (ha : PE X a ta) (he : ∀ whole, isTrue a X.env whole = (do let v ← whole; standAt a.pos; holding [v] (truthy v)) := by intro _; rfl) (hK : X.K = K := by rfl) : PT X a (tTru K ta) := by subst hK; exact pt_truth ha he

theorem pi_listK (K : PySem.W.Frag) {tg l : Expr} {tl : TE} (hl : PE X l tl) (hK : X.K = K := by rfl) : PI X tg l (iList K tl) := by subst hK; exact pi_list hl
theorem pg_tupK (K : PySem.W.Frag) {es : List Expr} {k : Nat} {t : TGs} {n : Nat} {pos : Pos} (hc : X.calm = true) (h : PGs X es t)
    (hn : (assignEach es X.env).length = n := by rfl) (hst : (assignEach es X.env).findIdx? (·.1) = none := by rfl) (hK : X.K = K := by rfl) : PG X (.Tuple es k pos) (gTup K n t) := by subst hK; exact pg_tup hc h hn hst
theorem pe_bm0K (K : PySem.W.Frag) {o : Expr} {to : TE} {name : Str} {apos cpos : Pos} {T id : String} {r : V → List V → Hp → VK → Prop} (pa : PlainAttrs T) (slot : Slot T name id) (hty : typeOf (.builtin id) = pure (.type "method_descriptor")) (hm : MtR X id r) (ho : PE X o to)
    (hbase : attributeBase o name X.env (eval o X.env) = eval o X.env := by rfl) (hline : (apos.endLine == cpos.line) = true := by rfl) (hK : X.K = K := by rfl) : PE X (.Call (.Attribute o name apos) [] [] cpos) (tBM0 K T r to) := by subst hK; exact pe_bm0 pa slot hty hm ho hbase hline
theorem pe_bmK (K : PySem.W.Frag) {o e : Expr} {es : List Expr} {to : TE} {t : TA} {name : Str} {apos cpos : Pos} {T id : String} {r : V → List V → Hp → VK → Prop} (pa : PlainAttrs T) (slot : Slot T name id) (hty : typeOf (.builtin id) = pure (.type "method_descriptor")) (hm : MtR X id r) (ho : PE X o to) (ha : PA X (e :: es) t)
    (hbase : attributeBase o name X.env (eval o X.env) = eval o X.env := by rfl)
    (hfew : ((backTo cpos (starEach (e :: es) X.env)).all (fun x => !x.1) && (backToKw cpos (keywordEach [] X.env)).all (fun x => x.1.isSome)
      && decide ((e :: es).length + ([] : List Keyword).length + (if ([] : List Keyword).isEmpty then 0 else 1) < 30)) = true := by rfl)
    (hline : (apos.endLine == cpos.line) = true := by rfl) (hs : starEach (e :: es) X.env = (false, eval e X.env) :: starEach es X.env := by rfl) (hplain : (backTo cpos (starEach es X.env)).any (·.1) = false := by rfl) (hK : X.K = K := by rfl) :
    PE X (.Call (.Attribute o name apos) (e :: es) [] cpos) (tBM K T r to t) := by subst hK; exact pe_bm pa slot hty hm ho ha hbase hfew hline hs hplain

/-! ## names of the module -/
theorem pe_gl {x : Str} {v : V} {pos : Pos} (h : ∃ u, X.mg x = some u ∧ RelV v u) (hg : Gl X x := by rfl) (hd : (x == ("__debug__" : Str)) = false := by decide) : PE X (.Name x pos) (tC v) := by
  obtain ⟨u, hm, r⟩ := h
  exact pe_glob hg hm r hd
theorem pe_ty {x : Str} {T : String} {pos : Pos} (hm : X.mg x = none) (hv : bootBuiltins x = some (.type T)) (hg : Gl X x := by rfl) (hn : x ≠ "__name__" := by decide) (hd : (x == ("__debug__" : Str)) = false := by decide) : PE X (.Name x pos) (tC (.ty T)) :=
  pe_bltn hg hm hv rfl hn hd

/-- a def of the text, by its promise -/
structure FnU (P : Program) (w : World) (K : PySem.W.Frag) (mg : Str → Option Value) (base : Heap) (k : Nat) (x : Str) (ps : List Str) (sp : Sp) : Prop where
  ex : ∃ f fd, FnOk P w K mg base CX0 k f fd ps sp ∧ mg x = some (.ref f) ∧ PySem.W.keepIn K (.ref f) = true ∧ Binds K fd ps []
theorem FnU.mono {P : Program} {w : World} {K : PySem.W.Frag} {mg : Str → Option Value} {base : Heap} {j k : Nat} {x : Str} {ps : List Str} {sp : Sp} (U : FnU P w K mg base j x ps sp) (h : j ≤ k) : FnU P w K mg base k x ps sp := by
  obtain ⟨f, fd, F, a, b, c⟩ := U.ex
  exact ⟨f, fd, F.mono h, a, b, c⟩
theorem pe_fn {k : Nat} {x : Str} {ps : List Str} {sp : Sp} {e : Expr} {es : List Expr} {t : TA} {p pos : Pos} (U : FnU X.prog X.w X.K X.mg X.base k x ps sp) (hr : Room k X.A) (ha : PA X (e :: es) t) (hg : Gl X x := by rfl)
    (hdb : (x == ("__debug__" : Str)) = false := by decide) (he : starEach (e :: es) X.env = (false, eval e X.env) :: starEach es X.env := by rfl) (hpl : (backTo pos (starEach es X.env)).any (·.1) = false := by rfl) :
    PE X (.Call (.Name x p) (e :: es) [] pos) (tCall sp [] E0 t) := by
  obtain ⟨f, fd, F, hm, hk, hb⟩ := U.ex
  exact pe_call F hr hg hm hk hb .nil pass0 ha hdb he hpl
end

/-! ## steps of a reading -/
section
variable {σ : St} {H : Hp} {Q : VK} {D : Ends} {K : PySem.W.Frag}
theorem s_seq {t u : TS} (h : t { D with nx := u D } σ H) : tSeq t u D σ H := h
theorem s_if {c : TT} {t u : TS} (h : c σ H fun b H1 => if b = true then t D σ H1 else u D σ H1) : tIfS c t u D σ H := h
theorem s_asg {te : TE} {g : TG} (h : te σ H fun x H1 => g x σ H1 D.nx) : tAsg te g D σ H := h
theorem s_aug {i : Nat} {te : TE} {ti : TIp} {x : V} (e : σ[i]? = some (some x)) (h : te σ H fun y H1 => ti x y H1 fun z H2 => D.nx (σ.set i (some z)) H2) : tAug i te ti D σ H := ⟨x, e, h⟩
theorem s_ipI {f : Int → Int → Int} {i j : Int} (h : Q (.int (f i j)) H) : ipI f (.int i) (.int j) H Q := ⟨i, j, rfl, rfl, h⟩
theorem s_ret {te : TE} (h : te σ H D.rt) : tRet te D σ H := h
theorem s_drop {te : TE} (h : te σ H fun _ H1 => D.nx σ H1) : tDrop te D σ H := h
theorem s_next (h : D.nx σ H) : tNext D σ H := h
theorem s_cont (h : D.ct σ H) : tCont D σ H := h
theorem s_break (h : D.bk σ H) : tBreak D σ H := h
theorem s_name {i : Nat} {v : V} {R : St → Hp → Prop} (h : R (σ.set i (some v)) H) : gName i v σ H R := h
theorem s_gnil {R : St → Hp → Prop} (h : R σ H) : gNil [] σ H R := ⟨rfl, h⟩
theorem s_gcons {t : TG} {u : TGs} {v : V} {r : List V} {R : St → Hp → Prop} (h : t v σ H fun σ' H' => u r σ' H' R) : gCons t u (v :: r) σ H R := ⟨v, r, rfl, h⟩
theorem s_gtup {n : Nat} {t : TGs} {a : Addr} {xs : List V} {R : St → Hp → Prop} (hq : SqT K H a xs) (hl : xs.length = n) (h : t xs σ H R) : gTup K n t (.ref a) σ H R := ⟨a, xs, rfl, hq, hl, h⟩
theorem s_gsub {to ti : TE} {t : TSet} {v : V} {R : St → Hp → Prop} (h : to σ H fun o H1 => ti σ H1 fun i H2 => t o i v H2 fun H3 => R σ H3) : gSub to ti t v σ H R := h
theorem s_var {i : Nat} {v : V} (e : σ[i]? = some (some v)) (q : Q v H) : tVar i σ H Q := ⟨v, e, q⟩
theorem s_c {v : V} (q : Q v H) : tC v σ H Q := q
theorem s_op {r : R2} {ta tb : TE} (h : ta σ H fun x H1 => tb σ H1 fun y H2 => r x y H2 Q) : tOp r ta tb σ H Q := h
theorem s_un {r : V → Hp → VK → Prop} {ta : TE} (h : ta σ H fun x H1 => r x H1 Q) : tUn r ta σ H Q := h
theorem s_neg {i : Int} {g : Int → V} (h : Q (g i) H) : rU g (.int i) H Q := ⟨i, rfl, h⟩
theorem s_call {sp : Sp} {dvs : List V} {E : XK} {t : TA} (h : t σ H fun vs H1 => sp (vs ++ dvs) H1 Q E) : tCall sp dvs E t σ H Q := h
theorem s_cons {ta : TE} {tr : TA} {R : List V → Hp → Prop} (h : ta σ H fun x H1 => tr σ H1 fun xs H2 => R (x :: xs) H2) : tCons ta tr σ H R := h
theorem s_nil {R : List V → Hp → Prop} (h : R [] H) : tNil σ H R := h
theorem s_cb {r : List V → Hp → VK → Prop} {t : TA} (h : t σ H fun vs H1 => r vs H1 Q) : tCB r t σ H Q := h
theorem s_lst {t : TA} (h : t σ H fun xs H1 => xs.length ≤ sizeLine ∧ ∀ p, H1 p = none → Q (.ref p) (upd H1 p (.lst xs))) : tLst t σ H Q := h
theorem s_tup {t : TA} (h : t σ H fun xs H1 => xs.length ≤ sizeLine ∧ ∀ p, H1 p = none → Q (.ref p) (upd H1 p (.tup xs))) : tTup t σ H Q := h
theorem s_ifE {t : TT} {ta tb : TE} (h : t σ H fun c H1 => if c = true then ta σ H1 Q else tb σ H1 Q) : tIf t ta tb σ H Q := h
theorem s_and {t u : TT} {R : Bool → Hp → Prop} (h : t σ H fun c H1 => if c = true then u σ H1 R else R false H1) : tAnd t u σ H R := h
theorem s_or {t u : TT} {R : Bool → Hp → Prop} (h : t σ H fun c H1 => if c = true then R true H1 else u σ H1 R) : tOr t u σ H R := h
theorem s_not {t : TT} {R : Bool → Hp → Prop} (h : t σ H fun c H1 => R (!c) H1) : tNot t σ H R := h
theorem s_andV {ta tb : TE} (h : ta σ H fun x H1 => ∃ c, x = .bl c ∧ if c = true then tb σ H1 Q else Q (.bl false) H1) : tAndV ta tb σ H Q := h
theorem s_orV {ta tb : TE} (h : ta σ H fun x H1 => ∃ c, x = .bl c ∧ if c = true then Q (.bl true) H1 else tb σ H1 Q) : tOrV ta tb σ H Q := h
theorem s_notV {ta : TE} (h : ta σ H fun x H1 => ∃ c, x = .bl c ∧ Q (.bl (!c)) H1) : tNotV ta σ H Q := h
theorem s_test {t : TE} {R : Bool → Hp → Prop} (h : t σ H fun x H' => ∃ k, x = .bl k ∧ R k H') : tTest t σ H R := h
theorem s_tru {ta : TE} {R : Bool → Hp → Prop} (h : ta σ H fun x H' => ∃ k, TruV K x H' k ∧ R k H') : tTru K ta σ H R := h
theorem s_chain {r r' : R2} {ta tb tc : TE} (h : ta σ H fun x H1 => tb σ H1 fun y H2 => r x y H2 fun z H3 => ∃ k, z = .bl k ∧ (if k = true then tc σ H3 fun w' H4 => r' y w' H4 Q else Q (.bl false) H3)) : tChain r r' ta tb tc σ H Q := h
theorem s_bl {c : Bool} {R : Bool → Prop} (h : R c) : ∃ k, V.bl c = V.bl k ∧ R k := ⟨c, rfl, h⟩
theorem s_truB {c : Bool} {R : Bool → Prop} (h : R c) : ∃ k, TruV K (.bl c) H k ∧ R k := ⟨c, rfl, h⟩
theorem s_truN {R : Bool → Prop} (h : R false) : ∃ k, TruV K .non H k ∧ R k := ⟨false, rfl, h⟩
theorem s_truL {a : Addr} {xs : List V} {R : Bool → Prop} (hq : SqL K H a xs) (h : R (!xs.isEmpty)) : ∃ k, TruV K (.ref a) H k ∧ R k := ⟨_, .inl ⟨xs, hq, rfl⟩, h⟩
theorem s_addI {i j : Int} (h : Q (.int (i + j)) H) : rPlus (.int i) (.int j) H Q := .inl ⟨i, j, rfl, rfl, h⟩
theorem s_addT {a b : List Nat} (hz : a.length + b.length ≤ sizeLine) (h : Q (tx (a ++ b)) H) : rPlus (tx a) (tx b) H Q := .inr (.inl ⟨a, b, rfl, rfl, hz, h⟩)
theorem s_addL {a b : Addr} {xs ys : List V} (h1 : H a = some (.lst xs)) (h2 : H b = some (.lst ys)) (hz : xs.length + ys.length ≤ sizeLine) (h : ∀ p, H p = none → Q (.ref p) (upd H p (.lst (xs ++ ys)))) : rPlus (.ref a) (.ref b) H Q := .inr (.inr ⟨a, b, xs, ys, rfl, rfl, h1, h2, hz, h⟩)
theorem s_subI {g : Int → Int → V} {i j : Int} (h : Q (g i j) H) : rI0 g (.int i) (.int j) H Q := ⟨i, j, rfl, rfl, h⟩
theorem s_rI {C : Int → Int → Prop} {g : Int → Int → V} {i j : Int} (hc : C i j) (h : Q (g i j) H) : rI C g (.int i) (.int j) H Q := ⟨i, j, rfl, rfl, hc, h⟩
theorem s_mulI {i j : Int} (hc : CMul i j) (h : Q (.int (i * j)) H) : rTimes (.int i) (.int j) H Q := .inl ⟨i, j, rfl, rfl, hc, h⟩
theorem s_rep {a : Addr} {k : Int} {xs : List V} (h1 : H a = some (.lst xs)) (h2 : -(2 ^ 63) ≤ k) (h3 : k < 2 ^ 63) (hz : xs.length * k.toNat ≤ sizeLine) (h : ∀ p, H p = none → Q (.ref p) (upd H p (.lst (List.replicate k.toNat xs).flatten))) : rTimes (.ref a) (.int k) H Q := .inr (.inl ⟨a, k, xs, rfl, rfl, h1, h2, h3, hz, h⟩)
theorem s_mulT {a : List Nat} {k : Int} (h0 : 0 ≤ k) (h1 : k ≤ 1000) (hl : a.length ≤ 1000) (h : Q (tx (List.replicate k.toNat a).flatten) H) : rTimes (tx a) (.int k) H Q := .inr (.inr ⟨a, k, rfl, rfl, h0, h1, hl, h⟩)
theorem s_eqI {i j : Int} (h : Q (.bl (decide (i = j))) H) : rEqA K (.int i) (.int j) H Q := .inl ⟨rfl, by rw [show decide (V.int i = V.int j) = decide (i = j) from by rw [dec_int]; exact (Bool.beq_eq_decide_eq i j)]; exact h⟩
theorem s_eqB {i j : Bool} (h : Q (.bl (decide (i = j))) H) : rEqA K (.bl i) (.bl j) H Q := .inl ⟨rfl, by rw [show decide (V.bl i = V.bl j) = decide (i = j) from by rw [dec_bl]; exact (Bool.beq_eq_decide_eq i j)]; exact h⟩
theorem s_eqT {a b : List Nat} (h : Q (.bl (decide (a = b))) H) : rEqA K (tx a) (tx b) H Q := .inl ⟨rfl, by rw [dec_tx]; exact h⟩
theorem s_neI {i j : Int} (h : Q (.bl (!decide (i = j))) H) : rNeA K (.int i) (.int j) H Q := .inl ⟨rfl, by rw [show decide (V.int i = V.int j) = decide (i = j) from by rw [dec_int]; exact (Bool.beq_eq_decide_eq i j)]; exact h⟩
theorem s_neB {i j : Bool} (h : Q (.bl (!decide (i = j))) H) : rNeA K (.bl i) (.bl j) H Q := .inl ⟨rfl, by rw [show decide (V.bl i = V.bl j) = decide (i = j) from by rw [dec_bl]; exact (Bool.beq_eq_decide_eq i j)]; exact h⟩
theorem s_neT {a b : List Nat} (h : Q (.bl (!decide (a = b))) H) : rNeA K (tx a) (tx b) H Q := .inl ⟨rfl, by rw [dec_tx]; exact h⟩
theorem s_inT {c : Nat} {l : List Nat} (h : Q (.bl (decide (c ∈ l))) H) : rInA K (tx [c]) (tx l) H Q := .inl ⟨c, l, rfl, rfl, h⟩
theorem s_notinT {c : Nat} {l : List Nat} (h : Q (.bl (!decide (c ∈ l))) H) : rNotInA K (tx [c]) (tx l) H Q := .inl ⟨c, l, rfl, rfl, h⟩
theorem s_notinS {x : V} {a : Addr} {xs : List V} (h1 : SqL K H a xs ∨ SqT K H a xs) (f1 : flatV x = true) (f2 : xs.all flatV = true) (h : Q (.bl (!inV x xs)) H) : rNotInA K x (.ref a) H Q := .inr ⟨a, xs, rfl, h1, f1, f2, h⟩
theorem s_is {x y : V} (hl : litV y = true) (h : Q (.bl (decide (x = y))) H) : rIsA x y H Q := ⟨hl, h⟩
theorem s_ixT {a : List Nat} {i : Int} {c : Nat} (hz : a.length ≤ sizeLine) (he : atI a i = some c) (h : Q (tx [c]) H) : rIxA K (tx a) (.int i) H Q := .inl ⟨a, i, c, rfl, rfl, hz, he, h⟩
theorem s_ixL {p : Addr} {xs : List V} {i : Int} {v : V} (hq : SqL K H p xs) (he : atI xs i = some v) (h : Q v H) : rIxA K (.ref p) (.int i) H Q := .inr (.inl ⟨p, xs, i, v, rfl, rfl, hq, he, h⟩)
theorem s_sl {r : V → Option Int → Option Int → Hp → VK → Prop} {te : TE} {tl th : TO} (h : te σ H fun x H1 => tl σ H1 fun l H2 => th σ H2 fun u H3 => r x l u H3 Q) : tSl r te tl th σ H Q := h
theorem s_nopart {R : Option Int → Hp → Prop} (h : R none H) : tNoPart σ H R := h
theorem s_part {t : TE} {R : Option Int → Hp → Prop} (h : t σ H fun x H1 => ∃ i, x = .int i ∧ R (some i) H1) : tPart t σ H R := h
theorem s_partI {i : Int} {R : Int → Prop} (h : R i) : ∃ j, V.int i = V.int j ∧ R j := ⟨i, rfl, h⟩
theorem s_slT {a : List Nat} {lo hi : Option Int} (hz : a.length ≤ sizeLine) (h : Q (tx (cutL a lo hi)) H) : rSlA K (tx a) lo hi H Q := .inl ⟨a, rfl, hz, h⟩
theorem s_lenT {a : List Nat} (hz : a.length ≤ sizeLine) (h : Q (.int a.length) H) : rLen K [tx a] H Q := .inl ⟨a, rfl, hz, h⟩
theorem s_lenL {p : Addr} {ys : List V} (hq : SqL K H p ys ∨ SqT K H p ys) (h : Q (.int ys.length) H) : rLen K [.ref p] H Q := .inr ⟨p, ys, rfl, hq, h⟩
theorem s_all {a : Addr} {bs : List Bool} (hq : SqL K H a (bs.map V.bl)) (h : Q (.bl (bs.all id)) H) : rAll K [.ref a] H Q := ⟨a, bs, rfl, hq, h⟩
theorem s_isi {x : V} {T : String} {t : Value} {b : Bool} (ty : TyOf K H x t) (e : PySem.W.kitOne K t (.type T) = some b) (h : Q (.bl b) H) : rIsi K [x, .ty T] H Q := ⟨x, T, t, b, rfl, ty, e, h⟩
theorem s_max {i j : Int} (h : Q (.int (if j > i then j else i)) H) : rMax [.int i, .int j] H Q := ⟨i, j, rfl, h⟩
theorem s_min {i j : Int} (h : Q (.int (if j < i then j else i)) H) : rMin [.int i, .int j] H Q := ⟨i, j, rfl, h⟩
theorem s_intB {k : Bool} (h : Q (.int (if k then 1 else 0)) H) : rInt [.bl k] H Q := .inr ⟨k, rfl, h⟩
theorem s_intI {k : Int} (h : Q (.int k) H) : rInt [.int k] H Q := .inl ⟨k, rfl, h⟩
theorem s_bm {T : String} {r : V → List V → Hp → VK → Prop} {to : TE} {t : TA} (h : to σ H fun x H1 => tyV K T x H1 ∧ t σ H1 fun xs H2 => r x xs H2 Q) : tBM K T r to t σ H Q := h
theorem s_bm0 {T : String} {r : V → List V → Hp → VK → Prop} {to : TE} (h : to σ H fun x H1 => tyV K T x H1 ∧ r x [] H1 Q) : tBM0 K T r to σ H Q := h
end

/-! ## loops -/
section
variable {g : TG} {tb : TS} {D : Ends} {σ : St} {H : Hp}
/-- what tFor wants of an iterator J -/
def ForW (J : It) (g : TG) (tb : TS) (D : Ends) (σ : St) (H : Hp) : Prop := ∃ W : Nat → Nat → St → Hp → Prop, (∃ m, W 0 m σ H) ∧ ∀ i m σ H, W i m σ H →
  (J.stop i H ∧ D.nx σ H) ∨ (J.go i H ∧ ∃ N : St → Hp → Prop, (∀ σ' H', N σ' H' → ∃ m', m' < m ∧ W (i + 1) m' σ' H') ∧ ∀ x H', J.yld i H x H' → g x σ H' fun σ2 H2 => tb { D with nx := N, ct := N, bk := D.nx } σ2 H2)
theorem s_for {wi : TI} (h : wi σ H fun J H1 => ForW J g tb D σ H1) : tFor wi g tb D σ H := h
theorem s_irng1 {ta : TA} {R : It → Hp → Prop} (h : ta σ H fun vs H1 => ∃ j : Int, vs = [.int j] ∧ -(2 ^ 62) ≤ j ∧ j < 2 ^ 62 ∧ R (Itr 0 j.toNat) H1) : iRng1 ta σ H R := h
theorem s_irng2 {ta : TA} {R : It → Hp → Prop} (h : ta σ H fun vs H1 => ∃ i j : Int, vs = [.int i, .int j] ∧ (-(2 ^ 62) ≤ i ∧ i < 2 ^ 62 ∧ -(2 ^ 62) ≤ j ∧ j < 2 ^ 62) ∧ R (Itr i (j - i).toNat) H1) : iRng2 ta σ H R := h
theorem s_ilist {K : PySem.W.Frag} {tl : TE} {R : It → Hp → Prop} (h : tl σ H fun x H1 => ∃ a, x = .ref a ∧ (∃ xs, SqL K H1 a xs) ∧ R (Itl K a) H1) : iList K tl σ H R := h
theorem s_istr {tl : TE} {R : It → Hp → Prop} (h : tl σ H fun x H1 => ∃ z, x = .str z ∧ R (Its z) H1) : iStr tl σ H R := h
theorem s_istrT {a : List Nat} {R : Str → Prop} (h : R ⟨a.toArray⟩) : ∃ z, tx a = .str z ∧ R z := ⟨_, rfl, h⟩
theorem s_ienS {ta : TA} {R : It → Hp → Prop} (h : ta σ H fun vs H1 => ∃ z, vs = [.str z] ∧ R (IteS z) H1) : iEnS ta σ H R := h
theorem s_ienST {a : List Nat} {R : Str → Prop} (h : R ⟨a.toArray⟩) : ∃ z, [tx a] = [.str z] ∧ R z := ⟨_, rfl, h⟩
theorem s_ienL {K : PySem.W.Frag} {ta : TA} {R : It → Hp → Prop} (h : ta σ H fun vs H1 => ∃ a, vs = [.ref a] ∧ (∃ xs, SqL K H1 a xs) ∧ R (IteL K a) H1) : iEnL K ta σ H R := h
theorem for_rng {lo : Int} {n : Nat} (Pv : Nat → St → Hp → Prop) (h0 : Pv 0 σ H)
    (hs : ∀ i σ H, i < n → Pv i σ H → g (.int (lo + i)) σ H fun σ2 H2 => tb { D with nx := Pv (i + 1), ct := Pv (i + 1), bk := D.nx } σ2 H2) (hd : ∀ σ H, Pv n σ H → D.nx σ H) : ForW (Itr lo n) g tb D σ H := for_range Pv h0 hs hd
theorem for_lst {K : PySem.W.Frag} {a : Addr} {xs : List V} (Pv : Nat → St → Hp → Prop) (h0 : Pv 0 σ H) (hl : ∀ i σ H, i ≤ xs.length → Pv i σ H → SqL K H a xs)
    (hs : ∀ i x σ H, xs[i]? = some x → Pv i σ H → g x σ H fun σ2 H2 => tb { D with nx := Pv (i + 1), ct := Pv (i + 1), bk := D.nx } σ2 H2) (hd : ∀ σ H, Pv xs.length σ H → D.nx σ H) : ForW (Itl K a) g tb D σ H := for_list Pv h0 hl hs hd
theorem for_of {J : It} {n : Nat} (Pv : Nat → St → Hp → Prop) (h0 : Pv 0 σ H) (hgo : ∀ i σ H, i < n → Pv i σ H → J.go i H) (hst : ∀ σ H, Pv n σ H → J.stop n H)
    (hs : ∀ i x σ H H', i < n → Pv i σ H → J.yld i H x H' → g x σ H' fun σ2 H2 => tb { D with nx := Pv (i + 1), ct := Pv (i + 1), bk := D.nx } σ2 H2) (hd : ∀ σ H, Pv n σ H → D.nx σ H) : ForW J g tb D σ H := by
  refine ⟨fun i m σ H => m = n - i ∧ i ≤ n ∧ Pv i σ H, ⟨n, by simp, Nat.zero_le _, h0⟩, ?_⟩
  rintro i m σ H ⟨rfl, hi, p⟩
  by_cases hlt : i < n
  · exact .inr ⟨hgo i σ H hlt p, Pv (i + 1), fun σ' H' p' => ⟨n - (i + 1), by omega, rfl, hlt, p'⟩, fun x H' y => hs i x σ H H' hlt p y⟩
  · have e : i = n := by omega
    subst e
    exact .inl ⟨hst σ H p, hd σ H p⟩
theorem for_enS {a : List Nat} (Pv : Nat → St → Hp → Prop) (h0 : Pv 0 σ H)
    (hs : ∀ i c σ H T, a[i]? = some c → H T = none → Pv i σ H → g (.ref T) σ (upd H T (.tup [.int i, tx [c]])) fun σ2 H2 => tb { D with nx := Pv (i + 1), ct := Pv (i + 1), bk := D.nx } σ2 H2) (hd : ∀ σ H, Pv a.length σ H → D.nx σ H) : ForW (IteS ⟨a.toArray⟩) g tb D σ H := by
  refine for_of (n := a.length) Pv h0 (fun i σ H hi _ => by simpa [IteS] using hi) (fun σ H _ => by simp [IteS]) (fun i x σ H H' hi p y => ?_) hd
  obtain ⟨T, c, hT, e, rfl, rfl⟩ := y
  exact hs i c σ H T (by simpa using e) hT p
/-- a comprehension's turns: what was made so far stands at D -/
def CW (D : Addr) (n : Nat) (Pv : Nat → List V → Hp → Prop) (i m : Nat) (H : Hp) : Prop := m = n - i ∧ i ≤ n ∧ ∃ ys, H D = some (.lst ys) ∧ ys.length ≤ i ∧ Pv i ys H
def CompW (J : It) (own : List Str) (sel : List Nat) (σ : St) (g : TG) (tt : TT) (te : TE) (Q : VK) (H1 : Hp) : Prop := ∀ D, H1 D = none →
  ∃ W : Nat → Nat → Hp → Prop, (∃ m, W 0 m (upd H1 D (.lst []))) ∧ ∀ i m H2, W i m H2 →
    (J.stop i H2 ∧ Q (.ref D) H2) ∨ (J.go i H2 ∧ ∀ x H3, J.yld i H2 x H3 → g x (inSt own sel σ) H3 fun σ4 H4 => tt σ4 H4 fun b H5 =>
      if b = true then te σ4 H5 fun v H6 => ∃ ys, H6 D = some (.lst ys) ∧ ys.length < sizeLine ∧ ∃ m', m' < m ∧ W (i + 1) m' (upd H6 D (.lst (ys ++ [v])))
      else ∃ m', m' < m ∧ W (i + 1) m' H5)
theorem s_comp {own : List Str} {sel : List Nat} {wi : TI} {tt : TT} {te : TE} {Q : VK} (h : wi σ H fun J H1 => CompW J own sel σ g tt te Q H1) : tComp own sel wi g tt te σ H Q := h
theorem comp_of {J : It} {n : Nat} {own : List Str} {sel : List Nat} {tt : TT} {te : TE} {Q : VK} {H1 : Hp} (Pv : Addr → Nat → List V → Hp → Prop) (h0 : ∀ D, H1 D = none → Pv D 0 [] (upd H1 D (.lst [])))
    (hgo : ∀ D i ys H, H1 D = none → i < n → H D = some (.lst ys) → Pv D i ys H → J.go i H) (hst : ∀ D ys H, H1 D = none → H D = some (.lst ys) → ys.length ≤ n → Pv D n ys H → J.stop n H ∧ Q (.ref D) H)
    (hs : ∀ D i ys H x H3, H1 D = none → i < n → H D = some (.lst ys) → ys.length ≤ i → Pv D i ys H → J.yld i H x H3 → g x (inSt own sel σ) H3 fun σ4 H4 => tt σ4 H4 fun b H5 =>
      if b = true then te σ4 H5 fun v H6 => ∃ ys, H6 D = some (.lst ys) ∧ ys.length < sizeLine ∧ ∃ m', m' < n - i ∧ CW D n (Pv D) (i + 1) m' (upd H6 D (.lst (ys ++ [v])))
      else ∃ m', m' < n - i ∧ CW D n (Pv D) (i + 1) m' H5) : CompW J own sel σ g tt te Q H1 := by
  intro D hD
  refine ⟨CW D n (Pv D), ⟨n, by simp, Nat.zero_le _, [], upd_same, Nat.le_refl _, h0 D hD⟩, ?_⟩
  rintro i m H2 ⟨rfl, hi, ys, hy, hl, p⟩
  by_cases hlt : i < n
  · exact .inr ⟨hgo D i ys H2 hD hlt hy p, fun x H3 y => hs D i ys H2 x H3 hD hlt hy hl p y⟩
  · have e : i = n := by omega
    subst e
    exact .inl (hst D ys H2 hD hy hl p)
theorem comp_next {D : Addr} {n i : Nat} {Pv : Nat → List V → Hp → Prop} {ys : List V} {v : V} {H : Hp} (hi : i < n) (hn : n ≤ sizeLine) (hD : H D = some (.lst ys)) (hl : ys.length ≤ i) (p : Pv (i + 1) (ys ++ [v]) (upd H D (.lst (ys ++ [v])))) :
    ∃ ys, H D = some (.lst ys) ∧ ys.length < sizeLine ∧ ∃ m', m' < n - i ∧ CW D n Pv (i + 1) m' (upd H D (.lst (ys ++ [v]))) :=
  ⟨ys, hD, by omega, n - (i + 1), by omega, rfl, hi, ys ++ [v], upd_same, by simp; omega, p⟩
theorem s_yes {R : Bool → Hp → Prop} (h : R true H) : tYes σ H R := h
end

/-! ## a def's facts -/
theorem small {n : Nat} (h : n ≤ 1000) : n ≤ sizeLine := Nat.le_of_lt (small1000 h)
theorem same_new {H : Hp} {p : Addr} (h : H p = none) (o : HO) : Same H (upd H p o) := fun b u q => by rw [upd_ne (ne_of_none q h)]; exact q
/-- all that was tracked but p -/
def SameBut1 (p : Addr) (H H' : Hp) : Prop := ∀ b o, H b = some o → b ≠ p → H' b = some o
theorem SameBut1.refl (p : Addr) (H : Hp) : SameBut1 p H H := fun _ _ h _ => h
theorem SameBut1.trans {p : Addr} {H H1 H2 : Hp} (a : SameBut1 p H H1) (b : SameBut1 p H1 H2) : SameBut1 p H H2 := fun c o h n => b c o (a c o h n) n
theorem SameBut1.of {p : Addr} {H H' : Hp} (a : Same H H') : SameBut1 p H H' := fun c o h _ => a c o h
theorem SameBut1.upd {p : Addr} {H : Hp} {o : HO} : SameBut1 p H (upd H p o) := fun c u h n => by rw [upd_ne n]; exact h
end L2

namespace L2
open PySem PySem.Spec PyProof.Rows
/-! ## scopes of blocks, checked by the kernel -/
def compOkB (osc : Scope) (N : List Str) (own : List Str) (sel : List Nat) (scope : Scope) : Bool :=
  (scope.kind == .function) && scope.names.all (fun y => y.2 != .cell) && scope.names.all (fun y => y.2 != .local || scope.names.lookup y.1 == some .local) &&
  scope.names.all (fun y => y.2 != .free || osc.names.lookup y.1 == some .cell || osc.names.lookup y.1 == some .free) &&
  sel.all (fun j => decide (j < N.length) && scope.names.lookup (N.getD j Str.empty) == some .free && (osc.names.lookup (N.getD j Str.empty) == some .cell || osc.names.lookup (N.getD j Str.empty) == some .free))
theorem compOk_of {osc : Scope} {N : List Str} {own : List Str} {sel : List Nat} {scope : Scope} (h : compOkB osc N own sel scope = true) : CompOk osc N own sel scope := by
  unfold compOkB at h
  simp only [Bool.and_eq_true, List.all_eq_true] at h
  obtain ⟨⟨⟨⟨h1, h2⟩, h3⟩, h4⟩, h5⟩ := h
  refine ⟨by simpa using h1, fun y hy => by simpa using h2 y hy, fun y hy e => ?_, fun y hy e => ?_, fun j hj => ?_⟩
  · have := h3 y hy
    simp only [Bool.or_eq_true, bne_iff_ne, beq_iff_eq] at this
    rcases this with q | q
    · exact absurd e q
    · exact q
  · have := h4 y hy
    simp only [Bool.or_eq_true, bne_iff_ne, beq_iff_eq] at this
    rcases this with (q | q) | q
    · exact absurd e q
    · exact .inl q
    · exact .inr q
  · have := h5 j hj
    simp only [Bool.or_eq_true, beq_iff_eq, decide_eq_true_eq] at this
    exact ⟨this.1.1, this.1.2, this.2⟩

/-- a def that stands at the top -/
structure DefAt (K : PySem.W.Frag) (mg : Str → Option Value) (x : Str) (st : Stmt) (ps : List Str) (f : Addr) (fd : FuncData) : Prop where
  F : Fun K x x st f fd
  m : mg x = some (.ref f)
  b : Binds K fd ps []
theorem DefAt.fnU {P : Program} {w : World} {K : PySem.W.Frag} {mg : Str → Option Value} {base : Heap} {x : Str} {st : Stmt} {ps : List Str} {f : Addr} {fd : FuncData} {k : Nat} {sp : Sp} (d : DefAt K mg x st ps f fd) (ok : FnOk P w K mg base CX0 k f fd ps sp) : FnU P w K mg base k x ps sp :=
  ⟨f, fd, ok, d.m, d.F.kp, d.b⟩

/-! ## the pool of draws -/
def PoolAt (H : Hp) (p : Addr) (n : Nat) : Prop := ∃ a b c : Int, H p = some (.lst [.int a, .int b, .int c]) ∧ 0 ≤ c ∧ c ≤ n
theorem PoolAt.mono {H : Hp} {p : Addr} {n m : Nat} (h : PoolAt H p n) (hm : n ≤ m) : PoolAt H p m := by
  obtain ⟨a, b, c, e, h1, h2⟩ := h
  exact ⟨a, b, c, e, h1, by omega⟩
theorem PoolAt.same {H H' : Hp} {p : Addr} {n : Nat} (h : PoolAt H p n) (s : Same H H') : PoolAt H' p n := by
  obtain ⟨a, b, c, e, h1, h2⟩ := h
  exact ⟨a, b, c, s _ _ e, h1, h2⟩
theorem PoolAt.ne {H : Hp} {p q : Addr} {n : Nat} (h : PoolAt H p n) (hq : H q = none) : q ≠ p := by
  obtain ⟨a, b, c, e, _⟩ := h
  exact (ne_of_none e hq).symm
def spTake : Sp := fun vs H Q _ => ∃ p n m, vs = [.ref p, .int m] ∧ PoolAt H p n ∧ n ≤ 1000000 ∧ 0 < m ∧ m ≤ 1000000 ∧ ∀ r H', 0 ≤ r → r < m → PoolAt H' p (n + 1) → SameBut1 p H H' → Q (.int r) H'
def spPool (K : PySem.W.Frag) : Sp := fun vs H Q _ => ∃ (a : Addr) (ns : List Int) (k : Int), vs = [.ref a, .int k] ∧ SqL K H a (ns.map V.int) ∧ ns.length ≤ 63 ∧ 0 ≤ k ∧ k ≤ 63 ∧ ∀ p H', H p = none → Same H H' → PoolAt H' p 4599 → Q (.ref p) H'
theorem atI_0 {α : Type} (x : α) (r : List α) : atI (x :: r) 0 = some x := by simp [atI, ixN]
theorem s_setL {p : Addr} {xs : List V} {k : Int} {j : Nat} {v : V} {H : Hp} {R : Hp → Prop} (h : H p = some (.lst xs)) (e : ixN xs.length k = some j) (q : R (upd H p (.lst (xs.set j v)))) : rSetL (.ref p) (.int k) v H R := ⟨p, xs, k, j, rfl, rfl, h, e, q⟩
/-- while, by a word and a measure -/
def WN (Pv : St → Hp → Prop) (μ : St → Hp → Nat) (m : Nat) : St → Hp → Prop := fun σ' H' => Pv σ' H' ∧ μ σ' H' < m
theorem while_of {c : TT} {tb : TS} {D : Ends} {σ : St} {H : Hp} (Pv : St → Hp → Prop) (μ : St → Hp → Nat) (h0 : Pv σ H)
    (hs : ∀ σ H, Pv σ H → c σ H fun b H1 => if b = true then ∃ N : St → Hp → Prop, (∀ σ' H', N σ' H' → ∃ m', m' < μ σ H ∧ (m' = μ σ' H' ∧ Pv σ' H')) ∧ tb { D with nx := N, ct := N, bk := D.nx } σ H1 else D.nx σ H1) : tWhile c tb D σ H :=
  ⟨fun m σ H => m = μ σ H ∧ Pv σ H, ⟨_, rfl, h0⟩, fun m σ H ⟨e, p⟩ => by subst e; exact hs σ H p⟩
theorem wh_body {tb : TS} {D : Ends} {σ : St} {H1 : Hp} {Pv : St → Hp → Prop} {μ : St → Hp → Nat} {m : Nat} (h : tb { D with nx := WN Pv μ m, ct := WN Pv μ m, bk := D.nx } σ H1) :
    ∃ N : St → Hp → Prop, (∀ σ' H', N σ' H' → ∃ m', m' < m ∧ (m' = μ σ' H' ∧ Pv σ' H')) ∧ tb { D with nx := N, ct := N, bk := D.nx } σ H1 :=
  ⟨WN Pv μ m, fun σ' H' ⟨p, l⟩ => ⟨_, l, rfl, p⟩, h⟩
theorem or_tests {t u : TT} {σ : St} {H : Hp} {R : Bool → Hp → Prop} {c d : Bool} (ht : ∀ R : Bool → Hp → Prop, R c H → t σ H R) (hu : ∀ R : Bool → Hp → Prop, R d H → u σ H R) (h : R (c || d) H) : tOr t u σ H R := by
  refine ht _ ?_
  cases c with
  | true => rw [if_pos rfl]; exact h
  | false => rw [if_neg Bool.false_ne_true]; exact hu _ h
theorem and_tests {t u : TT} {σ : St} {H : Hp} {R : Bool → Hp → Prop} {c d : Bool} (ht : ∀ R : Bool → Hp → Prop, R c H → t σ H R) (hu : ∀ R : Bool → Hp → Prop, R d H → u σ H R) (h : R (c && d) H) : tAnd t u σ H R := by
  refine ht _ ?_
  cases c with
  | true => rw [if_pos rfl]; exact hu _ h
  | false => rw [if_neg Bool.false_ne_true]; exact h
/-! ## a written tuple of the module -/
theorem rel_of_abs {u : Value} {x : V} (h : absV u = some x) : RelV x u := by
  cases u <;> first
    | (cases h; rfl)
    | (cases h; exact ⟨_, rfl⟩)
    | (exact absurd h (by intro z; cases z))
def tupIs (its : Array Value) (xs : List V) : Bool := decide (its.toList.map absV = xs.map some)
theorem vals_of_abs : ∀ {xs : List V} {us : List Value}, us.map absV = xs.map some → Vals xs us
  | [], [], _ => .nil
  | x :: xs, u :: us, h => by
    rw [List.map_cons, List.map_cons] at h
    injection h with h1 h2
    exact .cons (rel_of_abs h1) (vals_of_abs h2)
  | [], _ :: _, h => by cases h
  | _ :: _, [], h => by cases h
theorem tupIs_vals {its : Array Value} {xs : List V} (h : tupIs its xs = true) : Vals xs its.toList := vals_of_abs (of_decide_eq_true h)
theorem tupIs_size {its : Array Value} {xs : List V} (h : tupIs its xs = true) (hx : xs.length ≤ 1000) : its.size ≤ sizeLine := by
  have e := (tupIs_vals h).length
  have e2 : its.toList.length = its.size := by simp
  exact Nat.le_of_lt (small1000 (by omega))
theorem s_isnot {x y : V} {H : Hp} {Q : VK} (hl : litV y = true) (h : Q (.bl (!decide (x = y))) H) : rIsNotA x y H Q := ⟨hl, h⟩
theorem ifd {c A B : Prop} [Decidable c] (h1 : c → A) (h2 : ¬ c → B) : if decide c = true then A else B := by
  by_cases h : c
  · rw [if_pos (decide_eq_true h)]; exact h1 h
  · rw [if_neg (by rw [decide_eq_false h]; exact Bool.false_ne_true)]; exact h2 h
theorem ifn {c A B : Prop} [Decidable c] (h1 : ¬ c → A) (h2 : c → B) : if (!decide c) = true then A else B := by
  by_cases h : c
  · rw [if_neg (by rw [decide_eq_true h]; exact Bool.false_ne_true)]; exact h2 h
  · rw [if_pos (by rw [decide_eq_false h]; rfl)]; exact h1 h
theorem ifp {c : Bool} {A B : Prop} (hc : c = true) (h : A) : if c = true then A else B := by rw [if_pos hc]; exact h
theorem ifq {c : Bool} {A B : Prop} (hc : c = false) (h : B) : if c = true then A else B := by rw [if_neg (by rw [hc]; exact Bool.false_ne_true)]; exact h
theorem atI_ints {ns : List Int} {k : Int} (h0 : 0 ≤ k) (h : k < (ns.length : Int)) : ∃ v : Int, atI (ns.map V.int) k = some (.int v) := by
  have hk : k.toNat < ns.length := by omega
  have ek : k = ((k.toNat : Nat) : Int) := by omega
  have q : atI (ns.map V.int) ((k.toNat : Nat) : Int) = some (.int ns[k.toNat]) := atI_nat (by rw [List.getElem?_map, List.getElem?_eq_getElem hk]; rfl)
  rw [← ek] at q
  exact ⟨_, q⟩
theorem pool_new {H : Hp} {p : Addr} {a b c : Int} {n : Nat} (h0 : 0 ≤ c) (h : c ≤ n) : PoolAt (upd H p (.lst [.int a, .int b, .int c])) p n := ⟨a, b, c, upd_same, h0, h⟩
end L2

namespace BrM
open L2
/-! ## rows of brackets as lists of codes -/
def opn : List Nat := [40, 91, 123, 60]
def cls : List Nat := [41, 93, 125, 62]
def clo (c : Nat) : Nat := if c = 40 then 41 else if c = 91 then 93 else if c = 123 then 125 else 62
def stp (st : List Nat) (c : Nat) : Option (List Nat) :=
  if c ∈ opn then some (clo c :: st) else match st with
    | d :: r => if c = d then some r else none
    | [] => none
def run : List Nat → List Nat → Option (List Nat)
  | st, [] => some st
  | st, c :: r => (stp st c).bind fun s => run s r
theorem run_append (st a b : List Nat) : run st (a ++ b) = (run st a).bind fun s => run s b := by
  induction a generalizing st with
  | nil => rfl
  | cons c r ih =>
    show (stp st c).bind _ = ((stp st c).bind _).bind _
    cases stp st c with
    | none => rfl
    | some s => exact ih s
theorem run_snoc {st a s : List Nat} (h : run st a = some s) (c : Nat) : run st (a ++ [c]) = stp s c := by
  rw [run_append, h]
  show (stp s c).bind (fun s => some s) = stp s c
  cases stp s c <;> rfl
theorem stp_open {c : Nat} (h : c ∈ opn) (st : List Nat) : stp st c = some (clo c :: st) := by unfold stp; rw [if_pos h]
theorem stp_close {d : Nat} (h : d ∉ opn) (r : List Nat) : stp (d :: r) d = some r := by unfold stp; rw [if_neg h]; simp
/-- a right row -/
def Rt (row : List Nat) : Prop := run [] row = some []
/-- the signs of k kinds -/
def kin (k : Int) (c : Nat) : Prop := c ∈ opn.take k.toNat ∨ c ∈ cls.take k.toNat
theorem opn_at {i : Int} {k : Int} (h0 : 0 ≤ i) (h1 : i < k) (hk : k ≤ 4) : ∃ c, atI [40, 91, 123, 60] i = some c ∧ c ∈ opn ∧ c ∈ opn.take k.toNat ∧ atI [41, 93, 125, 62] i = some (clo c) ∧ clo c ∈ cls.take k.toNat ∧ clo c ∉ opn := by
  have : i = 0 ∨ i = 1 ∨ i = 2 ∨ i = 3 := by omega
  have hk' : k = 1 ∨ k = 2 ∨ k = 3 ∨ k = 4 := by omega
  rcases hk' with rfl | rfl | rfl | rfl <;> rcases this with rfl | rfl | rfl | rfl <;> first
    | omega
    | exact ⟨40, by decide⟩
    | exact ⟨91, by decide⟩
    | exact ⟨123, by decide⟩
    | exact ⟨60, by decide⟩
theorem take_use {H : Hp} {p : PySem.Addr} {n : Nat} {m : Int} {Q : VK} {E : XK} (hp : PoolAt H p n) (hn : n ≤ 1000000) (h0 : 0 < m) (h1 : m ≤ 1000000) (q : ∀ r H', 0 ≤ r → r < m → PoolAt H' p (n + 1) → SameBut1 p H H' → Q (.int r) H') :
    spTake ([.ref p, .int m] ++ []) H Q E := ⟨p, n, m, rfl, hp, hn, h0, h1, q⟩
theorem at3 {α : Type} (x y z : α) {i : Int} (h0 : 0 ≤ i) (h1 : i < 3) : ∃ v, atI [x, y, z] i = some v ∧ (v = x ∨ v = y ∨ v = z) := by
  have : i = 0 ∨ i = 1 ∨ i = 2 := by omega
  rcases this with rfl | rfl | rfl
  · exact ⟨x, rfl, .inl rfl⟩
  · exact ⟨y, rfl, .inr (.inl rfl)⟩
  · exact ⟨z, rfl, .inr (.inr rfl)⟩
theorem at4b (x y z u : Bool) {i : Int} (h0 : 0 ≤ i) (h1 : i < 4) : ∃ b, atI [V.bl x, V.bl y, V.bl z, V.bl u] i = some (.bl b) := by
  have : i = 0 ∨ i = 1 ∨ i = 2 ∨ i = 3 := by omega
  rcases this with rfl | rfl | rfl | rfl
  · exact ⟨x, rfl⟩
  · exact ⟨y, rfl⟩
  · exact ⟨z, rfl⟩
  · exact ⟨u, rfl⟩
theorem cut_tail {α : Type} (c : α) (r : List α) : cutL (c :: r) (some 1) none = r := by
  unfold cutL
  have e1 : HT.sIx (c :: r).length 0 (some 1) = 1 := by
    show HT.sIx (r.length + 1) 0 (some ((1 : Nat) : Int)) = 1
    rw [HT.sIx_nat]; omega
  have e2 : HT.sIx (c :: r).length (c :: r).length none = r.length + 1 := rfl
  rw [e1, e2]
  simp
/-- _law_right_row -/
def spRightRow : Sp := fun vs H Q _ => ∃ p n k most, vs = [.ref p, .int k, .int most] ∧ PoolAt H p n ∧ n ≤ 900000 ∧ 1 ≤ k ∧ k ≤ 4 ∧ 0 ≤ most ∧ most ≤ 40 ∧
  ∀ row H', Rt row → (row.length : Int) ≤ most → (∀ c ∈ row, kin k c) → PoolAt H' p (n + 200) → SameBut1 p H H' → Q (tx row) H'
theorem right_use {H : Hp} {p : PySem.Addr} {n : Nat} {k most : Int} {Q : VK} {E : XK} (hp : PoolAt H p n) (hn : n ≤ 900000) (h1 : 1 ≤ k) (h2 : k ≤ 4) (h3 : 0 ≤ most) (h4 : most ≤ 40)
    (q : ∀ row H', Rt row → (row.length : Int) ≤ most → (∀ c ∈ row, kin k c) → PoolAt H' p (n + 200) → SameBut1 p H H' → Q (tx row) H') : spRightRow ([.ref p, .int k, .int most] ++ []) H Q E := ⟨p, n, k, most, rfl, hp, hn, h1, h2, h3, h4, q⟩
end BrM

namespace BrM
open L2
/-! ## heights -/
def sg (c : Nat) : Int := if c ∈ opn then 1 else -1
def hg : List Nat → Int
  | [] => 0
  | c :: r => sg c + hg r
theorem hg_append (a b : List Nat) : hg (a ++ b) = hg a + hg b := by
  induction a with
  | nil => simp [hg]
  | cons c r ih => rw [List.cons_append, hg, hg, ih]; omega
def ht (a : List Nat) (i : Nat) : Int := hg (a.take i)
theorem ht_zero (a : List Nat) : ht a 0 = 0 := rfl
theorem ht_succ {a : List Nat} {i c : Nat} (h : a[i]? = some c) : ht a (i + 1) = ht a i + sg c := by
  unfold ht
  rw [List.take_add_one, h, hg_append]
  show _ = hg _ + sg c
  simp [hg]
theorem stp_len {st s : List Nat} {c : Nat} (h : stp st c = some s) : (s.length : Int) = st.length + sg c := by
  unfold stp at h
  unfold sg
  by_cases hc : c ∈ opn
  · rw [if_pos hc] at h ⊢
    cases h
    simp
  · rw [if_neg hc] at h ⊢
    cases st with
    | nil => cases h
    | cons d r =>
      simp only at h
      split at h
      · cases h; simp; omega
      · cases h
theorem run_len {st a s : List Nat} (h : run st a = some s) : (s.length : Int) = st.length + hg a := by
  induction a generalizing st with
  | nil => cases h; simp [hg]
  | cons c r ih =>
    have h' : (stp st c).bind (fun s => run s r) = some s := h
    cases e : stp st c with
    | none => rw [e] at h'; cases h'
    | some s1 =>
      rw [e] at h'
      have := ih h'
      have := stp_len e
      rw [hg]; omega
theorem run_take {a s : List Nat} (h : run [] a = some s) (i : Nat) : ∃ st, run [] (a.take i) = some st := by
  have e : a = a.take i ++ a.drop i := (List.take_append_drop i a).symm
  rw [e, run_append] at h
  cases q : run [] (a.take i) with
  | none => rw [q] at h; cases h
  | some st => exact ⟨st, rfl⟩
theorem ht_of {a st : List Nat} {i : Nat} (h : run [] (a.take i) = some st) : ht a i = st.length := by
  have := run_len h
  unfold ht; simp at this; omega
theorem ht_nonneg {a : List Nat} (h : Rt a) (i : Nat) : 0 ≤ ht a i := by
  obtain ⟨st, e⟩ := run_take h i
  rw [ht_of e]; omega
theorem ht_end {a : List Nat} (h : Rt a) : ht a a.length = 0 := by
  have : run [] (a.take a.length) = some [] := by rw [List.take_length]; exact h
  rw [ht_of this]; rfl
/-! ## partners -/
/-- the bracket at x is closed by the one at y -/
def Pr (a : List Nat) (x y : Nat) : Prop := x < y ∧ y < a.length ∧ ht a (y + 1) = ht a x ∧ ∀ m, x < m → m ≤ y → ht a x < ht a m
def IsPart (a : List Nat) (xs : List V) : Prop := xs.length = a.length ∧ ∀ k, k < a.length → ∃ p : Nat, xs[k]? = some (.int p) ∧ (Pr a k p ∨ Pr a p k)
theorem pr_open {a : List Nat} {k p c : Nat} (h : Pr a k p) (hc : a[k]? = some c) : c ∈ opn := by
  obtain ⟨h1, h2, h3, h4⟩ := h
  have h5 := h4 (k + 1) (by omega) (by omega)
  rw [ht_succ hc] at h5
  unfold sg at h5
  split at h5
  · assumption
  · omega
/-! ## the stack of places -/
inductive WS (a : List Nat) (i : Nat) : List Nat → List Nat → Prop where
  | nil : WS a i [] []
  | cons {w c : Nat} {ws st : List Nat} : w < i → a[w]? = some c → c ∈ opn → ht a w = ws.length → (∀ m, w < m → m ≤ i → ht a w < ht a m) → WS a i ws st → WS a i (w :: ws) (clo c :: st)
theorem WS.len {a ws st : List Nat} {i : Nat} (h : WS a i ws st) : ws.length = st.length := by
  induction h with
  | nil => rfl
  | cons _ _ _ _ _ _ ih => simp [ih]
theorem WS.lt {a ws st : List Nat} {i : Nat} (h : WS a i ws st) : ∀ w ∈ ws, w < i := by
  induction h with
  | nil => intro w z; cases z
  | cons h1 _ _ _ _ _ ih =>
    intro w z
    rcases List.mem_cons.mp z with rfl | z
    · exact h1
    · exact ih w z
theorem WS.ext {a ws st : List Nat} {i : Nat} (h : WS a i ws st) (hh : (ws.length : Int) ≤ ht a (i + 1)) : WS a (i + 1) ws st := by
  induction h with
  | nil => exact .nil
  | cons h1 h2 h3 h4 h5 _ ih =>
    simp only [List.length_cons] at hh
    refine .cons (by omega) h2 h3 h4 (fun m hm1 hm2 => ?_) (ih (by omega))
    by_cases e : m = i + 1
    · subst e; omega
    · exact h5 m hm1 (by omega)
structure MI (a : List Nat) (i : Nat) (st ws : List Nat) (xs : List V) : Prop where
  rn : run [] (a.take i) = some st
  wk : WS a i ws st
  len : xs.length = a.length
  don : ∀ k, k < i → k ∈ ws ∨ ∃ p : Nat, xs[k]? = some (.int p) ∧ (Pr a k p ∨ Pr a p k)
theorem MI.start (a : List Nat) {xs : List V} (h : xs.length = a.length) : MI a 0 [] [] xs := ⟨rfl, .nil, h, fun k z => by omega⟩
theorem run_next {a st : List Nat} {i c : Nat} (h : run [] (a.take i) = some st) (hc : a[i]? = some c) : run [] (a.take (i + 1)) = stp st c := by
  rw [List.take_add_one, hc]
  exact run_snoc h c
theorem MI.opens {a st ws : List Nat} {xs : List V} {i c : Nat} (m : MI a i st ws xs) (hc : a[i]? = some c) (ho : c ∈ opn) : MI a (i + 1) (clo c :: st) (i :: ws) xs := by
  have e1 : ht a (i + 1) = ht a i + 1 := by rw [ht_succ hc]; unfold sg; rw [if_pos ho]
  have e2 := ht_of m.rn
  have e3 := m.wk.len
  refine ⟨by rw [run_next m.rn hc, stp_open ho], .cons (by omega) hc ho (by omega) (fun k h1 h2 => ?_) (m.wk.ext (by omega)), m.len, fun k hk => ?_⟩
  · have : k = i + 1 := by omega
    subst this; omega
  · by_cases e : k = i
    · subst e; exact .inl List.mem_cons_self
    · rcases m.don k (by omega) with z | z
      · exact .inl (List.mem_cons_of_mem _ z)
      · exact .inr z
theorem MI.top {a st : List Nat} {w : Nat} {ws : List Nat} {xs : List V} {i : Nat} (m : MI a i st (w :: ws) xs) : ∃ c r, a[w]? = some c ∧ c ∈ opn ∧ st = clo c :: r ∧ w < i := by
  have h := m.wk
  cases h with
  | cons h1 h2 h3 h4 h5 h6 => exact ⟨_, _, h2, h3, rfl, h1⟩
theorem MI.closes {a r : List Nat} {w : Nat} {ws : List Nat} {xs : List V} {i c : Nat} (m : MI a i (c :: r) (w :: ws) xs) (hc : a[i]? = some c) (ho : c ∉ opn) : MI a (i + 1) r ws ((xs.set w (.int i)).set i (.int w)) := by
  have e1 : ht a (i + 1) = ht a i - 1 := by rw [ht_succ hc]; unfold sg; rw [if_neg ho]; omega
  have e2 := ht_of m.rn
  have e3 := m.wk.len
  have hn : i < a.length := (List.getElem?_eq_some_iff.mp hc).1
  have h := m.wk
  cases h with
  | cons h1 h2 h3 h4 h5 h6 =>
    simp only [List.length_cons] at e2 e3
    have hp : Pr a w i := ⟨h1, hn, by omega, h5⟩
    have hlen := m.len
    refine ⟨?_, h6.ext (by omega), by simp [m.len], fun k hk => ?_⟩
    · rw [run_next m.rn hc]
      exact stp_close ho r
    · by_cases ek : k = i
      · subst ek
        exact .inr ⟨w, by simp [hlen, hn], .inr hp⟩
      · by_cases ew : k = w
        · subst ew
          refine .inr ⟨i, ?_, .inl hp⟩
          rw [List.getElem?_set_ne (by omega), List.getElem?_set_self (by omega)]
        · rcases m.don k (by omega) with z | ⟨p, z, q⟩
          · rcases List.mem_cons.mp z with z | z
            · exact absurd z ew
            · exact .inl z
          · exact .inr ⟨p, by rw [List.getElem?_set_ne (by omega), List.getElem?_set_ne (by omega)]; exact z, q⟩
theorem MI.fin {a : List Nat} {ws : List Nat} {xs : List V} (m : MI a a.length [] ws xs) : IsPart a xs := by
  have h := m.wk
  cases h
  refine ⟨m.len, fun k hk => ?_⟩
  rcases m.don k hk with z | z
  · cases z
  · exact z
theorem part_ex {a : List Nat} (h : Rt a) : ∃ xs, IsPart a xs := by
  have go : ∀ i, i ≤ a.length → ∃ st ws xs, MI a i st ws xs := by
    intro i
    induction i with
    | zero => intro _; exact ⟨[], [], List.replicate a.length .non, MI.start a (by simp)⟩
    | succ i ih =>
      intro hi
      obtain ⟨st, ws, xs, m⟩ := ih (by omega)
      have hc : a[i]? = some a[i] := by simp
      by_cases ho : a[i] ∈ opn
      · exact ⟨_, _, _, m.opens hc ho⟩
      · obtain ⟨s', e⟩ := run_take h (i + 1)
        rw [run_next m.rn hc] at e
        unfold stp at e
        rw [if_neg ho] at e
        cases st with
        | nil => cases e
        | cons d r =>
          simp only at e
          split at e
          · rename_i hd
            cases ws with
            | nil => have := m.wk.len; simp at this
            | cons w ws => exact ⟨_, _, _, MI.closes (c := a[i]) (by rw [hd]; exact m) hc ho⟩
          · cases e
  obtain ⟨st, ws, xs, m⟩ := go a.length (Nat.le_refl _)
  have e : st = [] := by
    have := m.rn
    rw [List.take_length] at this
    have h' : run [] a = some [] := h
    rw [h'] at this
    exact (Option.some.inj this).symm
  subst e
  exact ⟨xs, m.fin⟩
end BrM

namespace BrM
open L2 PySem
/-! ## the promises of bracketrows.lines -/
def plainTy : List String := ["NoneType", "bool", "int", "str", "list", "tuple", "dict"]
def spWhole (K : PySem.W.Frag) : Sp := fun vs H Q _ => ∃ x T, vs = [x] ∧ TyOf K H x (.type T) ∧ T ∈ plainTy ∧ Q (.bl (decide (T = "int"))) H
theorem whole_int {K : PySem.W.Frag} {H : Hp} {i : Int} {Q : VK} {E : XK} (q : Q (.bl true) H) : spWhole K ([.int i] ++ []) H Q E := ⟨.int i, "int", rfl, .int i, by decide, q⟩
def spKinds : Sp := fun vs H Q _ => ∃ k, vs = [.int k] ∧ 1 ≤ k ∧ k ≤ 4 ∧ Q .non H
theorem kinds_use {H : Hp} {k : Int} {Q : VK} {E : XK} (h1 : 1 ≤ k) (h2 : k ≤ 4) (q : Q .non H) : spKinds ([.int k] ++ []) H Q E := ⟨k, rfl, h1, h2, q⟩
def sgn (k : Int) : List Nat := opn.take k.toNat ++ cls.take k.toNat ++ [63]
def isRow (k : Int) (a : List Nat) : Bool := decide (a.length ≤ 40) && a.all fun c => decide (c ∈ sgn k)
def spLine (K : PySem.W.Frag) : Sp := fun vs H Q _ => ∃ k x, vs = [.int k, x] ∧ 1 ≤ k ∧ k ≤ 4 ∧
  ((∃ a, x = tx a ∧ a.length ≤ 1000 ∧ ∀ H', Same H H' → Q (.bl (isRow k a)) H') ∨ (∃ T, TyOf K H x (.type T) ∧ T ∈ plainTy ∧ T ≠ "str" ∧ Q (.bl false) H))
theorem line_use {K : PySem.W.Frag} {H : Hp} {k : Int} {a : List Nat} {Q : VK} {E : XK} (h1 : 1 ≤ k) (h2 : k ≤ 4) (ha : a.length ≤ 1000) (q : ∀ H', Same H H' → Q (.bl (isRow k a)) H') : spLine K ([.int k, tx a] ++ []) H Q E := ⟨k, _, rfl, h1, h2, .inl ⟨a, rfl, ha, q⟩⟩
def spCheckLine : Sp := fun vs H Q _ => ∃ k a, vs = [.int k, tx a] ∧ 1 ≤ k ∧ k ≤ 4 ∧ isRow k a = true ∧ ∀ H', Same H H' → Q .non H'
theorem checkLine_use {H : Hp} {k : Int} {a : List Nat} {Q : VK} {E : XK} (h1 : 1 ≤ k) (h2 : k ≤ 4) (ha : isRow k a = true) (q : ∀ H', Same H H' → Q .non H') : spCheckLine ([.int k, tx a] ++ []) H Q E := ⟨k, a, rfl, h1, h2, ha, q⟩
instance (a : List Nat) : Decidable (Rt a) := by unfold Rt; infer_instance
def spMatched : Sp := fun vs H Q _ => ∃ a, vs = [tx a] ∧ a.length ≤ 40 ∧ (Rt a → ∀ r xs H', H r = none → Same H H' → H' r = some (.lst xs) → IsPart a xs → Q (.ref r) H') ∧ (¬ Rt a → ∀ H', Same H H' → Q .non H')
theorem matched_use {H : Hp} {a : List Nat} {Q : VK} {E : XK} (ha : a.length ≤ 40) (q : Rt a → ∀ r xs H', H r = none → Same H H' → H' r = some (.lst xs) → IsPart a xs → Q (.ref r) H') (q' : ¬ Rt a → ∀ H', Same H H' → Q .non H') : spMatched ([tx a] ++ []) H Q E := ⟨a, rfl, ha, q, q'⟩
def spRightP : Sp := fun vs H Q _ => ∃ k a, vs = [.int k, tx a] ∧ 1 ≤ k ∧ k ≤ 4 ∧ isRow k a = true ∧ ∀ H', Same H H' → Q (.bl (decide (Rt a))) H'
theorem rightP_use {H : Hp} {k : Int} {a : List Nat} {Q : VK} {E : XK} (h1 : 1 ≤ k) (h2 : k ≤ 4) (ha : isRow k a = true) (q : ∀ H', Same H H' → Q (.bl (decide (Rt a))) H') : spRightP ([.int k, tx a] ++ []) H Q E := ⟨k, a, rfl, h1, h2, ha, q⟩
def spLaw (K : PySem.W.Frag) : Sp := fun vs H Q _ => ∃ (a : Addr) (ns : List Int), vs = [.ref a] ∧ SqL K H a (ns.map V.int) ∧ ns.length ≤ 63 ∧ ∀ H', Q (.bl true) H'
theorem isRow_len {k : Int} {a : List Nat} (h : isRow k a = true) : a.length ≤ 40 := by
  unfold isRow at h
  simp only [Bool.and_eq_true, decide_eq_true_eq] at h
  exact h.1
theorem mem_take_mono {α : Type} {l : List α} {i j : Nat} (h : i ≤ j) {x : α} (hx : x ∈ l.take i) : x ∈ l.take j := by
  have e : l.take i = (l.take j).take i := by rw [List.take_take, Nat.min_eq_left h]
  rw [e] at hx
  exact List.mem_of_mem_take hx
theorem isRow_of {k kk : Int} {a : List Nat} (hk : kk ≤ k) (hl : a.length ≤ 40) (h : ∀ c ∈ a, kin kk c) : isRow k a = true := by
  unfold isRow
  rw [Bool.and_eq_true]
  refine ⟨decide_eq_true hl, ?_⟩
  rw [List.all_eq_true]
  intro c hc
  refine decide_eq_true ?_
  unfold sgn
  have hn : kk.toNat ≤ k.toNat := by omega
  rcases h c hc with z | z
  · exact List.mem_append_left _ (List.mem_append_left _ (mem_take_mono hn z))
  · exact List.mem_append_left _ (List.mem_append_right _ (mem_take_mono hn z))
theorem cut_to {α : Type} (xs : List α) {k : Int} (h : 0 ≤ k) : cutL xs none (some k) = xs.take k.toNat := by
  unfold cutL
  obtain ⟨n, rfl⟩ : ∃ n : Nat, k = n := ⟨k.toNat, by omega⟩
  rw [HT.sIx_nat, HT.sIx_none, List.drop_zero, Nat.sub_zero, Int.toNat_natCast]
  rcases Nat.le_total n xs.length with z | z
  · rw [Nat.min_eq_left z]
  · rw [Nat.min_eq_right z, List.take_length, List.take_of_length_le z]
theorem kinds_in {c d : Nat} (ho : c ∈ opn) : inV (tx [c, d]) [tx [40, 41], tx [91, 93], tx [123, 125], tx [60, 62]] = decide (d = clo c) := by
  have e : inV (tx [c, d]) [tx [40, 41], tx [91, 93], tx [123, 125], tx [60, 62]] = (decide ([40, 41] = [c, d]) || (decide ([91, 93] = [c, d]) || (decide ([123, 125] = [c, d]) || (decide ([60, 62] = [c, d]) || false)))) := by
    unfold inV
    simp only [List.any_cons, List.any_nil, eqV_tx]
  rw [e]
  have ho' : c = 40 ∨ c = 91 ∨ c = 123 ∨ c = 60 := by simpa [opn] using ho
  rcases ho' with rfl | rfl | rfl | rfl <;> simp [clo, eq_comm]
/-! ## partners as the law finds them -/
/-- the openings below i, and their partners, stand in xs -/
def DI (a : List Nat) (i : Nat) (xs : List V) : Prop := xs.length = a.length ∧ ∀ x y, x < i → Pr a x y → xs[x]? = some (.int y) ∧ xs[y]? = some (.int x)
theorem DI.start (a : List Nat) {xs : List V} (h : xs.length = a.length) : DI a 0 xs := ⟨h, fun x y z => by omega⟩
theorem DI.skip {a : List Nat} {i c : Nat} {xs : List V} (m : DI a i xs) (hc : a[i]? = some c) (ho : c ∉ opn) : DI a (i + 1) xs := ⟨m.1, fun x y hx h => by
  by_cases e : x = i
  · subst e; exact absurd (pr_open h hc) ho
  · exact m.2 x y (by omega) h⟩
theorem DI.fin {a : List Nat} {xs : List V} (m : DI a a.length xs) (hR : Rt a) : IsPart a xs := by
  obtain ⟨ys, h⟩ := part_ex hR
  refine ⟨m.1, fun k hk => ?_⟩
  obtain ⟨p, _, r⟩ := h.2 k hk
  rcases r with r | r
  · exact ⟨p, (m.2 k p hk r).1, .inl r⟩
  · exact ⟨p, (m.2 p k (by have := r.1; omega) r).2, .inr r⟩
theorem flat1 {α : Type} (x : α) (n : Nat) : (List.replicate n [x]).flatten = List.replicate n x := by
  induction n with
  | zero => rfl
  | succ n ih => rw [List.replicate_succ, List.flatten_cons, ih]; rfl
/-! ## written rows -/
theorem Same.but {H H1 H2 : Hp} {p : Addr} (a : Same H H1) (b : SameBut1 p H1 H2) (h : H p = none) : Same H H2 := fun c o z => b c o (a c o z) (ne_of_none z h)
theorem SameBut1.at {H H1 : Hp} {p b : Addr} {o : HO} (s : SameBut1 p H H1) (h : H b = some o) (n : b ≠ p) : H1 b = some o := s b o h n
end BrM

namespace BrM
open L2 PySem
/-! ## depth and parts -/
def mx (a : List Nat) : Nat → Int
  | 0 => 0
  | i + 1 => if ht a (i + 1) > mx a i then ht a (i + 1) else mx a i
def deep (a : List Nat) : Int := mx a a.length
/-- row[b:e] -/
def piece (a : List Nat) (b e : Nat) : List Nat := cutL a (some (b : Int)) (some (e : Int))
def ct (a : List Nat) : Nat → List (List Nat) × Nat
  | 0 => ([], 0)
  | i + 1 => if ht a (i + 1) = 0 then ((ct a i).1 ++ [piece a (ct a i).2 (i + 1)], i + 1) else ct a i
def pts (a : List Nat) : List (List Nat) := (ct a a.length).1
theorem ct_run {a : List Nat} {s : Nat} : ∀ {e : Nat}, s ≤ e → (∀ m, s < m → m ≤ e → ht a m ≠ 0) → ct a e = ct a s
  | 0, hs, _ => by
    have : s = 0 := by omega
    subst this; rfl
  | e + 1, hs, h => by
    by_cases z : s = e + 1
    · subst z; rfl
    · have := ct_run (e := e) (by omega) fun m a b => h m a (by omega)
      rw [ct, if_neg (h (e + 1) (by omega) (Nat.le_refl _)), this]
theorem ct_next {a : List Nat} {s e : Nat} (hp : Pr a s e) (h0 : ht a s = 0) (hb : (ct a s).2 = s) : ct a (e + 1) = ((ct a s).1 ++ [piece a s (e + 1)], e + 1) := by
  obtain ⟨h1, h2, h3, h4⟩ := hp
  have : ct a e = ct a s := ct_run (by omega) fun m x y => by have := h4 m x y; omega
  rw [ct, if_pos (by omega), this, hb]
end BrM

namespace BrM
open L2 PySem
/-! ## right rows put together -/
theorem stp_ext {s u : List Nat} {c : Nat} (v : List Nat) (h : stp s c = some u) : stp (s ++ v) c = some (u ++ v) := by
  unfold stp at h ⊢
  by_cases hc : c ∈ opn
  · rw [if_pos hc] at h ⊢
    cases h; rfl
  · rw [if_neg hc] at h ⊢
    cases s with
    | nil => cases h
    | cons d r =>
      simp only [List.cons_append] at h ⊢
      split at h
      · rename_i hd; rw [if_pos hd]; cases h; rfl
      · cases h
theorem run_ext {s t : List Nat} (v : List Nat) : ∀ {M : List Nat}, run s M = some t → run (s ++ v) M = some (t ++ v) := by
  intro M
  induction M generalizing s with
  | nil => intro h; cases h; rfl
  | cons c r ih =>
    intro h
    have h' : (stp s c).bind (fun s => run s r) = some t := h
    show (stp (s ++ v) c).bind (fun s => run s r) = some (t ++ v)
    cases e : stp s c with
    | none => rw [e] at h'; cases h'
    | some u =>
      rw [e] at h'
      rw [stp_ext v e]
      exact ih h'
theorem run_right {M : List Nat} (h : Rt M) (st : List Nat) : run st M = some st := run_ext st h
theorem rt_mid {A O B : List Nat} (h : Rt (A ++ B)) (ho : Rt O) : Rt (A ++ O ++ B) := by
  unfold Rt at h ⊢
  rw [run_append] at h
  rw [run_append, run_append]
  cases e : run [] A with
  | none => rw [e] at h; cases h
  | some st =>
    rw [e] at h
    show ((run st O).bind fun s => run s B) = some []
    rw [run_right ho]
    exact h
theorem rt_pair {o : Nat} {M : List Nat} (ho : o ∈ opn) (hcl : clo o ∉ opn) (h : Rt M) : Rt ([o] ++ M ++ [clo o]) := by
  have : Rt ([o] ++ [clo o]) := by
    unfold Rt
    show (stp [] o).bind _ = _
    rw [stp_open ho]
    show (stp [clo o] (clo o)).bind _ = _
    rw [stp_close hcl]; rfl
  exact rt_mid this h
theorem clo_not {o : Nat} (ho : o ∈ opn) : clo o ∉ opn := by
  have : o = 40 ∨ o = 91 ∨ o = 123 ∨ o = 60 := by simpa [opn] using ho
  rcases this with rfl | rfl | rfl | rfl <;> decide
/-! ## what stands between partners -/
theorem ht_mid (A O B : List Nat) {i : Nat} (hi : i ≤ O.length) : ht (A ++ O ++ B) (A.length + i) = hg A + ht O i := by
  unfold ht
  rw [List.append_assoc, List.take_append, List.take_of_length_le (by omega), show A.length + i - A.length = i by omega, hg_append, List.take_append, show i - O.length = 0 by omega, List.take_zero, List.append_nil]
/-! ## spoilt rows -/
/-! ## for the law of whole right rows -/
theorem isRow_mem {k : Int} {a : List Nat} (h : isRow k a = true) : ∀ c ∈ a, c ∈ sgn k := by
  unfold isRow at h
  simp only [Bool.and_eq_true, List.all_eq_true, decide_eq_true_eq] at h
  exact h.2
theorem isRow_mk {k : Int} {a : List Nat} (hl : a.length ≤ 40) (h : ∀ c ∈ a, c ∈ sgn k) : isRow k a = true := by
  unfold isRow
  simp only [Bool.and_eq_true, List.all_eq_true, decide_eq_true_eq]
  exact ⟨hl, h⟩
theorem cut_nn {α : Type} (xs : List α) (i j : Nat) : cutL xs (some (i : Int)) (some (j : Int)) = (xs.drop i).take (j - i) := by
  unfold cutL
  rw [HT.sIx_nat, HT.sIx_nat]
  rcases Nat.le_total i xs.length with h | h
  · rw [Nat.min_eq_left h]
    rcases Nat.le_total j xs.length with g | g
    · rw [Nat.min_eq_left g]
    · rw [Nat.min_eq_right g, List.take_of_length_le (by rw [List.length_drop]; omega), List.take_of_length_le (by rw [List.length_drop]; omega)]
  · rw [Nat.min_eq_right h, List.drop_of_length_le (Nat.le_refl _), List.drop_of_length_le h]; simp
end BrM

namespace BrR
open PySem PySem.Spec PyProof.Rows
open PySem.Builtin
end BrR

namespace BrR
open PySem PySem.Spec PyProof.Rows L2
open PySem.Builtin
/-- a reversed over a text, with i the next place -/
def IsRevS (h : Heap) (a : Addr) (x : Str) (t : Tok) (i : Int) : Prop := ∃ o, h.get? a = some o ∧ o.cls = .type "reversed" ∧ o.data = .fields #[.str x t, rawInt i]
theorem IsRevS.typeIs {s : Shared} {a : Addr} {x : Str} {t : Tok} {i : Int} (y : IsRevS s.heap a x t i) : s.TypeIs (.ref a) "reversed" := let ⟨o, ho, hc, _⟩ := y; ⟨o, ho, hc⟩
section
variable {prog : Program} {w : World} {A : Around} {E : Value → Shared → Prop} {s : Shared}
end
/-- the signs of a text from its end -/
def ItsR (x : Str) : It := ⟨fun i _ => i < x.cps.size, fun i H v H' => H' = H ∧ ∃ c, x.cps[x.cps.size - 1 - i]? = some c ∧ v = .str ⟨#[c]⟩, fun i _ => i = x.cps.size⟩
def iRev (ta : TA) : TI := fun σ H R => ta σ H fun vs H1 => ∃ a, vs = [tx a] ∧ a.length ≤ sizeLine ∧ R (ItsR ⟨a.toArray⟩) H1
end BrR

namespace L2
open PySem PySem.Spec PyProof.Rows BrR
section
variable {X : Cx}
/-! ## a[::-1] -/
theorem rev_run (n : Nat) : sliceRange ((n : Int) - 1) (-1) (-1) = (List.range n).map fun k => n - 1 - k := by
  unfold sliceRange
  have e : (if (-1 : Int) > 0 then (if ((n : Int) - 1) < (-1) then ((-1) - ((n : Int) - 1) + (-1) - 1) / (-1) else 0) else (if ((n : Int) - 1) > (-1) then (((n : Int) - 1) - (-1) - (-1) - 1) / (-(-1)) else 0)).toNat = n := by
    rw [if_neg (by decide)]
    simp only [Int.neg_neg, Int.ediv_one]
    split <;> omega
  simp only [e]
  refine List.map_congr_left fun k hk => ?_
  have := List.mem_range.mp hk
  omega
theorem rev_pickN {α : Type} (a : List α) : ∀ n, n ≤ a.length → ((List.range n).map fun k => n - 1 - k).filterMap (fun j => a[j]?) = (a.take n).reverse := by
  intro n
  induction n with
  | zero => intro _; simp
  | succ n ih =>
    intro hn
    rw [List.range_succ_eq_map, List.map_cons, List.filterMap_cons]
    have e1 : a[n + 1 - 1 - 0]? = some (a[n]'(by omega)) := by simp
    rw [e1]
    simp only [List.map_map]
    have e2 : ((fun k => n + 1 - 1 - k) ∘ Nat.succ) = fun k => n - 1 - k := by
      funext k; simp only [Function.comp]; omega
    rw [e2, ih (by omega), List.take_succ_eq_append_getElem (by omega), List.reverse_append]
    rfl
theorem rev_pick {α : Type} (a : List α) : ((List.range a.length).map fun k => a.length - 1 - k).filterMap (fun j => a[j]?) = a.reverse := by
  rw [rev_pickN a a.length (Nat.le_refl _), List.take_length]
def rRevA (K : PySem.W.Frag) : V → Hp → VK → Prop := fun x H Q => (∃ a, x = tx a ∧ a.length ≤ sizeLine ∧ Q (tx a.reverse) H) ∨ ∃ p xs, x = .ref p ∧ SqL K H p xs ∧ ∀ r, H r = none → Q (.ref r) (upd H r (.lst xs.reverse))
def tRev (K : PySem.W.Frag) (te ts : TE) : TE := fun σ H Q => te σ H fun x H1 => ts σ H1 fun y H2 => y = .int (-1) ∧ rRevA K x H2 Q
theorem Vals.rev : ∀ {xs : List V} {us : List Value}, Vals xs us → Vals xs.reverse us.reverse
  | _, _, .nil => .nil
  | _, _, .cons r rr => by
    rw [List.reverse_cons, List.reverse_cons]
    exact (Vals.rev rr).append (.cons r .nil)
theorem pe_rev (K : PySem.W.Frag) {e st : Expr} {te ts : TE} {p2 pos : Pos} (he : PE X e te) (hs : PE X st ts) (hK : X.K = K := by rfl) : PE X (.Subscript e (.Slice none none (some st) p2) pos) (tRev K te ts) := by
  subst hK
  intro pins s σ H Q I h
  refine Subscript_ (thn (he pins s σ H _ I h) fun v s1 ⟨x, H1, I1, r1, q1⟩ => ?_)
  refine wpAny_Slice ?_
  rw [evalPart_none]
  refine wpAny_pure (wpAny_pure ?_)
  rw [evalPart_some]
  refine thn (hs pins s1 σ H1 _ I1 q1) fun u s2 ⟨y, H2, I2, r2, q2⟩ => ?_
  obtain ⟨rfl, q⟩ := q2
  obtain ⟨tk, rfl⟩ := r2
  have I4 : Inv X pins σ H2 { s2 with heap := s2.heap.push { cls := .type "slice", data := .fields #[.none, .none, .int (-1) tk] } } := I2.kept (t' := s2.toks) fun b ob q => Heap.get?_push_of_some _ q
  show wpAny (model X.prog X.w) X.A (subscriptTail e (.Slice none none (some st) p2) v (.ref s2.heap.objs.size)) (EP X pins σ Q) X.xe { s2 with heap := s2.heap.push { cls := .type "slice", data := .fields #[.none, .none, .int (-1) tk] } }
  have key : ∃ T id, typeLookup (.type T) "__getitem__" = pure (some (.builtin id)) ∧ ({ s2 with heap := s2.heap.push { cls := .type "slice", data := .fields #[.none, .none, .int (-1) tk] } } : Shared).TypeIs v T ∧ wpAny (model X.prog X.w) X.A (getItem v (.ref s2.heap.objs.size)) (EP X pins σ Q) X.xe { s2 with heap := s2.heap.push { cls := .type "slice", data := .fields #[.none, .none, .int (-1) tk] } } := by
    rcases q with ⟨a, rfl, hz, q⟩ | ⟨p, xs, rfl, hx, q⟩
    · obtain ⟨t, rfl⟩ := r1
      refine ⟨"str", _, F.slot_str_getitem.lookup, typeIs_str _ _ _, ?_⟩
      refine wpAny_getItem_str_slice (l := none) (u := none) (st := some (-1, tk)) ⟨_, Heap.get?_push_size _ rfl, rfl, rfl⟩ rfl ?_
      have ep : slicePicked ⟨a.toArray⟩ none none (some (-1, tk)) = (List.range a.length).map fun k => a.length - 1 - k := by
        unfold slicePicked
        rw [tx_len]
        exact rev_run a.length
      have ec : ((slicePicked ⟨a.toArray⟩ none none (some (-1, tk))).filterMap (a.toArray[·]?)) = a.reverse := by
        rw [ep]
        simp only [List.getElem?_toArray]
        exact rev_pick a
      unfold sliceMade
      rw [if_neg (by simp)]
      rw [ec]
      exact ⟨by rw [tx_len, List.length_reverse]; exact hz, ⟨tx a.reverse, H2, I4.tok _, ⟨_, rfl⟩, q⟩⟩
    · cases r1
      obtain ⟨its, r, ht, hz⟩ := I4.list hx
      have hlen := r.length
      refine ⟨"list", _, slot_list_getitem.lookup, ht.isList.typeIs, ?_⟩
      refine wpAny_getItem_list_slice ht.isList (Heap.IsSliceOf.new ..) .none .none (.int (-1) tk) (by simp) ?_ (by rw [List.size_toArray] <;> omega)
      have ep : slicePick its.toArray none none (some (-1)) = its.reverse.toArray := by
        unfold slicePick
        have e : sliceBounds none none (some (-1)) its.toArray.size = ((its.length : Int) - 1, -1, -1) := by rw [List.size_toArray]; rfl
        rw [e]
        show ((sliceRange ((its.length : Int) - 1) (-1) (-1)).filterMap _).toArray = _
        rw [rev_run]
        simp only [List.getElem?_toArray]
        rw [rev_pick]
      rw [ep]
      refine ⟨.ref _, _, I4.laid (o := .lst xs.reverse) (fun b ob q => Heap.get?_push_of_some _ q) (Nat.le_refl _) ?_, rfl, q _ (I4.hok.fresh (Nat.le_refl _))⟩
      exact ⟨by rw [List.length_reverse]; exact hz, _, 0, r.rev, Heap.get?_push_size _ rfl⟩
  obtain ⟨T, id, hT, ht, hg⟩ := key
  exact tail_any (ops := [v, .ref s2.heap.objs.size]) ht hT hg (by with_unfolding_all rfl)

/-! ## ''.join, index -/
theorem strs_of {xss : List (List Nat)} : ∀ {us : List Value}, Vals (xss.map tx) us → StrsAre us (xss.map fun a => ⟨a.toArray⟩) := by
  induction xss with
  | nil => intro us r; cases r; exact .nil
  | cons a r ih =>
    intro us h
    cases h with
    | cons h1 h2 =>
      obtain ⟨t, rfl⟩ := h1
      exact .cons _ t (ih h2)
theorem join_flat : ∀ (xss : List (List Nat)), Str.join ⟨([] : List Nat).toArray⟩ (xss.map fun a => ⟨a.toArray⟩) = ⟨xss.flatten.toArray⟩
  | [] => rfl
  | [a] => by simp [Str.join]
  | a :: b :: r => by
    have ih := join_flat (b :: r)
    rw [List.map_cons, List.map_cons] at *
    show (⟨a.toArray⟩ : Str) ++ ⟨([] : List Nat).toArray⟩ ++ Str.join ⟨([] : List Nat).toArray⟩ (⟨b.toArray⟩ :: r.map fun a => ⟨a.toArray⟩) = _
    rw [ih]
    show (⟨a.toArray ++ ([] : List Nat).toArray ++ (b :: r).flatten.toArray⟩ : Str) = _
    simp
def rJoin (K : PySem.W.Frag) : V → List V → Hp → VK → Prop := fun x vs H Q => ∃ (p : Addr) (xss : List (List Nat)), x = tx [] ∧ vs = [.ref p] ∧ SqL K H p (xss.map tx) ∧ xss.flatten.length + xss.length ≤ 1000000 ∧ Q (tx xss.flatten) H
theorem mt_join (K : PySem.W.Frag) (hK : X.K = K := by rfl) : MtR X "str.join" (rJoin K) := by
  subst hK
  intro pins s σ H x vs v us Q I rx rv h
  obtain ⟨p, xss, rfl, rfl, hq, hw, q⟩ := h
  obtain ⟨t, rfl⟩ := rx
  obtain ⟨u, rfl, ru⟩ := rv.one
  cases ru
  obtain ⟨its, r, ht, hz⟩ := I.list hq
  have hs : ((xss.map fun a => (⟨a.toArray⟩ : Str)).map (·.length)).sum = xss.flatten.length := by
    rw [List.map_map, List.length_flatten]
    congr 1
  refine join_listW ht.isList (strs_of r) (by rw [tx_len]; decide) (by rw [hs, List.length_map]; omega) fun t' k => ?_
  have e : Txt.join ⟨([] : List Nat).toArray⟩ (xss.map fun a => ⟨a.toArray⟩) = ⟨xss.flatten.toArray⟩ := by
    show Builtin.Str.glued _ _ = _
    rw [StrLaws.glued_eq_join, join_flat]
  rw [e]
  exact ⟨tx xss.flatten, H, I.tok k, ⟨t', rfl⟩, q⟩
end
section
variable {σ : St} {H : Hp} {Q : VK} {K : PySem.W.Frag}
theorem s_rev {te ts : TE} (h : te σ H fun x H1 => ts σ H1 fun y H2 => y = .int (-1) ∧ rRevA K x H2 Q) : tRev K te ts σ H Q := h
theorem s_revI {P : Prop} (h : P) : V.int (-1) = V.int (-1) ∧ P := ⟨rfl, h⟩
theorem s_revT {a : List Nat} (hz : a.length ≤ sizeLine) (h : Q (tx a.reverse) H) : rRevA K (tx a) H Q := .inl ⟨a, rfl, hz, h⟩
theorem s_tyT {a : List Nat} {P : Prop} (h : P) : tyV K "str" (tx a) H ∧ P := ⟨rfl, h⟩
theorem s_join {p : Addr} {xss : List (List Nat)} (hq : SqL K H p (xss.map tx)) (hw : xss.flatten.length + xss.length ≤ 1000000) (h : Q (tx xss.flatten) H) : rJoin K (tx []) [.ref p] H Q := ⟨p, xss, rfl, rfl, hq, hw, h⟩
theorem s_irev {ta : TA} {R : It → Hp → Prop} (h : ta σ H fun vs H1 => ∃ a, vs = [tx a] ∧ a.length ≤ sizeLine ∧ R (ItsR ⟨a.toArray⟩) H1) : iRev ta σ H R := h
theorem s_irevT {a : List Nat} {R : List Nat → Prop} (hz : a.length ≤ sizeLine) (h : R a) : ∃ b, [tx a] = [tx b] ∧ b.length ≤ sizeLine ∧ R b := ⟨a, rfl, hz, h⟩
/-- a comprehension over the signs of a text, one item each -/
theorem comp_str {a : List Nat} {own : List Str} {sel : List Nat} {g : TG} {tt : TT} {te : TE} (hn : a.length ≤ sizeLine) (Pv : Addr → Nat → List V → Hp → Prop) (h0 : ∀ D, H D = none → Pv D 0 [] (upd H D (.lst [])))
    (hst : ∀ D ys H', H D = none → H' D = some (.lst ys) → Pv D a.length ys H' → Q (.ref D) H')
    (hs : ∀ D i c ys H', H D = none → a[i]? = some c → i < a.length → H' D = some (.lst ys) → ys.length ≤ i → Pv D i ys H' → g (tx [c]) (inSt own sel σ) H' fun σ4 H4 => tt σ4 H4 fun b H5 =>
      if b = true then te σ4 H5 fun v H6 => ∃ ys, H6 D = some (.lst ys) ∧ ys.length < sizeLine ∧ ∃ m', m' < a.length - i ∧ CW D a.length (Pv D) (i + 1) m' (upd H6 D (.lst (ys ++ [v])))
      else ∃ m', m' < a.length - i ∧ CW D a.length (Pv D) (i + 1) m' H5) : CompW (Its ⟨a.toArray⟩) own sel σ g tt te Q H := by
  refine comp_of (n := a.length) Pv h0 (fun D i ys H' hD hi _ p => by simpa [Its] using hi) (fun D ys H' hD hy hl p => ⟨by simp [Its], hst D ys H' hD hy p⟩) (fun D i ys H' x H3 hD hi hy hl p y => ?_)
  obtain ⟨rfl, c, e, rfl⟩ := y
  exact hs D i c ys H3 hD (by simpa using e) hi hy hl p
theorem comp_rng {lo : Int} {n : Nat} {own : List Str} {sel : List Nat} {g : TG} {tt : TT} {te : TE} (hn : n ≤ sizeLine) (Pv : Addr → Nat → List V → Hp → Prop) (h0 : ∀ D, H D = none → Pv D 0 [] (upd H D (.lst [])))
    (hst : ∀ D ys H', H D = none → H' D = some (.lst ys) → Pv D n ys H' → Q (.ref D) H')
    (hs : ∀ D i ys H', H D = none → i < n → H' D = some (.lst ys) → ys.length ≤ i → Pv D i ys H' → g (.int (lo + i)) (inSt own sel σ) H' fun σ4 H4 => tt σ4 H4 fun b H5 =>
      if b = true then te σ4 H5 fun v H6 => ∃ ys, H6 D = some (.lst ys) ∧ ys.length < sizeLine ∧ ∃ m', m' < n - i ∧ CW D n (Pv D) (i + 1) m' (upd H6 D (.lst (ys ++ [v])))
      else ∃ m', m' < n - i ∧ CW D n (Pv D) (i + 1) m' H5) : CompW (Itr lo n) own sel σ g tt te Q H := by
  refine comp_of (n := n) Pv h0 (fun D i ys H' hD hi _ p => hi) (fun D ys H' hD hy hl p => ⟨Nat.le_refl _, hst D ys H' hD hy p⟩) (fun D i ys H' x H3 hD hi hy hl p y => ?_)
  obtain ⟨rfl, rfl⟩ := y
  exact hs D i ys _ hD hi hy hl p
end
end L2

namespace BrM
open L2 PySem BrR
/-! ## rows turned about -/
def all9 : List Nat := [40, 91, 123, 60, 63, 62, 125, 93, 41]
def oth (c : Nat) : Nat := if c = 40 then 41 else if c = 91 then 93 else if c = 123 then 125 else if c = 60 then 62 else if c = 41 then 40 else if c = 93 then 91 else if c = 125 then 123 else if c = 62 then 60 else c
def trn (a : List Nat) : List Nat := a.reverse.map oth
/-- the signs of k kinds, as the law draws them -/
def sgs (k : Int) : List Nat := [40, 41, 91, 93, 123, 125, 60, 62].take (2 * k).toNat ++ [63]
theorem sgs_sgn {k : Int} {c : Nat} (h1 : 1 ≤ k) (h4 : k ≤ 4) (h : c ∈ sgs k) : c ∈ sgn k := by
  have hk : k = 1 ∨ k = 2 ∨ k = 3 ∨ k = 4 := by omega
  rcases hk with rfl | rfl | rfl | rfl <;> (have h' := h; simp [sgs] at h'; simp [sgn, opn, cls]; omega)
theorem sgs_len {k : Int} (h1 : 1 ≤ k) (h4 : k ≤ 4) : (sgs k).length = (2 * k).toNat + 1 := by
  unfold sgs; rw [List.length_append, List.length_take]; simp; omega
def spSigns : Sp := fun vs H Q _ => ∃ k, vs = [.int k] ∧ 1 ≤ k ∧ k ≤ 4 ∧ Q (tx (sgs k)) H
theorem signs_use {H : Hp} {k : Int} {Q : VK} {E : XK} (h1 : 1 ≤ k) (h2 : k ≤ 4) (q : Q (tx (sgs k)) H) : spSigns ([.int k] ++ []) H Q E := ⟨k, rfl, h1, h2, q⟩
def spBent : Sp := fun vs H Q _ => ∃ p n row sg, vs = [.ref p, tx row, tx sg] ∧ PoolAt H p n ∧ n ≤ 900000 ∧ row.length ≤ 40 ∧ 0 < sg.length ∧ sg.length ≤ 40 ∧
  ∀ row' H', (∀ c ∈ row', c ∈ row ∨ c ∈ sg) → row'.length ≤ 130 → PoolAt H' p (n + 4) → SameBut1 p H H' → Q (tx row') H'
theorem bent_use {H : Hp} {p : PySem.Addr} {n : Nat} {row sg : List Nat} {Q : VK} {E : XK} (hp : PoolAt H p n) (hn : n ≤ 900000) (h1 : row.length ≤ 40) (h2 : 0 < sg.length) (h3 : sg.length ≤ 40)
    (q : ∀ row' H', (∀ c ∈ row', c ∈ row ∨ c ∈ sg) → row'.length ≤ 130 → PoolAt H' p (n + 4) → SameBut1 p H H' → Q (tx row') H') : spBent ([.ref p, tx row, tx sg] ++ []) H Q E := ⟨p, n, row, sg, rfl, hp, hn, h1, h2, h3, q⟩
def spAnyRow : Sp := fun vs H Q _ => ∃ p n k most, vs = [.ref p, .int k, .int most] ∧ PoolAt H p n ∧ n ≤ 800000 ∧ 1 ≤ k ∧ k ≤ 4 ∧ 0 ≤ most ∧ most ≤ 40 ∧
  ∀ row H', (row.length : Int) ≤ most → (∀ c ∈ row, c ∈ sgn k) → PoolAt H' p (n + 300) → SameBut1 p H H' → Q (tx row) H'
theorem any_use {H : Hp} {p : PySem.Addr} {n : Nat} {k most : Int} {Q : VK} {E : XK} (hp : PoolAt H p n) (hn : n ≤ 800000) (h1 : 1 ≤ k) (h2 : k ≤ 4) (h3 : 0 ≤ most) (h4 : most ≤ 40)
    (q : ∀ row H', (row.length : Int) ≤ most → (∀ c ∈ row, c ∈ sgn k) → PoolAt H' p (n + 300) → SameBut1 p H H' → Q (tx row) H') : spAnyRow ([.ref p, .int k, .int most] ++ []) H Q E := ⟨p, n, k, most, rfl, hp, hn, h1, h2, h3, h4, q⟩
theorem at_mem {l : List Nat} {i : Int} (h0 : 0 ≤ i) (h1 : i < (l.length : Int)) : ∃ c, atI l i = some c ∧ c ∈ l := by
  have hk : i.toNat < l.length := by omega
  have ek : i = ((i.toNat : Nat) : Int) := by omega
  have q : atI l ((i.toNat : Nat) : Int) = some l[i.toNat] := atI_nat (List.getElem?_eq_getElem hk)
  rw [← ek] at q
  exact ⟨_, q, List.getElem_mem hk⟩
theorem cut_mem {α : Type} {a : List α} {lo hi : Option Int} {c : α} (h : c ∈ cutL a lo hi) : c ∈ a := by
  unfold cutL at h
  exact List.mem_of_mem_drop (List.mem_of_mem_take h)
theorem kin_sgn {k : Int} {c : Nat} (h : kin k c) : c ∈ sgn k := by
  unfold sgn
  rcases h with z | z
  · exact List.mem_append_left _ (List.mem_append_left _ z)
  · exact List.mem_append_left _ (List.mem_append_right _ z)
theorem flat_ones (l : List Nat) : (l.map fun c => [c]).flatten = l := by
  induction l with
  | nil => rfl
  | cons c r ih => rw [List.map_cons, List.flatten_cons, ih]; rfl
theorem isRow_up {k k' : Int} {a : List Nat} (h : isRow k a = true) (hk : k ≤ k') (h0 : 0 ≤ k) : isRow k' a = true := by
  refine isRow_mk (isRow_len h) fun c hc => ?_
  have := isRow_mem h c hc
  unfold sgn at this ⊢
  have hm : k.toNat ≤ k'.toNat := by omega
  rcases List.mem_append.mp this with z | z
  · rcases List.mem_append.mp z with z | z
    · exact List.mem_append_left _ (List.mem_append_left _ (List.take_subset_take_left opn hm z))
    · exact List.mem_append_left _ (List.mem_append_right _ (List.take_subset_take_left cls hm z))
  · exact List.mem_append_right _ z
end BrM

namespace L2
open PySem PySem.Spec PyProof.Rows BrR
section
variable {X : Cx}
end
section
variable {σ : St} {H : Hp} {Q : VK} {K : PySem.W.Frag}
end
end L2
namespace BrM
open L2 PySem
/-! ## depth by its height -/
/-! ## turned about -/
def brk (a : List Nat) : Prop := ∀ c ∈ a, c ∈ all9 ∧ c ≠ 63
/-! ## parts -/
theorem piece_nn (a : List Nat) (i j : Nat) : piece a i j = (a.drop i).take (j - i) := cut_nn a i j
theorem pr_pair {o : Nat} {M : List Nat} (ho : o ∈ opn) (hM : Rt M) : Pr ([o] ++ M ++ [clo o]) 0 (M.length + 1) := by
  have e1 : hg [o] = 1 := by show sg o + 0 = 1; unfold sg; rw [if_pos ho]; rfl
  have hl : ([o] ++ M ++ [clo o]).length = M.length + 2 := by simp
  refine ⟨by omega, by rw [hl]; omega, ?_, fun m m1 m2 => ?_⟩
  · rw [show M.length + 1 + 1 = ([o] ++ M ++ [clo o]).length by rw [hl], ht_end (rt_pair ho (clo_not ho) hM), ht_zero]
  · obtain ⟨i, rfl⟩ : ∃ i, m = 1 + i := ⟨m - 1, by omega⟩
    have := ht_mid [o] M [clo o] (i := i) (by omega)
    rw [e1] at this
    have h2 := ht_nonneg hM i
    rw [ht_zero]
    have e3 : ([o] : List Nat).length + i = 1 + i := rfl
    rw [e3] at this
    omega
theorem pts_one {o : Nat} {M : List Nat} (ho : o ∈ opn) (hM : Rt M) : pts ([o] ++ M ++ [clo o]) = [[o] ++ M ++ [clo o]] := by
  have h := ct_next (pr_pair ho hM) (ht_zero _) rfl
  have hl : ([o] ++ M ++ [clo o]).length = M.length + 1 + 1 := by simp
  unfold pts
  rw [hl, h]
  show [] ++ [piece _ 0 _] = _
  rw [piece_nn, List.drop_zero, Nat.sub_zero, ← hl, List.take_length, List.nil_append]
/-- all that the parts of a right row are -/
structure PtsOk (a : List Nat) : Prop where
  flat : (pts a).flatten = a
  form : ∀ p ∈ pts a, ∃ o M, p = [o] ++ M ++ [clo o] ∧ o ∈ opn ∧ Rt M
  le : ∀ p ∈ pts a, deep p ≤ deep a
  top : deep a = 0 ∨ ∃ p ∈ pts a, deep p = deep a
  back : pts (trn a) = ((pts a).map trn).reverse
theorem PtsOk.rt {a : List Nat} (h : PtsOk a) {p : List Nat} (hp : p ∈ pts a) : Rt p ∧ p ≠ [] ∧ pts p = [p] := by
  obtain ⟨o, M, rfl, ho, hM⟩ := h.form p hp
  exact ⟨rt_pair ho (clo_not ho) hM, by simp, pts_one ho hM⟩
theorem PtsOk.sub {a : List Nat} (h : PtsOk a) {p : List Nat} (hp : p ∈ pts a) : ∀ c ∈ p, c ∈ a := fun c hc => by
  rw [← h.flat]
  exact List.mem_flatten.mpr ⟨p, hp, hc⟩
theorem len_mem_flat {p : List Nat} : ∀ {l : List (List Nat)}, p ∈ l → p.length ≤ l.flatten.length
  | q :: r, h => by
    rw [List.flatten_cons, List.length_append]
    rcases List.mem_cons.mp h with z | z
    · subst z; omega
    · have := len_mem_flat z; omega
theorem PtsOk.len {a : List Nat} (h : PtsOk a) {p : List Nat} (hp : p ∈ pts a) : p.length ≤ a.length := by
  have := len_mem_flat hp
  rwa [h.flat] at this
end BrM
namespace L2
open PySem PySem.Spec PyProof.Rows BrR
section
variable {σ : St} {H : Hp} {Q : VK} {K : PySem.W.Frag}
end
end L2
namespace BrM
open L2 PySem
end BrM

namespace L2
open PySem PySem.Spec PyProof.Rows

/-! ## a comprehension's block some of whose names a block within it uses -/
structure CompOkC (osc : Scope) (N : List Str) (own : List Str) (sel : List Nat) (scope : Scope) : Prop where
  kind : scope.kind = .function
  cell : ∀ y ∈ scope.names, y.2 = .cell → scope.names.lookup y.1 = some .cell
  names : ∀ y ∈ scope.names, y.2 = .local → scope.names.lookup y.1 = some .local
  free : ∀ y ∈ scope.names, y.2 = .free → osc.names.lookup y.1 = some .cell ∨ osc.names.lookup y.1 = some .free
  seln : ∀ j ∈ sel, j < N.length ∧ scope.names.lookup (N.getD j Str.empty) = some .free ∧ (osc.names.lookup (N.getD j Str.empty) = some .cell ∨ osc.names.lookup (N.getD j Str.empty) = some .free)
section
variable {X : Cx}
end
end L2

namespace L2
open PySem PySem.Spec PyProof.Rows
/-! ## range with a step -/
def Itr3 (lo c : Int) (n : Nat) : It := ⟨fun i _ => i < n, fun i H x H' => H' = H ∧ x = .int (lo + i * c), fun i _ => n ≤ i⟩
section
variable {X : Cx} {tg : Expr}
/-- how many turns -/
def rN (a b c : Int) : Nat := (Builtin.Range.rangeSize a b c).toNat
def iRng3 (ta : TA) : TI := fun σ H R => ta σ H fun vs H1 => ∃ i j c : Int, vs = [.int i, .int j, .int c] ∧ (c ≠ 0 ∧ c.natAbs < 1000 ∧ Builtin.Range.small i j c = true) ∧ R (Itr3 i c (rN i j c)) H1
end
/-! ## sum, list, o[i] += e -/
section
variable {X : Cx}
end
section
variable {σ : St} {H : Hp} {Q : VK} {D : Ends} {K : PySem.W.Frag}
theorem s_irng3 {ta : TA} {R : It → Hp → Prop} (h : ta σ H fun vs H1 => ∃ i j c : Int, vs = [.int i, .int j, .int c] ∧ (c ≠ 0 ∧ c.natAbs < 1000 ∧ Builtin.Range.small i j c = true) ∧ R (Itr3 i c (rN i j c)) H1) : iRng3 ta σ H R := h
theorem s_augS {to ti te : TE} {tget : V → V → Hp → VK → Prop} {tip : TIp} {tset : TSet} (h : to σ H fun o H1 => ti σ H1 fun i H2 => tget o i H2 fun x H3 => te σ H3 fun y H4 => tip x y H4 fun z H5 => tset o i z H5 fun H6 => D.nx σ H6) : tAugS to ti te tget tip tset D σ H := h
end
end L2

namespace L2
open PySem PySem.Spec PyProof.Rows
/-! ## scopes of blocks within blocks -/
/-! ## products of large numbers -/
section
variable {X : Cx}
end
section
variable {σ : St} {H : Hp} {Q : VK} {K : PySem.W.Frag}
end

/-! ## an item for each, with what was made for it -/
section
variable {σ : St} {H : Hp} {Q : VK} {K : PySem.W.Frag}
end
end L2

namespace BrC
/-! ## sums -/
def sm : Nat → (Nat → Int) → Int
  | 0, _ => 0
  | n + 1, f => sm n f + f n
/-! ## right fillings, by what waits to be closed: n places from i on, P i b what bracket b weighs at place i -/
def cv (P : Nat → Nat → Int) (k : Nat) : Nat → Nat → List Nat → Int
  | 0, _, [] => 1
  | 0, _, _ :: _ => 0
  | n + 1, i, st => sm k (fun p => P i (2 * p) * cv P k n (i + 1) (p :: st)) + (match st with | [] => 0 | o :: r => P i (2 * o + 1) * cv P k n (i + 1) r)
variable {P : Nat → Nat → Int} {k : Nat}
/-- pairs of two places -/
def pr (P : Nat → Nat → Int) (k i j : Nat) : Int := sm k fun p => P i (2 * p) * P j (2 * p + 1)
end BrC
namespace BrC
end BrC
namespace BrC
variable {P : Nat → Nat → Int} {k : Nat}
end BrC

namespace BrS
open L2 PySem BrM BrC
/-! ## lists of lists of ints -/
abbrev iL (l : List Int) : HO := .lst (l.map V.int)
/-- a list of lists, only read -/
def Pls (H : Hp) (r : Addr) (ps : List (List Int)) : Prop := ∃ ad : Nat → Addr, H r = some (.lst ((List.range ps.length).map fun i => V.ref (ad i))) ∧ ∀ i, i < ps.length → H (ad i) = some (iL (ps.getD i []))
theorem Pls.same {H H' : Hp} {r : Addr} {ps : List (List Int)} (h : Pls H r ps) (s : Same H H') : Pls H' r ps := by
  obtain ⟨ad, h1, h2⟩ := h
  exact ⟨ad, s _ _ h1, fun i hi => s _ _ (h2 i hi)⟩
/-- one row of a table -/
def rwl (n : Nat) (f : Nat → Int) : List V := (List.range (n + 1)).map fun j => V.int (f j)
theorem rwl_set {n j : Nat} {f : Nat → Int} {v : Int} : (rwl n f).set j (.int v) = rwl n (fun x => if x = j then v else f x) := by
  apply List.ext_getElem?
  intro i
  unfold rwl
  rw [List.getElem?_set, List.getElem?_map, List.getElem?_map]
  by_cases e : j = i
  · subst e
    by_cases hj : j < n + 1
    · rw [List.getElem?_range hj]; simp [hj]
    · rw [if_pos rfl, if_neg (by simpa using hj)]
      rw [List.getElem?_eq_none (by simpa using hj)]; rfl
  · rw [if_neg e]
    by_cases hi : i < n + 1
    · rw [List.getElem?_range hi]; simp [Ne.symm e]
    · rw [List.getElem?_eq_none (by simpa using hi)]; rfl
theorem rwl_congr {n : Nat} {f g : Nat → Int} (h : ∀ j, j ≤ n → f j = g j) : rwl n f = rwl n g := by
  unfold rwl
  refine List.map_congr_left fun j hj => ?_
  rw [h j (by have := List.mem_range.mp hj; omega)]
/-- a table of its own, laid since H0 -/
structure Tb (H0 H : Hp) (s : Addr) (ad : Nat → Addr) (n : Nat) (T : Nat → Nat → Int) : Prop where
  fs : H0 s = none
  fa : ∀ i, i ≤ n → H0 (ad i) = none
  ns : ∀ i, i ≤ n → ad i ≠ s
  inj : ∀ i j, i ≤ n → j ≤ n → ad i = ad j → i = j
  top : H s = some (.lst ((List.range (n + 1)).map fun i => V.ref (ad i)))
  row : ∀ i, i ≤ n → H (ad i) = some (.lst (rwl n (T i)))
  sm : Same H0 H
section
variable {H0 H H' : Hp} {s : Addr} {ad : Nat → Addr} {n : Nat} {T T' : Nat → Nat → Int}
theorem Tb.same (t : Tb H0 H s ad n T) (h : Same H H') : Tb H0 H' s ad n T := ⟨t.fs, t.fa, t.ns, t.inj, h _ _ t.top, fun i hi => h _ _ (t.row i hi), t.sm.trans h⟩
theorem Tb.congr (t : Tb H0 H s ad n T) (h : ∀ i j, i ≤ n → j ≤ n → T i j = T' i j) : Tb H0 H s ad n T' := ⟨t.fs, t.fa, t.ns, t.inj, t.top, fun i hi => by rw [t.row i hi, rwl_congr fun j hj => h i j hi hj], t.sm⟩
theorem Tb.at (t : Tb H0 H s ad n T) {i : Nat} (hi : i ≤ n) : ((List.range (n + 1)).map fun i => V.ref (ad i))[i]? = some (.ref (ad i)) := by
  rw [List.getElem?_map, List.getElem?_range (by omega)]; rfl
theorem Tb.set (t : Tb H0 H s ad n T) {i j : Nat} {v : Int} (hi : i ≤ n) : Tb H0 (upd H (ad i) (.lst ((rwl n (T i)).set j (.int v)))) s ad n (fun a b => if a = i ∧ b = j then v else T a b) := by
  refine ⟨t.fs, t.fa, t.ns, t.inj, by rw [upd_ne (Ne.symm (t.ns i hi))]; exact t.top, fun a ha => ?_, fun b o z => ?_⟩
  · by_cases e : a = i
    · subst e
      rw [upd_same, rwl_set]
      congr 2
      refine rwl_congr fun x _ => ?_
      by_cases q : x = j <;> simp [q]
    · rw [upd_ne (fun z => e (t.inj a i ha hi z)), t.row a ha]
      congr 2
      refine rwl_congr fun x _ => ?_
      simp [e]
  · rw [upd_ne (ne_of_none z (t.fa i hi))]; exact t.sm b o z
end
/-! ## what a place weighs -/
/-- bounds of weights -/
def top30 : Int := 10 ^ 31
def Sm (l : List Int) : Prop := ∀ v ∈ l, 0 ≤ v ∧ v ≤ top30
theorem Sm.at {l : List Int} (h : Sm l) (b : Nat) : 0 ≤ l.getD b 0 ∧ l.getD b 0 ≤ top30 := by
  rw [List.getD_eq_getElem?_getD]
  cases e : l[b]? with
  | none => exact ⟨by simp, by simp [top30]⟩
  | some v => exact h v (List.mem_of_getElem? e)
/-- the table of all spans -/
def tbl (P : Nat → Nat → Int) (k : Nat) (i j : Nat) : Int := if i ≤ j then cv P k (j - i) i [] else 0
/-! ## bounds -/
end BrS
namespace BrS
open L2 PySem BrM BrC
end BrS
namespace BrS
open L2 PySem BrM BrC
end BrS
namespace BrS
open L2 PySem BrM BrC
/-! ## a row of the table, while it is made -/
def part (P : Nat → Nat → Int) (k i q j : Nat) : Int :=
  if j ≤ i then (if j = i then 1 else 0) else if (j - i) % 2 = 1 then 0 else
    sm q fun e => if i + 2 + 2 * e ≤ j then pr P k i (i + 1 + 2 * e) * cv P k (2 * e) (i + 1) [] * cv P k (j - (i + 2 + 2 * e)) (i + 2 + 2 * e) [] else 0
section
variable {P : Nat → Nat → Int} {k i q j n : Nat}
end
end BrS
namespace BrS
open L2 PySem BrM BrC
end BrS

namespace BrS
open L2 PySem BrM BrC
/-! ## the deck of drawn numbers -/
def Deck (H : Hp) (p : Addr) : Prop := ∃ ds : List Int, H p = some (.lst (ds.map V.int)) ∧ ∀ d ∈ ds, 0 ≤ d ∧ d < 2147483648
theorem Deck.same {H H' : Hp} {p : Addr} (h : Deck H p) (s : Same H H') : Deck H' p := by
  obtain ⟨ds, e, b⟩ := h
  exact ⟨ds, s _ _ e, b⟩
theorem Deck.keep {H H' : Hp} {p r : Addr} (h : Deck H p) (s : SameBut1 r H H') (n : p ≠ r) : Deck H' p := by
  obtain ⟨ds, e, b⟩ := h
  exact ⟨ds, s _ _ e n, b⟩
theorem Deck.ne {H : Hp} {p q : Addr} (h : Deck H p) (hq : H q = none) : q ≠ p := by
  obtain ⟨ds, e, _⟩ := h
  exact (ne_of_none e hq).symm
/-! ## all unknown -/
end BrS
namespace BrS
open L2 PySem BrM BrC
section
variable {σ : St} {H : Hp} {Q : VK} {K : PySem.W.Frag}
end
/-! ## drawn rows -/
end BrS
namespace BrS
open L2 PySem BrM BrC
end BrS
namespace BrS
open L2 PySem BrM BrC
end BrS

namespace L2
open PySem PySem.Spec PyProof.Rows

/-! ### lists of pairs as tables -/
section
variable {κ : Type} [DecidableEq κ]
def valV (kvs : List (κ × V)) (k : κ) : Option V := (kvs.find? fun kv => decide (kv.1 = k)).map (·.2)
/-- in its place, or at the end -/
def putK (kvs : List (κ × V)) (k : κ) (v : V) : List (κ × V) :=
  if (kvs.any fun kv => decide (kv.1 = k)) = true then kvs.map (fun kv => if kv.1 = k then (kv.1, v) else kv) else kvs ++ [(k, v)]
def dropK (kvs : List (κ × V)) (k : κ) : List (κ × V) := kvs.filter fun kv => decide (kv.1 ≠ k)

theorem valV_pos {p : κ × V} {r : List (κ × V)} {k : κ} (e : p.1 = k) : valV (p :: r) k = some p.2 := by simp [valV, List.find?_cons, e]
theorem valV_neg {p : κ × V} {r : List (κ × V)} {k : κ} (e : ¬ p.1 = k) : valV (p :: r) k = valV r k := by simp [valV, List.find?_cons, e]
theorem valV_any (k : κ) : ∀ kvs : List (κ × V), (kvs.any fun kv => decide (kv.1 = k)) = (valV kvs k).isSome
  | [] => rfl
  | p :: r => by
    rw [List.any_cons]
    by_cases e : p.1 = k
    · simp only [valV_pos e, decide_eq_true e, Bool.true_or, Option.isSome_some]
    · rw [valV_neg e, decide_eq_false e, Bool.false_or]; exact valV_any k r
theorem RelO.isSome_eq {o : Option V} {u : Option Value} (r : RelO o u) : o.isSome = u.isSome := by
  cases o with
  | none => cases u with
    | none => rfl
    | some _ => exact (show False from r).elim
  | some _ => cases u with
    | none => exact (show False from r).elim
    | some _ => rfl
theorem RelO.getD {o : Option V} {u : Option Value} {d : V} {d' : Value} (r : RelO o u) (rd : RelV d d') : RelV (o.getD d) (u.getD d') := by
  cases o with
  | none => cases u with
    | none => exact rd
    | some _ => exact (show False from r).elim
  | some _ => cases u with
    | none => exact (show False from r).elim
    | some _ => exact r

/-- raw tables of the same keys -/
theorem KV.val {kvs : List (κ × V)} {vs : List (κ × Value)} (r : KV kvs vs) (k : κ) : RelO (valV kvs k) (valueAt vs k) := by
  unfold KV at r
  induction r with
  | nil => exact True.intro
  | @cons p q ps qs h t ih =>
    obtain ⟨h1, h2⟩ := h
    by_cases e : p.1 = k
    · have e' : q.1 = k := h1.symm.trans e
      have b : valueAt (q :: qs) k = some q.2 := by simp [valueAt, List.find?_cons, e']
      rw [valV_pos e, b]; exact h2
    · have e' : ¬ q.1 = k := fun z => e (h1.trans z)
      have b : valueAt (q :: qs) k = valueAt qs k := by simp [valueAt, List.find?_cons, e']
      rw [valV_neg e, b]; exact ih
theorem KV.any {kvs : List (κ × V)} {vs : List (κ × Value)} (r : KV kvs vs) (k : κ) : (kvs.any fun kv => decide (kv.1 = k)) = vs.any fun kv => decide (kv.1 = k) := by
  unfold KV at r
  induction r with
  | nil => rfl
  | cons h t ih => rw [List.any_cons, List.any_cons, ih, h.1]
theorem KV.repl {kvs : List (κ × V)} {vs : List (κ × Value)} (r : KV kvs vs) (k : κ) {y : V} {u : Value} (ry : RelV y u) :
    KV (kvs.map fun kv => if kv.1 = k then (kv.1, y) else kv) (vs.map fun kv => if kv.1 = k then (kv.1, u) else kv) := by
  unfold KV at r ⊢
  induction r with
  | nil => exact .nil
  | @cons p q ps qs h t ih =>
    rw [List.map_cons, List.map_cons]
    refine .cons ?_ ih
    obtain ⟨h1, h2⟩ := h
    by_cases e : p.1 = k
    · rw [if_pos e, if_pos (h1.symm.trans e)]; exact ⟨h1, ry⟩
    · rw [if_neg e, if_neg (fun z => e (h1.trans z))]; exact ⟨h1, h2⟩
theorem KV.put {kvs : List (κ × V)} {vs : List (κ × Value)} (r : KV kvs vs) (k : κ) {y : V} {u : Value} (ry : RelV y u) : KV (putK kvs k y) (stored vs k u) := by
  unfold putK stored
  rw [r.any k]
  by_cases e : (vs.any fun kv => decide (kv.1 = k)) = true
  · rw [if_pos e, if_pos e]; exact r.repl k ry
  · rw [if_neg e, if_neg e]; exact Paired.snoc r ⟨rfl, ry⟩
theorem KV.drop {kvs : List (κ × V)} {vs : List (κ × Value)} (r : KV kvs vs) (k : κ) : KV (dropK kvs k) (without vs k) := by
  unfold KV at r ⊢
  unfold dropK without
  induction r with
  | nil => exact .nil
  | @cons p q ps qs h t ih =>
    obtain ⟨h1, h2⟩ := h
    rw [List.filter_cons, List.filter_cons]
    by_cases e : p.1 = k
    · have a : ¬ decide (p.1 ≠ k) = true := by simp [e]
      have b : ¬ decide (q.1 ≠ k) = true := by simp [h1.symm.trans e]
      rw [if_neg a, if_neg b]; exact ih
    · have e' : ¬ q.1 = k := fun z => e (h1.trans z)
      have a : decide (p.1 ≠ k) = true := by simp [e]
      have b : decide (q.1 ≠ k) = true := by simp [e']
      rw [if_pos a, if_pos b]; exact .cons ⟨h1, h2⟩ ih
theorem KV.keys {kvs : List (κ × V)} {vs : List (κ × Value)} (r : KV kvs vs) : kvs.map (·.1) = vs.map (·.1) := by
  unfold KV at r
  induction r with
  | nil => rfl
  | cons h t ih => rw [List.map_cons, List.map_cons, ih, h.1]
theorem KV.length {kvs : List (κ × V)} {vs : List (κ × Value)} (r : KV kvs vs) : kvs.length = vs.length := Paired.length r
end


/-! ### a tracked dict, its keys ints and texts or tuples of these -/
/-- raw entries of a dict with tuple keys -/
abbrev KT (H : Hp) : List (List Key × V) → List (List Key × Addr × Value) → Prop := Paired fun p q => p.1 = q.1 ∧ H q.2.1 = some (.tup (p.1.map kV)) ∧ RelV p.2 q.2.2
theorem KT.val {H : Hp} {kvs : List (List Key × V)} {xs : List (List Key × Addr × Value)} (r : KT H kvs xs) (k : List Key) : RelO (valV kvs k) ((atKey xs k).map (·.2)) := by
  induction r with
  | nil => exact True.intro
  | @cons p q ps qs h t ih =>
    obtain ⟨h1, _, h2⟩ := h
    by_cases e : p.1 = k
    · have e' : q.1 = k := h1.symm.trans e
      have b : atKey (q :: qs) k = some q.2 := by simp [atKey, List.find?_cons, e']
      rw [valV_pos e, b]; exact h2
    · have e' : ¬ q.1 = k := fun z => e (h1.trans z)
      have b : atKey (q :: qs) k = atKey qs k := by simp [atKey, List.find?_cons, e']
      rw [valV_neg e, b]; exact ih
theorem KT.repl {H : Hp} {kvs : List (List Key × V)} {xs : List (List Key × Addr × Value)} (r : KT H kvs xs) (k : List Key) {y : V} {u : Value} (ry : RelV y u) :
    KT H (kvs.map fun kv => if kv.1 = k then (kv.1, y) else kv) (xs.map (putAt k u)) := by
  induction r with
  | nil => exact .nil
  | @cons p q ps qs h t ih =>
    rw [List.map_cons, List.map_cons]
    refine .cons ?_ ih
    obtain ⟨h1, h2, h3⟩ := h
    unfold putAt
    by_cases e : p.1 = k
    · rw [if_pos e, if_pos (h1.symm.trans e)]; exact ⟨h1, h2, ry⟩
    · rw [if_neg e, if_neg (fun z => e (h1.trans z))]; exact ⟨h1, h2, h3⟩
theorem KT.put {H : Hp} {kvs : List (List Key × V)} {xs : List (List Key × Addr × Value)} (r : KT H kvs xs) (k : List Key) {b : Addr} {y : V} {u : Value} (hb : H b = some (.tup (k.map kV))) (ry : RelV y u) :
    KT H (putK kvs k y) (storedH xs k b u) := by
  have e : (kvs.any fun kv => decide (kv.1 = k)) = (atKey xs k).isSome := by
    rw [valV_any, (r.val k).isSome_eq, Option.isSome_map]
  unfold putK storedH
  rw [e]
  by_cases q : (atKey xs k).isSome = true
  · rw [if_pos q, if_pos q]; exact r.repl k ry
  · rw [if_neg q, if_neg q]; exact Paired.snoc r ⟨rfl, hb, ry⟩
theorem KT.keeps {H H' : Hp} {kvs : List (List Key × V)} {xs : List (List Key × Addr × Value)} (r : KT H kvs xs) (ht : ∀ b ys, H b = some (.tup ys) → H' b = some (.tup ys)) : KT H' kvs xs :=
  Paired.mapP r fun _ _ z => ⟨z.1, ht _ _ z.2.1, z.2.2⟩

section
variable {P : Program} {w : World} {H : Hp} {h : Heap} {a : Addr}
end

/-- what the dict at a holds at the key y -/
def DGet (H : Hp) (a : Addr) (y : V) (r : Option V) : Prop :=
  (∃ kvs k, Rd H a (.dK kvs) ∧ y = kV k ∧ r = valV kvs k) ∨ ∃ kvs k b, Rd H a (.dT kvs) ∧ y = .ref b ∧ H b = some (.tup (k.map kV)) ∧ r = valV kvs k
/-- the heap behind a[y] = v -/
def DPut (H : Hp) (a : Addr) (y v : V) (H' : Hp) : Prop :=
  (∃ kvs k, H a = some (.dK kvs) ∧ y = kV k ∧ kvs.length < sizeLine ∧ H' = upd H a (.dK (putK kvs k v))) ∨
  ∃ kvs k b, H a = some (.dT kvs) ∧ y = .ref b ∧ H b = some (.tup (k.map kV)) ∧ kvs.length < sizeLine ∧ H' = upd H a (.dT (putK kvs k v))
theorem DGet.k {H : Hp} {a : Addr} {kvs : List (Key × V)} {k : Key} (e : H a = some (.dK kvs)) : DGet H a (kV k) (valV kvs k) := .inl ⟨kvs, k, .inl e, rfl, rfl⟩
theorem DGet.t {H : Hp} {a b : Addr} {kvs : List (List Key × V)} {k : List Key} (e : H a = some (.dT kvs)) (eb : H b = some (.tup (k.map kV))) : DGet H a (.ref b) (valV kvs k) := .inr ⟨kvs, k, b, .inl e, rfl, eb, rfl⟩
theorem DPut.k {H : Hp} {a : Addr} {kvs : List (Key × V)} {k : Key} {v : V} (e : H a = some (.dK kvs)) (hl : kvs.length < sizeLine) : DPut H a (kV k) v (upd H a (.dK (putK kvs k v))) := .inl ⟨kvs, k, e, rfl, hl, rfl⟩
theorem DPut.t {H : Hp} {a b : Addr} {kvs : List (List Key × V)} {k : List Key} {v : V} (e : H a = some (.dT kvs)) (eb : H b = some (.tup (k.map kV))) (hl : kvs.length < sizeLine) :
    DPut H a (.ref b) v (upd H a (.dT (putK kvs k v))) := .inr ⟨kvs, k, b, e, rfl, eb, hl, rfl⟩


section
variable {X : Cx} {pins : List (Addr × Obj)} {σ : St} {H : Hp} {s : Shared} {a : Addr} {y v : V} {u r : Value} {o : Option V} {A : Around} {E : Value → Shared → Prop}

end

section
variable {X : Cx} {pins : List (Addr × Obj)} {σ : St} {H : Hp} {s : Shared} {a : Addr} {kvs : List (Key × V)} {k : Key} {u : Value} {A : Around} {E : Value → Shared → Prop}
end


/-! ### readings and rules -/
section
variable {X : Cx} {o i e value : Expr} {pos pos' tpos : Pos} {td ty tv : TE}
end


/-! ### displays -/
section
variable {X : Cx} {pos : Pos}
end

/-! ### methods -/
/-- a method call o.m(e) of a built-in, with one argument: what must be seen of the text -/
structure M1 (X : Cx) (o : Expr) (m : Str) (apos : Pos) (e : Expr) (cpos : Pos) : Prop where
  base : attributeBase o m X.env (eval o X.env) = eval o X.env
  few : ((backTo cpos (starEach [e] X.env)).all (fun x => !x.1) && (backToKw cpos (keywordEach [] X.env)).all (fun x => x.1.isSome)
    && decide (([e] : List Expr).length + ([] : List Keyword).length + (if ([] : List Keyword).isEmpty then 0 else 1) < 30)) = true
  line : (apos.endLine == cpos.line) = true
  trees : backTo cpos (starEach [e] X.env) = [(false, eval e X.env)]
structure M2 (X : Cx) (o : Expr) (m : Str) (apos : Pos) (e f : Expr) (cpos : Pos) : Prop where
  base : attributeBase o m X.env (eval o X.env) = eval o X.env
  few : ((backTo cpos (starEach [e, f] X.env)).all (fun x => !x.1) && (backToKw cpos (keywordEach [] X.env)).all (fun x => x.1.isSome)
    && decide (([e, f] : List Expr).length + ([] : List Keyword).length + (if ([] : List Keyword).isEmpty then 0 else 1) < 30)) = true
  line : (apos.endLine == cpos.line) = true
  trees : backTo cpos (starEach [e, f] X.env) = [(false, eval e X.env), (false, eval f X.env)]

section
variable {X : Cx} {pins : List (Addr × Obj)} {σ : St} {H : Hp} {s : Shared} {a : Addr} {y d : V} {u r : Value} {o : Option V} {A : Around} {E : Value → Shared → Prop}
end

section
variable {X : Cx} {o e f : Expr} {apos cpos : Pos} {td ty tx : TE}
end

/-! ### dict(d): a copy -/
section
variable {X : Cx} {pins : List (Addr × Obj)} {σ : St} {H : Hp} {s : Shared} {a : Addr} {kvs : List (Key × V)} {A : Around} {E : Value → Shared → Prop}
end


section
variable {X : Cx} {pins : List (Addr × Obj)} {σ : St} {H : Hp} {s : Shared} {a : Addr} {y : V} {u : Value} {A : Around} {E : Value → Shared → Prop}
end
end L2
namespace L2
open PySem PySem.Spec PyProof.Rows
/-! ### a dict's pairs: keys that differ -/
section
variable {κ : Type} [DecidableEq κ]
end
end L2

namespace L2
open PySem PySem.Spec PyProof.Rows
/-! ## repr of what lies flat -/
inductive Sc : V → PyData → Prop
  | non : Sc .non .none
  | bl (b : Bool) : Sc (.bl b) (.bool b)
  | int (i : Int) : Sc (.int i) (.int i)
  | str (x : Str) : Sc (.str x) (.str x)
def Sck (p : Key × V) (q : PyData × PyData) : Prop := Sc (kV p.1) q.1 ∧ Sc p.2 q.2
inductive Sh (H : Hp) : V → PyData → Prop
  | sc {x : V} {d : PyData} (h : Sc x d) : Sh H x d
  | lst {a : Addr} {xs : List V} {ds : List PyData} (h : H a = some (.lst xs)) (r : Paired Sc xs ds) : Sh H (.ref a) (.list ds)
  | tup {a : Addr} {xs : List V} {ds : List PyData} (h : H a = some (.tup xs)) (r : Paired Sc xs ds) : Sh H (.ref a) (.tuple ds)
  | dct {a : Addr} {kvs : List (Key × V)} {ds : List (PyData × PyData)} (h : H a = some (.dK kvs)) (r : Paired Sck kvs ds) : Sh H (.ref a) (.dict ds)
theorem Sh.same {H H' : Hp} {x : V} {d : PyData} (h : Sh H x d) (s : Same H H') : Sh H' x d := by
  cases h with
  | sc h => exact .sc h
  | lst h r => exact .lst (s _ _ h) r
  | tup h r => exact .tup (s _ _ h) r
  | dct h r => exact .dct (s _ _ h) r
section
variable {X : Cx} {pins : List (Addr × Obj)} {σ : St} {H : Hp} {s : Shared}
end
/-! ## how long it is -/
def Low (a : List Nat) : Prop := ∀ c ∈ a, c < 16 ^ 8
end L2

namespace L2
open PySem PySem.Spec PyProof.Rows
/-! ## list of a text -/
section
variable {X : Cx}
end
theorem st_con {c z pos es env} : starEach (.Constant c z pos :: es) env = (false, eval (.Constant c z pos) env) :: starEach es env := rfl
theorem st_lst {c pos es env} : starEach (.List c pos :: es) env = (false, eval (.List c pos) env) :: starEach es env := rfl
theorem st_tup {c z pos es env} : starEach (.Tuple c z pos :: es) env = (false, eval (.Tuple c z pos) env) :: starEach es env := rfl
theorem st_dct {c z pos es env} : starEach (.Dict c z pos :: es) env = (false, eval (.Dict c z pos) env) :: starEach es env := rfl
theorem st_bin {c o d pos es env} : starEach (.BinOp c o d pos :: es) env = (false, eval (.BinOp c o d pos) env) :: starEach es env := rfl
theorem st_una {o c pos es env} : starEach (.UnaryOp o c pos :: es) env = (false, eval (.UnaryOp o c pos) env) :: starEach es env := rfl
theorem st_cal {f a k pos es env} : starEach (.Call f a k pos :: es) env = (false, eval (.Call f a k pos) env) :: starEach es env := rfl
theorem st_nam {x pos es env} : starEach (.Name x pos :: es) env = (false, eval (.Name x pos) env) :: starEach es env := rfl
theorem st_sub {a b pos es env} : starEach (.Subscript a b pos :: es) env = (false, eval (.Subscript a b pos) env) :: starEach es env := rfl
inductive Pl (X : Cx) : List Expr → List TE → Prop
  | nil : Pl X [] []
  | con {c z p t es ts} (h : PE X (.Constant c z p) t) (r : Pl X es ts) : Pl X (.Constant c z p :: es) (t :: ts)
  | lst {c p t es ts} (h : PE X (.List c p) t) (r : Pl X es ts) : Pl X (.List c p :: es) (t :: ts)
  | tup {c z p t es ts} (h : PE X (.Tuple c z p) t) (r : Pl X es ts) : Pl X (.Tuple c z p :: es) (t :: ts)
  | dct {c z p t es ts} (h : PE X (.Dict c z p) t) (r : Pl X es ts) : Pl X (.Dict c z p :: es) (t :: ts)
  | bin {c o d p t es ts} (h : PE X (.BinOp c o d p) t) (r : Pl X es ts) : Pl X (.BinOp c o d p :: es) (t :: ts)
  | una {o c p t es ts} (h : PE X (.UnaryOp o c p) t) (r : Pl X es ts) : Pl X (.UnaryOp o c p :: es) (t :: ts)
  | cal {f a k p t es ts} (h : PE X (.Call f a k p) t) (r : Pl X es ts) : Pl X (.Call f a k p :: es) (t :: ts)
  | nam {x p t es ts} (h : PE X (.Name x p) t) (r : Pl X es ts) : Pl X (.Name x p :: es) (t :: ts)
  | sub {a b p t es ts} (h : PE X (.Subscript a b p) t) (r : Pl X es ts) : Pl X (.Subscript a b p :: es) (t :: ts)
def tAll : List TE → TA
  | [] => tNil
  | t :: ts => tCons t (tAll ts)
theorem Pl.pa {X : Cx} {es : List Expr} {ts : List TE} (h : Pl X es ts) : PA X es (tAll ts) := by
  induction h with
  | nil => exact pa_nil
  | con h _ ih => exact pa_cons h ih st_con
  | lst h _ ih => exact pa_cons h ih st_lst
  | tup h _ ih => exact pa_cons h ih st_tup
  | dct h _ ih => exact pa_cons h ih st_dct
  | bin h _ ih => exact pa_cons h ih st_bin
  | una h _ ih => exact pa_cons h ih st_una
  | cal h _ ih => exact pa_cons h ih st_cal
  | nam h _ ih => exact pa_cons h ih st_nam
  | sub h _ ih => exact pa_cons h ih st_sub
theorem ex_consE {X : Cx} {body : List Stmt} {st : Stmt} {rest : List Stmt} {R : TS → Prop} {t : TS} (e : body = st :: rest) (h1 : PS X st t) (h2 : ∃ u, PSs X rest u ∧ R (tSeq t u)) : ∃ t, PSs X body t ∧ R t := by
  obtain ⟨u, a, b⟩ := h2
  exact ⟨_, by rw [e]; exact pss_cons h1 a, b⟩
theorem ex_oneE {X : Cx} {body : List Stmt} {st : Stmt} {R : TS → Prop} {t : TS} (e : body = [st]) (h1 : PS X st t) (h2 : R t) : ∃ t, PSs X body t ∧ R t := ⟨_, by rw [e]; exact pss_one h1, h2⟩
inductive PSb (X : Cx) (st : Stmt) (t : TS) : Prop
  | mk (h : PS X st t) : PSb X st t
theorem PSb.ps {X : Cx} {st : Stmt} {t : TS} (h : PSb X st t) : PS X st t := h.casesOn fun h => h
inductive PEb (X : Cx) (e : Expr) (t : TE) : Prop
  | mk (h : PE X e t) : PEb X e t
theorem ex_consB {X : Cx} {body : List Stmt} {st : Stmt} {rest : List Stmt} {R : TS → Prop} {t : TS} (e : body = st :: rest) (h1 : PSb X st t) (h2 : ∃ u, PSs X rest u ∧ R (tSeq t u)) : ∃ t, PSs X body t ∧ R t :=
  h1.casesOn fun h => ex_consE e h h2
end L2
namespace BrM
open L2 PySem
/-! ## the things that are asked -/
def Fine (a : List Nat) : Prop := Low a ∧ a.length ≤ 1000
inductive Th (p : Addr) (H : Hp) : V → Prop
  | txt (a : List Nat) (h : Fine a) : Th p H (tx a)
  | non : Th p H .non
  | int (i : Int) (h : i = 0 ∨ i = 7) : Th p H (.int i)
  | bl (b : Bool) : Th p H (.bl b)
  | lst {q : Addr} {l : List (List Nat)} (h : H q = some (.lst (l.map tx))) (n : q ≠ p) (f : ∀ a ∈ l, Fine a) (z : l.length ≤ 1100) : Th p H (.ref q)
  | tup {q : Addr} {l : List (List Nat)} (h : H q = some (.tup (l.map tx))) (n : q ≠ p) (f : ∀ a ∈ l, Fine a) (z : l.length ≤ 1) : Th p H (.ref q)
  | dc0 {q : Addr} (h : H q = some (.dK [])) (n : q ≠ p) : Th p H (.ref q)
  | dc1 {q : Addr} {a : List Nat} (h : H q = some (.dK [(.inr ⟨a.toArray⟩, .int 1)])) (n : q ≠ p) (f : Fine a) : Th p H (.ref q)
theorem Th.keep {p : Addr} {H H' : Hp} {v : V} (t : Th p H v) (s : SameBut1 p H H') : Th p H' v := by
  cases t with
  | txt a h => exact .txt a h
  | non => exact .non
  | int i h => exact .int i h
  | bl b => exact .bl b
  | lst h n f z => exact .lst (s _ _ h n) n f z
  | tup h n f z => exact .tup (s _ _ h n) n f z
  | dc0 h n => exact .dc0 (s _ _ h n) n
  | dc1 h n f => exact .dc1 (s _ _ h n) n f
theorem Th.same {p : Addr} {H H' : Hp} {v : V} (t : Th p H v) (s : Same H H') : Th p H' v := t.keep (SameBut1.of s)
theorem Th.kind {K : PySem.W.Frag} {p : Addr} {H : Hp} {v : V} (t : Th p H v) : (∃ a, v = tx a ∧ Fine a) ∨ ∃ T, TyOf K H v (.type T) ∧ T ∈ plainTy ∧ T ≠ "str" := by
  cases t with
  | txt a h => exact .inl ⟨a, rfl, h⟩
  | non => exact .inr ⟨_, .non, by decide, by decide⟩
  | int i h => exact .inr ⟨_, .int i, by decide, by decide⟩
  | bl b => exact .inr ⟨_, .bl b, by decide, by decide⟩
  | lst h n f z => exact .inr ⟨_, .lst h, by decide, by decide⟩
  | tup h n f z => exact .inr ⟨_, .tup h, by decide, by decide⟩
  | dc0 h n => exact .inr ⟨_, .dK h, by decide, by decide⟩
  | dc1 h n f => exact .inr ⟨_, .dK h, by decide, by decide⟩
theorem Th.upd {p D : Addr} {H : Hp} {v : V} {o : HO} (t : Th p H v) (n : v ≠ .ref D) : Th p (upd H D o) v := by
  cases t with
  | txt a h => exact .txt a h
  | non => exact .non
  | int i h => exact .int i h
  | bl b => exact .bl b
  | lst h m f z => exact .lst (by rw [upd_ne (fun e => n (by rw [e]))]; exact h) m f z
  | tup h m f z => exact .tup (by rw [upd_ne (fun e => n (by rw [e]))]; exact h) m f z
  | dc0 h m => exact .dc0 (by rw [upd_ne (fun e => n (by rw [e]))]; exact h) m
  | dc1 h m f => exact .dc1 (by rw [upd_ne (fun e => n (by rw [e]))]; exact h) m f
end BrM
namespace BrM
open L2 PySem
theorem all_cons {p : Addr} {H : Hp} {x : V} {l : List V} (h1 : Th p H x) (h2 : ∀ v ∈ l, Th p H v) : ∀ v ∈ x :: l, Th p H v := fun v hv => (List.mem_cons.mp hv).elim (fun e => e ▸ h1) (h2 v)
theorem rep_len (n : Nat) (b : List Nat) : (List.replicate n b).flatten.length = n * b.length := by
  induction n with
  | zero => simp
  | succ n ih => rw [List.replicate_succ, List.flatten_cons, List.length_append, ih, Nat.add_mul]; omega
end BrM

namespace BrP
open L2 PySem BrM
open PySem.Builtin PySem.Builtin.Str
/-! ## a pair of brackets taken out of a text wherever it stands -/
def rep1 (l p : List Nat) : List Nat := (Txt.replace ⟨l.toArray⟩ ⟨p.toArray⟩ ⟨([] : List Nat).toArray⟩).cps.toList
theorem rep1_eq (l p : List Nat) : Txt.replace ⟨l.toArray⟩ ⟨p.toArray⟩ ⟨([] : List Nat).toArray⟩ = ⟨(rep1 l p).toArray⟩ := by
  unfold rep1
  rw [Array.toArray_toList]
theorem fold_list : ∀ (r : List Str) (acc : Array Nat), (r.foldl (fun acc p => acc ++ (⟨([] : List Nat).toArray⟩ : Str).cps ++ p.cps) acc).toList = acc.toList ++ (r.map fun p => p.cps.toList).flatten
  | [], acc => by simp
  | q :: r, acc => by
    rw [List.foldl_cons, fold_list r]
    simp
theorem glued_list (ps : List Str) : (glued ⟨([] : List Nat).toArray⟩ ps).cps.toList = (ps.map fun p => p.cps.toList).flatten := by
  cases ps with
  | nil => rfl
  | cons q r =>
    show (r.foldl (fun acc p => acc ++ (⟨([] : List Nat).toArray⟩ : Str).cps ++ p.cps) q.cps).toList = _
    rw [fold_list]; rfl
theorem run_two {o : Nat} (ho : o ∈ opn) (st : List Nat) : run st [o, clo o] = some st := by
  have h := run_right (rt_pair (M := []) ho (clo_not ho) rfl) st
  exact h
theorem parts_run {x : Str} {o : Nat} (ho : o ∈ opn) : ∀ (cuts : List Nat) (a f : Nat), StrLaws.ChainTo x ⟨[o, clo o].toArray⟩ x.length a cuts f → ∀ st,
    run st ((StrLaws.partsFrom x 2 a cuts).map fun p => p.cps.toList).flatten = run st (x.cps.toList.drop a)
  | [], a, f, _, st => by
    show run st ([(strSub x a x.length).cps.toList]).flatten = _
    rw [List.flatten_cons, List.flatten_nil, List.append_nil, StrLaws.strSub_toList]
    congr 1
    exact List.take_of_length_le (by simp [Str.length])
  | c :: r, a, f, h, st => by
    obtain ⟨h1, h2, h3⟩ := h
    have ih := parts_run (x := x) ho r (c + 2) f h3
    show run st ((strSub x a c).cps.toList :: ((StrLaws.partsFrom x 2 (c + 2) r).map fun p => p.cps.toList)).flatten = _
    rw [List.flatten_cons, run_append]
    have hp : ((x.cps.toList.drop c).take 2) = [o, clo o] := by
      have := h2.2
      rw [StrLaws.subAt_eq] at this
      exact eq_of_beq this
    have e1 : x.cps.toList.drop a = (x.cps.toList.drop a).take (c - a) ++ ([o, clo o] ++ x.cps.toList.drop (c + 2)) := by
      rw [← hp]
      have e2 : (x.cps.toList.drop c).take 2 ++ x.cps.toList.drop (c + 2) = x.cps.toList.drop c := by
        rw [← List.drop_drop]
        exact List.take_append_drop 2 _
      rw [e2]
      have e5 : x.cps.toList.drop c = (x.cps.toList.drop a).drop (c - a) := by rw [List.drop_drop]; congr 1; omega
      rw [e5]
      exact (List.take_append_drop (c - a) _).symm
    rw [StrLaws.strSub_toList, e1, run_append]
    have e3 : (x.cps.toList.drop a).take (c - a) ++ ([o, clo o] ++ x.cps.toList.drop (c + 2)) = x.cps.toList.drop a := e1.symm
    rw [e3]
    congr 1
    funext s
    rw [ih s, run_append, run_two ho s]
    rfl
theorem rep_run {o : Nat} (ho : o ∈ opn) (l st : List Nat) : run st (rep1 l [o, clo o]) = run st l := by
  unfold rep1 Txt.replace
  split
  · rfl
  · obtain ⟨f, h⟩ := StrLaws.occ_chain ⟨l.toArray⟩ ⟨[o, clo o].toArray⟩ ((⟨l.toArray⟩ : Str).length + 1)
    rw [glued_list, StrLaws.partsBetween_eq]
    have := parts_run ho _ 0 f h st
    rw [List.drop_zero] at this
    exact this
theorem rep_len (l : List Nat) (o c : Nat) : (rep1 l [o, c]).length ≤ l.length ∧ ((rep1 l [o, c]).length = l.length → rep1 l [o, c] = l ∧ ∀ A B, l ≠ A ++ [o, c] ++ B) := by
  unfold rep1 Txt.replace
  rcases StrLaws.occ_head ⟨l.toArray⟩ ⟨[o, c].toArray⟩ ((⟨l.toArray⟩ : Str).length + 1) (by omega) with ⟨h, hn⟩ | ⟨i, r, h, hi, _⟩
  · rw [h, if_pos (by simp)]
    refine ⟨by simp, fun _ => ⟨by simp, fun A B e => hn A.length ⟨?_, ?_⟩⟩⟩
    · rw [e]; simp [Str.length]
    · rw [StrLaws.subAt_eq, e]
      simp [Str.length]
  · rw [if_neg (by rw [h]; simp [Str.length])]
    have hy : (glued ⟨[o, c].toArray⟩ (partsBetween ⟨l.toArray⟩ (occurrences ⟨l.toArray⟩ ⟨[o, c].toArray⟩ 0 (⟨l.toArray⟩ : Str).length ((⟨l.toArray⟩ : Str).length + 1)) (⟨[o, c].toArray⟩ : Str).length)).length = (⟨l.toArray⟩ : Str).length := by rw [StrLaws.glued_between_self]
    have e0 : ∀ s : Str, s.cps.toList.length = s.length := fun s => by simp [Str.length]
    rw [e0]
    rw [size_glued, length_partsBetween, Nat.add_sub_cancel] at hy
    rw [size_glued, length_partsBetween, Nat.add_sub_cancel]
    rw [h] at hy ⊢
    have e1 : (⟨[o, c].toArray⟩ : Str).length = 2 := rfl
    have e2 : (⟨([] : List Nat).toArray⟩ : Str).length = 0 := rfl
    have e3 : (⟨l.toArray⟩ : Str).length = l.length := by simp [Str.length]
    rw [e1, e3] at hy
    rw [e2, e1, Nat.mul_zero, Nat.add_zero]
    rw [List.length_cons] at hy
    refine ⟨?_, fun z => ?_⟩
    · omega
    · exfalso
      omega
/-! ## a row that no more gets shorter -/
def rep4 (l : List Nat) : List Nat := rep1 (rep1 (rep1 (rep1 l [40, 41]) [91, 93]) [123, 125]) [60, 62]
theorem rep4_run (l st : List Nat) : run st (rep4 l) = run st l := by
  unfold rep4
  rw [show [60, 62] = [60, clo 60] from rfl, show [123, 125] = [123, clo 123] from rfl, show [91, 93] = [91, clo 91] from rfl, show [40, 41] = [40, clo 40] from rfl]
  rw [rep_run (by decide), rep_run (by decide), rep_run (by decide), rep_run (by decide)]
theorem rep4_len (l : List Nat) : (rep4 l).length ≤ l.length ∧ ((rep4 l).length = l.length → rep4 l = l ∧ ∀ o ∈ opn, ∀ A B, l ≠ A ++ [o, clo o] ++ B) := by
  unfold rep4
  have h1 := rep_len l 40 41
  generalize rep1 l [40, 41] = l1 at h1
  have h2 := rep_len l1 91 93
  generalize rep1 l1 [91, 93] = l2 at h2
  have h3 := rep_len l2 123 125
  generalize rep1 l2 [123, 125] = l3 at h3
  have h4 := rep_len l3 60 62
  generalize rep1 l3 [60, 62] = l4 at h4
  refine ⟨by omega, fun e => ?_⟩
  obtain ⟨a1, b1⟩ := h1.2 (by omega)
  subst a1
  obtain ⟨a2, b2⟩ := h2.2 (by omega)
  subst a2
  obtain ⟨a3, b3⟩ := h3.2 (by omega)
  subst a3
  obtain ⟨a4, b4⟩ := h4.2 (by omega)
  subst a4
  refine ⟨rfl, fun o ho A B => ?_⟩
  have ho' : o = 40 ∨ o = 91 ∨ o = 123 ∨ o = 60 := by simpa [opn] using ho
  rcases ho' with rfl | rfl | rfl | rfl
  · exact b1 A B
  · exact b2 A B
  · exact b3 A B
  · exact b4 A B
theorem stuck_run : ∀ (l st t : List Nat) (o : Nat), o ∈ opn → run (clo o :: st) l = some t → (∀ c ∈ opn, ∀ A B, o :: l ≠ A ++ [c, clo c] ++ B) → st.length < t.length
  | [], st, t, o, ho, h, _ => by
    cases h
    simp
  | c :: r, st, t, o, ho, h, hn => by
    by_cases hc : c ∈ opn
    · have e : run (clo o :: st) (c :: r) = run (clo c :: clo o :: st) r := by
        show (stp (clo o :: st) c).bind _ = _
        rw [stp_open hc]; rfl
      rw [e] at h
      have := stuck_run r (clo o :: st) t c hc h (fun d hd A B z => hn d hd (o :: A) B (by rw [z]; rfl))
      rw [List.length_cons] at this
      omega
    · exfalso
      by_cases hd : c = clo o
      · subst hd
        exact hn o ho [] r rfl
      · have e : run (clo o :: st) (c :: r) = none := by
          show (stp (clo o :: st) c).bind _ = _
          have : stp (clo o :: st) c = none := by
            unfold stp
            rw [if_neg hc]
            simp [Ne.symm hd, hd]
          rw [this]; rfl
        rw [e] at h; cases h
theorem stuck_right {l : List Nat} (hn : ∀ o ∈ opn, ∀ A B, l ≠ A ++ [o, clo o] ++ B) : Rt l ↔ l = [] := by
  constructor
  · intro h
    cases l with
    | nil => rfl
    | cons c r =>
      exfalso
      by_cases hc : c ∈ opn
      · have e : run [] (c :: r) = run [clo c] r := by
          show (stp [] c).bind _ = _
          rw [stp_open hc]; rfl
        unfold Rt at h
        rw [e] at h
        have := stuck_run r [] [] c hc h hn
        simp at this
      · have : run [] (c :: r) = none := by
          show (stp [] c).bind _ = _
          have : stp [] c = none := by
            unfold stp
            rw [if_neg hc]
          rw [this]; rfl
        unfold Rt at h
        rw [this] at h; cases h
  · rintro rfl; rfl
end BrP

namespace BrP
open L2 PySem BrM
open PySem.Spec PyProof.Rows
section
variable {X : Cx} {pins : List (Addr × Obj)} {σ : List (Option V)} {H : Hp} {s : Shared}
/-- a plain local name is stored, and the frame's names behind it are told -/
theorem store_ok3 {M : Model} {A : Around} {E : Value → Shared → Prop} {i : Nat} {x : Str} {v : V} {u : Value} {Q : Unit → Shared → Prop} (I : Inv X pins σ H s) (hN : X.N.Nodup) (hi : X.N[i]? = some x) (hk : X.env.scope.names.lookup x = some .local) (r : RelV v u)
    (h : ∀ h' m', Inv X pins (σ.set i (some v)) H { s with heap := h', toks := s.toks + 1 } → h'.Ns X.env.locals m' → m' x = some u →
      (∀ (j : Nat) (y : Str) (v' : V), X.N[j]? = some y → (σ.set i (some v))[j]? = some (some v') → Vis X.env.scope y → ∃ u', RelV v' u' ∧ Look X.env h' m' y u') → Q () { s with heap := h', toks := s.toks + 1 }) : wpAny M A (storeName X.env x u) Q E s := by
  obtain ⟨m, hn, hl⟩ := id I.loc
  have hcls : (X.env.scope.kind == .class || (X.env.scope.kind == .module && X.env.locals != X.env.globals)) = false := by rw [I.ok.kind]; rfl
  have hiσ : i < σ.length := by rw [I.len]; exact (List.getElem?_eq_some_iff.mp hi).1
  have cne := I.cne
  refine wpAny_storeName_local hk hn (fun h' hn' hs => ?_) hcls
  obtain ⟨oL, _, _, hoL, _⟩ := id hn
  have lo : ∀ (j : Nat) (y : Str) (v' : V), X.N[j]? = some y → (σ.set i (some v))[j]? = some (some v') → Vis X.env.scope y → ∃ u', RelV v' u' ∧ Look X.env h' (fun z => if z = x then some u else m z) y u' := fun j y v' e1 e2 e3 => by
    by_cases hj : j = i
    · subst hj
      rw [hi] at e1; cases e1
      rw [List.getElem?_set_self hiσ] at e2
      cases e2
      exact ⟨u, r, .inl ⟨hk, by simp⟩⟩
    · rw [List.getElem?_set_ne (Ne.symm hj)] at e2
      obtain ⟨u', r', q⟩ := hl j y v' e1 e2 e3
      refine ⟨u', r', ?_⟩
      rcases q with ⟨k, e⟩ | ⟨k, c, e, z⟩
      · refine .inl ⟨k, ?_⟩
        have : y ≠ x := fun e => hj (nodup_ix hN e1 (e ▸ hi))
        simp [this, e]
      · exact .inr ⟨k, c, e, z.sameBut hs (cne y c e)⟩
  have hok : HOk X.prog X.w H h' := by
    refine ⟨fun b ob e => ?_, I.hok.sm, ?_⟩
    rotate_left
    · obtain ⟨b, o, l, e⟩ := I.hok.bg
      by_cases hb : b = X.env.locals
      · obtain ⟨o', _, _, e', _⟩ := hn'
        exact ⟨X.env.locals, o', hb ▸ l, e'⟩
      · exact ⟨b, o, l, (hs.2 b hb).trans e⟩
    refine (I.hok b ob e).stay (fun c w' hc q => (hs.2 c ?_).trans q) (fun _ q => q) fun _ _ q => q
    rintro rfl
    rcases hc with rfl | hc
    · rw [I.free] at e; cases e
    · rw [I.free] at hc; cases hc
  refine h _ _ ⟨I.ok, I.os, I.bare, ⟨fun b o e n hb hx => ?_, fun b o e n hb hx => ?_, I.base.free, fun b o e hx => ?_, I.base.tups, I.base.frzs, I.base.tbls⟩, ⟨_, hn', lo⟩, fun y c e => ?_, I.free, I.freeC, fun p hp => ?_, hok, by simpa using I.len⟩ hn' (by simp) lo
  · exact (hs.2 b (Nat.ne_of_lt (Nat.lt_of_lt_of_le (Heap.lt_size e) I.ok.above))).trans (I.base.keep b o e n hb hx)
  · obtain ⟨sl, e1⟩ := I.base.slot b o e n hb hx
    exact ⟨sl, (hs.2 b (Nat.ne_of_lt (Nat.lt_of_lt_of_le (Heap.lt_size e) I.ok.above))).trans e1⟩
  · obtain ⟨o', e1⟩ := I.base.there b o e hx
    exact ⟨o', (hs.2 b (Nat.ne_of_lt (Nat.lt_of_lt_of_le (Heap.lt_size e) I.ok.above))).trans e1⟩
  · obtain ⟨w', z⟩ := I.cell y c e
    exact ⟨w', z.sameBut hs (cne y c e)⟩
  · obtain ⟨e, n, ne, nf, d⟩ := I.pin p hp
    exact ⟨(hs.2 p.1 ne).trans e, n, ne, nf, d⟩
end
/-- the pairs, in the order in which they are taken out -/
def prs : List (List Nat) := [[40, 41], [91, 93], [123, 125], [60, 62]]
def repN (i : Nat) (l : List Nat) : List Nat := (prs.take i).foldl rep1 l
theorem repN_len (i : Nat) (l : List Nat) : (repN i l).length ≤ l.length := by
  have go : ∀ (ps : List (List Nat)) (l : List Nat), (∀ p ∈ ps, ∃ o c, p = [o, c]) → (ps.foldl rep1 l).length ≤ l.length := by
    intro ps
    induction ps with
    | nil => intro l _; exact Nat.le_refl _
    | cons p r ih =>
      intro l h
      obtain ⟨o, c, rfl⟩ := h p (by simp)
      exact Nat.le_trans (ih _ fun q hq => h q (by simp [hq])) (rep_len l o c).1
  refine go _ l fun p hp => ?_
  have := List.mem_of_mem_take hp
  simp [prs] at this
  rcases this with rfl | rfl | rfl | rfl <;> exact ⟨_, _, rfl⟩
theorem repN_succ {i : Nat} {p l : List Nat} (h : prs[i]? = some p) : repN (i + 1) l = rep1 (repN i l) p := by
  unfold repN
  rw [List.take_add_one, h]
  simp
theorem set4 {α : Type} {σ : List α} {i j : Nat} (hij : i ≠ j) (a b c d : α) : ((((σ.set i a).set j b).set i c).set j d) = (σ.set i c).set j d := by
  rw [List.set_comm _ _ (Ne.symm hij), List.set_set, List.set_set]
/-- many = e; for pair in ['()', '[]', '{}', '<>']: left = left.replace(pair, '') -/
def tRep (te : TE) (im ip jl : Nat) : TS := fun D σ H => te σ H fun x H1 => ∃ l, (σ.set im (some x))[jl]? = some (some (tx l)) ∧ l.length ≤ 1000 ∧
  D.nx (((σ.set im (some x)).set ip (some (tx [60, 62]))).set jl (some (tx (rep4 l)))) H1
section
variable {X : Cx}
theorem pss_rep {im ip jl : Nat} {xm xp xl y1 y2 y3 y4 z nr : Str} {em : Expr} {tm : TE} {k1 k2 k3 k4 k5 : Nat} {pm pa pp p1 p2 p3 p4 pl q1 q2 q3 q4 q5 q6 q7 pf : Pos}
    (hp : PassesOwn (model X.prog X.w) X.A X.env X.xe) (hc : X.calm = true) (hN : X.N.Nodup) (him : X.N[im]? = some xm) (hip : X.N[ip]? = some xp) (hjl : X.N[jl]? = some xl)
    (hkm : X.env.scope.names.lookup xm = some .local) (hkp : X.env.scope.names.lookup xp = some .local) (hkl : X.env.scope.names.lookup xl = some .local) (hij : ip ≠ jl) (he : PE X em tm)
    (hy1 : y1 = ⟨[40, 41].toArray⟩) (hy2 : y2 = ⟨[91, 93].toArray⟩) (hy3 : y3 = ⟨[123, 125].toArray⟩) (hy4 : y4 = ⟨[60, 62].toArray⟩) (hz : z = ⟨([] : List Nat).toArray⟩) (hnr : nr = "replace")
    (hsm : swapsWith em (some (.Name xm pm)) pa.line X.env = pure false := by rfl)
    (hdp : (xp == ("__debug__" : Str)) = false := by decide) (hdl : (xl == ("__debug__" : Str)) = false := by decide)
    (hst : starEach [.Constant (.str y1) k1 p1, .Constant (.str y2) k2 p2, .Constant (.str y3) k3 p3, .Constant (.str y4) k4 p4] X.env = [(false, eval (.Constant (.str y1) k1 p1) X.env), (false, eval (.Constant (.str y2) k2 p2) X.env), (false, eval (.Constant (.str y3) k3 p3) X.env), (false, eval (.Constant (.str y4) k4 p4) X.env)] := by rfl)
    (hst2 : starEach [.Name xp q4, .Constant (.str z) k5 q5] X.env = [(false, eval (.Name xp q4) X.env), (false, eval (.Constant (.str z) k5 q5) X.env)] := by rfl)
    (hbase : attributeBase (.Name xl q2) nr X.env (eval (.Name xl q2) X.env) = eval (.Name xl q2) X.env := by rfl) (hline : (q3.endLine == q6.line) = true := by rfl)
    (hfew : ((backTo q6 (starEach [.Name xp q4, .Constant (.str z) k5 q5] X.env)).all (fun x => !x.1) && (backToKw q6 (keywordEach [] X.env)).all (fun x => x.1.isSome)
      && decide (([.Name xp q4, .Constant (.str z) k5 q5] : List Expr).length + ([] : List Keyword).length + (if ([] : List Keyword).isEmpty then 0 else 1) < 30)) = true := by rfl)
    (hsl : swapsWith (.Call (.Attribute (.Name xl q2) nr q3) [.Name xp q4, .Constant (.str z) k5 q5] [] q6) (some (.Name xl q1)) q7.line X.env = pure false := by rfl)
    (hfs : ∀ x, foldedSetIterable (.List [.Constant (.str y1) k1 p1, .Constant (.str y2) k2 p2, .Constant (.str y3) k3 p3, .Constant (.str y4) k4 p4] pl) X.env x = pure x := by intro _; rfl) :
    PSs X [.Assign [.Name xm pm] em pa, .For (.Name xp pp) (.List [.Constant (.str y1) k1 p1, .Constant (.str y2) k2 p2, .Constant (.str y3) k3 p3, .Constant (.str y4) k4 p4] pl)
      [.Assign [.Name xl q1] (.Call (.Attribute (.Name xl q2) nr q3) [.Name xp q4, .Constant (.str z) k5 q5] [] q6) q7] [] pf] (tRep tm im ip jl) := by
  intro pins s σ H D I h
  subst hz hnr
  refine wpAny_execs_cons (wpAny_Assign_Name (thn (he pins s σ H _ I h) fun v s1 ⟨x, H1, I1, r1, q⟩ => store_ok3 I1 hN him hkm r1 fun h2 m2 I2 _ _ _ => ?_) hsm)
  obtain ⟨l, hl, hlen, q⟩ := q
  generalize hσ : σ.set im (some x) = σ2 at *
  refine wpAny_execs_cons (wpAny_For ?_ hfs)
  refine wpAny_List_spliced ?_
  rw [hst]
  show wpAny _ _ (spliced [(false, eval (.Constant (.str y1) k1 p1) X.env), (false, eval (.Constant (.str y2) k2 p2) X.env), (false, eval (.Constant (.str y3) k3 p3) X.env), (false, eval (.Constant (.str y4) k4 p4) X.env)]) _ _ _
  refine Calls.spliced_cons (Calls.Constant_str (Calls.spliced_cons (Calls.Constant_str (Calls.spliced_cons (Calls.Constant_str (Calls.spliced_cons (Calls.Constant_str (Calls.spliced_nil ⟨small (show 4 ≤ 1000 by decide), ?_⟩))))))))
  dsimp only
  generalize hT : s1.toks + 1 = T0 at *
  have hT0 : 1 ≤ T0 := by omega
  generalize hits : ([.str y1 T0, .str y2 (T0 + 1), .str y3 (T0 + 1 + 1), .str y4 (T0 + 1 + 1 + 1)] : List Value) = its
  have hitem : ∀ (i : Nat) (p : List Nat), prs[i]? = some p → ∃ t : Nat, its.toArray[i]? = some (Value.str ⟨p.toArray⟩ t) ∧ T0 ≤ t ∧ t < T0 + 4 := by
    intro i p e
    have hi : i = 0 ∨ i = 1 ∨ i = 2 ∨ i = 3 := by
      have := (List.getElem?_eq_some_iff.mp e).1
      simp [prs] at this; omega
    subst hits
    rcases hi with rfl | rfl | rfl | rfl <;> (cases e; first | exact ⟨_, by rw [hy1]; rfl, by omega, by omega⟩ | exact ⟨_, by rw [hy2]; rfl, by omega, by omega⟩ | exact ⟨_, by rw [hy3]; rfl, by omega, by omega⟩ | exact ⟨_, by rw [hy4]; rfl, by omega, by omega⟩)
  have hend : its.toArray[4]? = none := by subst hits; rfl
  generalize hlob : ({ cls := .type "list", data := .seq its.toArray } : Obj) = lob
  have hfz : lob.isFreed = false := by rw [← hlob]; rfl
  have hIL : (h2.push lob).IsList h2.objs.size its.toArray := ⟨lob, Heap.get?_push_size _ hfz, by rw [← hlob], _, by rw [← hlob]⟩
  refine wpAny_pyIter_list hIL ?_
  generalize hit : (h2.push lob).objs.size = it
  have fr := I2.hok.fresh (Nat.le_refl h2.objs.size)
  have I3 : Inv X pins σ2 H1 { s1 with heap := (h2.push lob), toks := T0 + 1 + 1 + 1 + 1 } := I2.kept fun b o e => Heap.get?_push_of_some _ e
  have f3 := I2.fpOk (Nat.le_refl h2.objs.size) fr
  have I3' : Inv X (pins ++ [(h2.objs.size, lob)]) σ2 H1 { s1 with heap := (h2.push lob), toks := T0 + 1 + 1 + 1 + 1 } := I3.pins_of fun p hp => (List.mem_append.mp hp).elim (fun y => I3.pin p (List.mem_append_right _ y)) fun y => by
    have e : p = (h2.objs.size, lob) := by simpa using y
    subst e
    exact ⟨Heap.get?_push_size _ hfz, fr, f3.2.1, f3.2.2.1, fun v y => by rw [← hlob] at y; cases y⟩
  have fr4 := I3.hok.fresh (Nat.le_refl (h2.push lob).objs.size)
  have f4 : FpOk X (pins ++ [(h2.objs.size, lob)]) H1 it := hit ▸ I3'.fpOk (Nat.le_refl (h2.push lob).objs.size) fr4
  have I4 : Inv X (pins ++ [(h2.objs.size, lob)]) σ2 H1 { s1 with heap := (h2.push lob).push { cls := .type "list_iterator", data := .fields #[.ref h2.objs.size, .int 0 0] }, toks := T0 + 1 + 1 + 1 + 1 } := I3'.kept fun b o e => Heap.get?_push_of_some _ e
  have st4 : ((h2.push lob).push { cls := .type "list_iterator", data := .fields #[.ref h2.objs.size, .int 0 0] }).IsListIter it h2.objs.size 0 := ⟨_, hit ▸ Heap.get?_push_size _ rfl, rfl, rfl⟩
  have hil : ∀ {s' : Shared} {σ' : L2.St}, Inv X (pins ++ [(h2.objs.size, lob)]) σ' H1 s' → s'.heap.IsList h2.objs.size its.toArray := fun J => ⟨lob, (J.pin (h2.objs.size, lob) (List.mem_append_right _ (by simp))).1, by rw [← hlob], _, by rw [← hlob]⟩
  have hpl : ip < σ2.length := by rw [I2.len]; exact (List.getElem?_eq_some_iff.mp hip).1
  obtain ⟨f0, f1, f2, f3', f4', f5⟩ := f4
  generalize hL : h2.objs.size = L at *
  refine codeAny_forLoop_any (fun n s' => ∃ i o, n = 4 - i ∧ i ≤ 4 ∧ (i = 4 → o = some (tx [60, 62])) ∧ Inv X (pins ++ [(L, lob)]) ((σ2.set ip o).set jl (some (tx (repN i l)))) H1 s' ∧ s'.heap.IsListIter it L i ∧ T0 + 4 ≤ s'.toks) ?_ 4
    ⟨0, σ2[ip], rfl, by omega, (fun z => by omega), ?_, st4, by show T0 + 4 ≤ T0 + 1 + 1 + 1 + 1; omega⟩
  · rintro n s5 ⟨i, o, rfl, hi, ho, I5, st5, t5⟩
    by_cases hi4 : i = 4
    · subst hi4
      refine wpAny_passesOwn hp (wpAny_pyNext_list_end (I5.ok.hd hc) st5 (hil I5) hend fun h' eb => wpAny_execs_nil ?_)
      have I6 := I5.turned (h' := h') (t' := s5.toks) (fun b o hb e => eb b o hb e) f0 f1 f3' f4' f5
      rw [ho rfl] at I6
      exact wpAny_execs_nil ⟨_, H1, I6.unpinned, q⟩
    · obtain ⟨p, hpi⟩ : ∃ p, prs[i]? = some p := ⟨prs[i]'(by simp [prs]; omega), by simp⟩
      obtain ⟨t, hx, ht1, ht2⟩ := hitem i p hpi
      refine wpAny_passesOwn hp (wpAny_pyNext_list_item st5 (hil I5) hx fun h' st6 sb => ?_)
      have I6 := I5.turned (h' := h') (t' := s5.toks) (fun b o hb e => (sb.2 b hb).trans e) f0 f1 f3' f4' f5
      have st6' := st6
      obtain ⟨oi, ei, ci, di⟩ := st6'
      refine wpAny_passesOwn hp (go_of (s := { s5 with heap := h' }) ei ci di (by decide) ?_)
      have I6p : Inv X (pins ++ [(L, lob)] ++ [(it, oi)]) ((σ2.set ip o).set jl (some (tx (repN i l)))) H1 { s5 with heap := h' } := I6.pins_of fun p hp => (List.mem_append.mp hp).elim (fun y => I6.pin p (List.mem_append_right _ y)) fun y => by
        have e : p = (it, oi) := by simpa using y
        subst e
        exact ⟨ei, f0, f1, f2, fun v y => by rw [show (it, oi).2.data = _ from di] at y; cases y⟩
      refine wpAny_passesOwn hp (wpAny_assign_Name (store_ok3 I6p hN hip hkp (v := tx p) ⟨t, rfl⟩ fun h7 m7 I7 n7 e7 l7 => ?_))
      have hjl2 : jl < σ2.length := (List.getElem?_eq_some_iff.mp hl).1
      obtain ⟨ul, ⟨tl, rfl⟩, lk⟩ := l7 jl xl (tx (repN i l)) hjl (by rw [List.getElem?_set_ne hij, List.getElem?_set_self (by simpa using hjl2)]) (.inl hkl)
      have el : m7 xl = some (.str ⟨(repN i l).toArray⟩ tl) := by
        rcases lk with ⟨_, e⟩ | ⟨k, _⟩
        · exact e
        · rcases k with k | k <;> (rw [show X.env.kindOf xl = some .local from hkl] at k; cases k)
      refine wpAny_passesOwn hp (wpAny_execs_cons (wpAny_Assign_Name (wpAny_Call_method_late hbase hfew hline rfl (wpAny_Name (wpAny_loadName_local I7.ok.kind hkl n7 el ?_) hdl)) hsl))
      refine ⟨"str", "str.replace", F.plainAttrs_str, F.slot_str_replace, F.type_str_replace, typeIs_str _ _ _, (fun _ e => nomatch e), ?_⟩
      rw [hst2]
      refine Calls.callWith_builtin rfl (Calls.evalArgs_plain ?_)
      show wpAny _ _ (spliced [(false, eval (.Name xp q4) X.env), (false, eval (.Constant (.str ⟨([] : List Nat).toArray⟩) k5 q5) X.env)]) _ _ _
      refine (Calls.spliced_cons (wpAny_Name (wpAny_loadName_local I7.ok.kind hkp n7 e7 (Calls.spliced_cons (Calls.Constant_str (Calls.spliced_nil ?_)))) hdp))
      have hrl := repN_len i l
      refine wpAny_with_toks (n := T0 + 4) (show T0 + 4 ≤ s5.toks + 1 + 1 by omega) (SC.replace (show t ≠ 0 by omega) (show s5.toks + 1 ≠ 0 by omega) (show t ≠ s5.toks + 1 by omega) ?_ ?_ fun t' k ht => ?_)
      · have : p = [40, 41] ∨ p = [91, 93] ∨ p = [123, 125] ∨ p = [60, 62] := by
          have := List.mem_of_getElem? hpi
          simpa [prs] using this
        rcases this with rfl | rfl | rfl | rfl <;> decide +kernel
      · have e1 : (⟨(repN i l).toArray⟩ : Str).length = (repN i l).length := by simp [Str.length]
        have e2 : (⟨([] : List Nat).toArray⟩ : Str).length = 0 := rfl
        rw [e1, e2]; omega
      rw [rep1_eq]
      refine store_ok3 (I7.tok k) hN hjl hkl (v := tx (rep1 (repN i l) p)) ⟨t', rfl⟩ fun h9 m9 I9 _ _ _ => wpAny_execs_nil ?_
      refine ⟨4 - (i + 1), by omega, i + 1, some (tx p), rfl, by omega, fun z => ?_, ?_, ?_, ?_⟩
      · have : i = 3 := by omega
        subst this
        cases hpi; rfl
      · rw [repN_succ hpi]
        rw [set4 hij] at I9
        exact I9.unpinned
      · have := (I9.pin (it, oi) (List.mem_append_right _ (by simp))).1
        exact ⟨oi, this, ci, di⟩
      · show T0 + 4 ≤ k + 1
        have : T0 + 4 ≤ k := ht
        omega
  · have e : (σ2.set ip σ2[ip]).set jl (some (tx (repN 0 l))) = σ2 := by
      rw [List.set_getElem_self]
      have hjl2 := List.getElem?_eq_some_iff.mp hl
      obtain ⟨h1, h2'⟩ := hjl2
      show σ2.set jl (some (tx l)) = σ2
      rw [← h2', List.set_getElem_self]
    rw [e]
    exact I4
end
end BrP
namespace BrP
open L2 PySem BrM
def spCand : Sp := fun vs H Q _ => ∃ a, vs = [tx a] ∧ a.length ≤ 40 ∧ Q (.bl (decide (Rt a))) H
theorem cand_use {H : Hp} {a : List Nat} {Q : VK} {E : XK} (ha : a.length ≤ 40) (q : Q (.bl (decide (Rt a))) H) : spCand ([tx a] ++ []) H Q E := ⟨a, rfl, ha, q⟩
def spAsk02 : Sp := fun vs H Q _ => ∃ k a, vs = [.int k, tx a] ∧ 1 ≤ k ∧ k ≤ 4 ∧ isRow k a = true ∧ ∀ H', Same H H' → Q (.bl true) H'
theorem ask02_use {H : Hp} {k : Int} {a : List Nat} {Q : VK} {E : XK} (h1 : 1 ≤ k) (h2 : k ≤ 4) (ha : isRow k a = true) (q : ∀ H', Same H H' → Q (.bl true) H') : spAsk02 ([.int k, tx a] ++ []) H Q E := ⟨k, a, rfl, h1, h2, ha, q⟩
theorem s_rep {te : TE} {im ip jl : Nat} {D : Ends} {σ : St} {H : Hp} (h : te σ H fun x H1 => ∃ l, (σ.set im (some x))[jl]? = some (some (tx l)) ∧ l.length ≤ 1000 ∧ D.nx (((σ.set im (some x)).set ip (some (tx [60, 62]))).set jl (some (tx (rep4 l)))) H1) : tRep te im ip jl D σ H := h
end BrP
namespace BrP
open L2 PySem BrM
/-- a text of the signs of k kinds -/
def Rw (k : Int) (v : V) : Prop := ∃ a : List Nat, v = tx a ∧ a.length ≤ 130 ∧ ∀ c ∈ a, c ∈ sgn k
theorem rw_mk {k : Int} {a : List Nat} (h : a.length ≤ 130) (m : ∀ c ∈ a, c ∈ sgn k) : Rw k (tx a) := ⟨a, rfl, h, m⟩
theorem rw_nil {k : Int} : ∀ v ∈ ([] : List V), Rw k v := fun _ z => nomatch z
theorem rw_cons {k : Int} {x : V} {l : List V} (h1 : Rw k x) (h2 : ∀ v ∈ l, Rw k v) : ∀ v ∈ x :: l, Rw k v := fun v hv => (List.mem_cons.mp hv).elim (fun e => e ▸ h1) (h2 v)
theorem rw_app {k : Int} {l m : List V} (h1 : ∀ v ∈ l, Rw k v) (h2 : ∀ v ∈ m, Rw k v) : ∀ v ∈ l ++ m, Rw k v := fun v hv => (List.mem_append.mp hv).elim (h1 v) (h2 v)
end BrP

namespace L2
open PySem PySem.Spec PyProof.Rows
/-- for over a display of many items, behind the wall -/
theorem ps_forB {X : Cx} (K : PySem.W.Frag) {st : Stmt} {tg : Expr} {es : List Expr} {ts : List TE} {p pos : Pos} {body : List Stmt} {g : TG} {tb : TS} (est : st = .For tg (.List es p) body [] pos) (hK : X.K = K) (hp : PassesOwn (model X.prog X.w) X.A X.env X.xe) (hc : X.calm = true)
    (hes : Pl X es ts) (hg : PG X tg g) (hb : PSs X body tb) (hs : ∀ x, foldedSetIterable (.List es p) X.env x = pure x) : PSb X st (tFor (iList K (tLst (tAll ts))) g tb) := by
  subst est hK
  exact ⟨ps_for hp hc (pi_list (pe_lst hes.pa)) hg hb hs⟩
end L2


namespace Bk
open PySem L2 BrM BrR BrP
def top (i : Nat) : Stmt := PySem.Challenge.pw_bracketrows_k02_what_is_right.main.body.getD i (.Pass ⟨0, 0, 0, 0⟩)
abbrev d_is_whole : Stmt := top 10
abbrev d_check_kinds : Stmt := top 11
abbrev d_is_line : Stmt := top 12
abbrev d_check_line : Stmt := top 13
abbrev d_matched : Stmt := top 14
abbrev d_is_right : Stmt := top 15
abbrev d_law_pool : Stmt := top 17
abbrev d_law_take : Stmt := top 18
abbrev d_law_right_row : Stmt := top 19
abbrev d_law_signs : Stmt := top 20
abbrev d_law_bent : Stmt := top 22
abbrev d_law_any_row : Stmt := top 21
abbrev d_law_is_right : Stmt := top 23
abbrev d_law_asked_right : Stmt := top 24
abbrev d_law : Stmt := top 25
structure Txt (K : PySem.W.Frag) (mg : Str → Option Value) (aK : Addr) : Prop where
  n_all : mg "all" = none
  n_bool : mg "bool" = none
  n_enumerate : mg "enumerate" = none
  n_int : mg "int" = none
  n_isinstance : mg "isinstance" = none
  n_len : mg "len" = none
  n_max : mg "max" = none
  n_min : mg "min" = none
  n_range : mg "range" = none
  n_str : mg "str" = none
  g_OPENING : ∃ u, mg "OPENING" = some u ∧ RelV (tx [40, 91, 123, 60]) u
  g_CLOSING : ∃ u, mg "CLOSING" = some u ∧ RelV (tx [41, 93, 125, 62]) u
  g_KINDS : ∃ u, mg "KINDS" = some u ∧ RelV (.ref aK) u
  t_KINDS : ∀ H, SqT K H aK [tx [40, 41], tx [91, 93], tx [123, 125], tx [60, 62]]
  g_UNKNOWN : ∃ u, mg "UNKNOWN" = some u ∧ RelV (tx [63]) u
  g_MOST_SIGNS : ∃ u, mg "MOST_SIGNS" = some u ∧ RelV (.int 40) u
section
variable {P : Program} {w : World} {K : PySem.W.Frag} {mg : Str → Option Value} {base : Heap} {f aK : Addr} {fd : FuncData} {k : Nat}
local macro_rules | `(tactic| walk_at "st") => `(tactic| first
  | with_reducible refine s_seq ?_
  | with_reducible refine s_asg ?_
  | with_reducible refine s_name ?_
  | ((with_reducible refine s_var (v := ?v) ?e ?_); (case e => exact rfl))
  | with_reducible refine s_c ?_
  | with_reducible refine s_op ?_
  | with_reducible refine s_if ?_
  | with_reducible refine s_test ?_
  | with_reducible refine s_bl ?_
  | with_reducible refine s_call ?_
  | with_reducible refine s_cons ?_
  | with_reducible refine s_nil ?_
  | with_reducible refine s_cb ?_
  | with_reducible refine s_ret ?_
  | with_reducible refine s_lst ?_
  | with_reducible refine s_tup ?_
  | with_reducible refine s_drop ?_
  | with_reducible refine s_next ?_
  | with_reducible refine s_cont ?_
  | with_reducible refine s_break ?_
  | with_reducible refine s_gnil ?_
  | with_reducible refine s_gcons ?_
  | with_reducible refine s_gsub ?_
  | with_reducible refine s_un ?_
  | with_reducible refine s_neg ?_
  | with_reducible refine s_ifE ?_
  | with_reducible refine s_and ?_
  | with_reducible refine s_or ?_
  | with_reducible refine s_not ?_
  | with_reducible refine s_andV ?_
  | with_reducible refine s_orV ?_
  | with_reducible refine s_notV ?_
  | with_reducible refine s_tru ?_
  | with_reducible refine s_chain ?_
  | with_reducible refine s_truB ?_
  | with_reducible refine s_truN ?_
  | with_reducible refine s_addI ?_
  | with_reducible refine s_subI ?_
  | with_reducible refine s_eqI ?_
  | with_reducible refine s_eqT ?_
  | with_reducible refine s_eqB ?_
  | with_reducible refine s_neI ?_
  | with_reducible refine s_neT ?_
  | with_reducible refine s_neB ?_
  | with_reducible refine s_inT ?_
  | with_reducible refine s_notinT ?_
  | with_reducible refine s_sl ?_
  | with_reducible refine s_nopart ?_
  | with_reducible refine s_part ?_
  | with_reducible refine s_partI ?_
  | with_reducible refine s_max ?_
  | with_reducible refine s_min ?_
  | with_reducible refine s_intB ?_
  | with_reducible refine s_intI ?_
  | with_reducible refine s_bm ?_
  | with_reducible refine s_bm0 ?_
  | with_reducible refine s_for ?_
  | with_reducible refine s_irng1 ?_
  | with_reducible refine s_irng2 ?_
  | with_reducible refine s_irng3 ?_
  | with_reducible refine s_augS ?_
  | with_reducible refine s_ilist ?_
  | with_reducible refine s_istr ?_
  | with_reducible refine s_istrT ?_
  | with_reducible refine s_ienS ?_
  | with_reducible refine s_ienST ?_
  | with_reducible refine s_ienL ?_
  | with_reducible refine s_comp ?_
  | with_reducible refine s_rev ?_
  | with_reducible refine s_revI ?_
  | with_reducible refine s_irev ?_
  | with_reducible refine s_tyT ?_
  | ((with_reducible refine s_irevT ?e ?_); (case e => first | assumption | exact small (by omega)))
  | ((with_reducible refine s_revT ?e ?_); (case e => first | assumption | exact small (by omega)))
  | with_reducible refine s_yes ?_
  | ((with_reducible refine s_aug (x := ?x) ?e ?_); (case e => exact rfl))
  | with_reducible refine s_ipI ?_
  | ((with_reducible refine s_is ?e ?_); (case e => exact rfl))
  | ((with_reducible refine s_isnot ?e ?_); (case e => exact rfl))
  | ((with_reducible refine s_ixL (xs := ?xs) (v := ?v) ?h ?e ?_); (case h => assumption); (case e => exact rfl))
  | ((with_reducible refine s_rI ?e ?_); (case e => first | (exact (show (0 : Int) < _ by omega)) | (exact ⟨by omega, by omega⟩) | (exact ⟨by decide, by decide, by decide⟩)))
  | ((with_reducible refine s_mulI ?e ?_); (case e => first | exact .inl ⟨by omega, by omega⟩ | exact .inr ⟨by omega, by omega⟩))
  | ((with_reducible refine s_lenT ?e ?_); (case e => first | assumption | exact small (by omega)))
  | ((with_reducible refine s_addT ?e ?_); (case e => first | exact small (by omega) | exact small (by simp only [List.length_append, List.length_cons, List.length_nil]; omega)))
  | ((with_reducible refine s_slT ?e ?_); (case e => first | assumption | exact small (by omega) | exact small (by simp only [List.length_append, List.length_cons, List.length_nil]; omega)))
  )
local macro_rules | `(tactic| walk_at "go") => `(tactic| repeat (walk_at "st"))

theorem sc_is_whole : FnScope ["thing"] ["thing"] (defScope d_is_whole) := ⟨rfl, rfl, rfl, by decide +kernel, rfl, by decide +kernel, by decide +kernel⟩
theorem ok_is_whole (F : Fun K "is_whole" "is_whole" d_is_whole f fd) (T : Txt K mg aK)  : FnOk P w K mg base CX0 (k + 1) f fd ["thing"] (spWhole K) := by
  refine F.ok sc_is_whole (fun vs H Q E h => ?_) (fun cdv A outer s H vs Q E hr h => ?_)
  · obtain ⟨x, T', rfl, _⟩ := h; rfl
  obtain ⟨x, ty, rfl, hT, hp, q⟩ := h
  refine ⟨_, (pss_one (ps_ret (pe_and (pe_callB (call_isiA K) rfl T.n_isinstance PyProof.Rows.boot_isinstance (pa_cons (pv 0) (pa_cons (pe_ty T.n_int PyProof.Rows.boot_int) pa_nil))) (pe_one (pe_not (pe_callB (call_isiA K) rfl T.n_isinstance PyProof.Rows.boot_isinstance (pa_cons (pv 0) (pa_cons (pe_ty T.n_bool PyProof.Rows.boot_bool) pa_nil)))))))), ?_⟩
  walk_at "go"
  have hp' : ty = "NoneType" ∨ ty = "bool" ∨ ty = "int" ∨ ty = "str" ∨ ty = "list" ∨ ty = "tuple" ∨ ty = "dict" := by simpa [plainTy] using hp
  rcases hp' with rfl | rfl | rfl | rfl | rfl | rfl | rfl
  · refine s_isi (b := false) hT (by with_unfolding_all rfl) (s_bl (iteF ?_)); exact q
  · refine s_isi (b := true) hT (by with_unfolding_all rfl) (s_bl (iteT ?_))
    walk_at "go"
    refine s_isi (b := true) hT (by with_unfolding_all rfl) (s_bl ?_); exact q
  · refine s_isi (b := true) hT (by with_unfolding_all rfl) (s_bl (iteT ?_))
    walk_at "go"
    refine s_isi (b := false) hT (by with_unfolding_all rfl) (s_bl ?_); exact q
  · refine s_isi (b := false) hT (by with_unfolding_all rfl) (s_bl (iteF ?_)); exact q
  · refine s_isi (b := false) hT (by with_unfolding_all rfl) (s_bl (iteF ?_)); exact q
  · refine s_isi (b := false) hT (by with_unfolding_all rfl) (s_bl (iteF ?_)); exact q
  · refine s_isi (b := false) hT (by with_unfolding_all rfl) (s_bl (iteF ?_)); exact q

theorem sc_check_kinds : FnScope ["k"] ["k"] (defScope d_check_kinds) := ⟨rfl, rfl, rfl, by decide +kernel, rfl, by decide +kernel, by decide +kernel⟩
theorem ok_check_kinds (F : Fun K "check_kinds" "check_kinds" d_check_kinds f fd) (T : Txt K mg aK) (U_is_whole : FnU P w K mg base k "is_whole" ["thing"] (spWhole K)) : FnOk P w K mg base CX0 (k + 1) f fd ["k"] (spKinds) := by
  refine F.ok sc_check_kinds (fun vs H Q E h => ?_) (fun cdv A outer s H vs Q E hr h => ?_)
  · obtain ⟨x, rfl, _⟩ := h; rfl
  obtain ⟨x, rfl, h1, h2, q⟩ := h
  refine ⟨_, (pss_one (ps_if (PW.pt (pw_or (pt_not (pt_tru K (pe_fn U_is_whole hr (pa_cons (pv 0) pa_nil)))) (pw_or1 (pt_not (pt_chain op_le op_le pe_int (pv 0) (pe_callB (call_lenA K) rfl T.n_len PySem.boot_len (pa_cons (pe_gl T.g_KINDS) pa_nil)))))))   (pss_one ps_never)   pss_nil)), ?_⟩
  walk_at "go"
  refine whole_int ?_
  walk_at "go"
  refine ifq rfl ?_
  walk_at "go"
  refine ifp (decide_eq_true h1) ?_
  walk_at "go"
  refine s_lenL (.inr (T.t_KINDS H)) ?_
  walk_at "go"
  refine ifq (by simp; omega) ?_
  walk_at "go"
  exact q

theorem sc_is_line : FnScope ["k", "thing", "signs"] ["k", "thing"] (defScope d_is_line) := ⟨rfl, rfl, rfl, by decide +kernel, rfl, by decide +kernel, by decide +kernel⟩
theorem ok_is_line (F : Fun K "is_line" "is_line" d_is_line f fd) (T : Txt K mg aK) (U_check_kinds : FnU P w K mg base k "check_kinds" ["k"] (spKinds)) : FnOk P w K mg base CX0 (k + 1) f fd ["k", "thing"] (spLine K) := by
  refine F.ok sc_is_line (fun vs H Q E h => ?_) (fun cdv A outer s H vs Q E hr h => ?_)
  · obtain ⟨kk, x, rfl, _⟩ := h; rfl
  obtain ⟨kk, x, rfl, h1, h2, hx⟩ := h
  refine ⟨_, (pss_cons (ps_expr (pe_fn U_check_kinds hr (pa_cons (pv 0) pa_nil)))  (pss_cons (ps_if (PW.pt (pw_or (pt_not (pt_tru K (pe_callB (call_isiA K) rfl T.n_isinstance PyProof.Rows.boot_isinstance (pa_cons (pv 1) (pa_cons (pe_ty T.n_str PyProof.Rows.boot_str) pa_nil))))) (pw_or1 (pt_cmpR op_gt (pe_callB (call_lenA K) rfl T.n_len PySem.boot_len (pa_cons (pv 1) pa_nil)) (pe_gl T.g_MOST_SIGNS) (nomark _)))))   (pss_one (ps_ret pe_bl))   pss_nil)  (pss_cons (ps_set (i := 2) sc_is_line.nd rfl (Or.inr rfl) (pe_op op_plus (pe_op op_plus (pe_slice (sl_A K) (pe_gl T.g_OPENING) po_none (po_some (pv 0))) (pe_slice (sl_A K) (pe_gl T.g_CLOSING) po_none (po_some (pv 0)))) (pe_gl T.g_UNKNOWN)))  (pss_one (ps_ret (pe_callB (call_allA K rfl) rfl T.n_all PyProof.Rows.boot_all (pa_cons (pe_comp (own := ["sign"]) (sel := [2]) (compOk_of (osc := (defScope d_is_line)) (N := ["k", "thing", "signs"]) (by decide +kernel)) rfl (pi_str (pv 1)) (fun _ _ _ _ _ => (pg_name (i := 0) (show (["sign", "signs"] : List Str).Nodup from by decide +kernel) rfl (Or.inl rfl))) (gk_name (by decide)) (fun _ _ _ _ _ => pif_nil) (fun _ _ _ _ _ => (pe_cmpR (op_inA K) (pv 0) (pv 1) (by with_unfolding_all rfl)))) pa_nil))))))), ?_⟩
  walk_at "go"
  refine kinds_use h1 h2 ?_
  walk_at "go"
  rcases hx with ⟨a, rfl, ha, q⟩ | ⟨ty, hT, hp, hs, q⟩
  · refine s_isi (b := true) (TyOf.str _) (by with_unfolding_all rfl) ?_
    walk_at "go"
    refine ifq rfl ?_
    walk_at "go"
    refine ifd (fun hc => ?_) (fun hc => ?_)
    · walk_at "go"
      have e : isRow kk a = false := by unfold isRow; rw [decide_eq_false (by omega), Bool.false_and]
      have := q H (Same.refl H)
      rw [e] at this
      exact this
    · walk_at "go"
      rw [cut_to _ (by omega), cut_to _ (by omega)]
      have l1 : ((([40, 91, 123, 60] : List Nat)).take kk.toNat).length ≤ 4 := by rw [List.length_take]; exact Nat.min_le_right _ _
      have l2 : ((([41, 93, 125, 62] : List Nat)).take kk.toNat).length ≤ 4 := by rw [List.length_take]; exact Nat.min_le_right _ _
      first | refine s_addT (small (by omega)) ?_ | skip
      walk_at "go"
      first | refine s_addT (small (by rw [List.length_append, List.length_singleton]; omega)) ?_ | skip
      walk_at "go"
      refine comp_of (n := a.length) (fun D i ys H' => ys = ((a.take i).map fun c => V.bl (decide (c ∈ sgn kk))) ∧ SameBut1 D H H') (fun D hD => ⟨rfl, SameBut1.of (same_new hD _)⟩) (fun D i ys H' _ hi _ _ => by simpa [Its] using hi) (fun D ys H' hD hD' hl ⟨e, sH⟩ => ⟨by simp [Its], ?_⟩) ?_
      · rw [List.take_length] at e
        subst e
        have hS : SqL K H' D ((a.map fun c => decide (c ∈ sgn kk)).map V.bl) := by
          rw [List.map_map]; exact SqL.of hD'
        refine s_all hS ?_
        have e2 : ((a.map fun c => decide (c ∈ sgn kk)).all id) = isRow kk a := by
          unfold isRow
          rw [decide_eq_true (by omega), Bool.true_and, List.all_map]
          rfl
        rw [e2]
        exact q H' fun b o z => sH b o z (ne_of_none z hD)
      · rintro D i ys H' x H3 hD hi hD' hl ⟨e, sH⟩ ⟨rfl, c, ec, rfl⟩
        have ec' : a[i]? = some c := by simpa using ec
        show gName 0 (tx [c]) _ _ _
        walk_at "go"
        refine iteT ?_
        walk_at "go"
        refine comp_next hi (small (by omega)) hD' hl ⟨?_, sH.trans SameBut1.upd⟩
        rw [e, List.take_add_one, ec']
        simp only [Option.toList_some, List.map_append, List.map_cons, List.map_nil]
        rfl
  · have hp' : ty = "NoneType" ∨ ty = "bool" ∨ ty = "int" ∨ ty = "list" ∨ ty = "tuple" ∨ ty = "dict" := by
      have : ty = "NoneType" ∨ ty = "bool" ∨ ty = "int" ∨ ty = "str" ∨ ty = "list" ∨ ty = "tuple" ∨ ty = "dict" := by simpa [plainTy] using hp
      rcases this with z | z | z | z | z | z | z
      · exact .inl z
      · exact .inr (.inl z)
      · exact .inr (.inr (.inl z))
      · exact absurd z hs
      · exact .inr (.inr (.inr (.inl z)))
      · exact .inr (.inr (.inr (.inr (.inl z))))
      · exact .inr (.inr (.inr (.inr (.inr z))))
    have fin : PySem.W.kitOne K (.type ty) (.type "str") = some false := by
      rcases hp' with rfl | rfl | rfl | rfl | rfl | rfl <;> with_unfolding_all rfl
    refine s_isi (b := false) hT fin ?_
    walk_at "go"
    refine ifp rfl ?_
    walk_at "go"
    refine ifp rfl ?_
    walk_at "go"
    exact q

theorem sc_check_line : FnScope ["k", "row"] ["k", "row"] (defScope d_check_line) := ⟨rfl, rfl, rfl, by decide +kernel, rfl, by decide +kernel, by decide +kernel⟩
theorem ok_check_line (F : Fun K "check_line" "check_line" d_check_line f fd) (T : Txt K mg aK) (U_is_line : FnU P w K mg base k "is_line" ["k", "thing"] (spLine K)) : FnOk P w K mg base CX0 (k + 1) f fd ["k", "row"] (spCheckLine) := by
  refine F.ok sc_check_line (fun vs H Q E h => ?_) (fun cdv A outer s H vs Q E hr h => ?_)
  · obtain ⟨kk, a, rfl, _⟩ := h; rfl
  obtain ⟨kk, a, rfl, h1, h2, ha, q⟩ := h
  refine ⟨_, (pss_one (ps_if (pt_not (pt_tru K (pe_fn U_is_line hr (pa_cons (pv 0) (pa_cons (pv 1) pa_nil)))))   (pss_one ps_never)   pss_nil)), ?_⟩
  have hl := isRow_len ha
  walk_at "go"
  refine line_use h1 h2 (by omega) (fun H' sH => ?_)
  walk_at "go"
  refine ifq (by rw [ha]; rfl) ?_
  walk_at "go"
  exact q H' sH

theorem sc_matched : FnScope ["row", "found", "waiting", "at", "sign", "start"] ["row"] (defScope d_matched) := ⟨rfl, rfl, rfl, by decide +kernel, rfl, by decide +kernel, by decide +kernel⟩
theorem ok_matched (F : Fun K "matched" "matched" d_matched f fd) (T : Txt K mg aK)  : FnOk P w K mg base CX0 (k + 1) f fd ["row"] (spMatched) := by
  refine F.ok sc_matched (fun vs H Q E h => ?_) (fun cdv A outer s H vs Q E hr h => ?_)
  · obtain ⟨a, rfl, _⟩ := h; rfl
  obtain ⟨a, rfl, ha, q, q'⟩ := h
  have hu := hr.units0
  refine ⟨_, (pss_cons (ps_set (i := 1) sc_matched.nd rfl (Or.inl rfl) (pe_op op_times (pe_lst (pa_cons pe_int pa_nil)) (pe_callB (call_lenA K) rfl T.n_len PySem.boot_len (pa_cons (pv 0) pa_nil))))  (pss_cons (ps_set (i := 2) sc_matched.nd rfl (Or.inl rfl) (pe_lst pa_nil))  (pss_cons (ps_for PassesOwn.never rfl (pi_enumS rfl T.n_enumerate (pa_cons (pv 0) pa_nil)) (pg_tupK (n := 2) K rfl (pgs_cons (pg_name (i := 3) sc_matched.nd rfl (Or.inl rfl)) (pgs_cons (pg_name (i := 4) sc_matched.nd rfl (Or.inl rfl)) pgs_nil)))   (pss_cons (ps_if (pt_cmpR (op_inA K) (pv 4) (pe_gl T.g_OPENING) (by with_unfolding_all rfl))   (pss_cons (ps_expr (pe_bmK K PySem.F.plainAttrs_list PySem.F.slot_list_append PySem.F.type_list_append mt_append (pv 2) (pa_cons (pv 3) pa_nil)))  (pss_one ps_continue))   pss_nil)  (pss_cons (ps_if (PW.pt (pw_or (pt_not (pt_tru K (pv 2))) (pw_or1 (pt_cmpR (op_notinA K) (pe_op op_plus (pe_ix (ix_A K) (pv 0) (pe_ix (ix_A K) (pv 2) (pe_un un_neg pe_int) (fun _ _ => rfl)) (fun _ _ => rfl)) (pv 4)) (pe_gl T.g_KINDS) (by with_unfolding_all rfl)))))   (pss_one (ps_ret pe_non))   pss_nil)  (pss_cons (ps_set (i := 5) sc_matched.nd rfl (Or.inl rfl) (pe_bm0K K PySem.F.plainAttrs_list PySem.F.slot_list_pop PySem.F.type_list_pop mt_pop (pv 2)))  (pss_cons (ps_asg (pv 3) (pg_sub (pv 1) (pv 5) set_list))  (pss_one (ps_asg (pv 5) (pg_sub (pv 1) (pv 3) set_list))))))))  (pss_one (ps_ret (pe_ifExp (pt_tru K (pv 2)) pe_non (pv 1))))))), ?_⟩
  walk_at "go"
  refine ⟨small (show 1 ≤ 1000 by decide), fun p0 hp0 => ?_⟩
  walk_at "go"
  refine s_rep upd_same (by omega) (by omega) (small (by simp; omega)) (fun fo hfo => ?_)
  rw [Int.toNat_natCast, flat1]
  walk_at "go"
  refine ⟨small (show 0 ≤ 1000 by decide), fun wa hwa => ?_⟩
  walk_at "go"
  have sH : Same H (upd (upd (upd H p0 (.lst [.int 0])) fo (.lst (List.replicate a.length (V.int 0)))) wa (.lst [])) := (same_new hp0 _).trans ((same_new hfo _).trans (same_new hwa _))
  have hfw : fo ≠ wa := ne_of_none upd_same hwa
  have hHf : H fo = none := (same_new hp0 _).free hfo
  have hHw : H wa = none := (same_new hp0 _).free ((same_new hfo _).free hwa)
  refine for_enS (fun i σ H' => ∃ (st ws : List Nat) (xs : List V) (o3 o4 o5 : Option V), σ = [some (tx a), some (.ref fo), some (.ref wa), o3, o4, o5] ∧ MI a i st ws xs ∧ H' fo = some (.lst xs) ∧ H' wa = some (.lst (ws.reverse.map fun (w : Nat) => V.int w)) ∧ Same H H') ⟨[], [], List.replicate a.length (V.int 0), _, _, _, rfl, MI.start a (by simp), ?_, upd_same, sH⟩ ?_ ?_
  · rw [upd_ne hfw, upd_same]
  · rintro i c σ H1 tt hc ht ⟨st, ws, xs, o3, o4, o5, rfl, m, hf1, hw1, s1⟩
    have hi : i < a.length := (List.getElem?_eq_some_iff.mp hc).1
    have s2 : Same H1 (upd H1 tt (.tup [.int i, tx [c]])) := same_new ht _
    have hf2 := s2 _ _ hf1
    have hw2 := s2 _ _ hw1
    have hwl : ws.length ≤ 40 := by
      have e1 := m.wk.len
      have e2 := ht_of m.rn
      have : ∀ l : List Nat, hg l ≤ l.length := by
        intro l
        induction l with
        | nil => simp [hg]
        | cons d r ih => rw [hg, List.length_cons]; unfold sg; split <;> omega
      have e3 := this (a.take i)
      unfold BrM.ht at e2
      rw [List.length_take] at e3
      omega
    refine s_gtup (SqT.of upd_same) rfl ?_
    walk_at "go"
    refine ifd (fun ho => ?_) (fun ho => ?_)
    · walk_at "go"
      refine ⟨.inl ⟨rfl, _, SqL.of hw2⟩, ?_⟩
      walk_at "go"
      refine ⟨wa, _, .int i, rfl, rfl, hw2, small1000 (by simp; omega), ?_⟩
      walk_at "go"
      refine ⟨_, i :: ws, xs, _, _, _, rfl, m.opens hc ho, ?_, ?_, ?_⟩
      · rw [upd_ne hfw]; exact hf2
      · rw [upd_same]; simp
      · intro b o z
        rw [upd_ne (ne_of_none z hHw)]
        exact s2 b o (s1 b o z)
    · walk_at "go"
      refine s_truL (SqL.of hw2) ?_
      have ho : c ∉ opn := ho
      have hne : ∀ (hn : ¬ (∃ w wr r, ws = w :: wr ∧ st = c :: r)), ¬ Rt a := by
        intro hn hR
        obtain ⟨s', e⟩ := run_take hR (i + 1)
        rw [run_next m.rn hc] at e
        unfold stp at e
        rw [if_neg ho] at e
        cases st with
        | nil => cases e
        | cons d r =>
          simp only at e
          split at e
          · rename_i hd
            cases ws with
            | nil => have := m.wk.len; simp at this
            | cons w wr => exact hn ⟨w, wr, r, rfl, by rw [hd]⟩
          · cases e
      cases ws with
      | nil =>
        refine ifp rfl ?_
        walk_at "go"
        exact q' (hne (by rintro ⟨_, _, _, z, _⟩; cases z)) _ (s1.trans s2)
      | cons w wr =>
        refine ifq (by simp) ?_
        obtain ⟨cw, r, hcw, hcwo, rfl, hwi⟩ := m.top
        have hwa' : w < a.length := by omega
        have elast : ((w :: wr).reverse.map fun (w : Nat) => V.int w) = (wr.reverse.map fun (w : Nat) => V.int w) ++ [V.int w] := by simp
        have hl2 : atI ((w :: wr).reverse.map fun (w : Nat) => V.int w) (-1) = some (.int w) := by rw [elast]; exact atI_last _ _
        walk_at "st"
        walk_at "st"
        walk_at "st"
        walk_at "st"
        walk_at "st"
        walk_at "st"
        walk_at "go"
        refine s_ixL (SqL.of hw2) hl2 ?_
        refine s_ixT (small (by omega)) (atI_nat hcw) ?_
        walk_at "go"
        refine s_notinS (.inr (T.t_KINDS _)) rfl rfl ?_
        have ek : inV (tx ([cw] ++ [c])) [tx [40, 41], tx [91, 93], tx [123, 125], tx [60, 62]] = decide (c = clo cw) := kinds_in hcwo
        rw [ek]
        walk_at "go"
        refine ifn (fun hcc => ?_) (fun hcc => ?_)
        · walk_at "go"
          exact q' (hne (by rintro ⟨_, _, _, _, z⟩; injection z with z _; exact hcc z.symm)) _ (s1.trans s2)
        · walk_at "go"
          refine ⟨.inl ⟨rfl, _, SqL.of hw2⟩, ?_⟩
          refine ⟨wa, _, .int w, rfl, rfl, hw2, ?_, ?_⟩
          · rw [elast]; simp
          · walk_at "go"
            have hf3 : (upd (upd H1 tt (.tup [.int i, tx [c]])) wa (.lst ((w :: wr).reverse.map fun (w : Nat) => V.int w).dropLast)) fo = some (.lst xs) := by rw [upd_ne hfw]; exact hf2
            have hxl := m.len
            refine s_setL (j := w) hf3 (by simp [ixN]; omega) ?_
            walk_at "go"
            refine s_setL (j := i) upd_same (by simp [ixN]; omega) ?_
            walk_at "go"
            refine ⟨r, wr, _, _, _, _, rfl, MI.closes (c := c) (by rw [hcc]; exact m) hc ho, upd_same, ?_, ?_⟩
            · rw [upd_ne hfw.symm, upd_ne hfw.symm, upd_same, elast]; simp
            · intro b o z
              rw [upd_ne (ne_of_none z hHf), upd_ne (ne_of_none z hHf), upd_ne (ne_of_none z hHw)]
              exact s2 b o (s1 b o z)
  · rintro σ H1 ⟨st, ws, xs, o3, o4, o5, rfl, m, hf1, hw1, s1⟩
    have hrun := m.rn
    rw [List.take_length] at hrun
    walk_at "go"
    refine s_truL (SqL.of hw1) ?_
    have hl := m.wk.len
    cases ws with
    | nil =>
      refine ifq rfl ?_
      walk_at "go"
      cases st with
      | nil => exact q hrun fo xs H1 hHf s1 hf1 m.fin
      | cons d r => simp at hl
    | cons w wr =>
      refine ifp (by simp) ?_
      walk_at "go"
      refine q' (fun hR => ?_) H1 s1
      have hR' : run [] a = some [] := hR
      rw [hrun] at hR'
      cases hR'
      simp at hl

theorem sc_is_right : FnScope ["k", "row"] ["k", "row"] (defScope d_is_right) := ⟨rfl, rfl, rfl, by decide +kernel, rfl, by decide +kernel, by decide +kernel⟩
theorem ok_is_right (F : Fun K "is_right" "is_right" d_is_right f fd) (T : Txt K mg aK) (U_check_line : FnU P w K mg base k "check_line" ["k", "row"] (spCheckLine)) (U_matched : FnU P w K mg base k "matched" ["row"] (spMatched)) : FnOk P w K mg base CX0 (k + 1) f fd ["k", "row"] (spRightP) := by
  refine F.ok sc_is_right (fun vs H Q E h => ?_) (fun cdv A outer s H vs Q E hr h => ?_)
  · obtain ⟨kk, a, rfl, _⟩ := h; rfl
  obtain ⟨kk, a, rfl, h1, h2, ha, q⟩ := h
  have hu := hr.units0
  refine ⟨_, (pss_cons (ps_expr (pe_fn U_check_line hr (pa_cons (pv 0) (pa_cons (pv 1) pa_nil))))  (pss_one (ps_ret (pe_cmpR op_isnotA (pe_fn U_matched hr (pa_cons (pv 1) pa_nil)) pe_non (nomark _))))), ?_⟩
  have hl := isRow_len ha
  walk_at "go"
  refine checkLine_use h1 h2 ha (fun H1 s1 => ?_)
  walk_at "go"
  refine matched_use hl (fun hR r xs H2 hr2 s2 hx hP => ?_) (fun hn H2 s2 => ?_)
  · walk_at "go"
    have := q H2 (s1.trans s2)
    rw [decide_eq_true hR] at this
    exact this
  · walk_at "go"
    have := q H2 (s1.trans s2)
    rw [decide_eq_false hn] at this
    exact this

theorem sc_law_pool : FnScope ["script", "k", "cell"] ["script", "k"] (defScope d_law_pool) := ⟨rfl, rfl, rfl, by decide +kernel, rfl, by decide +kernel, by decide +kernel⟩
theorem ok_law_pool (F : Fun K "_law_pool" "_law_pool" d_law_pool f fd) (T : Txt K mg aK)  : FnOk P w K mg base CX0 (k + 1) f fd ["script", "k"] (spPool K) := by
  refine F.ok sc_law_pool (fun vs H Q E h => ?_) (fun cdv A outer s H vs Q E hr h => ?_)
  · obtain ⟨a, ns, k, rfl, _⟩ := h; rfl
  obtain ⟨a, ns, k, rfl, hS, h63, h0, hk, q⟩ := h
  have hu := hr.units0
  have fin : ∀ cell : Int, (tSeq (tIfS (tTest (tOp (rI0 fun i j => V.bl (decide (j ≤ i))) (tVar 2) (tOp (rI CPow fun i j => V.int (i ^ j.toNat)) (tC (V.int 10)) (tC (V.int 18)))))
      (tRet (tLst (tCons (tOp (rI0 fun i j => V.int (i - j)) (tVar 2) (tOp (rI CPow fun i j => V.int (i ^ j.toNat)) (tC (V.int 10)) (tC (V.int 18)))) (tCons (tC (V.int 1)) (tCons (tC (V.int 0)) tNil))))) tNext)
      (tRet (tLst (tCons (tVar 2) (tCons (tC (V.int 0)) (tCons (tOp rTimes (tC (V.int 73)) (tVar 1)) tNil)))))) { nx := fun _ H' => Q .non H', rt := Q } [some (.ref a), some (.int k), some (.int cell)] H := by
    intro cell
    walk_at "go"
    refine ifd (fun c => ?_) (fun c => ?_)
    · walk_at "go"
      refine ⟨small (show 3 ≤ 1000 by decide), fun p hp => ?_⟩
      exact q p _ hp (same_new hp _) (pool_new (by decide) (by decide))
    · walk_at "go"
      refine ⟨small (show 3 ≤ 1000 by decide), fun p hp => ?_⟩
      exact q p _ hp (same_new hp _) (pool_new (by omega) (by omega))
  refine ⟨_, (pss_cons (ps_set (i := 2) sc_law_pool.nd rfl (Or.inl rfl) pe_int)  (pss_cons (ps_if (pt_cmpR op_lt (pv 1) (pe_callB (call_lenA K) rfl T.n_len PySem.boot_len (pa_cons (pv 0) pa_nil)) (nomark _))   (pss_one (ps_set (i := 2) sc_law_pool.nd rfl (Or.inl rfl) (pe_ix (ix_A K) (pv 0) (pv 1) (fun _ _ => rfl))))   pss_nil)  (pss_cons (ps_if (pt_cmpR op_ge (pv 2) (pe_op op_pow pe_int pe_int) (nomark _))   (pss_one (ps_ret (pe_lst (pa_cons (pe_op op_sub (pv 2) (pe_op op_pow pe_int pe_int)) (pa_cons pe_int (pa_cons pe_int pa_nil))))))   pss_nil)  (pss_one (ps_ret (pe_lst (pa_cons (pv 2) (pa_cons pe_int (pa_cons (pe_op op_times pe_int (pv 1)) pa_nil))))))))), ?_⟩
  walk_at "go"
  refine s_lenL (.inl hS) ?_
  walk_at "go"
  refine ifd (fun c => ?_) (fun c => ?_)
  · rw [List.length_map] at c
    obtain ⟨v, hv⟩ := atI_ints (ns := ns) h0 c
    walk_at "go"
    refine s_ixL hS hv ?_
    walk_at "st"
    exact fin v
  · walk_at "st"
    exact fin 0

theorem sc_law_take : FnScope ["pool", "many", "found", "step", "mark"] ["pool", "many"] (defScope d_law_take) := ⟨rfl, rfl, rfl, by decide +kernel, rfl, by decide +kernel, by decide +kernel⟩
theorem ok_law_take (F : Fun K "_law_take" "_law_take" d_law_take f fd) (T : Txt K mg aK)  : FnOk P w K mg base CX0 (k + 1) f fd ["pool", "many"] (spTake) := by
  refine F.ok sc_law_take (fun vs H Q E h => ?_) (fun cdv A outer s H vs Q E hr h => ?_)
  · obtain ⟨p, n, m, rfl, _⟩ := h; rfl
  obtain ⟨p, n, m, rfl, ⟨a, b, c, hp, h0, hc⟩, hn, hm0, hm1, q⟩ := h
  have hu := hr.units0
  have hS : SqL K H p [.int a, .int b, .int c] := SqL.of hp
  refine ⟨_, (pss_cons (ps_if (pt_cmpR (op_eqA K hu) (pe_ix (ix_A K) (pv 0) pe_int (fun _ _ => rfl)) pe_int (nomark _))   (pss_cons (ps_set (i := 2) sc_law_take.nd rfl (Or.inl rfl) (pe_op op_mod (pe_ix (ix_A K) (pv 0) pe_int (fun _ _ => rfl)) (pv 1)))  (pss_cons (ps_asg (pe_op op_fdiv (pe_ix (ix_A K) (pv 0) pe_int (fun _ _ => rfl)) (pv 1)) (pg_sub (pv 0) pe_int set_list))  (pss_one (ps_ret (pv 2)))))   pss_nil)  (pss_cons (ps_asg (pe_op op_plus (pe_ix (ix_A K) (pv 0) pe_int (fun _ _ => rfl)) pe_int) (pg_sub (pv 0) pe_int set_list))  (pss_cons (ps_set (i := 3) sc_law_take.nd rfl (Or.inl rfl) (pe_ix (ix_A K) (pv 0) pe_int (fun _ _ => rfl)))  (pss_cons (ps_set (i := 4) sc_law_take.nd rfl (Or.inl rfl) (pe_op op_times (pe_op op_plus (pe_op op_mod (pe_ix (ix_A K) (pv 0) pe_int (fun _ _ => rfl)) pe_int) pe_int) (pe_op op_plus (pe_op op_times pe_int (pv 3)) pe_int)))  (pss_cons (ps_set (i := 4) sc_law_take.nd rfl (Or.inl rfl) (pe_op op_plus (pv 4) (pe_op op_times (pe_op op_times pe_int (pv 3)) (pv 3))))  (pss_cons (ps_set (i := 4) sc_law_take.nd rfl (Or.inl rfl) (pe_op op_mod (pe_op op_times (pv 4) (pv 4)) pe_int))  (pss_one (ps_ret (pe_op op_mod (pe_op op_fdiv (pe_op op_mod (pe_op op_times (pv 4) (pe_op op_plus (pv 4) pe_int)) pe_int) pe_int) (pv 1)))))))))), ?_⟩
  walk_at "go"
  refine ifd (fun hb => ?_) (fun hb => ?_)
  · walk_at "go"
    refine s_setL hp (j := 0) rfl ?_
    walk_at "go"
    exact q _ _ (Int.emod_nonneg _ (by omega)) (Int.emod_lt_of_pos _ hm0) ⟨_, _, c, upd_same, h0, by omega⟩ SameBut1.upd
  · walk_at "go"
    refine s_setL hp (j := 2) rfl ?_
    have hS2 : SqL K (upd H p (.lst [.int a, .int b, .int (c + 1)])) p [.int a, .int b, .int (c + 1)] := SqL.of upd_same
    have hx := Int.emod_nonneg a (show (9999999379 : Int) ≠ 0 by decide)
    have hx' := Int.emod_lt_of_pos a (show (0 : Int) < 9999999379 by decide)
    walk_at "go"
    have hxy : 0 ≤ (a % 9999999379 + 1049) * (67 * (c + 1) + 101) := Int.mul_nonneg (by omega) (by omega)
    have hxy' : (a % 9999999379 + 1049) * (67 * (c + 1) + 101) ≤ 10000000428 * 67000168 := Int.mul_le_mul (by omega) (by omega) (by omega) (by omega)
    have hss : 0 ≤ 3623 * (c + 1) * (c + 1) := Int.mul_nonneg (by omega) (by omega)
    have hss' : 3623 * (c + 1) * (c + 1) ≤ 3623003623 * 1000001 := Int.mul_le_mul (by omega) (by omega) (by omega) (by omega)
    generalize (a % 9999999379 + 1049) * (67 * (c + 1) + 101) = x1 at *
    generalize 3623 * (c + 1) * (c + 1) = x2 at *
    refine s_mulI (.inl ⟨by omega, by omega⟩) ?_
    have hy := Int.emod_nonneg ((x1 + x2) * (x1 + x2)) (show (99999999529 : Int) ≠ 0 by decide)
    have hy' := Int.emod_lt_of_pos ((x1 + x2) * (x1 + x2)) (show (0 : Int) < 99999999529 by decide)
    walk_at "go"
    refine q _ _ (Int.emod_nonneg _ (by omega)) (Int.emod_lt_of_pos _ hm0) ⟨_, _, c + 1, upd_same, by omega, by omega⟩ SameBut1.upd

theorem sc_law_right_row : FnScope ["pool", "k", "most", "left", "way", "row", "waiting", "more", "kind"] ["pool", "k", "most"] (defScope d_law_right_row) := ⟨rfl, rfl, rfl, by decide +kernel, rfl, by decide +kernel, by decide +kernel⟩
theorem ok_law_right_row (F : Fun K "_law_right_row" "_law_right_row" d_law_right_row f fd) (T : Txt K mg aK) (U_law_take : FnU P w K mg base k "_law_take" ["pool", "many"] (spTake)) : FnOk P w K mg base CX0 (k + 1) f fd ["pool", "k", "most"] (spRightRow) := by
  refine F.ok sc_law_right_row (fun vs H Q E h => ?_) (fun cdv A outer s H vs Q E hr h => ?_)
  · obtain ⟨p, n, k, most, rfl, _⟩ := h; rfl
  obtain ⟨p, n, kk, most, rfl, hp, hn, hk1, hk4, hm0, hm1, q⟩ := h
  have hu := hr.units0
  refine ⟨_, (pss_cons (ps_set (i := 3) sc_law_right_row.nd rfl (Or.inl rfl) (pe_ix (ix_A K) (pe_lst (pa_cons (pe_fn U_law_take hr (pa_cons (pv 0) (pa_cons (pe_op op_plus (pe_op op_fdiv (pv 2) pe_int) pe_int) pa_nil))) (pa_cons (pe_fn U_law_take hr (pa_cons (pv 0) (pa_cons (pe_op op_plus (pe_callB (call_minA rfl) rfl T.n_min PyProof.Rows.boot_min (pa_cons (pe_op op_fdiv (pv 2) pe_int) (pa_cons pe_int pa_nil))) pe_int) pa_nil))) (pa_cons (pe_op op_fdiv (pv 2) pe_int) pa_nil)))) (pe_fn U_law_take hr (pa_cons (pv 0) (pa_cons pe_int pa_nil))) (fun _ _ => rfl)))  (pss_cons (ps_set (i := 4) sc_law_right_row.nd rfl (Or.inl rfl) (pe_fn U_law_take hr (pa_cons (pv 0) (pa_cons pe_int pa_nil))))  (pss_cons (ps_set (i := 5) sc_law_right_row.nd rfl (Or.inl rfl) (pe_tx (l := []) (by decide +kernel)))  (pss_cons (ps_set (i := 6) sc_law_right_row.nd rfl (Or.inl rfl) (pe_tx (l := []) (by decide +kernel)))  (pss_cons (ps_while PassesOwn.never (PW.pt (pw_or (pt_cmpR op_gt (pv 3) pe_int (nomark _)) (pw_or1 (pt_cmpR (op_neA K hu) (pv 6) (pe_tx (l := []) (by decide +kernel)) (nomark _)))))   (pss_cons (ps_set (i := 7) sc_law_right_row.nd rfl (Or.inl rfl) (pe_ix (ix_A K) (pe_lst (pa_cons (pe_cmpR op_gt (pe_fn U_law_take hr (pa_cons (pv 0) (pa_cons pe_int pa_nil))) pe_int (nomark _)) (pa_cons (pe_cmpR (op_eqA K hu) (pe_fn U_law_take hr (pa_cons (pv 0) (pa_cons pe_int pa_nil))) pe_int (nomark _)) (pa_cons (pe_cmpR op_gt (pe_fn U_law_take hr (pa_cons (pv 0) (pa_cons pe_int pa_nil))) pe_int (nomark _)) (pa_cons (pe_cmpR op_gt (pv 3) pe_int (nomark _)) pa_nil))))) (pv 4) (fun _ _ => rfl)))  (pss_one (ps_if (PW.pt (pw_and (pt_cmpR op_gt (pv 3) pe_int (nomark _)) (pw_and1 (PW.pt (pw_or (pt_cmpR (op_eqA K hu) (pv 6) (pe_tx (l := []) (by decide +kernel)) (nomark _)) (pw_or1 (pt_tru K (pv 7))))))))   (pss_cons (ps_set (i := 8) sc_law_right_row.nd rfl (Or.inl rfl) (pe_fn U_law_take hr (pa_cons (pv 0) (pa_cons (pv 1) pa_nil))))  (pss_cons (ps_set (i := 5) sc_law_right_row.nd rfl (Or.inl rfl) (pe_op op_plus (pv 5) (pe_ix (ix_A K) (pe_tx (l := [40, 91, 123, 60]) (by decide +kernel)) (pv 8) (fun _ _ => rfl))))  (pss_cons (ps_set (i := 6) sc_law_right_row.nd rfl (Or.inl rfl) (pe_op op_plus (pe_ix (ix_A K) (pe_tx (l := [41, 93, 125, 62]) (by decide +kernel)) (pv 8) (fun _ _ => rfl)) (pv 6)))  (pss_one (ps_set (i := 3) sc_law_right_row.nd rfl (Or.inl rfl) (pe_op op_sub (pv 3) pe_int))))))   (pss_cons (ps_set (i := 5) sc_law_right_row.nd rfl (Or.inl rfl) (pe_op op_plus (pv 5) (pe_ix (ix_A K) (pv 6) pe_int (fun _ _ => rfl))))  (pss_one (ps_set (i := 6) sc_law_right_row.nd rfl (Or.inl rfl) (pe_slice (sl_A K) (pv 6) (po_some pe_int) po_none))))))))  (pss_one (ps_ret (pv 5)))))))), ?_⟩
  walk_at "go"
  refine take_use hp (by omega) (by omega) (by omega) (fun r1 H1 r10 r11 hp1 s1 => ?_)
  walk_at "go"
  refine take_use hp1 (by omega) (by split <;> omega) (by split <;> omega) (fun r2 H2 r20 r21 hp2 s2 => ?_)
  walk_at "go"
  refine ⟨small (show 3 ≤ 1000 by decide), fun a1 ha1 => ?_⟩
  have hp2' := hp2.same (same_new ha1 (.lst [.int r1, .int r2, .int (most / 2)]))
  walk_at "go"
  refine take_use hp2' (by omega) (by omega) (by omega) (fun r3 H3 r30 r31 hp3 s3 => ?_)
  have hl1 : H3 a1 = some (.lst [.int r1, .int r2, .int (most / 2)]) := s3 a1 _ upd_same (hp2.ne ha1)
  have sH3 : SameBut1 p H H3 := (s1.trans s2).trans ((SameBut1.of (same_new ha1 _)).trans s3)
  obtain ⟨lv, hlv, hlv'⟩ := at3 (V.int r1) (.int r2) (.int (most / 2)) r30 r31
  obtain ⟨left, rfl, hl0, hl⟩ : ∃ left : Int, lv = .int left ∧ 0 ≤ left ∧ left ≤ most / 2 := by
    rcases hlv' with rfl | rfl | rfl
    · exact ⟨_, rfl, by omega, by omega⟩
    · exact ⟨_, rfl, by omega, by revert r21; split <;> omega⟩
    · exact ⟨_, rfl, by omega, by omega⟩
  refine s_ixL (SqL.of hl1) hlv ?_
  walk_at "go"
  refine take_use hp3 (by omega) (by omega) (by omega) (fun way H4 w0 w1 hp4 s4 => ?_)
  walk_at "go"
  refine while_of (fun σ H' => ∃ (lf : Int) (row wt : List Nat) (mo ki : Option V), σ = [some (.ref p), some (.int kk), some (.int most), some (.int lf), some (.int way), some (tx row), some (tx wt), mo, ki] ∧
      0 ≤ lf ∧ run [] row = some wt ∧ (∀ c ∈ row, kin kk c) ∧ (∀ c ∈ wt, c ∈ cls.take kk.toNat ∧ c ∉ opn) ∧ (row.length : Int) + wt.length + 2 * lf ≤ most ∧ PoolAt H' p (n + 4 + 4 * (40 - (2 * lf.toNat + wt.length))) ∧ SameBut1 p H H')
    (fun σ _ => match σ with | [_, _, _, some (.int lf), _, _, some (.str wt), _, _] => 2 * lf.toNat + wt.length | _ => 0) ⟨left, [], [], none, none, rfl, hl0, rfl, (fun _ z => nomatch z), (fun _ z => nomatch z), by simp; omega, hp4.mono (by simp), sH3.trans s4⟩ ?_
  · rintro σ H5 ⟨lf, row, wt, mo, ki, rfl, lf0, hrun, hkin, hwt, hsum, hp5, s5⟩
    have hrow : row.length ≤ 40 := by omega
    have hwl : wt.length ≤ 40 := by omega
    refine or_tests (c := decide (0 < lf)) (d := !decide (wt = [])) (fun R h => by walk_at "go"; exact h) (fun R h => by walk_at "go"; exact h) ?_
    refine ite2 (fun hc => ?_) (fun hc => ?_)
    · have hwl2 : wt.length = 0 → wt = [] := List.length_eq_zero_iff.mp
      have hne : 0 < lf ∨ wt ≠ [] := by simpa using hc
      have hpos : 1 ≤ 2 * lf.toNat + wt.length := by
        rcases hne with z | z
        · omega
        · have : wt.length ≠ 0 := fun e => z (hwl2 e)
          omega
      refine wh_body ?_
      walk_at "go"
      refine take_use hp5 (by omega) (by omega) (by omega) (fun b1 G1 _ _ hq1 t1 => ?_)
      walk_at "go"
      refine take_use hq1 (by omega) (by omega) (by omega) (fun b2 G2 _ _ hq2 t2 => ?_)
      walk_at "go"
      refine take_use hq2 (by omega) (by omega) (by omega) (fun b3 G3 _ _ hq3 t3 => ?_)
      walk_at "go"
      refine ⟨small (show 4 ≤ 1000 by decide), fun a2 ha2 => ?_⟩
      obtain ⟨mb, hmb⟩ := at4b (decide (0 < b1)) (decide (b2 = 0)) (decide (0 < b3)) (decide (0 < lf)) w0 w1
      have hq3' := hq3.same (same_new ha2 (.lst [.bl (decide (0 < b1)), .bl (decide (b2 = 0)), .bl (decide (0 < b3)), .bl (decide (0 < lf))]))
      have tG : SameBut1 p H (upd G3 a2 (.lst [.bl (decide (0 < b1)), .bl (decide (b2 = 0)), .bl (decide (0 < b3)), .bl (decide (0 < lf))])) := s5.trans (((t1.trans t2).trans t3).trans (SameBut1.of (same_new ha2 _)))
      walk_at "st"
      refine s_ixL (SqL.of upd_same) hmb ?_
      walk_at "st"
      walk_at "st"
      refine and_tests (c := decide (0 < lf)) (d := decide (wt = []) || mb) (fun R h => by walk_at "go"; exact h) (fun R h => or_tests (c := decide (wt = [])) (d := mb) (fun R h => by walk_at "go"; exact h) (fun R h => by walk_at "go"; exact h) h) ?_
      refine ite2 (fun hd => ?_) (fun hd => ?_)
      · have hlf : 0 < lf := by simp at hd; exact hd.1
        walk_at "go"
        refine take_use hq3' (by omega) (by omega) (by omega) (fun ki' G4 ki0 ki1 hq4 t4 => ?_)
        obtain ⟨oc, ho1, ho2, ho3, ho4, ho5, ho6⟩ := opn_at ki0 ki1 hk4
        walk_at "go"
        refine s_ixT (small (show 4 ≤ 1000 by decide)) ho1 ?_
        walk_at "go"
        refine s_ixT (small (show 4 ≤ 1000 by decide)) ho4 ?_
        walk_at "go"
        refine ⟨⟨lf - 1, row ++ [oc], [clo oc] ++ wt, _, _, rfl, by omega, ?_, ?_, ?_, ?_, hq4.mono ?_, tG.trans t4⟩, ?_⟩
        · rw [run_snoc hrun, stp_open ho2]; rfl
        · intro c hc
          rcases List.mem_append.mp hc with z | z
          · exact hkin c z
          · rw [List.mem_singleton.mp z]; exact .inl ho3
        · intro c hc
          rcases List.mem_append.mp hc with z | z
          · rw [List.mem_singleton.mp z]; exact ⟨ho5, ho6⟩
          · exact hwt c z
        · simp only [List.length_append, List.length_singleton]; omega
        · simp only [List.length_append, List.length_singleton]; omega
        · show 2 * (lf - 1).toNat + ([clo oc] ++ wt).toArray.size < 2 * lf.toNat + wt.toArray.size
          simp only [List.size_toArray, List.length_append, List.length_singleton]; omega
      · have hne2 : wt ≠ [] := by
          intro e
          subst e
          rcases hne with z | z
          · apply hd; simp [z]
          · exact z rfl
        obtain ⟨d0, wr, rfl⟩ : ∃ d0 wr, wt = d0 :: wr := by
          cases wt with
          | nil => exact absurd rfl hne2
          | cons d0 wr => exact ⟨d0, wr, rfl⟩
        obtain ⟨hd1, hd2⟩ := hwt d0 List.mem_cons_self
        walk_at "go"
        refine s_ixT (small (by simp only [List.length_cons] at hwl ⊢; omega)) (atI_0 d0 wr) ?_
        walk_at "go"
        first | refine s_slT (small (by simp only [List.length_cons] at hwl ⊢; omega)) ?_ | skip
        rw [cut_tail]
        walk_at "go"
        simp only [List.length_cons] at hsum hq3' hwl
        refine ⟨⟨lf, row ++ [d0], wr, _, _, rfl, lf0, ?_, ?_, fun c hc => hwt c (List.mem_cons_of_mem _ hc), ?_, hq3'.mono ?_, tG⟩, ?_⟩
        · rw [run_snoc hrun, stp_close hd2]
        · intro c hc
          rcases List.mem_append.mp hc with z | z
          · exact hkin c z
          · rw [List.mem_singleton.mp z]; exact .inr hd1
        · simp only [List.length_append, List.length_singleton]; omega
        · omega
        · show 2 * lf.toNat + wr.toArray.size < 2 * lf.toNat + (d0 :: wr).toArray.size
          simp only [List.size_toArray, List.length_cons]; omega
    · have hc' : lf ≤ 0 ∧ wt = [] := by simpa using hc
      obtain ⟨e1, rfl⟩ := hc'
      walk_at "go"
      refine q row H5 hrun (by simp at hsum; omega) hkin (hp5.mono (by omega)) s5

theorem sc_law_signs : FnScope ["k"] ["k"] (defScope d_law_signs) := ⟨rfl, rfl, rfl, by decide +kernel, rfl, by decide +kernel, by decide +kernel⟩
theorem ok_law_signs (F : Fun K "_law_signs" "_law_signs" d_law_signs f fd) (T : Txt K mg aK)  : FnOk P w K mg base CX0 (k + 1) f fd ["k"] (spSigns) := by
  refine F.ok sc_law_signs (fun vs H Q E h => ?_) (fun cdv A outer s H vs Q E hr h => ?_)
  · obtain ⟨k, rfl, _⟩ := h; rfl
  obtain ⟨kk, rfl, h1, h2, q⟩ := h
  have hu := hr.units0
  refine ⟨_, (pss_one (ps_ret (pe_op op_plus (pe_slice (sl_A K) (pe_tx (l := [40, 41, 91, 93, 123, 125, 60, 62]) (by decide +kernel)) po_none (po_some (pe_op op_times pe_int (pv 0)))) (pe_tx (l := [63]) (by decide +kernel))))), ?_⟩
  walk_at "go"
  rw [cut_to _ (by omega)]
  have hl : (([40, 41, 91, 93, 123, 125, 60, 62] : List Nat).take (2 * kk).toNat).length ≤ 8 := by rw [List.length_take]; exact Nat.min_le_right _ _
  refine s_addT (small (by rw [List.length_singleton]; omega)) ?_
  exact q

theorem sc_law_bent : FnScope ["pool", "row", "signs", "at", "to", "sign", "way"] ["pool", "row", "signs"] (defScope d_law_bent) := ⟨rfl, rfl, rfl, by decide +kernel, rfl, by decide +kernel, by decide +kernel⟩
theorem ok_law_bent (F : Fun K "_law_bent" "_law_bent" d_law_bent f fd) (T : Txt K mg aK) (U_law_take : FnU P w K mg base k "_law_take" ["pool", "many"] (spTake)) : FnOk P w K mg base CX0 (k + 1) f fd ["pool", "row", "signs"] (spBent) := by
  refine F.ok sc_law_bent (fun vs H Q E h => ?_) (fun cdv A outer s H vs Q E hr h => ?_)
  · obtain ⟨p, n, row, sg, rfl, _⟩ := h; rfl
  obtain ⟨p, n, row, sg, rfl, hp, hn, hrl, hs0, hs1, q⟩ := h
  have hu := hr.units0
  refine ⟨_, (pss_cons (ps_set (i := 3) sc_law_bent.nd rfl (Or.inl rfl) (pe_fn U_law_take hr (pa_cons (pv 0) (pa_cons (pe_op op_plus (pe_callB (call_lenA K) rfl T.n_len PySem.boot_len (pa_cons (pv 1) pa_nil)) pe_int) pa_nil))))  (pss_cons (ps_set (i := 4) sc_law_bent.nd rfl (Or.inl rfl) (pe_op op_plus (pv 3) (pe_fn U_law_take hr (pa_cons (pv 0) (pa_cons pe_int pa_nil)))))  (pss_cons (ps_set (i := 5) sc_law_bent.nd rfl (Or.inl rfl) (pe_ix (ix_A K) (pv 2) (pe_fn U_law_take hr (pa_cons (pv 0) (pa_cons (pe_callB (call_lenA K) rfl T.n_len PySem.boot_len (pa_cons (pv 2) pa_nil)) pa_nil))) (fun _ _ => rfl)))  (pss_cons (ps_set (i := 6) sc_law_bent.nd rfl (Or.inl rfl) (pe_fn U_law_take hr (pa_cons (pv 0) (pa_cons pe_int pa_nil))))  (pss_cons (ps_if (pt_cmpR (op_eqA K hu) (pv 6) pe_int (nomark _))   (pss_one (ps_ret (pe_op op_plus (pe_slice (sl_A K) (pv 1) po_none (po_some (pv 3))) (pe_slice (sl_A K) (pv 1) (po_some (pe_op op_plus (pv 3) pe_int)) po_none))))   pss_nil)  (pss_cons (ps_if (pt_cmpR (op_eqA K hu) (pv 6) pe_int (nomark _))   (pss_one (ps_ret (pe_op op_plus (pe_op op_plus (pe_slice (sl_A K) (pv 1) po_none (po_some (pv 3))) (pv 5)) (pe_slice (sl_A K) (pv 1) (po_some (pv 3)) po_none))))   pss_nil)  (pss_cons (ps_if (pt_cmpR (op_eqA K hu) (pv 6) pe_int (nomark _))   (pss_one (ps_ret (pe_op op_plus (pe_op op_plus (pe_slice (sl_A K) (pv 1) po_none (po_some (pv 3))) (pe_rev K (pe_slice (sl_A K) (pv 1) (po_some (pv 3)) (po_some (pe_op op_plus (pv 3) pe_int))) (pe_un un_neg pe_int))) (pe_slice (sl_A K) (pv 1) (po_some (pe_op op_plus (pv 3) pe_int)) po_none))))   pss_nil)  (pss_cons (ps_if (pt_cmpR (op_eqA K hu) (pv 6) pe_int (nomark _))   (pss_one (ps_ret (pe_op op_plus (pe_slice (sl_A K) (pv 1) po_none (po_some (pv 3))) (pe_slice (sl_A K) (pv 1) (po_some (pv 4)) po_none))))   pss_nil)  (pss_cons (ps_if (pt_cmpR (op_eqA K hu) (pv 6) pe_int (nomark _))   (pss_one (ps_ret (pe_op op_plus (pe_op op_plus (pe_slice (sl_A K) (pv 1) po_none (po_some (pv 3))) (pe_slice (sl_A K) (pv 1) (po_some (pv 3)) (po_some (pv 4)))) (pe_slice (sl_A K) (pv 1) (po_some (pv 3)) po_none))))   pss_nil)  (pss_one (ps_ret (pe_op op_plus (pe_op op_plus (pe_slice (sl_A K) (pv 1) po_none (po_some (pv 3))) (pv 5)) (pe_slice (sl_A K) (pv 1) (po_some (pe_op op_plus (pv 3) pe_int)) po_none))))))))))))), ?_⟩
  walk_at "go"
  refine take_use hp (by omega) (by omega) (by omega) (fun at' H1 a0 a1 hp1 s1 => ?_)
  walk_at "go"
  refine take_use hp1 (by omega) (by omega) (by omega) (fun t0 H2 t00 t01 hp2 s2 => ?_)
  walk_at "go"
  refine take_use hp2 (by omega) (by omega) (by omega) (fun g0 H3 g00 g01 hp3 s3 => ?_)
  obtain ⟨sc, hsc, hsm⟩ := at_mem g00 g01
  walk_at "go"
  refine s_ixT (small (by omega)) hsc ?_
  walk_at "go"
  refine take_use hp3 (by omega) (by omega) (by omega) (fun way H4 w0 w1 hp4 s4 => ?_)
  have sA := (s1.trans s2).trans (s3.trans s4)
  have c1 := cut_le row none (some at')
  have c2 := cut_le row (some (at' + 1)) none
  have c3 := cut_le row (some at') none
  have c4 := cut_le row (some at') (some (at' + 2))
  have c5 := cut_le row (some (at' + 2)) none
  have c6 := cut_le row (some (at' + t0)) none
  have c7 := cut_le row (some at') (some (at' + t0))
  walk_at "go"
  refine ifd (fun hw => ?_) (fun hw => ?_)
  · walk_at "go"
    refine q _ _ (fun c hc => ?_) (by rw [List.length_append]; omega) hp4 sA
    rcases List.mem_append.mp hc with z | z
    · exact .inl (cut_mem z)
    · exact .inl (cut_mem z)
  walk_at "go"
  refine ifd (fun hw => ?_) (fun hw => ?_)
  · walk_at "go"
    first | refine s_addT (small (by rw [List.length_append, List.length_singleton]; omega)) ?_ | skip
    refine q _ _ (fun c hc => ?_) (by rw [List.length_append, List.length_append, List.length_singleton]; omega) hp4 sA
    rcases List.mem_append.mp hc with z | z
    · rcases List.mem_append.mp z with z | z
      · exact .inl (cut_mem z)
      · rw [List.mem_singleton.mp z]; exact .inr hsm
    · exact .inl (cut_mem z)
  walk_at "go"
  refine ifd (fun hw => ?_) (fun hw => ?_)
  · have c8 : (cutL row (some at') (some (at' + 2))).reverse.length ≤ row.length := by rw [List.length_reverse]; exact c4
    walk_at "go"
    first | refine s_addT (small (by rw [List.length_append, List.length_reverse]; omega)) ?_ | skip
    refine q _ _ (fun c hc => ?_) (by rw [List.length_append, List.length_append, List.length_reverse]; omega) hp4 sA
    rcases List.mem_append.mp hc with z | z
    · rcases List.mem_append.mp z with z | z
      · exact .inl (cut_mem z)
      · exact .inl (cut_mem (List.mem_reverse.mp z))
    · exact .inl (cut_mem z)
  walk_at "go"
  refine ifd (fun hw => ?_) (fun hw => ?_)
  · walk_at "go"
    refine q _ _ (fun c hc => ?_) (by rw [List.length_append]; omega) hp4 sA
    rcases List.mem_append.mp hc with z | z
    · exact .inl (cut_mem z)
    · exact .inl (cut_mem z)
  walk_at "go"
  refine ifd (fun hw => ?_) (fun hw => ?_)
  · walk_at "go"
    first | refine s_addT (small (by rw [List.length_append]; omega)) ?_ | skip
    refine q _ _ (fun c hc => ?_) (by rw [List.length_append, List.length_append]; omega) hp4 sA
    rcases List.mem_append.mp hc with z | z
    · rcases List.mem_append.mp z with z | z
      · exact .inl (cut_mem z)
      · exact .inl (cut_mem z)
    · exact .inl (cut_mem z)
  walk_at "go"
  first | refine s_addT (small (by rw [List.length_append, List.length_singleton]; omega)) ?_ | skip
  refine q _ _ (fun c hc => ?_) (by rw [List.length_append, List.length_append, List.length_singleton]; omega) hp4 sA
  rcases List.mem_append.mp hc with z | z
  · rcases List.mem_append.mp z with z | z
    · exact .inl (cut_mem z)
    · rw [List.mem_singleton.mp z]; exact .inr hsm
  · exact .inl (cut_mem z)

theorem sc_law_any_row : FnScope ["pool", "k", "most", "way", "signs", "some", "row"] ["pool", "k", "most"] (defScope d_law_any_row) := ⟨rfl, rfl, rfl, by decide +kernel, rfl, by decide +kernel, by decide +kernel⟩
theorem ok_law_any_row (F : Fun K "_law_any_row" "_law_any_row" d_law_any_row f fd) (T : Txt K mg aK) (U_law_take : FnU P w K mg base k "_law_take" ["pool", "many"] (spTake)) (U_law_signs : FnU P w K mg base k "_law_signs" ["k"] (spSigns)) (U_law_right_row : FnU P w K mg base k "_law_right_row" ["pool", "k", "most"] (spRightRow)) (U_law_bent : FnU P w K mg base k "_law_bent" ["pool", "row", "signs"] (spBent)) : FnOk P w K mg base CX0 (k + 1) f fd ["pool", "k", "most"] (spAnyRow) := by
  refine F.ok sc_law_any_row (fun vs H Q E h => ?_) (fun cdv A outer s H vs Q E hr h => ?_)
  · obtain ⟨p, n, k, most, rfl, _⟩ := h; rfl
  obtain ⟨p, n, kk, most, rfl, hp, hn, hk1, hk4, hm0, hm1, q⟩ := h
  have hu := hr.units0
  refine ⟨_, (pss_cons (ps_set (i := 3) sc_law_any_row.nd rfl (Or.inl rfl) (pe_fn U_law_take hr (pa_cons (pv 0) (pa_cons pe_int pa_nil))))  (pss_cons (ps_set (i := 4) sc_law_any_row.nd rfl (Or.inl rfl) (pe_fn U_law_signs hr (pa_cons (pv 1) pa_nil)))  (pss_cons (ps_if (pt_cmpR op_lt (pv 3) pe_int (nomark _))   (pss_cons (ps_set (i := 5) sc_law_any_row.nd rfl (Or.inr rfl) (pe_ix (ix_A K) (pe_lst (pa_cons (pv 4) (pa_cons (pe_slice (sl_A K) (pv 4) po_none (po_some pe_int)) pa_nil))) (pv 3) (fun _ _ => rfl)))  (pss_one (ps_ret (pe_bmK K PySem.F.plainAttrs_str PySem.F.slot_str_join PySem.F.type_str_join (mt_join K) (pe_tx (l := []) (by decide +kernel)) (pa_cons (pe_comp (own := ["turn"]) (sel := [5, 0]) (compOk_of (osc := (defScope d_law_any_row)) (N := ["pool", "k", "most", "way", "signs", "some", "row"]) (by decide +kernel)) rfl (pi_range1 rfl T.n_range (pa_cons (pe_fn U_law_take hr (pa_cons (pv 0) (pa_cons (pe_op op_plus (pv 2) pe_int) pa_nil))) pa_nil)) (fun _ _ _ _ _ => (pg_name (i := 0) (show (["turn", "some", "pool"] : List Str).Nodup from by decide +kernel) rfl (Or.inl rfl))) (gk_name (by decide)) (fun _ _ _ _ _ => pif_nil) (fun _ _ _ _ _ => (pe_ix (ix_A K) (pv 1) (pe_fn U_law_take hr (pa_cons (pv 2) (pa_cons (pe_callB (call_lenA K) rfl T.n_len PySem.boot_len (pa_cons (pv 1) pa_nil)) pa_nil))) (fun _ _ => rfl)))) pa_nil)))))   pss_nil)  (pss_cons (ps_set (i := 6) sc_law_any_row.nd rfl (Or.inl rfl) (pe_fn U_law_right_row hr (pa_cons (pv 0) (pa_cons (pv 1) (pa_cons (pv 2) pa_nil)))))  (pss_cons (ps_if (pt_cmpR (op_eqA K hu) (pv 3) pe_int (nomark _))   (pss_one (ps_ret (pe_bmK K PySem.F.plainAttrs_str PySem.F.slot_str_join PySem.F.type_str_join (mt_join K) (pe_tx (l := []) (by decide +kernel)) (pa_cons (pe_comp (own := ["sign"]) (sel := [0]) (compOk_of (osc := (defScope d_law_any_row)) (N := ["pool", "k", "most", "way", "signs", "some", "row"]) (by decide +kernel)) rfl (pi_str (pv 6)) (fun _ _ _ _ _ => (pg_name (i := 0) (show (["sign", "pool"] : List Str).Nodup from by decide +kernel) rfl (Or.inl rfl))) (gk_name (by decide)) (fun _ _ _ _ _ => pif_nil) (fun _ _ _ _ _ => (pe_ix (ix_A K) (pe_lst (pa_cons (pv 0) (pa_cons (pe_tx (l := [63]) (by decide +kernel)) pa_nil))) (pe_callTy call_intA rfl T.n_int PyProof.Rows.boot_int (pa_cons (pe_cmpR (op_eqA K hu) (pe_fn U_law_take hr (pa_cons (pv 1) (pa_cons pe_int pa_nil))) pe_int (nomark _)) pa_nil)) (fun _ _ => rfl)))) pa_nil))))   pss_nil)  (pss_cons (ps_if (pt_cmpR (op_eqA K hu) (pv 3) pe_int (nomark _))   (pss_one (ps_ret (pe_slice (sl_A K) (pe_fn U_law_bent hr (pa_cons (pv 0) (pa_cons (pv 6) (pa_cons (pv 4) pa_nil)))) po_none (po_some (pv 2)))))   pss_nil)  (pss_one (ps_ret (pv 6))))))))), ?_⟩
  walk_at "go"
  refine take_use hp (by omega) (by omega) (by omega) (fun way H1 w0 w1 hp1 s1 => ?_)
  walk_at "go"
  refine signs_use hk1 hk4 ?_
  have hsl := sgs_len hk1 hk4
  walk_at "go"
  refine ifd (fun hw => ?_) (fun hw => ?_)
  · walk_at "go"
    have hc2 : cutL (sgs kk) none (some 2) = (sgs kk).take 2 := cut_to _ (by decide)
    refine ⟨small (show 2 ≤ 1000 by decide), fun a1 ha1 => ?_⟩
    obtain ⟨some', hsome, hs0, hs1, hsin⟩ : ∃ l : List Nat, atI [tx (sgs kk), tx (cutL (sgs kk) none (some 2))] way = some (tx l) ∧ 0 < l.length ∧ l.length ≤ 9 ∧ ∀ c ∈ l, c ∈ sgs kk := by
      have : way = 0 ∨ way = 1 := by omega
      rcases this with rfl | rfl
      · exact ⟨_, rfl, by omega, by omega, fun c hc => hc⟩
      · refine ⟨_, rfl, ?_, ?_, fun c hc => cut_mem hc⟩
        · rw [hc2, List.length_take]; omega
        · rw [hc2, List.length_take]; omega
    walk_at "st"
    refine s_ixL (SqL.of upd_same) hsome ?_
    have hp1' := hp1.same (same_new ha1 (.lst [tx (sgs kk), tx (cutL (sgs kk) none (some 2))]))
    walk_at "go"
    refine take_use hp1' (by omega) (by omega) (by omega) (fun m H2 m0 m1 hp2 s2 => ?_)
    refine ⟨m, rfl, by omega, by omega, ?_⟩
    have sH2 : SameBut1 p H H2 := (s1.trans (SameBut1.of (same_new ha1 _))).trans s2
    refine comp_rng (small (by omega)) (fun D i ys H' => ∃ row : List Nat, ys = ((row.map fun c => [c]).map tx) ∧ row.length = i ∧ (∀ c ∈ row, c ∈ sgs kk) ∧ PoolAt H' p (n + 2 + i) ∧ ∀ b o, H b = some o → b ≠ p → H' b = some o) (fun D hD => ⟨[], rfl, rfl, (fun _ z => nomatch z), hp2.same (same_new hD _), fun b o z zn => same_new hD _ b o (sH2 b o z zn)⟩) (fun D ys H' hD hD' ⟨row, e, hrl, hrs, hpo, sH⟩ => ?_) ?_
    · subst e
      walk_at "go"
      refine s_join (SqL.of hD') (by rw [flat_ones, List.length_map]; omega) ?_
      rw [flat_ones]
      exact q _ _ (by omega) (fun c hc => sgs_sgn hk1 hk4 (hrs c hc)) (hpo.mono (by omega)) sH
    · rintro D i ys H' hD hi hD' hl ⟨row, e, hrl, hrs, hpo, sH⟩
      have hDp : D ≠ p := hp2.ne hD
      walk_at "go"
      refine iteT ?_
      walk_at "go"
      refine take_use hpo (by omega) (by omega) (by omega) (fun j H4 j0 j1 hp4 s4 => ?_)
      obtain ⟨c, hc, hcm⟩ := at_mem j0 j1
      refine s_ixT (small (by omega)) hc ?_
      refine comp_next hi (small (by omega)) (s4 _ _ hD' hDp) hl ⟨row ++ [c], ?_, ?_, ?_, ?_, ?_⟩
      · rw [e, List.map_append, List.map_append]; rfl
      · rw [List.length_append, List.length_singleton]; omega
      · intro d hd
        rcases List.mem_append.mp hd with z | z
        · exact hrs d z
        · rw [List.mem_singleton.mp z]; exact hsin c hcm
      · obtain ⟨x, y, z, e4, h1, h2⟩ := hp4
        exact ⟨x, y, z, by rw [upd_ne hDp.symm]; exact e4, h1, by omega⟩
      · intro b o z zn
        have := sH b o z zn
        rw [upd_ne (fun eq => ?_)]
        · exact s4 b o this zn
        · subst eq
          have z2 := sH2 b o z zn
          rw [hD] at z2
          cases z2
  · walk_at "go"
    refine right_use hp1 (by omega) hk1 hk4 hm0 hm1 (fun row H2 hR hlen hkin hpo2 s2 => ?_)
    have sH2 := s1.trans s2
    have hrl : row.length ≤ 40 := by omega
    walk_at "go"
    refine ifd (fun hw2 => ?_) (fun hw2 => ?_)
    · walk_at "go"
      refine comp_str (small (by omega)) (fun D i ys H' => ∃ rw' : List Nat, ys = ((rw'.map fun c => [c]).map tx) ∧ rw'.length = i ∧ (∀ c ∈ rw', c ∈ sgn kk) ∧ PoolAt H' p (n + 201 + i) ∧ ∀ b o, H b = some o → b ≠ p → H' b = some o) (fun D hD => ⟨[], rfl, rfl, (fun _ z => nomatch z), (hpo2.same (same_new hD _)).mono (by omega), fun b o z zn => same_new hD _ b o (sH2 b o z zn)⟩) (fun D ys H' hD hD' ⟨rw', e, hrl', hrs, hpo, sH⟩ => ?_) ?_
      · subst e
        walk_at "go"
        refine s_join (SqL.of hD') (by rw [flat_ones, List.length_map]; omega) ?_
        rw [flat_ones]
        exact q _ _ (by omega) hrs (hpo.mono (by omega)) sH
      · rintro D i c ys H' hD ec hi hD' hl ⟨rw', e, hrl', hrs, hpo, sH⟩
        have hDp : D ≠ p := hpo2.ne hD
        walk_at "go"
        refine iteT ?_
        walk_at "go"
        refine ⟨small (show 2 ≤ 1000 by decide), fun a1 ha1 => ?_⟩
        have t1 := same_new ha1 (.lst [tx [c], tx [63]])
        have hpo' := hpo.same t1
        walk_at "go"
        refine take_use hpo' (by omega) (by omega) (by omega) (fun j H4 j0 j1 hp4 s4 => ?_)
        have ha1p : a1 ≠ p := hpo.ne ha1
        have hl4 := s4 _ _ (upd_same (H := H') (a := a1)) ha1p
        walk_at "go"
        obtain ⟨d, hd, hdm⟩ : ∃ d, atI [tx [c], tx [63]] (if decide (j = 0) then 1 else 0) = some (tx [d]) ∧ d ∈ sgn kk := by
          by_cases hj : j = 0
          · exact ⟨63, by simp only [hj, decide_true]; rfl, List.mem_append_right _ (List.mem_singleton.mpr rfl)⟩
          · exact ⟨c, by simp only [hj, decide_false]; rfl, kin_sgn (hkin c (List.mem_of_getElem? ec))⟩
        refine s_ixL (SqL.of hl4) hd ?_
        refine comp_next hi (small (by omega)) (s4 _ _ (t1 _ _ hD') hDp) hl ⟨rw' ++ [d], ?_, ?_, ?_, ?_, ?_⟩
        · rw [e, List.map_append, List.map_append]; rfl
        · rw [List.length_append, List.length_singleton]; omega
        · intro d' hd'
          rcases List.mem_append.mp hd' with z | z
          · exact hrs d' z
          · rw [List.mem_singleton.mp z]; exact hdm
        · obtain ⟨x, y, z, e4, h1, h2⟩ := hp4
          exact ⟨x, y, z, by rw [upd_ne hDp.symm]; exact e4, h1, by omega⟩
        · intro b o z zn
          have := t1 _ _ (sH b o z zn)
          rw [upd_ne (fun eq => ?_)]
          · exact s4 b o this zn
          · subst eq
            have z2 := sH2 b o z zn
            rw [hD] at z2
            cases z2
    · walk_at "go"
      refine ifd (fun hw3 => ?_) (fun hw3 => ?_)
      · walk_at "go"
        refine bent_use hpo2 (by omega) hrl (by omega) (by omega) (fun row' H3 hmem hl3 hpo3 s3 => ?_)
        walk_at "go"
        have hct : cutL row' none (some most) = row'.take most.toNat := cut_to _ hm0
        rw [hct]
        refine q _ _ (by rw [List.length_take]; omega) (fun c hc => ?_) (hpo3.mono (by omega)) (sH2.trans s3)
        rcases hmem c (List.mem_of_mem_take hc) with z | z
        · exact kin_sgn (hkin c z)
        · exact sgs_sgn hk1 hk4 z
      · walk_at "go"
        exact q row _ hlen (fun c hc => kin_sgn (hkin c hc)) (hpo2.mono (by omega)) sH2

theorem sc_law_is_right : FnScope ["row", "left", "many", "pair"] ["row"] (defScope d_law_is_right) := ⟨rfl, rfl, rfl, by decide +kernel, rfl, by decide +kernel, by decide +kernel⟩
theorem ok_law_is_right (F : Fun K "_law_is_right" "_law_is_right" d_law_is_right f fd) (T : Txt K mg aK)  : FnOk P w K mg base CX0 (k + 1) f fd ["row"] (spCand) := by
  refine F.ok sc_law_is_right (fun vs H Q E h => ?_) (fun cdv A outer s H vs Q E hr h => ?_)
  · obtain ⟨a, rfl, _⟩ := h; rfl
  obtain ⟨a, rfl, ha, q⟩ := h
  have hu := hr.units0
  refine ⟨_, (pss_cons (ps_set (i := 1) sc_law_is_right.nd rfl (Or.inl rfl) (pv 0))  (pss_cons (ps_set (i := 2) sc_law_is_right.nd rfl (Or.inl rfl) (pe_un un_neg pe_int))  (pss_cons (ps_while PassesOwn.never (pt_cmpR (op_neA K hu) (pv 2) (pe_callB (call_lenA K) rfl T.n_len PySem.boot_len (pa_cons (pv 1) pa_nil)) (nomark _))   (pss_rep (im := 2) (ip := 3) (jl := 1) PassesOwn.never rfl sc_law_is_right.nd rfl rfl rfl rfl rfl rfl (by decide) (pe_callB (call_lenA K) rfl T.n_len PySem.boot_len (pa_cons (pv 1) pa_nil)) (by decide +kernel) (by decide +kernel) (by decide +kernel) (by decide +kernel) (by decide +kernel) rfl))  (pss_one (ps_ret (pe_cmpR (op_eqA K hu) (pv 1) (pe_tx (l := []) (by decide +kernel)) (nomark _))))))), ?_⟩
  walk_at "go"
  refine while_of (fun σ H' => ∃ (l : List Nat) (m : Int) (o3 : Option V), σ = [some (tx a), some (tx l), some (.int m), o3] ∧ H' = H ∧ l.length ≤ 40 ∧ (∀ st, run st l = run st a) ∧ (m = (l.length : Int) → ∀ o ∈ opn, ∀ A B, l ≠ A ++ [o, clo o] ++ B))
    (fun σ _ => match σ with | [_, some (.str l), some (.int m), _] => 2 * l.length + (if m = (l.length : Int) then 0 else 1) | _ => 0) ⟨a, -1, none, rfl, rfl, ha, fun _ => rfl, fun z => by omega⟩ ?_
  rintro σ H1 ⟨l, m, o3, rfl, rfl, hl, hrun, hst⟩
  walk_at "go"
  refine ite2 (fun hc => ?_) (fun hc => ?_)
  · have hne : m ≠ (l.length : Int) := by simpa using hc
    refine wh_body ?_
    refine s_rep ?_
    walk_at "go"
    have h4 := rep4_len l
    refine ⟨l, rfl, by omega, ?_⟩
    refine ⟨⟨rep4 l, l.length, _, rfl, rfl, by omega, fun st => by rw [rep4_run]; exact hrun st, fun e => ?_⟩, ?_⟩
    · obtain ⟨e1, e2⟩ := h4.2 (by omega)
      rw [e1]; exact e2
    · show 2 * (rep4 l).toArray.size + (if (l.length : Int) = (((rep4 l).toArray.size : Nat) : Int) then 0 else 1) < 2 * l.toArray.size + (if m = ((l.toArray.size : Nat) : Int) then 0 else 1)
      simp only [List.size_toArray]
      rw [if_neg hne]
      split <;> omega
  · have he : m = (l.length : Int) := by simpa using hc
    walk_at "go"
    have e1 : (decide (l = []) : Bool) = decide (Rt a) := by
      have h1 := stuck_right (hst he)
      have h2 : Rt l ↔ Rt a := by unfold Rt; rw [hrun]
      by_cases z : l = []
      · rw [decide_eq_true z, decide_eq_true (h2.mp (h1.mpr z))]
      · rw [decide_eq_false z, decide_eq_false (fun y => z (h1.mp (h2.mpr y)))]
    rw [e1]
    exact q

theorem sc_law_asked_right : FnScope ["k", "row", "due", "kinds", "again", "found"] ["k", "row"] (defScope d_law_asked_right) := ⟨rfl, rfl, rfl, by decide +kernel, rfl, by decide +kernel, by decide +kernel⟩
theorem ok_law_asked_right (F : Fun K "_law_asked_right" "_law_asked_right" d_law_asked_right f fd) (T : Txt K mg aK) (U_law_is_right : FnU P w K mg base k "_law_is_right" ["row"] (spCand)) (U_is_right : FnU P w K mg base k "is_right" ["k", "row"] (spRightP)) : FnOk P w K mg base CX0 (k + 1) f fd ["k", "row"] (spAsk02) := by
  refine F.ok sc_law_asked_right (fun vs H Q E h => ?_) (fun cdv A outer s H vs Q E hr h => ?_)
  · obtain ⟨kk, a, rfl, _⟩ := h; rfl
  obtain ⟨kk, a, rfl, h1, h2, ha, q⟩ := h
  have hu := hr.units0
  refine ⟨_, (pss_cons (ps_set (i := 2) sc_law_asked_right.nd rfl (Or.inl rfl) (pe_fn U_law_is_right hr (pa_cons (pv 1) pa_nil)))  (pss_cons (ps_for PassesOwn.never rfl (pi_range2 rfl T.n_range (pa_cons (pv 0) (pa_cons pe_int pa_nil))) (pg_name (i := 3) sc_law_asked_right.nd rfl (Or.inl rfl))   (pss_one (ps_for PassesOwn.never rfl (pi_range1 rfl T.n_range (pa_cons pe_int pa_nil)) (pg_name (i := 4) sc_law_asked_right.nd rfl (Or.inl rfl))   (pss_cons (ps_set (i := 5) sc_law_asked_right.nd rfl (Or.inl rfl) (pe_fn U_is_right hr (pa_cons (pv 3) (pa_cons (pv 1) pa_nil))))  (pss_one (ps_if (PW.pt (pw_or (pt_not (pt_tru K (pe_callB (call_isiA K) rfl T.n_isinstance PyProof.Rows.boot_isinstance (pa_cons (pv 5) (pa_cons (pe_ty T.n_bool PyProof.Rows.boot_bool) pa_nil))))) (pw_or1 (pt_cmpR (op_neA K hu) (pv 5) (pv 2) (nomark _)))))   (pss_one (ps_ret pe_bl))   pss_nil))))))  (pss_one (ps_ret pe_bl)))), ?_⟩
  have hl := isRow_len ha
  walk_at "go"
  refine cand_use hl ?_
  walk_at "go"
  refine ⟨_, _, rfl, ⟨by omega, by omega, by omega, by omega⟩, ?_⟩
  refine for_rng (fun i σ H' => ∃ (o3 o4 o5 : Option V), σ = [some (.int kk), some (tx a), some (.bl (decide (Rt a))), o3, o4, o5] ∧ Same H H') ⟨_, _, _, rfl, Same.refl H⟩ ?_ ?_
  · rintro i σ H1 hi ⟨o3, o4, o5, rfl, s1⟩
    have hki : kk + (i : Int) ≤ 4 := by omega
    have hro : isRow (kk + (i : Int)) a = true := isRow_up ha (by omega) (by omega)
    walk_at "go"
    refine ⟨_, rfl, by omega, by omega, ?_⟩
    refine for_rng (fun j σ H' => ∃ (o4 o5 : Option V), σ = [some (.int kk), some (tx a), some (.bl (decide (Rt a))), some (.int (kk + (i : Int))), o4, o5] ∧ Same H H') ⟨_, _, rfl, s1⟩ ?_ ?_
    · rintro j σ H2 hj ⟨o4, o5, rfl, s2⟩
      walk_at "go"
      refine rightP_use (by omega) hki hro (fun H3 s3 => ?_)
      walk_at "go"
      refine s_isi (b := true) (TyOf.bl _) (by with_unfolding_all rfl) ?_
      walk_at "go"
      refine ifq rfl ?_
      walk_at "go"
      refine ifq (by simp) ?_
      walk_at "go"
      exact ⟨_, _, rfl, s2.trans s3⟩
    · rintro σ H2 ⟨o4, o5, rfl, s2⟩
      exact ⟨_, _, _, rfl, s2⟩
  · rintro σ H1 ⟨o3, o4, o5, rfl, s1⟩
    walk_at "go"
    exact q H1 s1

theorem sc_law : FnScope ["script", "turn", "pool", "k", "row", "some", "one"] ["script"] (defScope d_law) := ⟨rfl, rfl, rfl, by decide +kernel, rfl, by decide +kernel, by decide +kernel⟩
theorem ok_law (F : Fun K "law" "law" d_law f fd) (T : Txt K mg aK) (U_law_pool : FnU P w K mg base k "_law_pool" ["script", "k"] (spPool K)) (U_law_right_row : FnU P w K mg base k "_law_right_row" ["pool", "k", "most"] (spRightRow)) (U_law_take : FnU P w K mg base k "_law_take" ["pool", "many"] (spTake)) (U_is_right : FnU P w K mg base k "is_right" ["k", "row"] (spRightP)) (U_law_asked_right : FnU P w K mg base k "_law_asked_right" ["k", "row"] (spAsk02)) (U_law_any_row : FnU P w K mg base k "_law_any_row" ["pool", "k", "most"] (spAnyRow)) (U_law_bent : FnU P w K mg base k "_law_bent" ["pool", "row", "signs"] (spBent)) (U_law_signs : FnU P w K mg base k "_law_signs" ["k"] (spSigns)) : FnOk P w K mg base CX0 (k + 1) f fd ["script"] (spLaw K) := by
  refine F.ok sc_law (fun vs H Q E h => ?_) (fun cdv A outer s H vs Q E hr h => ?_)
  · obtain ⟨a, ns, rfl, _⟩ := h; rfl
  obtain ⟨sa, ns, rfl, hS, h63, q⟩ := h
  have hu := hr.units0
  apply ex_consE
  · exact rfl
  · exact (ps_for PassesOwn.never rfl (pi_range1 rfl T.n_range (pa_cons (pe_callB (call_maxA rfl) rfl T.n_max PyProof.Rows.boot_max (pa_cons pe_int (pa_cons (pe_callB (call_minA rfl) rfl T.n_min PyProof.Rows.boot_min (pa_cons pe_int (pa_cons (pe_callB (call_lenA K) rfl T.n_len PySem.boot_len (pa_cons (pv 0) pa_nil)) pa_nil))) pa_nil))) pa_nil)) (pg_name (i := 1) sc_law.nd rfl (Or.inl rfl))   (pss_cons (ps_set (i := 2) sc_law.nd rfl (Or.inr rfl) (pe_fn U_law_pool hr (pa_cons (pv 0) (pa_cons (pv 1) pa_nil))))  (pss_cons (ps_set (i := 3) sc_law.nd rfl (Or.inr rfl) (pe_op op_plus pe_int (pe_fn U_law_take hr (pa_cons (pv 2) (pa_cons pe_int pa_nil)))))  (pss_cons (ps_set (i := 4) sc_law.nd rfl (Or.inr rfl) (pe_fn U_law_right_row hr (pa_cons (pv 2) (pa_cons (pv 3) (pa_cons pe_int pa_nil)))))  (pss_cons (ps_if (pt_cmpR op_isnotA (pe_fn U_is_right hr (pa_cons (pv 3) (pa_cons (pv 4) pa_nil))) pe_bl (nomark _))   (pss_one (ps_ret pe_bl))   pss_nil)  (pss_cons (ps_set (i := 5) sc_law.nd rfl (Or.inl rfl) (pe_op op_plus (pe_comp (own := ["at"]) (sel := [2, 4, 3]) (compOk_of (osc := (defScope d_law)) (N := ["script", "turn", "pool", "k", "row", "some", "one"]) (by decide +kernel)) rfl (pi_range1 rfl T.n_range (pa_cons pe_int pa_nil)) (fun _ _ _ _ _ => (pg_name (i := 0) (show (["at", "pool", "row", "k"] : List Str).Nodup from by decide +kernel) rfl (Or.inl rfl))) (gk_name (by decide)) (fun _ _ _ _ _ => pif_nil) (fun _ _ _ _ _ => (pe_slice (sl_A K) (pe_fn U_law_bent hr (pa_cons (pv 1) (pa_cons (pv 2) (pa_cons (pe_fn U_law_signs hr (pa_cons (pv 3) pa_nil)) pa_nil)))) po_none (po_some pe_int)))) (pe_lst (pa_cons (pe_fn U_law_any_row hr (pa_cons (pv 2) (pa_cons (pv 3) (pa_cons pe_int pa_nil)))) pa_nil))))  (pss_cons (ps_set (i := 5) sc_law.nd rfl (Or.inl rfl) (pe_op op_plus (pv 5) (pe_lst (pa_cons (pe_fn U_law_any_row hr (pa_cons (pv 2) (pa_cons (pv 3) (pa_cons pe_int pa_nil)))) (pa_cons (pe_rev K (pv 4) (pe_un un_neg pe_int)) (pa_cons (pe_slice (sl_A K) (pv 4) (po_some pe_int) po_none) (pa_cons (pe_slice (sl_A K) (pv 4) po_none (po_some (pe_un un_neg pe_int))) (pa_cons (pe_op op_plus (pv 4) (pe_rev K (pv 4) (pe_un un_neg pe_int))) pa_nil))))))))  (pss_one (ps_for PassesOwn.never rfl (pi_listK K (pv 5)) (pg_name (i := 6) sc_law.nd rfl (Or.inl rfl))   (pss_one (ps_if (pt_not (pt_tru K (pe_fn U_law_asked_right hr (pa_cons (pv 3) (pa_cons (pe_slice (sl_A K) (pv 6) po_none (po_some pe_int)) pa_nil)))))   (pss_one (ps_ret pe_bl))   pss_nil)))))))))))
  apply ex_consB
  · exact rfl
  · exact (ps_forB K rfl rfl PassesOwn.never rfl (Pl.con (pe_tx (l := []) (by decide +kernel)) (Pl.con (pe_tx (l := [63]) (by decide +kernel)) (Pl.con (pe_tx (l := [40, 41]) (by decide +kernel)) (Pl.con (pe_tx (l := [41, 40]) (by decide +kernel)) (Pl.con (pe_tx (l := [40, 93]) (by decide +kernel)) (Pl.con (pe_tx (l := [40, 91, 41, 93]) (by decide +kernel)) (Pl.con (pe_tx (l := [40, 91, 93, 41]) (by decide +kernel)) (Pl.con (pe_tx (l := [40]) (by decide +kernel)) (Pl.con (pe_tx (l := [41]) (by decide +kernel)) (Pl.con (pe_tx (l := [40, 41, 40, 41]) (by decide +kernel)) (Pl.con (pe_tx (l := [40, 40, 41, 41]) (by decide +kernel)) (Pl.con (pe_tx (l := [60, 123, 91, 40, 41, 93, 125, 62]) (by decide +kernel)) (Pl.con (pe_tx (l := [40, 40]) (by decide +kernel)) (Pl.con (pe_tx (l := [40, 63]) (by decide +kernel)) (Pl.con (pe_tx (l := [63, 63]) (by decide +kernel)) Pl.nil))))))))))))))) (pg_name (i := 6) sc_law.nd rfl (Or.inl rfl))   (pss_one (ps_if (pt_not (pt_tru K (pe_fn U_law_asked_right hr (pa_cons pe_int (pa_cons (pv 6) pa_nil)))))   (pss_one (ps_ret pe_bl))   pss_nil)) (fun _ => rfl))
  apply ex_oneE
  · exact rfl
  · exact (ps_ret (pe_and (pe_cmpR op_isA (pe_fn U_is_right hr (pa_cons pe_int (pa_cons (pe_op op_plus (pe_op op_times (pe_tx (l := [40]) (by decide +kernel)) pe_int) (pe_op op_times (pe_tx (l := [41]) (by decide +kernel)) pe_int)) pa_nil))) pe_bl (nomark _)) (pe_one (pe_cmpR op_isA (pe_fn U_is_right hr (pa_cons pe_int (pa_cons (pe_op op_plus (pe_op op_times (pe_tx (l := [40, 91]) (by decide +kernel)) pe_int) (pe_op op_times (pe_tx (l := [41, 93]) (by decide +kernel)) pe_int)) pa_nil))) pe_bl (nomark _)))))
  walk_at "go"
  refine s_lenL (.inl hS) ?_
  walk_at "go"
  refine ⟨_, rfl, by split <;> (try split) <;> omega, by rw [List.length_map]; split <;> (try split) <;> omega, ?_⟩
  refine for_rng (fun i σ H' => ∃ (o1 o2 o3 o4 o5 o6 : Option V), σ = [some (.ref sa), o1, o2, o3, o4, o5, o6] ∧ Same H H') ⟨_, _, _, _, _, _, rfl, Same.refl H⟩ ?_ ?_
  · rintro i σ H1 hi ⟨o1, o2, o3, o4, o5, o6, rfl, s1⟩
    have hi10 : i < 10 := by
      rw [List.length_map] at hi
      revert hi; split <;> (try split) <;> omega
    have ei : (0 : Int) + (i : Int) = (i : Int) := by omega
    rw [ei]
    walk_at "go"
    refine ⟨sa, ns, _, rfl, s1.seq hS, h63, by omega, by omega, fun p H2 hp2 s2 hpo => ?_⟩
    have hHp : H p = none := s1.free hp2
    have s12 := s1.trans s2
    walk_at "go"
    refine take_use hpo (by omega) (by omega) (by omega) (fun k0 H3 k00 k01 hpo3 s3 => ?_)
    have u3 : Same H H3 := Same.but s12 s3 hHp
    walk_at "go"
    refine right_use hpo3 (by omega) (by omega) (by omega) (by omega) (by omega) (fun row H4 hR hrl hkin hpo4 s4 => ?_)
    have u4 : Same H H4 := Same.but u3 s4 hHp
    have hr40 : row.length ≤ 40 := by omega
    have hro : isRow (1 + k0) row = true := isRow_of (kk := 1 + k0) (by omega) hr40 hkin
    have hrs := isRow_mem hro
    walk_at "go"
    refine rightP_use (by omega) (by omega) hro (fun H5 s5 => ?_)
    rw [decide_eq_true hR]
    walk_at "go"
    refine ifq (by simp) ?_
    have hpo5 := hpo4.same s5
    have u5 := u4.trans s5
    walk_at "go"
    refine ⟨8, rfl, by decide, by decide, ?_⟩
    refine comp_rng (n := 8) (small (by decide)) (fun D j ys H' => (∀ v ∈ ys, Rw (1 + k0) v) ∧ ys.length = j ∧ D ≠ p ∧ PoolAt H' p (5000 + 4 * j) ∧ SameBut1 p H5 H') (fun D hD => ⟨rw_nil, rfl, hpo5.ne hD, (hpo5.same (same_new hD _)).mono (by omega), SameBut1.of (same_new hD _)⟩) (fun D ys H6 hD hy ⟨hA, hyl, hDp, hpo6, s6⟩ => ?_) ?_
    · have u6 : Same H H6 := Same.but u5 s6 hHp
      walk_at "go"
      refine any_use hpo6 (by omega) (by omega) (by omega) (by omega) (by omega) (fun r1 H7 hl1 hm1 hpo7 s7 => ?_)
      have u7 : Same H H7 := Same.but u6 s7 hHp
      have hy7 := s7 _ _ hy hDp
      have w1 : Rw (1 + k0) (tx r1) := rw_mk (by omega) hm1
      walk_at "go"
      refine ⟨small (show 1 ≤ 1000 by decide), fun l2 hl2 => ?_⟩
      have t8 := same_new hl2 (.lst [tx r1])
      have hL2 := upd_same (H := H7) (a := l2) (o := .lst [tx r1])
      have hpo8 := hpo7.same t8
      have u8 := u7.trans t8
      have hy8 := t8 _ _ hy7
      generalize upd H7 l2 _ = G8 at *
      refine s_addL hy8 hL2 (small (by rw [hyl]; simp)) (fun l3 hl3 => ?_)
      have t9 := same_new hl3 (.lst (ys ++ [tx r1]))
      have hL3 := upd_same (H := G8) (a := l3) (o := .lst (ys ++ [tx r1]))
      have hpo9 := hpo8.same t9
      have u9 := u8.trans t9
      have n9 : (ys ++ [tx r1]).length = 9 := by rw [List.length_append, hyl]; rfl
      have A9 : ∀ v ∈ ys ++ [tx r1], Rw (1 + k0) v := rw_app hA (rw_cons w1 rw_nil)
      have l3p : l3 ≠ p := hpo8.ne hl3
      generalize upd G8 l3 _ = G9 at *
      generalize ys ++ [tx r1] = L9 at *
      walk_at "go"
      refine any_use hpo9 (by omega) (by omega) (by omega) (by omega) (by omega) (fun r2 H10 hl2' hm2 hpo10 s10 => ?_)
      have u10 : Same H H10 := Same.but u9 s10 hHp
      have hL10 := s10 _ _ hL3 l3p
      have w2 : Rw (1 + k0) (tx r2) := rw_mk (by omega) hm2
      have d1 := cut_le row (some 1) none
      have d2 := cut_le row none (some (-1))
      have hrr : row.reverse.length ≤ 40 := by rw [List.length_reverse]; omega
      walk_at "go"
      refine ⟨small (show 5 ≤ 1000 by decide), fun l4 hl4 => ?_⟩
      have mr : ∀ c ∈ row.reverse, c ∈ sgn (1 + k0) := fun c hc => hrs c (List.mem_reverse.mp hc)
      have A10 : ∀ v ∈ [tx r2, tx row.reverse, tx (cutL row (some 1) none), tx (cutL row none (some (-1))), tx (row ++ row.reverse)], Rw (1 + k0) v :=
        rw_cons w2 (rw_cons (rw_mk (by omega) mr) (rw_cons (rw_mk (by omega) fun c hc => hrs c (cut_mem hc)) (rw_cons (rw_mk (by omega) fun c hc => hrs c (cut_mem hc)) (rw_cons (rw_mk (by rw [List.length_append]; omega) fun c hc => (List.mem_append.mp hc).elim (hrs c) (mr c)) rw_nil))))
      have n10 : [tx r2, tx row.reverse, tx (cutL row (some 1) none), tx (cutL row none (some (-1))), tx (row ++ row.reverse)].length = 5 := rfl
      generalize [tx r2, tx row.reverse, tx (cutL row (some 1) none), tx (cutL row none (some (-1))), tx (row ++ row.reverse)] = L10 at A10 n10 ⊢
      have t11 := same_new hl4 (.lst L10)
      have hL11 := upd_same (H := H10) (a := l4) (o := .lst L10)
      have u11 := u10.trans t11
      have hL9 := t11 _ _ hL10
      generalize upd H10 l4 _ = G11 at *
      refine s_addL hL9 hL11 (small (by rw [n9, n10]; decide)) (fun l5 hl5 => ?_)
      have t12 := same_new hl5 (.lst (L9 ++ L10))
      have hL12 := upd_same (H := G11) (a := l5) (o := .lst (L9 ++ L10))
      have u12 := u11.trans t12
      have A12 := rw_app A9 A10
      generalize upd G11 l5 _ = G12 at *
      generalize L9 ++ L10 = L12 at *
      walk_at "go"
      refine ⟨l5, rfl, ⟨_, SqL.of hL12⟩, ?_⟩
      refine for_lst (xs := L12) (fun j σ H' => ∃ (o6 : Option V), σ = [some (.ref sa), some (.int i), some (.ref p), some (.int (1 + k0)), some (tx row), some (.ref l5), o6] ∧ Same G12 H') ⟨_, rfl, Same.refl G12⟩ (fun j σ H' _ ⟨_, _, z⟩ => SqL.of (z _ _ hL12)) ?_ ?_
      · rintro j x σ H13 hj ⟨o6, rfl, s13⟩
        obtain ⟨a, rfl, hal, ham⟩ := A12 x (List.mem_of_getElem? hj)
        have ha0 : a.length ≤ 1000 := by omega
        walk_at "go"
        have ec : cutL a none (some 40) = a.take 40 := cut_to _ (by decide)
        rw [ec]
        refine ask02_use (by omega) (by omega) (isRow_mk (by rw [List.length_take]; omega) fun c hc => ham c (List.mem_of_mem_take hc)) (fun H14 s14 => ?_)
        walk_at "go"
        refine ifq rfl ?_
        walk_at "go"
        exact ⟨_, rfl, s13.trans s14⟩
      · rintro σ H13 ⟨o6, rfl, s13⟩
        exact ⟨_, _, _, _, _, _, rfl, u12.trans s13⟩
    · rintro D j ys H6 hD hj hy hl ⟨hA, hyl, hDp, hpo6, s6⟩
      walk_at "go"
      refine iteT ?_
      walk_at "go"
      refine signs_use (by omega) (by omega) ?_
      have hsl := sgs_len (k := 1 + k0) (by omega) (by omega)
      walk_at "go"
      refine bent_use hpo6 (by omega) hr40 (by omega) (by omega) (fun row' H7 hm hl' hpo7 s7 => ?_)
      walk_at "go"
      refine comp_next hj (small (by decide)) (s7 _ _ hy hDp) hl ⟨rw_app hA (rw_cons (rw_mk (Nat.le_trans (cut_le _ _ _) hl') fun c hc => ?_) rw_nil), by simp [hyl], hDp, ?_, ?_⟩
      · rcases hm c (cut_mem hc) with z | z
        · exact hrs c z
        · exact sgs_sgn (by omega) (by omega) z
      · obtain ⟨x, y, z, e4, h1, h2⟩ := hpo7
        exact ⟨x, y, z, by rw [upd_ne (Ne.symm hDp)]; exact e4, h1, by omega⟩
      · exact fun b o z zn => by
          rw [upd_ne (ne_of_none z hD)]
          exact s7 b o (s6 b o z zn) zn
  · rintro σ H1 ⟨o1, o2, o3, o4, o5, o6, rfl, s1⟩
    walk_at "go"
    simp only [tAll]
    walk_at "go"
    refine ⟨small (show 15 ≤ 1000 by decide), fun l1 hl1 => ?_⟩
    have AL : ∀ v ∈ [tx [], tx [63], tx [40, 41], tx [41, 40], tx [40, 93], tx [40, 91, 41, 93], tx [40, 91, 93, 41], tx [40], tx [41], tx [40, 41, 40, 41], tx [40, 40, 41, 41], tx [60, 123, 91, 40, 41, 93, 125, 62], tx [40, 40], tx [40, 63], tx [63, 63]], ∃ a : List Nat, v = tx a ∧ isRow 4 a = true := by
      intro v hv
      simp only [List.mem_cons, List.not_mem_nil, or_false] at hv
      rcases hv with rfl | rfl | rfl | rfl | rfl | rfl | rfl | rfl | rfl | rfl | rfl | rfl | rfl | rfl | rfl <;> exact ⟨_, rfl, by decide +kernel⟩
    generalize [tx [], tx [63], tx [40, 41], tx [41, 40], tx [40, 93], tx [40, 91, 41, 93], tx [40, 91, 93, 41], tx [40], tx [41], tx [40, 41, 40, 41], tx [40, 40, 41, 41], tx [60, 123, 91, 40, 41, 93, 125, 62], tx [40, 40], tx [40, 63], tx [63, 63]] = L1 at AL ⊢
    have hL1 := upd_same (H := H1) (a := l1) (o := .lst L1)
    generalize upd H1 l1 _ = G1 at *
    refine ⟨l1, rfl, ⟨_, SqL.of hL1⟩, ?_⟩
    refine for_lst (xs := L1) (fun j σ H' => ∃ (o6 : Option V), σ = [some (.ref sa), o1, o2, o3, o4, o5, o6] ∧ Same G1 H') ⟨_, rfl, Same.refl G1⟩ (fun j σ H' _ ⟨_, _, z⟩ => SqL.of (z _ _ hL1)) ?_ ?_
    · rintro j x σ H3 hj ⟨o6, rfl, s3⟩
      obtain ⟨a, rfl, har⟩ := AL x (List.mem_of_getElem? hj)
      walk_at "go"
      refine ask02_use (by decide) (by decide) har (fun H4 s4 => ?_)
      walk_at "go"
      refine ifq rfl ?_
      walk_at "go"
      exact ⟨_, rfl, s3.trans s4⟩
    · rintro σ H3 ⟨o6, rfl, s3⟩
      walk_at "go"
      refine s_mulT (by decide) (by decide) (by decide) ?_
      walk_at "go"
      refine s_mulT (by decide) (by decide) (by decide) ?_
      walk_at "go"
      first | refine s_addT (small (by decide)) ?_ | skip
      walk_at "go"
      refine rightP_use (by decide) (by decide) (by decide +kernel) (fun H4 s4 => ?_)
      have r1 : decide (Rt ((List.replicate (20 : Int).toNat [40]).flatten ++ (List.replicate (20 : Int).toNat [41]).flatten)) = true := by decide +kernel
      rw [r1]
      walk_at "go"
      rw [if_pos (by decide)]
      walk_at "go"
      refine s_mulT (by decide) (by decide) (by decide) ?_
      walk_at "go"
      refine s_mulT (by decide) (by decide) (by decide) ?_
      walk_at "go"
      first | refine s_addT (small (by decide)) ?_ | skip
      walk_at "go"
      refine rightP_use (by decide) (by decide) (by decide +kernel) (fun H5 s5 => ?_)
      have r2 : decide (Rt ((List.replicate (10 : Int).toNat [40, 91]).flatten ++ (List.replicate (10 : Int).toNat [41, 93]).flatten)) = false := by decide +kernel
      rw [r2]
      walk_at "go"
      exact q _

end
theorem all_mk {l : PySem.W.OpenLaw} {w : World} {K : PySem.W.Frag} {h : Heap} {mg : Str → Option Value} {fa : Addr} (X : K.In h) (G : h.Ns mainGlobals mg) (hfa : mg "law" = some (.ref fa)) {f0 : Addr} {od0 an0 : Option Addr} {sl0 : Array (Option Value)} {oc0 kV0 dc0 pm0 cd0 ct0 : Value} {f1 : Addr} {od1 an1 : Option Addr} {sl1 : Array (Option Value)} {oc1 kV1 dc1 pm1 cd1 ct1 : Value} {f2 : Addr} {od2 an2 : Option Addr} {sl2 : Array (Option Value)} {oc2 kV2 dc2 pm2 cd2 ct2 : Value} {f3 : Addr} {od3 an3 : Option Addr} {sl3 : Array (Option Value)} {oc3 kV3 dc3 pm3 cd3 ct3 : Value} {f4 : Addr} {od4 an4 : Option Addr} {sl4 : Array (Option Value)} {oc4 kV4 dc4 pm4 cd4 ct4 : Value} {f5 : Addr} {od5 an5 : Option Addr} {sl5 : Array (Option Value)} {oc5 kV5 dc5 pm5 cd5 ct5 : Value} {f6 : Addr} {od6 an6 : Option Addr} {sl6 : Array (Option Value)} {oc6 kV6 dc6 pm6 cd6 ct6 : Value} {f7 : Addr} {od7 an7 : Option Addr} {sl7 : Array (Option Value)} {oc7 kV7 dc7 pm7 cd7 ct7 : Value} {f8 : Addr} {od8 an8 : Option Addr} {sl8 : Array (Option Value)} {oc8 kV8 dc8 pm8 cd8 ct8 : Value} {f9 : Addr} {od9 an9 : Option Addr} {sl9 : Array (Option Value)} {oc9 kV9 dc9 pm9 cd9 ct9 : Value} {f10 : Addr} {od10 an10 : Option Addr} {sl10 : Array (Option Value)} {oc10 kV10 dc10 pm10 cd10 ct10 : Value} {f11 : Addr} {od11 an11 : Option Addr} {sl11 : Array (Option Value)} {oc11 kV11 dc11 pm11 cd11 ct11 : Value} {f12 : Addr} {od12 an12 : Option Addr} {sl12 : Array (Option Value)} {oc12 kV12 dc12 pm12 cd12 ct12 : Value} {f13 : Addr} {od13 an13 : Option Addr} {sl13 : Array (Option Value)} {oc13 kV13 dc13 pm13 cd13 ct13 : Value} {f14 : Addr} {od14 an14 : Option Addr} {sl14 : Array (Option Value)} {oc14 kV14 dc14 pm14 cd14 ct14 : Value} {x_OPENING : Str} {t_OPENING : Tok} {x_CLOSING : Str} {t_CLOSING : Tok} {aK : Addr} {oK : Obj} {itK : Array Value} {nK : Nat} {x_UNKNOWN : Str} {t_UNKNOWN : Tok} {x_MOST_SIGNS : Int} {t_MOST_SIGNS : Tok}
    (a0 : PySem.W.nsIn K mainGlobals "is_whole" = some (some (.ref f0))) (l0 : K.lookup f0 = some ⟨oc0, od0, .func (PySem.W.fnOf "is_whole" "is_whole" (defArgs d_is_whole) (defBody d_is_whole) (defScope d_is_whole) .none kV0 dc0 pm0 an0 cd0 ct0), sl0⟩) (c0 : PySem.W.codeIn K cd0 "is_whole" = true) (k0 : PySem.W.keepIn K (.ref f0) = true)
    (a1 : PySem.W.nsIn K mainGlobals "check_kinds" = some (some (.ref f1))) (l1 : K.lookup f1 = some ⟨oc1, od1, .func (PySem.W.fnOf "check_kinds" "check_kinds" (defArgs d_check_kinds) (defBody d_check_kinds) (defScope d_check_kinds) .none kV1 dc1 pm1 an1 cd1 ct1), sl1⟩) (c1 : PySem.W.codeIn K cd1 "check_kinds" = true) (k1 : PySem.W.keepIn K (.ref f1) = true)
    (a2 : PySem.W.nsIn K mainGlobals "is_line" = some (some (.ref f2))) (l2 : K.lookup f2 = some ⟨oc2, od2, .func (PySem.W.fnOf "is_line" "is_line" (defArgs d_is_line) (defBody d_is_line) (defScope d_is_line) .none kV2 dc2 pm2 an2 cd2 ct2), sl2⟩) (c2 : PySem.W.codeIn K cd2 "is_line" = true) (k2 : PySem.W.keepIn K (.ref f2) = true)
    (a3 : PySem.W.nsIn K mainGlobals "check_line" = some (some (.ref f3))) (l3 : K.lookup f3 = some ⟨oc3, od3, .func (PySem.W.fnOf "check_line" "check_line" (defArgs d_check_line) (defBody d_check_line) (defScope d_check_line) .none kV3 dc3 pm3 an3 cd3 ct3), sl3⟩) (c3 : PySem.W.codeIn K cd3 "check_line" = true) (k3 : PySem.W.keepIn K (.ref f3) = true)
    (a4 : PySem.W.nsIn K mainGlobals "matched" = some (some (.ref f4))) (l4 : K.lookup f4 = some ⟨oc4, od4, .func (PySem.W.fnOf "matched" "matched" (defArgs d_matched) (defBody d_matched) (defScope d_matched) .none kV4 dc4 pm4 an4 cd4 ct4), sl4⟩) (c4 : PySem.W.codeIn K cd4 "matched" = true) (k4 : PySem.W.keepIn K (.ref f4) = true)
    (a5 : PySem.W.nsIn K mainGlobals "is_right" = some (some (.ref f5))) (l5 : K.lookup f5 = some ⟨oc5, od5, .func (PySem.W.fnOf "is_right" "is_right" (defArgs d_is_right) (defBody d_is_right) (defScope d_is_right) .none kV5 dc5 pm5 an5 cd5 ct5), sl5⟩) (c5 : PySem.W.codeIn K cd5 "is_right" = true) (k5 : PySem.W.keepIn K (.ref f5) = true)
    (a6 : PySem.W.nsIn K mainGlobals "_law_pool" = some (some (.ref f6))) (l6 : K.lookup f6 = some ⟨oc6, od6, .func (PySem.W.fnOf "_law_pool" "_law_pool" (defArgs d_law_pool) (defBody d_law_pool) (defScope d_law_pool) .none kV6 dc6 pm6 an6 cd6 ct6), sl6⟩) (c6 : PySem.W.codeIn K cd6 "_law_pool" = true) (k6 : PySem.W.keepIn K (.ref f6) = true)
    (a7 : PySem.W.nsIn K mainGlobals "_law_take" = some (some (.ref f7))) (l7 : K.lookup f7 = some ⟨oc7, od7, .func (PySem.W.fnOf "_law_take" "_law_take" (defArgs d_law_take) (defBody d_law_take) (defScope d_law_take) .none kV7 dc7 pm7 an7 cd7 ct7), sl7⟩) (c7 : PySem.W.codeIn K cd7 "_law_take" = true) (k7 : PySem.W.keepIn K (.ref f7) = true)
    (a8 : PySem.W.nsIn K mainGlobals "_law_right_row" = some (some (.ref f8))) (l8 : K.lookup f8 = some ⟨oc8, od8, .func (PySem.W.fnOf "_law_right_row" "_law_right_row" (defArgs d_law_right_row) (defBody d_law_right_row) (defScope d_law_right_row) .none kV8 dc8 pm8 an8 cd8 ct8), sl8⟩) (c8 : PySem.W.codeIn K cd8 "_law_right_row" = true) (k8 : PySem.W.keepIn K (.ref f8) = true)
    (a9 : PySem.W.nsIn K mainGlobals "_law_signs" = some (some (.ref f9))) (l9 : K.lookup f9 = some ⟨oc9, od9, .func (PySem.W.fnOf "_law_signs" "_law_signs" (defArgs d_law_signs) (defBody d_law_signs) (defScope d_law_signs) .none kV9 dc9 pm9 an9 cd9 ct9), sl9⟩) (c9 : PySem.W.codeIn K cd9 "_law_signs" = true) (k9 : PySem.W.keepIn K (.ref f9) = true)
    (a10 : PySem.W.nsIn K mainGlobals "_law_bent" = some (some (.ref f10))) (l10 : K.lookup f10 = some ⟨oc10, od10, .func (PySem.W.fnOf "_law_bent" "_law_bent" (defArgs d_law_bent) (defBody d_law_bent) (defScope d_law_bent) .none kV10 dc10 pm10 an10 cd10 ct10), sl10⟩) (c10 : PySem.W.codeIn K cd10 "_law_bent" = true) (k10 : PySem.W.keepIn K (.ref f10) = true)
    (a11 : PySem.W.nsIn K mainGlobals "_law_any_row" = some (some (.ref f11))) (l11 : K.lookup f11 = some ⟨oc11, od11, .func (PySem.W.fnOf "_law_any_row" "_law_any_row" (defArgs d_law_any_row) (defBody d_law_any_row) (defScope d_law_any_row) .none kV11 dc11 pm11 an11 cd11 ct11), sl11⟩) (c11 : PySem.W.codeIn K cd11 "_law_any_row" = true) (k11 : PySem.W.keepIn K (.ref f11) = true)
    (a12 : PySem.W.nsIn K mainGlobals "_law_is_right" = some (some (.ref f12))) (l12 : K.lookup f12 = some ⟨oc12, od12, .func (PySem.W.fnOf "_law_is_right" "_law_is_right" (defArgs d_law_is_right) (defBody d_law_is_right) (defScope d_law_is_right) .none kV12 dc12 pm12 an12 cd12 ct12), sl12⟩) (c12 : PySem.W.codeIn K cd12 "_law_is_right" = true) (k12 : PySem.W.keepIn K (.ref f12) = true)
    (a13 : PySem.W.nsIn K mainGlobals "_law_asked_right" = some (some (.ref f13))) (l13 : K.lookup f13 = some ⟨oc13, od13, .func (PySem.W.fnOf "_law_asked_right" "_law_asked_right" (defArgs d_law_asked_right) (defBody d_law_asked_right) (defScope d_law_asked_right) .none kV13 dc13 pm13 an13 cd13 ct13), sl13⟩) (c13 : PySem.W.codeIn K cd13 "_law_asked_right" = true) (k13 : PySem.W.keepIn K (.ref f13) = true)
    (a14 : PySem.W.nsIn K mainGlobals "law" = some (some (.ref f14))) (l14 : K.lookup f14 = some ⟨oc14, od14, .func (PySem.W.fnOf "law" "law" (defArgs d_law) (defBody d_law) (defScope d_law) .none kV14 dc14 pm14 an14 cd14 ct14), sl14⟩) (c14 : PySem.W.codeIn K cd14 "law" = true) (k14 : PySem.W.keepIn K (.ref f14) = true)
    (z_all : PySem.W.nsIn K mainGlobals "all" = some none)
    (z_bool : PySem.W.nsIn K mainGlobals "bool" = some none)
    (z_enumerate : PySem.W.nsIn K mainGlobals "enumerate" = some none)
    (z_int : PySem.W.nsIn K mainGlobals "int" = some none)
    (z_isinstance : PySem.W.nsIn K mainGlobals "isinstance" = some none)
    (z_len : PySem.W.nsIn K mainGlobals "len" = some none)
    (z_max : PySem.W.nsIn K mainGlobals "max" = some none)
    (z_min : PySem.W.nsIn K mainGlobals "min" = some none)
    (z_range : PySem.W.nsIn K mainGlobals "range" = some none)
    (z_str : PySem.W.nsIn K mainGlobals "str" = some none)
    (g_OPENING : PySem.W.nsIn K mainGlobals "OPENING" = some (some (.str x_OPENING t_OPENING))) (h_OPENING : x_OPENING = ⟨([40, 91, 123, 60] : List Nat).toArray⟩)
    (g_CLOSING : PySem.W.nsIn K mainGlobals "CLOSING" = some (some (.str x_CLOSING t_CLOSING))) (h_CLOSING : x_CLOSING = ⟨([41, 93, 125, 62] : List Nat).toArray⟩)
    (g_K : PySem.W.nsIn K mainGlobals "KINDS" = some (some (.ref aK))) (l_K : K.lookup aK = some oK) (c_K : oK.cls = .type "tuple") (s_K : oK.data = .seq itK nK) (r_K : tupIs itK [tx [40, 41], tx [91, 93], tx [123, 125], tx [60, 62]] = true)
    (g_UNKNOWN : PySem.W.nsIn K mainGlobals "UNKNOWN" = some (some (.str x_UNKNOWN t_UNKNOWN))) (h_UNKNOWN : x_UNKNOWN = ⟨([63] : List Nat).toArray⟩)
    (g_MOST_SIGNS : PySem.W.nsIn K mainGlobals "MOST_SIGNS" = some (some (.int x_MOST_SIGNS t_MOST_SIGNS))) (h_MOST_SIGNS : x_MOST_SIGNS = 40) :
    ∃ fd : FuncData, (∀ (s : Shared) (v : Value), BindsTo s fd ⟨[v], []⟩ [("script", v)]) ∧ ∀ base : Heap, K.In base → base.Ns mainGlobals mg → FnOk l.prog w K mg base CX0 7 fa fd ["script"] (spLaw K) := by
  have e := hfa.symm.trans (PySem.W.mg_of X G a14)
  cases e
  have T : Txt K mg aK := ⟨PySem.W.mg_none_of X G z_all, PySem.W.mg_none_of X G z_bool, PySem.W.mg_none_of X G z_enumerate, PySem.W.mg_none_of X G z_int, PySem.W.mg_none_of X G z_isinstance, PySem.W.mg_none_of X G z_len, PySem.W.mg_none_of X G z_max, PySem.W.mg_none_of X G z_min, PySem.W.mg_none_of X G z_range, PySem.W.mg_none_of X G z_str, ⟨_, PySem.W.mg_of X G g_OPENING, by rw [h_OPENING]; exact ⟨_, rfl⟩⟩, ⟨_, PySem.W.mg_of X G g_CLOSING, by rw [h_CLOSING]; exact ⟨_, rfl⟩⟩, ⟨_, PySem.W.mg_of X G g_K, rfl⟩, fun H => .inr ⟨oK, itK, nK, l_K, c_K, s_K, tupIs_size r_K (by decide), tupIs_vals r_K⟩, ⟨_, PySem.W.mg_of X G g_UNKNOWN, by rw [h_UNKNOWN]; exact ⟨_, rfl⟩⟩, ⟨_, PySem.W.mg_of X G g_MOST_SIGNS, by rw [h_MOST_SIGNS]; exact ⟨_, rfl⟩⟩⟩
  have F0 := fun_mk (st := d_is_whole) l0 c0 k0
  have D0 : DefAt K mg "is_whole" d_is_whole ["thing"] _ _ := ⟨F0, PySem.W.mg_of X G a0, F0.binds (ps := ["thing"]) fun _ _ _ _ _ _ us hl => match us, hl with | [_], _ => rfl⟩
  have F1 := fun_mk (st := d_check_kinds) l1 c1 k1
  have D1 : DefAt K mg "check_kinds" d_check_kinds ["k"] _ _ := ⟨F1, PySem.W.mg_of X G a1, F1.binds (ps := ["k"]) fun _ _ _ _ _ _ us hl => match us, hl with | [_], _ => rfl⟩
  have F2 := fun_mk (st := d_is_line) l2 c2 k2
  have D2 : DefAt K mg "is_line" d_is_line ["k", "thing"] _ _ := ⟨F2, PySem.W.mg_of X G a2, F2.binds (ps := ["k", "thing"]) fun _ _ _ _ _ _ us hl => match us, hl with | [_, _], _ => rfl⟩
  have F3 := fun_mk (st := d_check_line) l3 c3 k3
  have D3 : DefAt K mg "check_line" d_check_line ["k", "row"] _ _ := ⟨F3, PySem.W.mg_of X G a3, F3.binds (ps := ["k", "row"]) fun _ _ _ _ _ _ us hl => match us, hl with | [_, _], _ => rfl⟩
  have F4 := fun_mk (st := d_matched) l4 c4 k4
  have D4 : DefAt K mg "matched" d_matched ["row"] _ _ := ⟨F4, PySem.W.mg_of X G a4, F4.binds (ps := ["row"]) fun _ _ _ _ _ _ us hl => match us, hl with | [_], _ => rfl⟩
  have F5 := fun_mk (st := d_is_right) l5 c5 k5
  have D5 : DefAt K mg "is_right" d_is_right ["k", "row"] _ _ := ⟨F5, PySem.W.mg_of X G a5, F5.binds (ps := ["k", "row"]) fun _ _ _ _ _ _ us hl => match us, hl with | [_, _], _ => rfl⟩
  have F6 := fun_mk (st := d_law_pool) l6 c6 k6
  have D6 : DefAt K mg "_law_pool" d_law_pool ["script", "k"] _ _ := ⟨F6, PySem.W.mg_of X G a6, F6.binds (ps := ["script", "k"]) fun _ _ _ _ _ _ us hl => match us, hl with | [_, _], _ => rfl⟩
  have F7 := fun_mk (st := d_law_take) l7 c7 k7
  have D7 : DefAt K mg "_law_take" d_law_take ["pool", "many"] _ _ := ⟨F7, PySem.W.mg_of X G a7, F7.binds (ps := ["pool", "many"]) fun _ _ _ _ _ _ us hl => match us, hl with | [_, _], _ => rfl⟩
  have F8 := fun_mk (st := d_law_right_row) l8 c8 k8
  have D8 : DefAt K mg "_law_right_row" d_law_right_row ["pool", "k", "most"] _ _ := ⟨F8, PySem.W.mg_of X G a8, F8.binds (ps := ["pool", "k", "most"]) fun _ _ _ _ _ _ us hl => match us, hl with | [_, _, _], _ => rfl⟩
  have F9 := fun_mk (st := d_law_signs) l9 c9 k9
  have D9 : DefAt K mg "_law_signs" d_law_signs ["k"] _ _ := ⟨F9, PySem.W.mg_of X G a9, F9.binds (ps := ["k"]) fun _ _ _ _ _ _ us hl => match us, hl with | [_], _ => rfl⟩
  have F10 := fun_mk (st := d_law_bent) l10 c10 k10
  have D10 : DefAt K mg "_law_bent" d_law_bent ["pool", "row", "signs"] _ _ := ⟨F10, PySem.W.mg_of X G a10, F10.binds (ps := ["pool", "row", "signs"]) fun _ _ _ _ _ _ us hl => match us, hl with | [_, _, _], _ => rfl⟩
  have F11 := fun_mk (st := d_law_any_row) l11 c11 k11
  have D11 : DefAt K mg "_law_any_row" d_law_any_row ["pool", "k", "most"] _ _ := ⟨F11, PySem.W.mg_of X G a11, F11.binds (ps := ["pool", "k", "most"]) fun _ _ _ _ _ _ us hl => match us, hl with | [_, _, _], _ => rfl⟩
  have F12 := fun_mk (st := d_law_is_right) l12 c12 k12
  have D12 : DefAt K mg "_law_is_right" d_law_is_right ["row"] _ _ := ⟨F12, PySem.W.mg_of X G a12, F12.binds (ps := ["row"]) fun _ _ _ _ _ _ us hl => match us, hl with | [_], _ => rfl⟩
  have F13 := fun_mk (st := d_law_asked_right) l13 c13 k13
  have D13 : DefAt K mg "_law_asked_right" d_law_asked_right ["k", "row"] _ _ := ⟨F13, PySem.W.mg_of X G a13, F13.binds (ps := ["k", "row"]) fun _ _ _ _ _ _ us hl => match us, hl with | [_, _], _ => rfl⟩
  have F14 := fun_mk (st := d_law) l14 c14 k14
  have D14 : DefAt K mg "law" d_law ["script"] _ _ := ⟨F14, PySem.W.mg_of X G a14, F14.binds (ps := ["script"]) fun _ _ _ _ _ _ us hl => match us, hl with | [_], _ => rfl⟩
  refine ⟨PySem.W.fnOf "law" "law" (defArgs d_law) (defBody d_law) (defScope d_law) .none kV14 dc14 pm14 an14 cd14 ct14, fun s v => .of_eq rfl, fun base _ _ => ?_⟩
  have U_is_whole : FnU l.prog w K mg base 1 "is_whole" ["thing"] (spWhole K) := D0.fnU (ok_is_whole (k := 0) F0 T )
  have U_check_kinds : FnU l.prog w K mg base 2 "check_kinds" ["k"] (spKinds) := D1.fnU (ok_check_kinds (k := 1) F1 T (U_is_whole.mono (by decide)))
  have U_is_line : FnU l.prog w K mg base 3 "is_line" ["k", "thing"] (spLine K) := D2.fnU (ok_is_line (k := 2) F2 T (U_check_kinds.mono (by decide)))
  have U_check_line : FnU l.prog w K mg base 4 "check_line" ["k", "row"] (spCheckLine) := D3.fnU (ok_check_line (k := 3) F3 T (U_is_line.mono (by decide)))
  have U_matched : FnU l.prog w K mg base 1 "matched" ["row"] (spMatched) := D4.fnU (ok_matched (k := 0) F4 T )
  have U_is_right : FnU l.prog w K mg base 5 "is_right" ["k", "row"] (spRightP) := D5.fnU (ok_is_right (k := 4) F5 T (U_check_line.mono (by decide)) (U_matched.mono (by decide)))
  have U_law_pool : FnU l.prog w K mg base 1 "_law_pool" ["script", "k"] (spPool K) := D6.fnU (ok_law_pool (k := 0) F6 T )
  have U_law_take : FnU l.prog w K mg base 1 "_law_take" ["pool", "many"] (spTake) := D7.fnU (ok_law_take (k := 0) F7 T )
  have U_law_right_row : FnU l.prog w K mg base 2 "_law_right_row" ["pool", "k", "most"] (spRightRow) := D8.fnU (ok_law_right_row (k := 1) F8 T (U_law_take.mono (by decide)))
  have U_law_signs : FnU l.prog w K mg base 1 "_law_signs" ["k"] (spSigns) := D9.fnU (ok_law_signs (k := 0) F9 T )
  have U_law_bent : FnU l.prog w K mg base 2 "_law_bent" ["pool", "row", "signs"] (spBent) := D10.fnU (ok_law_bent (k := 1) F10 T (U_law_take.mono (by decide)))
  have U_law_any_row : FnU l.prog w K mg base 3 "_law_any_row" ["pool", "k", "most"] (spAnyRow) := D11.fnU (ok_law_any_row (k := 2) F11 T (U_law_take.mono (by decide)) (U_law_signs.mono (by decide)) (U_law_right_row.mono (by decide)) (U_law_bent.mono (by decide)))
  have U_law_is_right : FnU l.prog w K mg base 1 "_law_is_right" ["row"] (spCand) := D12.fnU (ok_law_is_right (k := 0) F12 T )
  have U_law_asked_right : FnU l.prog w K mg base 6 "_law_asked_right" ["k", "row"] (spAsk02) := D13.fnU (ok_law_asked_right (k := 5) F13 T (U_law_is_right.mono (by decide)) (U_is_right.mono (by decide)))
  exact ok_law (k := 6) F14 T (U_law_pool.mono (by decide)) (U_law_right_row.mono (by decide)) (U_law_take.mono (by decide)) (U_is_right.mono (by decide)) (U_law_asked_right.mono (by decide)) (U_law_any_row.mono (by decide)) (U_law_bent.mono (by decide)) (U_law_signs.mono (by decide))
theorem walk {l : PySem.W.OpenLaw} {q : Program} {loose : List Str} {XP : (Str → Option Value) → Heap → Prop} {YP : World → Heap → Prop} {d : DefRec} {K : Params → PySem.W.Frag} (hn : l.most = some 63) (hdf : d.params.defaults = [])
    (hY : ∀ (w : World) (h : Heap), YP w h → (K w.params).In h)
    (F : ∀ (w : World) (mg : Str → Option Value) (fa : Addr) (h : Heap), (K w.params).In h → h.Ns mainGlobals mg → mg d.name = some (.ref fa) →
      ∃ fd : FuncData, (∀ (s : Shared) (u : Value), BindsTo s fd ⟨[u], []⟩ [("script", u)]) ∧ ∀ base : Heap, (K w.params).In base → base.Ns mainGlobals mg → FnOk l.prog w (K w.params) mg base CX0 7 fa fd ["script"] (spLaw (K w.params))) :
    PySem.W.WalkO q loose XP YP l.row.toRowW d [] (fun f vs => PySem.call f vs) :=
  L2.walk_of (n := 63) (k := 7) (x := "script") (CX := fun _ => CX0) (sp := fun w => spLaw (K w.params)) hn (by decide) hdf ⟨rfl, by decide, by decide, rfl⟩ hY F (fun _ _ a ns hl _ hS => ⟨a, ns, rfl, hS, hl, fun _ => rfl⟩) fun _ _ _ _ _ z => z
end Bk
theorem PySem.W.Fast.tw10923068546397996766 : True := trivial
theorem PySem.W.Fast.tw12084050703731535911 : True := trivial
theorem PySem.W.Fast.tw6812972472803340188 : True := trivial
theorem PySem.W.Fast.tw2924978368790548444 : True := trivial
theorem PySem.W.Fast.tw1259457970608810694 : True := trivial
theorem PySem.W.Fast.tw4348291652302498876 : True := trivial
theorem PySem.W.Fast.tw12382003619894123561 : True := trivial
theorem PySem.W.Fast.tw17382387813317352754 : True := trivial
theorem PySem.W.Fast.tw1145492739153567507 : True := trivial
theorem PySem.W.Fast.tw3512938787293964621 : True := trivial
theorem PySem.W.Fast.tw15644740130168332730 : True := trivial
theorem PySem.W.Fast.tw15453048947859558341 : True := trivial
theorem PySem.W.Fast.tw13150489963684346285 : True := trivial
theorem PySem.W.Fast.tw17066089680190882781 : True := trivial
theorem PySem.W.Fast.tw11722571550140861944 : True := trivial
open PySem PySem.W PyProof.Rows
set_option maxRecDepth 100000 in
set_option maxHeartbeats 0 in
theorem PySem.Challenge.cw_bracketrows_k02_what_is_right_holds : PySem.Challenge.rw_bracketrows_k02_what_is_right.Holds := by
  w_on; o_law; k_head; (case hw => w_witness2)
  k_fill
  refine Bk.walk (l := PySem.Challenge.rw_bracketrows_k02_what_is_right) rfl rfl (fun w h Y => PySem.W.kIn_of Y) ?F
  case F =>
    intro w mg fa h KX G hmg
    refine' Bk.all_mk KX G hmg ?a0 ?l0 ?c0 ?k0 ?a1 ?l1 ?c1 ?k1 ?a2 ?l2 ?c2 ?k2 ?a3 ?l3 ?c3 ?k3 ?a4 ?l4 ?c4 ?k4 ?a5 ?l5 ?c5 ?k5 ?a6 ?l6 ?c6 ?k6 ?a7 ?l7 ?c7 ?k7 ?a8 ?l8 ?c8 ?k8 ?a9 ?l9 ?c9 ?k9 ?a10 ?l10 ?c10 ?k10 ?a11 ?l11 ?c11 ?k11 ?a12 ?l12 ?c12 ?k12 ?a13 ?l13 ?c13 ?k13 ?a14 ?l14 ?c14 ?k14 ?z_all ?z_bool ?z_enumerate ?z_int ?z_isinstance ?z_len ?z_max ?z_min ?z_range ?z_str ?g_OPENING ?h_OPENING ?g_CLOSING ?h_CLOSING ?g_K ?l_K ?c_K ?s_K ?r_K ?g_UNKNOWN ?h_UNKNOWN ?g_MOST_SIGNS ?h_MOST_SIGNS
    (case a0 => k_is)
    (case l0 => k_is)
    (case c0 => k_is)
    (case k0 => k_is)
    (case a1 => k_is)
    (case l1 => k_is)
    (case c1 => k_is)
    (case k1 => k_is)
    (case a2 => k_is)
    (case l2 => k_is)
    (case c2 => k_is)
    (case k2 => k_is)
    (case a3 => k_is)
    (case l3 => k_is)
    (case c3 => k_is)
    (case k3 => k_is)
    (case a4 => k_is)
    (case l4 => k_is)
    (case c4 => k_is)
    (case k4 => k_is)
    (case a5 => k_is)
    (case l5 => k_is)
    (case c5 => k_is)
    (case k5 => k_is)
    (case a6 => k_is)
    (case l6 => k_is)
    (case c6 => k_is)
    (case k6 => k_is)
    (case a7 => k_is)
    (case l7 => k_is)
    (case c7 => k_is)
    (case k7 => k_is)
    (case a8 => k_is)
    (case l8 => k_is)
    (case c8 => k_is)
    (case k8 => k_is)
    (case a9 => k_is)
    (case l9 => k_is)
    (case c9 => k_is)
    (case k9 => k_is)
    (case a10 => k_is)
    (case l10 => k_is)
    (case c10 => k_is)
    (case k10 => k_is)
    (case a11 => k_is)
    (case l11 => k_is)
    (case c11 => k_is)
    (case k11 => k_is)
    (case a12 => k_is)
    (case l12 => k_is)
    (case c12 => k_is)
    (case k12 => k_is)
    (case a13 => k_is)
    (case l13 => k_is)
    (case c13 => k_is)
    (case k13 => k_is)
    (case a14 => k_is)
    (case l14 => k_is)
    (case c14 => k_is)
    (case k14 => k_is)
    (case z_all => k_is)
    (case z_bool => k_is)
    (case z_enumerate => k_is)
    (case z_int => k_is)
    (case z_isinstance => k_is)
    (case z_len => k_is)
    (case z_max => k_is)
    (case z_min => k_is)
    (case z_range => k_is)
    (case z_str => k_is)
    (case g_OPENING => k_is)
    (case h_OPENING => first | rfl | decide +kernel)
    (case g_CLOSING => k_is)
    (case h_CLOSING => first | rfl | decide +kernel)
    (case g_K => k_is)
    (case l_K => k_is)
    (case c_K => rfl)
    (case s_K => rfl)
    (case r_K => decide +kernel)
    (case g_UNKNOWN => k_is)
    (case h_UNKNOWN => first | rfl | decide +kernel)
    (case g_MOST_SIGNS => k_is)
    (case h_MOST_SIGNS => rfl)

import PyProof.Rows.All
import Wide.All
import OpenK.AllK
import Wide.FinOn
import Lean
import PyProof.EqAt
import PyProof.EqKinds
import PyProof.TupleCall
import PyProof.ExcStrCall
import PyProof.ExcStrAll.ValueError
import PyProof.TupleOfStr
import PyProof.DictIter
import PyProof.DictWalks
import PyProof.Rows.SetFrom
import PyProof.CollectWalk
import PyProof.Rows.SortShell
import PyProof.Rows.SortWalk
import PyProof.ListRange
import PyProof.ZipIter
import PyProof.Draws
import PyProof.EnumMake
import PyProof.Rows.StrFirst
import PyProof.NeData
import PyProof.P3In
import PySem.Challenge.RW_bracketrows_k09_trees_of_rows
set_option Elab.async false
set_option linter.all false
set_option maxRecDepth 100000

-- CHANGE: your row's module here, as the last of these rows

namespace L2
open PySem PySem.Spec PyProof.Rows


abbrev Key := Sum Int Str
def keyIs : Key → Value → Bool
  | .inl k, v => Value.isInt k v
  | .inr x, v => Value.isStrOf x v
def keyH (w : World) : Key → Int
  | .inl k => hashInt k
  | .inr x => hashStr w x
theorem keyIs_shape : ∀ {k : Key} {v : Value}, keyIs k v = true → (∃ i t, k = Sum.inl i ∧ v = Value.int i t) ∨ (∃ x t, k = Sum.inr x ∧ v = Value.str x t)
  | .inl i, v, h => by
    obtain ⟨t, e⟩ := Value.isInt_shape (k := i) (v := v) h
    exact .inl ⟨i, t, rfl, e⟩
  | .inr x, v, h => by
    obtain ⟨t, e⟩ := Value.isStrOf_shape (x := x) (v := v) h
    exact .inr ⟨x, t, rfl, e⟩
theorem key_ll (a b : Int) : decide ((Sum.inl a : Key) = Sum.inl b) = (a == b) := by
  by_cases e : a = b
  · subst e; simp
  · have h : ¬ (Sum.inl a : Key) = Sum.inl b := fun q => e (Sum.inl.inj q)
    rw [decide_eq_false h]
    exact (beq_eq_false_iff_ne.mpr e).symm
theorem key_rr (a b : Str) : decide ((Sum.inr a : Key) = Sum.inr b) = decide (a = b) := by
  by_cases e : a = b
  · subst e; simp
  · have h : ¬ (Sum.inr a : Key) = Sum.inr b := fun q => e (Sum.inr.inj q)
    rw [decide_eq_false h, decide_eq_false e]
theorem key_lr (a : Int) (b : Str) : decide ((Sum.inl a : Key) = Sum.inr b) = false := decide_eq_false (fun q => nomatch q)
theorem key_rl (a : Str) (b : Int) : decide ((Sum.inr a : Key) = Sum.inl b) = false := decide_eq_false (fun q => nomatch q)

def mixKind (prog : Program) (w : World) : PySem.KeyKind prog w Key where
  is := keyIs
  hash := keyH w
  inj := fun v a b ha hb => by
    rcases keyIs_shape ha with ⟨i, t, rfl, rfl⟩ | ⟨x, t, rfl, rfl⟩
    · rcases keyIs_shape hb with ⟨j, u, rfl, e⟩ | ⟨y, u, rfl, e⟩
      · injection e with e1 _; rw [e1]
      · exact nomatch e
    · rcases keyIs_shape hb with ⟨j, u, rfl, e⟩ | ⟨y, u, rfl, e⟩
      · exact nomatch e
      · injection e with e1 _; rw [e1]
  byValue := fun k v h => by
    rcases keyIs_shape h with ⟨i, t, rfl, rfl⟩ | ⟨x, t, rfl, rfl⟩ <;> rfl
  pyHash := fun hv h => by
    rcases keyIs_shape hv with ⟨i, t, rfl, rfl⟩ | ⟨x, t, rfl, rfl⟩
    · exact wpAny_pyHash_int h
    · exact wpAny_pyHash_str h
  eqBool := fun hu hv h => by
    rcases keyIs_shape hu with ⟨i, t, rfl, rfl⟩ | ⟨x, t, rfl, rfl⟩
    · rcases keyIs_shape hv with ⟨j, u, rfl, rfl⟩ | ⟨y, u, rfl, rfl⟩
      · rw [key_ll] at h; exact wpAny_eqBool_int h
      · rw [key_lr] at h; exact SeqAt.EqAt.int_str i t y u _ _ _ _ h
    · rcases keyIs_shape hv with ⟨j, u, rfl, rfl⟩ | ⟨y, u, rfl, rfl⟩
      · rw [key_rl] at h; exact SeqAt.EqAt.str_int x t j u _ _ _ _ h
      · rw [key_rr] at h; exact wpAny_eqBool_str h
  «strs» := fun k x t v h => by
    rcases keyIs_shape h with ⟨i, u, rfl, e⟩ | ⟨y, u, rfl, e⟩
    · exact nomatch e
    · injection e with e1 _
      subst e1
      cases v <;> rfl

end L2

namespace L2
open PySem PySem.Spec PyProof.Rows


inductive V where
  | non | bl (b : Bool) | int (i : Int) | str (x : Str) | byt (b : Array UInt8) | flt (b : UInt64) | ref (a : Addr) | ty (n : String)
  deriving DecidableEq

def RelV : V → Value → Prop
  | .non, u => u = Value.none
  | .bl b, u => u = Value.bool b
  | .int i, u => ∃ t, u = Value.int i t
  | .str x, u => ∃ t, u = Value.str x t
  | .byt b, u => ∃ t, u = Value.bytes b t
  | .flt b, u => ∃ t, u = Value.float b t
  | .ref a, u => u = Value.ref a
  | .ty n, u => u = Value.type n

abbrev Vals : List V → List Value → Prop := Paired RelV
theorem Vals.length {xs : List V} {us : List Value} (r : Vals xs us) : xs.length = us.length := Paired.length r
theorem Vals.get : ∀ {xs : List V} {us : List Value} {i : Nat} {x : V}, Vals xs us → xs[i]? = some x → ∃ u, us[i]? = some u ∧ RelV x u
  | _, _, _, _, .nil, e => by simp at e
  | _, _, 0, _, .cons r _, e => by simp at e; subst e; exact ⟨_, rfl, r⟩
  | _, _, i + 1, x, .cons _ t, e => by
    obtain ⟨u, h1, h2⟩ := Vals.get (i := i) (x := x) t (by simpa using e)
    exact ⟨u, by simpa using h1, h2⟩
theorem Vals.set {x : V} {u : Value} (r : RelV x u) : ∀ {xs : List V} {us : List Value} (i : Nat), Vals xs us → Vals (xs.set i x) (us.set i u)
  | _, _, _, .nil => .nil
  | _, _, 0, .cons _ t => .cons r t
  | _, _, i + 1, .cons q t => .cons q (Vals.set r i t)
theorem Vals.append : ∀ {xs ys : List V} {us ws : List Value}, Vals xs us → Vals ys ws → Vals (xs ++ ys) (us ++ ws)
  | _, _, _, _, .nil, s => s
  | _, _, _, _, .cons r t, s => .cons r (Vals.append t s)
theorem Vals.take : ∀ {xs : List V} {us : List Value} (n : Nat), Vals xs us → Vals (xs.take n) (us.take n)
  | _, _, 0, _ => .nil
  | _, _, _ + 1, .nil => .nil
  | _, _, n + 1, .cons r t => .cons r (Vals.take n t)
theorem Vals.drop : ∀ {xs : List V} {us : List Value} (n : Nat), Vals xs us → Vals (xs.drop n) (us.drop n)
  | _, _, 0, r => r
  | _, _, _ + 1, .nil => .nil
  | _, _, n + 1, .cons _ t => Vals.drop n t
def RelO : Option V → Option Value → Prop
  | some v, some u => RelV v u
  | none, none => True
  | _, _ => False
def KV {κ : Type} : List (κ × V) → List (κ × Value) → Prop := Paired fun (p : κ × V) (q : κ × Value) => p.1 = q.1 ∧ RelV p.2 q.2


def kV : Key → V
  | .inl i => .int i
  | .inr x => .str x


inductive HO where
  
  | lst (xs : List V)
  
  | tup (xs : List V)
  
  | dK (kvs : List (Key × V)) | dT (kvs : List (List Key × V))
  
  | set (S : Int → Bool) (n : Nat)
  
  | ins (C dx : Addr) (fs : List (Str × V))
  
  | own (x : Addr)
  
  | xd (fs : List (Str × V))
  
  | met (f x : Addr)
  
  | rng (lo hi : Int)
  
  | frz (o : Obj) (u : HO)
  
  | tbl (ps : Array Value)
  
  | ext (φ : Heap → Prop)

abbrev Hp := Addr → Option HO
def upd (H : Hp) (a : Addr) (o : HO) : Hp := fun b => if b = a then some o else H b
theorem upd_same {H : Hp} {a : Addr} {o : HO} : upd H a o a = some o := by unfold upd; rw [if_pos rfl]
theorem upd_ne {H : Hp} {a b : Addr} {o : HO} (h : b ≠ a) : upd H a o b = H b := by unfold upd; rw [if_neg h]
theorem ne_of {H : Hp} {a b : Addr} {o u : HO} (h : H a = some o) (h' : H b = some u) (d : o ≠ u) : a ≠ b := by
  intro e; subst e; rw [h] at h'; exact d (Option.some.inj h')
theorem ne_of_none {H : Hp} {a b : Addr} {o : HO} (h : H a = some o) (h' : H b = none) : a ≠ b := by
  intro e; subst e; rw [h] at h'; cases h'

section
variable (P : Program) (w : World)
def ObjOk (H : Hp) (h : Heap) (a : Addr) : HO → Prop
  | .lst xs => xs.length ≤ sizeLine ∧ ∃ (its : List Value) (n : Nat), Vals xs its ∧ h.get? a = some { cls := .type "list", data := .seq its.toArray n }
  | .tup xs => xs.length ≤ sizeLine ∧ ∃ its : List Value, Vals xs its ∧ IsTup h a its.toArray
  | .dK kvs => kvs.length ≤ sizeLine ∧ (a == sysModules) = false ∧ ∃ vs, KV kvs vs ∧ h.DictOf (mixKind P w) a vs
  | .dT kvs => kvs.length ≤ sizeLine ∧ (a == sysModules) = false ∧ ∃ xs : List (List Key × Addr × Value),
      Paired (fun (p : List Key × V) (q : List Key × Addr × Value) => p.1 = q.1 ∧ H q.2.1 = some (.tup (p.1.map kV)) ∧ RelV p.2 q.2.2) kvs xs ∧
      ∃ o es ep, h.get? a = some o ∧ o.ExactDict ∧ o.data = .dict es ep ∧ es.toList = xs.map (entryOfKey (tupleKind (mixKind P w))) ∧ (xs.map (·.1)).Nodup
  | .set S n => h.SetOf (intKind P w) a S n
  | .ins C dx fs => H dx = some (.own a) ∧ fs.length ≤ 1000 ∧ dx ≠ a ∧ h.get? a = some (PySem.W.instObj C dx) ∧
      ∃ mA, h.Ns1 dx mA ∧ (∀ f, RelO (fs.lookup f) (mA f)) ∧ PySem.Within mA (fs.map (·.1))
  | .own _ => ∃ o, h.get? a = some o
  | .xd fs => ∃ mA, h.Ns1 a mA ∧ ∀ f, RelO (fs.lookup f) (mA f)
  | .rng lo hi => ∃ t u v, h.get? a = some { cls := .type "range", data := .fields #[.int lo t, .int hi u, .int 1 v] }
  | .frz o u => h.get? a = some o ∧ ObjOk H h a u
  | .tbl ps => h.get? a = some { cls := .none, data := .fields ps }
  | .met f x => h.get? a = some (PySem.W.methodObj (.ref f) (.ref x))
  | .ext φ => φ h ∧ (∃ o, h.get? a = some o) ∧ ∀ h1 h2 : Heap, φ h1 → (∀ o, h1.get? a = some o → h2.get? a = some o) → φ h2

structure HOk (H : Hp) (h : Heap) : Prop where
  all : ∀ a o, H a = some o → ObjOk P w H h a o
  sm : ∀ o, H sysModules = some o → ∃ ob u, o = .frz ob u
  bg : ∃ b o, 1 < b ∧ h.get? b = some o
instance (H : Hp) (h : Heap) : CoeFun (HOk P w H h) fun _ => ∀ a o, H a = some o → ObjOk P w H h a o := ⟨HOk.all⟩
end

section
variable {P : Program} {w : World} {H H' : Hp} {h h' : Heap} {a : Addr} {o : HO}
theorem ObjOk.lt (x : ObjOk P w H h a o) : a < h.objs.size := by
  cases o with
  | lst xs => obtain ⟨_, _, _, _, e⟩ := x; exact Heap.lt_size e
  | tup xs => obtain ⟨_, _, _, p⟩ := x; exact p.lt
  | dK kvs => obtain ⟨_, _, _, _, o, _, _, e, _⟩ := x; exact Heap.lt_size e
  | dT kvs => obtain ⟨_, _, _, _, o, _, _, e, _⟩ := x; exact Heap.lt_size e
  | set S n => obtain ⟨o, _, _, _, e, _⟩ := x; exact Heap.lt_size e
  | ins C dx fs => obtain ⟨_, _, _, e, _⟩ := x; exact Heap.lt_size e
  | own y => obtain ⟨_, e⟩ := x; exact Heap.lt_size e
  | xd fs => obtain ⟨_, ⟨_, _, _, e, _⟩, _⟩ := x; exact Heap.lt_size e
  | rng lo hi => obtain ⟨_, _, _, e⟩ := x; exact Heap.lt_size e
  | frz ob u => obtain ⟨e, _⟩ := x; exact Heap.lt_size e
  | tbl ps => exact Heap.lt_size (show h.get? a = some _ from x)
  | met f y => exact Heap.lt_size (show h.get? a = some _ from x)
  | ext φ => obtain ⟨_, ⟨_, e⟩, _⟩ := x; exact Heap.lt_size e
theorem Paired.mapP {α β : Type} {F G : α → β → Prop} : ∀ {l₁ : List α} {l₂ : List β}, Paired F l₁ l₂ → (∀ a b, F a b → G a b) → Paired G l₁ l₂
  | _, _, .nil, _ => .nil
  | _, _, .cons r t, f => .cons (f _ _ r) (Paired.mapP t f)
theorem ObjOk.stay (x : ObjOk P w H h a o) (k : ∀ b u, (b = a ∨ H b = some (.own a)) → h.get? b = some u → h'.get? b = some u)
    (ho : ∀ b, H b = some (.own a) → H' b = some (.own a)) (ht : ∀ b xs, H b = some (.tup xs) → H' b = some (.tup xs)) : ObjOk P w H' h' a o := by
  induction o with
  | lst xs => obtain ⟨z, its, n, r, e⟩ := x; exact ⟨z, its, n, r, k _ _ (.inl rfl) e⟩
  | tup xs => obtain ⟨z, its, r, ob, e, c⟩ := x; exact ⟨z, its, r, ob, k _ _ (.inl rfl) e, c⟩
  | dK kvs => obtain ⟨z, y, vs, r, ob, es, ep, e, c⟩ := x; exact ⟨z, y, vs, r, ob, es, ep, k _ _ (.inl rfl) e, c⟩
  | dT kvs =>
    obtain ⟨z, y, xs, r, ob, es, ep, e, c⟩ := x
    exact ⟨z, y, xs, Paired.mapP r fun p q z => ⟨z.1, ht _ _ z.2.1, z.2.2⟩, ob, es, ep, k _ _ (.inl rfl) e, c⟩
  | set S n => obtain ⟨ob, es, ep, t, e, c⟩ := x; exact ⟨ob, es, ep, t, k _ _ (.inl rfl) e, c⟩
  | ins C dx fs =>
    obtain ⟨d, z, ne, e, mA, ⟨od, es, ep, e2, c⟩, r⟩ := x
    exact ⟨ho _ d, z, ne, k _ _ (.inl rfl) e, mA, ⟨od, es, ep, k _ _ (.inr d) e2, c⟩, r⟩
  | own y => obtain ⟨ob, e⟩ := x; exact ⟨ob, k _ _ (.inl rfl) e⟩
  | xd fs => obtain ⟨mA, ⟨od, es, ep, e, c⟩, r⟩ := x; exact ⟨mA, ⟨od, es, ep, k _ _ (.inl rfl) e, c⟩, r⟩
  | rng lo hi => obtain ⟨t, u, v, e⟩ := x; exact ⟨t, u, v, k _ _ (.inl rfl) e⟩
  | frz ob u ih => obtain ⟨e, q⟩ := x; exact ⟨k _ _ (.inl rfl) e, ih q⟩
  | tbl ps =>
    have e : h.get? a = some { cls := .none, data := .fields ps } := x
    show h'.get? a = some { cls := .none, data := .fields ps }
    exact k a _ (.inl rfl) e
  | met f y =>
    have e : h.get? a = some (PySem.W.methodObj (.ref f) (.ref y)) := x
    show h'.get? a = some (PySem.W.methodObj (.ref f) (.ref y))
    exact k a _ (.inl rfl) e
  | ext φ => obtain ⟨p, ⟨o, e⟩, st⟩ := x; exact ⟨st _ _ p fun o q => k _ _ (.inl rfl) q, ⟨o, k _ _ (.inl rfl) e⟩, st⟩
theorem HOk.lt (x : HOk P w H h) (e : H a = some o) : a < h.objs.size := (x a o e).lt
theorem HOk.fresh (x : HOk P w H h) (e : h.objs.size ≤ a) : H a = none := by
  cases q : H a with
  | none => rfl
  | some u => exact absurd (Nat.lt_of_lt_of_le (x.lt q) e) (Nat.lt_irrefl _)

theorem HOk.kept (x : HOk P w H h) (k : ∀ b u, h.get? b = some u → h'.get? b = some u) : HOk P w H h' := ⟨fun a o e =>
  (x a o e).stay (fun b u _ q => k b u q) (fun _ q => q) fun _ _ q => q, x.sm, let ⟨b, o, l, e⟩ := x.bg; ⟨b, o, l, k _ _ e⟩⟩

theorem HOk.laid (x : HOk P w H h) (k : ∀ b u, h.get? b = some u → h'.get? b = some u) (hp : h.objs.size ≤ a) (new : ObjOk P w (upd H a o) h' a o) : HOk P w (upd H a o) h' := by
  refine ⟨fun b u e => ?_, fun u e => ?_, let ⟨b, o, l, e⟩ := x.bg; ⟨b, o, l, k _ _ e⟩⟩
  rotate_left
  · by_cases hb : sysModules = a
    · obtain ⟨b, o, l, q⟩ := x.bg
      exact absurd (Nat.lt_trans l (show b < sysModules from by rw [hb]; exact Nat.lt_of_lt_of_le (Heap.lt_size q) hp)) (Nat.lt_irrefl 1)
    · rw [upd_ne hb] at e; exact x.sm u e
  have hn := x.fresh hp
  by_cases hb : b = a
  · subst hb; rw [upd_same] at e; cases e; exact new
  · rw [upd_ne hb] at e
    exact (x b u e).stay (fun c v _ q => k c v q) (fun c q => by rw [upd_ne (ne_of_none q hn)]; exact q) fun c xs q => by rw [upd_ne (ne_of_none q hn)]; exact q
end


def Rd (H : Hp) (a : Addr) (u : HO) : Prop := H a = some u ∨ ∃ o, H a = some (.frz o u)
theorem Rd.ok {P : Program} {w : World} {H : Hp} {h : Heap} {a : Addr} {u : HO} (r : Rd H a u) (x : HOk P w H h) : ObjOk P w H h a u := by
  rcases r with r | ⟨o, r⟩
  · exact x a u r
  · obtain ⟨_, q⟩ := x a _ r
    exact q

def Mut : Option HO → Prop
  | some (.lst _) => True
  | some (.dK _) => True
  | some (.dT _) => True
  | some (.set _ _) => True
  | some (.ins _ _ _) => True
  | some (.ext _) => True
  | _ => False
section
variable {P : Program} {w : World} {H : Hp} {h h' : Heap} {x e : Addr} {o' : HO}

theorem HOk.write (ok : HOk P w H h) (mu : Mut (H x)) (he : e = x ∨ H e = some (.own x)) (k : ∀ b u, b ≠ e → h.get? b = some u → h'.get? b = some u) (heo : ∃ u, h'.get? e = some u)
    (new : ObjOk P w (upd H x o') h' x o') : HOk P w (upd H x o') h' := by
  refine ⟨fun b u q => ?_, fun u q => ?_, ?_⟩
  rotate_left
  · by_cases hb : sysModules = x
    · exfalso
      subst hb
      cases z : H sysModules with
      | none => rw [z] at mu; exact mu
      | some o =>
        obtain ⟨ob, v, rfl⟩ := ok.sm o z
        rw [z] at mu; exact mu
    · rw [upd_ne hb] at q; exact ok.sm u q
  · obtain ⟨b, o, l, z⟩ := ok.bg
    by_cases hb : b = e
    · obtain ⟨v, hv⟩ := heo
      exact ⟨e, v, hb ▸ l, hv⟩
    · exact ⟨b, o, l, k b o hb z⟩
  have nown : ∀ c y, H c = some (.own y) → c ≠ x := fun c y r z => by subst z; rw [r] at mu; exact mu
  have ntup : ∀ c xs, H c = some (.tup xs) → c ≠ x := fun c xs r z => by subst z; rw [r] at mu; exact mu
  by_cases hb : b = x
  · subst hb; rw [upd_same] at q; cases q; exact new
  · rw [upd_ne hb] at q
    by_cases hbe : b = e
    · have q' : H b = some (.own x) := by
        rcases he with z | z
        · exact absurd (hbe.trans z) hb
        · rw [hbe]; exact z
      rw [q] at q'; cases q'
      obtain ⟨v, hv⟩ := heo
      exact ⟨v, by rw [hbe]; exact hv⟩
    · refine (ok b u q).stay (fun c v hc r => k c v ?_ r) (fun c r => by rw [upd_ne (nown c b r)]; exact r) fun c xs r => by rw [upd_ne (ntup c xs r)]; exact r
      rcases hc with rfl | hc
      · exact hbe
      · rintro rfl
        rcases he with z | z
        · exact nown c b hc z
        · rw [hc] at z; cases z; exact hb rfl
end


structure Un (fs ex : List Addr) (H H' : Hp) (h h' : Heap) : Prop where
  keep : ∀ b o, h.get? b = some o → H b = none → b ∉ fs → b ∉ ex → h'.get? b = some o
  slot : ∀ b o, h.get? b = some o → H b = none → b ∈ fs → b ∉ ex → ∃ sl, h'.get? b = some { o with slots := sl }
  free : ∀ b o, h.get? b = some o → H b = none → b ∉ ex → H' b = none
  there : ∀ b o, h.get? b = some o → b ∉ ex → ∃ o', h'.get? b = some o'
  tups : ∀ b xs, H b = some (.tup xs) → H' b = some (.tup xs)
  frzs : ∀ b o u, H b = some (.frz o u) → H' b = some (.frz o u)
  tbls : ∀ b ps, H b = some (.tbl ps) → ∃ more, H' b = some (.tbl (ps ++ more))
section
variable {fs fs' ex ex' : List Addr} {H H1 H2 : Hp} {h h1 h2 h' : Heap} {a x e : Addr} {o : HO}
theorem Un.any (u : Un fs ex H H1 h h1) {b : Addr} {ob : Obj} (q : h.get? b = some ob) (n : H b = none) (hx : b ∉ ex) : ∃ sl, h1.get? b = some { ob with slots := sl } := by
  by_cases hb : b ∈ fs
  · exact u.slot b ob q n hb hx
  · exact ⟨ob.slots, u.keep b ob q n hb hx⟩
theorem Un.trans (a : Un fs ex H H1 h h1) (b : Un fs ex H1 H2 h1 h2) : Un fs ex H H2 h h2 where
  keep := fun c ob q n hc hx => b.keep c ob (a.keep c ob q n hc hx) (a.free c ob q n hx) hc hx
  slot := fun c ob q n hc hx => by
    obtain ⟨sl, e1⟩ := a.slot c ob q n hc hx
    obtain ⟨sl', e2⟩ := b.slot c _ e1 (a.free c ob q n hx) hc hx
    exact ⟨sl', e2⟩
  free := fun c ob q n hx => by
    obtain ⟨o', e1⟩ := a.there c ob q hx
    exact b.free c o' e1 (a.free c ob q n hx) hx
  there := fun c ob q hx => by
    obtain ⟨o', e1⟩ := a.there c ob q hx
    exact b.there c o' e1 hx
  tups := fun c xs q => b.tups c xs (a.tups c xs q)
  frzs := fun c ob xs q => b.frzs c ob xs (a.frzs c ob xs q)
  tbls := fun c ps q => by
    obtain ⟨m1, e1⟩ := a.tbls c ps q
    obtain ⟨m2, e2⟩ := b.tbls c _ e1
    exact ⟨m1 ++ m2, by rw [e2, Array.append_assoc]⟩
theorem Un.kept (k : ∀ b u, h.get? b = some u → h'.get? b = some u) : Un fs ex H H h h' :=
  ⟨fun b ob q _ _ _ => k b ob q, fun b ob q _ _ _ => ⟨ob.slots, k b ob q⟩, fun _ _ _ n _ => n, fun b ob q _ => ⟨ob, k b ob q⟩, fun _ _ q => q, fun _ _ _ q => q, fun _ ps q => ⟨#[], by rw [q]; simp⟩⟩
theorem Un.refl : Un fs ex H H h h := Un.kept fun _ _ q => q
theorem Un.laid (k : ∀ b u, h.get? b = some u → h'.get? b = some u) (hp : h.objs.size ≤ a) (hn : H a = none) : Un fs ex H (upd H a o) h h' where
  keep := fun b u q _ _ _ => k b u q
  slot := fun b u q _ _ _ => ⟨u.slots, k b u q⟩
  free := fun b u q n _ => by rw [upd_ne (Nat.ne_of_lt (Nat.lt_of_lt_of_le (Heap.lt_size q) hp))]; exact n
  there := fun b u q _ => ⟨u, k b u q⟩
  tups := fun b xs q => by rw [upd_ne (ne_of_none q hn)]; exact q
  frzs := fun b u xs q => by rw [upd_ne (ne_of_none q hn)]; exact q
  tbls := fun b ps q => ⟨#[], by rw [upd_ne (ne_of_none q hn), q]; simp⟩
theorem Un.write (mu : Mut (H x)) (he : e = x ∨ H e = some (.own x)) (k : ∀ b u, b ≠ e → h.get? b = some u → h'.get? b = some u) (heo : ∃ u, h'.get? e = some u) : Un fs ex H (upd H x o) h h' := by
  have hx : ∀ b, H b = none → b ≠ x := fun b n z => by subst z; rw [n] at mu; exact mu
  have hb : ∀ b, H b = none → b ≠ e := fun b n z => by
    subst z
    rcases he with r | r
    · exact hx b n r
    · rw [n] at r; cases r
  have hm : ∀ b u, H b = some u → ¬ Mut (some u) → b ≠ x := fun b u q nm z => by subst z; rw [q] at mu; exact nm mu
  refine ⟨fun b u q n _ _ => k b u (hb b n) q, fun b u q n _ _ => ⟨u.slots, k b u (hb b n) q⟩, fun b u q n _ => by rw [upd_ne (hx b n)]; exact n, fun b u q _ => ?_,
    fun b xs q => by rw [upd_ne (hm b _ q fun z => z)]; exact q, fun b u xs q => by rw [upd_ne (hm b _ q fun z => z)]; exact q, fun b ps q => ⟨#[], by rw [upd_ne (hm b _ q fun z => z), q]; simp⟩⟩
  by_cases hbe : b = e
  · subst hbe; exact heo
  · exact ⟨u, k b u hbe q⟩
end


def trk (h : Heap) (H : Hp) : List Addr := (List.range h.objs.size).filter fun a => (H a).isSome
def hidT (h : Heap) (H : Hp) : Heap := PySem.W.hideAll h (trk h H)
theorem hidT_size (h : Heap) (H : Hp) : (hidT h H).objs.size = h.objs.size := PySem.W.hideAll_size _ _
theorem hidT_get {h : Heap} {H : Hp} {b : Addr} {o : Obj} (e : h.get? b = some o) (n : H b = none) : (hidT h H).get? b = some o :=
  PySem.W.hideAll_get _ e fun hm => by
    have q : (H b).isSome = true := (List.mem_filter.mp hm).2
    rw [n] at q; simp at q
theorem of_hidT {h : Heap} {H : Hp} {b : Addr} {o : Obj} (e : (hidT h H).get? b = some o) : h.get? b = some o ∧ H b = none := by
  have e' : h.get? b = some o := PySem.W.of_hideAll (trk h H) e
  refine ⟨e', ?_⟩
  cases q : H b with
  | none => rfl
  | some x =>
    have hm : b ∈ trk h H := List.mem_filter.mpr ⟨List.mem_range.mpr (Heap.lt_size e'), by simp [q]⟩
    have z : (hidT h H).get? b = none := PySem.W.hideAll_none (trk h H) hm
    rw [z] at e; cases e


end L2

namespace L2
open PySem PySem.Spec PyProof.Rows


structure Mod (K : PySem.W.Frag) (mg : Str → Option Value) (base : Heap) : Prop where
  kin : K.In base
  glob : base.Ns mainGlobals mg
  blt : ∃ mb, base.Ns builtinsNs mb ∧ ∀ x : Str, x ≠ "__name__" → mb x = bootBuiltins x
  nolimit : base.NoLimit


structure Cx where
  prog : Program
  w : World
  K : PySem.W.Frag
  mg : Str → Option Value
  base : Heap
  A : Around
  N : List Str
  s₀ : Shared
  H₀ : Hp
  env : Env
  outer : List Env
  stack : List Env
  ex : List Addr
  fn : Str → Bool
  calm : Bool
  pn : List (Addr × Obj)
  xe : Value → Shared → Prop

def frs (l : List Env) : List Addr := l.filterMap (·.frame)
abbrev Cx.fs (X : Cx) : List Addr := frs X.outer

def Vis (sc : Scope) (x : Str) : Prop := sc.names.lookup x = some .local ∨ sc.names.lookup x = some .cell ∨ sc.names.lookup x = some .free
def Loc (sc : Scope) (x : Str) : Prop := sc.names.lookup x = some .local ∨ sc.names.lookup x = some .cell
def Look (env : Env) (h : Heap) (m : Str → Option Value) (x : Str) (u : Value) : Prop :=
  (env.kindOf x = some .local ∧ m x = some u) ∨ ((env.kindOf x = some .cell ∨ env.kindOf x = some .free) ∧ ∃ c, env.cells.lookup x = some c ∧ h.IsCell c (some u))

structure Cx.Ok (X : Cx) : Prop where
  mod : Mod X.K X.mg X.base
  kind : X.env.scope.kind = .function
  glob : X.env.globals = mainGlobals
  blt : X.env.builtins = builtinsNs
  above : X.s₀.heap.objs.size ≤ X.env.locals
  inj : ∀ x y c, X.env.cells.lookup x = some c → X.env.cells.lookup y = some c → x = y
  has : ∀ x, (X.env.kindOf x = some .cell ∨ X.env.kindOf x = some .free) → ∃ c, X.env.cells.lookup x = some c
  cab : ∀ x c, X.fn x = true → X.env.cells.lookup x = some c → X.s₀.heap.objs.size ≤ c
  hd : X.calm = true → X.A.handled = none
  frames : X.A.frames = some X.stack
  stk : X.stack = X.outer ∨ (X.stack = X.env :: X.outer ∧ X.env.frame = some X.env.locals)
  exf : ∀ b ∈ X.ex, b ≠ X.env.locals ∧ ∀ x c, X.env.cells.lookup x = some c → c ≠ b
  bs : ∀ b o, X.base.get? b = some o → X.s₀.heap.get? b = some o ∧ X.H₀ b = none
  bsz : X.base.objs.size ≤ X.s₀.heap.objs.size
  noex : ∀ b o, X.base.get? b = some o → b ∉ X.ex
  exfs : ∀ b ∈ X.ex, b ∉ X.fs
  funs : X.s₀.heap.FunFrames X.base X.outer
  frf : ∀ b ∈ X.fs, X.H₀ b = none

structure Inv (X : Cx) (pins : List (Addr × Obj)) (σ : List (Option V)) (H : Hp) (s : Shared) : Prop where
  ok : X.Ok
  os : s.os = X.s₀.os
  bare : AllBare s.gens
  base : Un X.fs X.ex X.H₀ H X.s₀.heap s.heap
  loc : ∃ m, s.heap.Ns X.env.locals m ∧ ∀ (i : Nat) (x : Str) (v : V), X.N[i]? = some x → σ[i]? = some (some v) → Vis X.env.scope x → ∃ u, RelV v u ∧ Look X.env s.heap m x u
  cell : ∀ x c, X.env.cells.lookup x = some c → ∃ v, s.heap.IsCell c v
  free : H X.env.locals = none
  freeC : ∀ x c, X.env.cells.lookup x = some c → H c = none
  pin : ∀ p ∈ X.pn ++ pins, s.heap.get? p.1 = some p.2 ∧ H p.1 = none ∧ p.1 ≠ X.env.locals ∧ p.1 ∉ X.fs ∧ ∀ v, p.2.data ≠ .cell v
  hok : HOk X.prog X.w H s.heap
  len : σ.length = X.N.length

section
variable {X : Cx} {pins : List (Addr × Obj)} {σ : List (Option V)} {H H' : Hp} {s : Shared} {h' : Heap}

theorem Cx.Ok.nofr (ok : X.Ok) {b : Addr} {o : Obj} (e : X.base.get? b = some o) : b ∉ X.fs := fun hb => by
  have := (ok.funs.mem hb).1
  rw [e] at this; cases this
theorem Inv.bs (I : Inv X pins σ H s) : ∀ b o, X.base.get? b = some o → s.heap.get? b = some o ∧ H b = none := fun b o e =>
  ⟨I.base.keep b o (I.ok.bs b o e).1 (I.ok.bs b o e).2 (I.ok.nofr e) (I.ok.noex b o e), I.base.free b o (I.ok.bs b o e).1 (I.ok.bs b o e).2 (I.ok.noex b o e)⟩
theorem Inv.bk (I : Inv X pins σ H s) : ∀ b o, X.base.get? b = some o → s.heap.get? b = some o := fun b o e => (I.bs b o e).1
theorem Inv.mod (I : Inv X pins σ H s) : Mod X.K X.mg X.base := I.ok.mod
theorem Inv.kIn (I : Inv X pins σ H s) : X.K.In s.heap := I.ok.mod.kin.keeps I.bk
theorem Inv.lt (I : Inv X pins σ H s) : X.env.locals < s.heap.objs.size := let ⟨_, hn, _⟩ := I.loc; hn.lt
theorem Inv.sz (I : Inv X pins σ H s) : X.s₀.heap.objs.size ≤ s.heap.objs.size := Nat.le_trans I.ok.above (Nat.le_of_lt I.lt)
theorem Inv.nofs (I : Inv X pins σ H s) {a : Addr} (h : s.heap.objs.size ≤ a) : a ∉ X.fs := fun hb => by
  obtain ⟨_, o, ho, _⟩ := I.ok.funs.mem hb
  exact absurd (Nat.lt_of_lt_of_le (Heap.lt_size ho) (Nat.le_trans I.sz h)) (Nat.lt_irrefl _)
theorem Inv.cne (I : Inv X pins σ H s) : ∀ x c, X.env.cells.lookup x = some c → c ≠ X.env.locals := fun x c e z => by
  obtain ⟨v, o, ho, hd⟩ := I.cell x c e
  obtain ⟨m, ⟨o', es, ep, ho', hd', _⟩, _⟩ := I.loc
  rw [z, ho'] at ho; cases ho; rw [hd'] at hd; cases hd
theorem Inv.funs (I : Inv X pins σ H s) : s.heap.FunFrames X.base X.outer := by
  have all : ∀ (l : List Env), (∀ b ∈ frs l, b ∈ X.fs) → X.s₀.heap.FunFrames X.base l → s.heap.FunFrames X.base l := by
    intro l
    induction l with
    | nil => intro _ _; trivial
    | cons env r ih =>
      intro hs hl
      obtain ⟨hk, ⟨L, o, hf, hn, ho, hd⟩, hr⟩ := hl
      have hL : L ∈ X.fs := hs L (by unfold frs; rw [List.filterMap_cons, hf]; exact List.mem_cons_self)
      obtain ⟨sl, e⟩ := I.base.slot L o ho (I.ok.frf L hL) hL fun z => I.ok.exfs L z hL
      exact ⟨hk, ⟨L, _, hf, hn, e, hd⟩, ih (fun b hb => hs b (by unfold frs; rw [List.filterMap_cons, hf]; exact List.mem_cons_of_mem _ hb)) hr⟩
  exact all X.outer (fun _ hb => hb) I.ok.funs


theorem Inv.stack (I : Inv X pins σ H s) : s.heap.FunFrames X.base X.stack := by
  rcases I.ok.stk with e | ⟨e, hf⟩
  · rw [e]; exact I.funs
  · rw [e]
    obtain ⟨m, hn, _⟩ := I.loc
    refine .cons (by rw [I.ok.kind]; decide) hf hn ?_ I.funs
    exact Heap.get?_none_of_le (Nat.le_trans I.ok.bsz I.ok.above)
theorem Inv.stkSub (I : Inv X pins σ H s) : ∀ b ∈ frs X.stack, b ∈ X.env.locals :: X.fs := fun b hb => by
  rcases I.ok.stk with e | ⟨e, hf⟩
  · rw [e] at hb; exact List.mem_cons_of_mem _ hb
  · rw [e] at hb
    unfold frs at hb
    rw [List.filterMap_cons, hf] at hb
    exact hb
theorem Inv.stkFree (I : Inv X pins σ H s) : ∀ b ∈ frs X.stack, H b = none := fun b hb => by
  rcases List.mem_cons.mp (I.stkSub b hb) with e | hb
  · rw [e]; exact I.free
  · obtain ⟨_, o, ho, _⟩ := I.ok.funs.mem hb
    exact I.base.free b o ho (I.ok.frf b hb) fun z => I.ok.exfs b z hb


theorem Inv.step {g' : Array GenState} {t' : Nat} {d' : Drawn} {ch : List Addr} (I : Inv X pins σ H s)
    (hch : ∀ b ∈ ch, (b ∈ X.ex ∨ X.s₀.heap.objs.size ≤ b) ∧ b ≠ X.env.locals ∧ (∀ x c, X.env.cells.lookup x = some c → c ≠ b) ∧ ∀ p ∈ X.pn ++ pins, p.1 ≠ b)
    (keep : ∀ b o, b ≠ X.env.locals → b ∉ X.fs → b ∉ ch → s.heap.get? b = some o → H b = none → h'.get? b = some o)
    (slot : ∀ b o, b ≠ X.env.locals → b ∈ X.fs → b ∉ ch → s.heap.get? b = some o → H b = none → ∃ sl, h'.get? b = some { o with slots := sl }) (free : ∀ b o, b ∉ ch → s.heap.get? b = some o → H b = none → H' b = none)
    (there : ∀ b o, b ∉ ch → s.heap.get? b = some o → ∃ o', h'.get? b = some o')
    (tups : ∀ b xs, H b = some (.tup xs) → H' b = some (.tup xs)) (frzs : ∀ b o u, H b = some (.frz o u) → H' b = some (.frz o u)) (tbls : ∀ b ps, H b = some (.tbl ps) → ∃ more, H' b = some (.tbl (ps ++ more)))
    (ns : ∀ m, s.heap.Ns X.env.locals m → h'.Ns X.env.locals m) (hok : HOk X.prog X.w H' h') (hg : AllBare g') :
    Inv X pins σ H' { s with heap := h', gens := g', drawn := d', toks := t' } := by
  have neL : ∀ b o, X.s₀.heap.get? b = some o → b ≠ X.env.locals := fun b o e => Nat.ne_of_lt (Nat.lt_of_lt_of_le (Heap.lt_size e) I.ok.above)
  have neC : ∀ b o, X.s₀.heap.get? b = some o → b ∉ X.ex → b ∉ ch := fun b o e hx hb => by
    rcases (hch b hb).1 with z | z
    · exact hx z
    · exact absurd (Nat.lt_of_lt_of_le (Heap.lt_size e) z) (Nat.lt_irrefl _)
  have cellK : ∀ x c, X.env.cells.lookup x = some c → ∀ v, s.heap.IsCell c v → h'.IsCell c v := fun x c e v ⟨o, ho, hd⟩ => by
    have nch : c ∉ ch := fun z => (hch c z).2.2.1 x c e rfl
    by_cases hc : c ∈ X.fs
    · obtain ⟨sl, q⟩ := slot c o (I.cne x c e) hc nch ho (I.freeC x c e)
      exact ⟨_, q, hd⟩
    · exact ⟨o, keep c o (I.cne x c e) hc nch ho (I.freeC x c e), hd⟩
  refine ⟨I.ok, I.os, hg, ⟨fun b o e n hb hx => ?_, fun b o e n hb hx => ?_, fun b o e n hx => ?_, fun b o e hx => ?_, fun b xs e => tups b xs (I.base.tups b xs e), fun b o xs e => frzs b o xs (I.base.frzs b o xs e), fun b ps e => ?_⟩, ?_, fun x c e => ?_, ?_, fun x c e => ?_, fun p hp => ?_, hok, I.len⟩
  · exact keep b o (neL b o e) hb (neC b o e hx) (I.base.keep b o e n hb hx) (I.base.free b o e n hx)
  · obtain ⟨sl, e1⟩ := I.base.slot b o e n hb hx
    obtain ⟨sl', e2⟩ := slot b _ (neL b o e) hb (neC b o e hx) e1 (I.base.free b o e n hx)
    exact ⟨sl', e2⟩
  · obtain ⟨o', e1⟩ := I.base.there b o e hx
    exact free b o' (neC b o e hx) e1 (I.base.free b o e n hx)
  · obtain ⟨o', e1⟩ := I.base.there b o e hx
    exact there b o' (neC b o e hx) e1
  · obtain ⟨m1, e1⟩ := I.base.tbls b ps e
    obtain ⟨m2, e2⟩ := tbls b _ e1
    exact ⟨m1 ++ m2, by rw [e2, Array.append_assoc]⟩
  · obtain ⟨m, hn, hl⟩ := I.loc
    refine ⟨m, ns m hn, fun i x v e1 e2 e3 => ?_⟩
    obtain ⟨u, r, l⟩ := hl i x v e1 e2 e3
    refine ⟨u, r, ?_⟩
    rcases l with l | ⟨k, c, e, z⟩
    · exact .inl l
    · exact .inr ⟨k, c, e, cellK x c e _ z⟩
  · obtain ⟨v, z⟩ := I.cell x c e
    exact ⟨v, cellK x c e v z⟩
  · obtain ⟨m, ⟨o, _, _, ho, _⟩, _⟩ := I.loc
    exact free _ o (fun z => (hch _ z).2.1 rfl) ho I.free
  · obtain ⟨v, o, ho, hd⟩ := I.cell x c e
    exact free c o (fun z => (hch c z).2.2.1 x c e rfl) ho (I.freeC x c e)
  · obtain ⟨e, n, ne, nf, d⟩ := I.pin p hp
    have nch : p.1 ∉ ch := fun z => (hch p.1 z).2.2.2 p hp rfl
    exact ⟨keep p.1 p.2 ne nf nch e n, free p.1 p.2 nch e n, ne, nf, d⟩

theorem Inv.un {t' : Nat} (I : Inv X pins σ H s) (u : Un X.fs [] H H' s.heap h') (hok : HOk X.prog X.w H' h') : Inv X pins σ H' { s with heap := h', toks := t' } := by
  obtain ⟨m, ⟨o, es, ep, ho, r⟩, _⟩ := id I.loc
  obtain ⟨sl, hL⟩ := u.any ho I.free (by simp)
  exact I.step (g' := s.gens) (d' := s.drawn) (ch := []) (fun _ z => nomatch z) (fun b o _ hb _ e n => u.keep b o e n hb (by simp)) (fun b o _ hb _ e n => u.slot b o e n hb (by simp)) (fun b o _ e n => u.free b o e n (by simp)) (fun b o _ e => u.there b o e (by simp)) u.tups u.frzs u.tbls (fun m' hm => by
    obtain ⟨o', es', ep', ho', r'⟩ := hm
    rw [ho] at ho'; cases ho'
    exact ⟨_, es', ep', hL, r'⟩) hok I.bare

theorem Inv.call {g' : Array GenState} {t' : Nat} {d' : Drawn} {ch : List Addr} (I : Inv X pins σ H s) (u : Un (frs X.stack) ch H H' s.heap h') (hok : HOk X.prog X.w H' h') (hg : AllBare g')
    (hch : ∀ b ∈ ch, (b ∈ X.ex ∨ X.s₀.heap.objs.size ≤ b) ∧ b ≠ X.env.locals ∧ (∀ x c, X.env.cells.lookup x = some c → c ≠ b) ∧ ∀ p ∈ X.pn ++ pins, p.1 ≠ b) :
    Inv X pins σ H' { s with heap := h', gens := g', drawn := d', toks := t' } := by
  obtain ⟨m, ⟨o, es, ep, ho, r⟩, _⟩ := id I.loc
  obtain ⟨sl, hL⟩ := u.any ho I.free fun z => (hch _ z).2.1 rfl
  exact I.step (ch := ch) hch (fun b o hL hb hc e n => u.keep b o e n (fun z => (List.mem_cons.mp (I.stkSub b z)).elim hL hb) hc) (fun b o _ _ hc e n => u.any e n hc) (fun b o hc e n => u.free b o e n hc) (fun b o hc e => u.there b o e hc) u.tups u.frzs u.tbls (fun m' hm => by
    obtain ⟨o', es', ep', ho', r'⟩ := hm
    rw [ho] at ho'; cases ho'
    exact ⟨_, es', ep', hL, r'⟩) hok hg

theorem Inv.turned {t' : Nat} {it : Addr} (I : Inv X pins σ H s) (k : ∀ b o, b ≠ it → s.heap.get? b = some o → h'.get? b = some o) (hn : H it = none) (hL : it ≠ X.env.locals)
    (h1 : it ∈ X.ex ∨ X.s₀.heap.objs.size ≤ it) (h2 : ∀ x c, X.env.cells.lookup x = some c → c ≠ it) (h3 : ∀ p ∈ X.pn ++ pins, p.1 ≠ it) : Inv X pins σ H { s with heap := h', toks := t' } := by
  have nit : ∀ b u, H b = some u → b ≠ it := fun b u e z => by rw [z, hn] at e; cases e
  refine I.step (g' := s.gens) (d' := s.drawn) (ch := [it]) (fun b hb => ?_) (fun b o _ _ hc e _ => k b o (fun z => hc (by simp [z])) e) (fun b o _ _ hc e _ => ⟨o.slots, k b o (fun z => hc (by simp [z])) e⟩) (fun _ _ _ _ n => n)
    (fun b o hc e => ⟨o, k b o (fun z => hc (by simp [z])) e⟩) (fun _ _ e => e) (fun _ _ _ e => e) (fun b ps e => ⟨#[], by rw [e]; simp⟩) (fun m hm => ?_) ⟨fun b u e => ?_, I.hok.sm, let ⟨o, _, _, e, _⟩ := I.ok.mod.glob; ⟨mainGlobals, o, by decide, k _ _ (fun z => by
      rcases h1 with q | q
      · exact I.ok.noex _ _ e (z ▸ q)
      · exact absurd (Nat.lt_of_lt_of_le (Heap.lt_size e) (Nat.le_trans I.ok.bsz q)) (by rw [z]; exact Nat.lt_irrefl _)) (I.bk _ _ e)⟩⟩ I.bare
  · have e : b = it := by simpa using hb
    subst e
    exact ⟨h1, hL, h2, h3⟩
  · obtain ⟨o, es, ep, ho, r⟩ := hm
    exact ⟨o, es, ep, k _ o (Ne.symm hL) ho, r⟩
  · refine (I.hok b u e).stay (fun c v hc q => k c v ?_ q) (fun _ q => q) fun _ _ q => q
    rcases hc with z | z
    · rw [z]; exact nit b u e
    · exact nit c _ z
theorem Inv.tok (I : Inv X pins σ H s) (t : Nat) : Inv X pins σ H { s with toks := t } := I.un (h' := s.heap) (t' := t) Un.refl I.hok

theorem Inv.kept {t' : Nat} (I : Inv X pins σ H s) (k : ∀ b u, s.heap.get? b = some u → h'.get? b = some u) : Inv X pins σ H { s with heap := h', toks := t' } := I.un (Un.kept k) (I.hok.kept k)

theorem Inv.laid {a : Addr} {o : HO} {t' : Nat} (I : Inv X pins σ H s) (k : ∀ b u, s.heap.get? b = some u → h'.get? b = some u) (hp : s.heap.objs.size ≤ a) (new : ObjOk X.prog X.w (upd H a o) h' a o) :
    Inv X pins σ (upd H a o) { s with heap := h', toks := t' } := I.un (Un.laid k hp (I.hok.fresh hp)) (I.hok.laid k hp new)

theorem Inv.write {x e : Addr} {o : HO} {t' : Nat} (I : Inv X pins σ H s) (mu : Mut (H x)) (he : e = x ∨ H e = some (.own x)) (k : ∀ b u, b ≠ e → s.heap.get? b = some u → h'.get? b = some u) (heo : ∃ u, h'.get? e = some u)
    (new : ObjOk X.prog X.w (upd H x o) h' x o) : Inv X pins σ (upd H x o) { s with heap := h', toks := t' } := I.un (Un.write mu he k heo) (I.hok.write mu he k heo new)

theorem Inv.weak {σ' : List (Option V)} (I : Inv X pins σ H s) (hl : σ'.length = σ.length) (w : ∀ (i : Nat) v, σ'[i]? = some (some v) → σ[i]? = some (some v)) : Inv X pins σ' H s :=
  ⟨I.ok, I.os, I.bare, I.base, let ⟨m, hn, hl'⟩ := I.loc; ⟨m, hn, fun i x v e1 e2 e3 => hl' i x v e1 (w i v e2) e3⟩, I.cell, I.free, I.freeC, I.pin, I.hok, hl.trans I.len⟩
theorem Inv.pins_of {pins' : List (Addr × Obj)} (I : Inv X pins σ H s) (h : ∀ p ∈ pins', s.heap.get? p.1 = some p.2 ∧ H p.1 = none ∧ p.1 ≠ X.env.locals ∧ p.1 ∉ X.fs ∧ ∀ v, p.2.data ≠ .cell v) : Inv X pins' σ H s :=
  ⟨I.ok, I.os, I.bare, I.base, I.loc, I.cell, I.free, I.freeC, fun p hp => (List.mem_append.mp hp).elim (fun z => I.pin p (List.mem_append_left _ z)) (h p), I.hok, I.len⟩

theorem nodup_ix {N : List Str} (hN : N.Nodup) {i j : Nat} {x : Str} (a : N[i]? = some x) (b : N[j]? = some x) : i = j := by
  obtain ⟨h1, e1⟩ := List.getElem?_eq_some_iff.mp a
  obtain ⟨h2, e2⟩ := List.getElem?_eq_some_iff.mp b
  exact (List.getElem_inj hN).mp (e1.trans e2.symm)


theorem store_ok2 {M : Model} {A : Around} {E : Value → Shared → Prop} {i : Nat} {x : Str} {v : V} {u : Value} {Q : Unit → Shared → Prop} (I : Inv X pins σ H s) (hN : X.N.Nodup) (hi : X.N[i]? = some x) (hx : Loc X.env.scope x) (r : RelV v u)
    (h : ∀ s', Inv X pins (σ.set i (some v)) H s' → (∃ a, Heap.SameBut a s.heap s'.heap ∧ (a = X.env.locals ∨ X.env.cells.lookup x = some a)) → Q () s') (hf : X.fn x = true ∨ X.env.scope.names.lookup x = some .local := by first | exact .inl rfl | exact .inr rfl | assumption) : wpAny M A (storeName X.env x u) Q E s := by
  obtain ⟨m, hn, hl⟩ := id I.loc
  have hcls : (X.env.scope.kind == .class || (X.env.scope.kind == .module && X.env.locals != X.env.globals)) = false := by rw [I.ok.kind]; rfl
  have hiσ : i < σ.length := by rw [I.len]; exact (List.getElem?_eq_some_iff.mp hi).1
  have cne := I.cne
  have tracked : ∀ {a : Addr} {h' : Heap}, (∃ o, s.heap.get? a = some o ∧ H a = none) → Heap.SameBut a s.heap h' → (∃ o', h'.get? a = some o') → HOk X.prog X.w H h' := fun {a h'} ha hs hz => by
    refine ⟨fun b ob e => ?_, I.hok.sm, ?_⟩
    rotate_left
    · obtain ⟨b, o, l, e⟩ := I.hok.bg
      by_cases hb : b = a
      · obtain ⟨v, hv⟩ := hz
        exact ⟨a, v, hb ▸ l, hv⟩
      · exact ⟨b, o, l, (hs.2 b hb).trans e⟩
    obtain ⟨_, _, hfree⟩ := ha
    refine (I.hok b ob e).stay (fun c w' hc q => (hs.2 c ?_).trans q) (fun _ q => q) fun _ _ q => q
    rintro rfl
    rcases hc with rfl | hc
    · rw [hfree] at e; cases e
    · rw [hfree] at hc; cases hc
  rcases hx with hk | hk
  · refine wpAny_storeName_local hk hn (fun h' hn' hs => ?_) hcls
    obtain ⟨oL, _, _, hoL, _⟩ := id hn
    refine h _ ⟨I.ok, I.os, I.bare, ⟨fun b o e n hb hx => ?_, fun b o e n hb hx => ?_, I.base.free, fun b o e hx => ?_, I.base.tups, I.base.frzs, I.base.tbls⟩, ⟨_, hn', fun j y v' e1 e2 e3 => ?_⟩, fun y c e => ?_, I.free, I.freeC, fun p hp => ?_, tracked ⟨oL, hoL, I.free⟩ hs (let ⟨o, _, _, e, _⟩ := hn'; ⟨o, e⟩), by simpa using I.len⟩ ⟨_, hs, .inl rfl⟩
    · exact (hs.2 b (Nat.ne_of_lt (Nat.lt_of_lt_of_le (Heap.lt_size e) I.ok.above))).trans (I.base.keep b o e n hb hx)
    · obtain ⟨sl, e1⟩ := I.base.slot b o e n hb hx
      exact ⟨sl, (hs.2 b (Nat.ne_of_lt (Nat.lt_of_lt_of_le (Heap.lt_size e) I.ok.above))).trans e1⟩
    · obtain ⟨o', e1⟩ := I.base.there b o e hx
      exact ⟨o', (hs.2 b (Nat.ne_of_lt (Nat.lt_of_lt_of_le (Heap.lt_size e) I.ok.above))).trans e1⟩
    · by_cases hj : j = i
      · subst hj
        rw [hi] at e1; cases e1
        rw [List.getElem?_set_self hiσ] at e2
        cases e2
        exact ⟨u, r, .inl ⟨hk, by simp⟩⟩
      · rw [List.getElem?_set_ne (Ne.symm hj)] at e2
        obtain ⟨u', r', q⟩ := hl j y v' e1 e2 e3
        refine ⟨u', r', ?_⟩
        rcases q with ⟨k, e⟩ | ⟨k, c, e, z⟩
        · refine .inl ⟨k, ?_⟩
          have : y ≠ x := fun e => hj (nodup_ix hN e1 (e ▸ hi))
          simp [this, e]
        · exact .inr ⟨k, c, e, z.sameBut hs (cne y c e)⟩
    · obtain ⟨w', z⟩ := I.cell y c e
      exact ⟨w', z.sameBut hs (cne y c e)⟩
    · obtain ⟨e, n, ne, nf, d⟩ := I.pin p hp
      exact ⟨(hs.2 p.1 ne).trans e, n, ne, nf, d⟩
  · have hfn : X.fn x = true := by
      rcases hf with z | z
      · exact z
      · rw [z] at hk; cases hk
    obtain ⟨c, hc⟩ := I.ok.has x (.inl hk)
    obtain ⟨w', z⟩ := I.cell x c hc
    refine wpAny_storeName_cell I.ok.kind hk hc z (fun h' hc' hs => ?_)
    obtain ⟨oc, hoc, hocd⟩ := id z
    refine h { s with heap := h' } ⟨I.ok, I.os, I.bare, ⟨fun b o e n hb hx => ?_, fun b o e n hb hx => ?_, I.base.free, fun b o e hx => ?_, I.base.tups, I.base.frzs, I.base.tbls⟩, ⟨m, hn.sameBut hs (Ne.symm (cne x c hc)), fun j y v' e1 e2 e3 => ?_⟩, fun y c' e => ?_, I.free, I.freeC, fun p hp => ?_, tracked ⟨oc, hoc, I.freeC x c hc⟩ hs (let ⟨o, e, _⟩ := hc'; ⟨o, e⟩), by simpa using I.len⟩ ⟨c, hs, .inr hc⟩
    · exact (hs.2 b (Nat.ne_of_lt (Nat.lt_of_lt_of_le (Heap.lt_size e) (I.ok.cab x c hfn hc)))).trans (I.base.keep b o e n hb hx)
    · obtain ⟨sl, e1⟩ := I.base.slot b o e n hb hx
      exact ⟨sl, (hs.2 b (Nat.ne_of_lt (Nat.lt_of_lt_of_le (Heap.lt_size e) (I.ok.cab x c hfn hc)))).trans e1⟩
    · obtain ⟨o', e1⟩ := I.base.there b o e hx
      exact ⟨o', (hs.2 b (Nat.ne_of_lt (Nat.lt_of_lt_of_le (Heap.lt_size e) (I.ok.cab x c hfn hc)))).trans e1⟩
    · by_cases hj : j = i
      · subst hj
        rw [hi] at e1; cases e1
        rw [List.getElem?_set_self hiσ] at e2
        cases e2
        exact ⟨u, r, .inr ⟨.inl hk, c, hc, hc'⟩⟩
      · rw [List.getElem?_set_ne (Ne.symm hj)] at e2
        obtain ⟨u', r', q⟩ := hl j y v' e1 e2 e3
        refine ⟨u', r', ?_⟩
        rcases q with q | ⟨k, c', e, z'⟩
        · exact .inl q
        · refine .inr ⟨k, c', e, z'.sameBut hs ?_⟩
          rintro rfl
          exact hj (nodup_ix hN e1 (I.ok.inj _ _ _ e hc ▸ hi))
    · by_cases hcc : c' = c
      · subst hcc; exact ⟨_, hc'⟩
      · obtain ⟨w2, z2⟩ := I.cell y c' e
        exact ⟨w2, z2.sameBut hs hcc⟩
    · obtain ⟨e, n, ne, nf, d⟩ := I.pin p hp
      refine ⟨(hs.2 p.1 ?_).trans e, n, ne, nf, d⟩
      intro q
      rw [q, hoc] at e
      have q' : oc = p.2 := Option.some.inj e
      exact d w' (by rw [← q']; exact hocd)
theorem store_ok {M : Model} {A : Around} {E : Value → Shared → Prop} {i : Nat} {x : Str} {v : V} {u : Value} {Q : Unit → Shared → Prop} (I : Inv X pins σ H s) (hN : X.N.Nodup) (hi : X.N[i]? = some x) (hx : Loc X.env.scope x) (r : RelV v u)
    (h : ∀ s', Inv X pins (σ.set i (some v)) H s' → Q () s') (hf : X.fn x = true ∨ X.env.scope.names.lookup x = some .local := by first | exact .inl rfl | exact .inr rfl | assumption) : wpAny M A (storeName X.env x u) Q E s :=
  store_ok2 I hN hi hx r (fun s' I' _ => h s' I') hf

theorem Inv.call' {s' : Shared} {ch : List Addr} (I : Inv X pins σ H s) (ho : s'.os = s.os) (u : Un (frs X.stack) ch H H' s.heap s'.heap) (hok : HOk X.prog X.w H' s'.heap) (hg : AllBare s'.gens)
    (hch : ∀ b ∈ ch, (b ∈ X.ex ∨ X.s₀.heap.objs.size ≤ b) ∧ b ≠ X.env.locals ∧ (∀ x c, X.env.cells.lookup x = some c → c ≠ b) ∧ ∀ p ∈ X.pn ++ pins, p.1 ≠ b) : Inv X pins σ H' s' := by
  obtain ⟨h', g', d', t', o'⟩ := s'
  have e : o' = s.os := ho
  subst e
  exact I.call (g' := g') (t' := t') (d' := d') u hok hg hch
end



abbrev XK := Value → Option Addr → Hp → Prop
abbrev St := List (Option V)
abbrev VK := V → Hp → Prop

abbrev TE := St → Hp → VK → Prop
abbrev TT := St → Hp → (Bool → Hp → Prop) → Prop
abbrev TA := St → Hp → (List V → Hp → Prop) → Prop

structure Ends where
  nx : St → Hp → Prop
  rt : VK
  bk : St → Hp → Prop := fun _ _ => False
  ct : St → Hp → Prop := fun _ _ => False
abbrev TS := Ends → St → Hp → Prop

def EP (X : Cx) (pins : List (Addr × Obj)) (σ : St) (Q : VK) (u : Value) (s' : Shared) : Prop := ∃ v H', Inv X pins σ H' s' ∧ RelV v u ∧ Q v H'
def TP (X : Cx) (pins : List (Addr × Obj)) (σ : St) (Q : Bool → Hp → Prop) (b : Bool) (s' : Shared) : Prop := ∃ H', Inv X pins σ H' s' ∧ Q b H'
def AP (X : Cx) (pins : List (Addr × Obj)) (σ : St) (Q : List V → Hp → Prop) (us : List Value) (s' : Shared) : Prop := ∃ vs H', Inv X pins σ H' s' ∧ Vals vs us ∧ Q vs H'
def SP (X : Cx) (pins : List (Addr × Obj)) (D : Ends) (f : Flow) (s' : Shared) : Prop :=
  match f with
  | .next => ∃ σ' H', Inv X pins σ' H' s' ∧ D.nx σ' H'
  | .brk => ∃ σ' H', Inv X pins σ' H' s' ∧ D.bk σ' H'
  | .cont => ∃ σ' H', Inv X pins σ' H' s' ∧ D.ct σ' H'
  | .ret u => ∃ v σ' H', Inv X pins σ' H' s' ∧ RelV v u ∧ D.rt v H'

def PE (X : Cx) (e : Expr) (t : TE) : Prop :=
  ∀ (pins : List (Addr × Obj)) (s : Shared) (σ : St) (H : Hp) (Q : VK), Inv X pins σ H s → t σ H Q → wpAny (model X.prog X.w) X.A (eval e X.env) (EP X pins σ Q) X.xe s
def PT (X : Cx) (e : Expr) (t : TT) : Prop :=
  ∀ (pins : List (Addr × Obj)) (s : Shared) (σ : St) (H : Hp) (Q : Bool → Hp → Prop), Inv X pins σ H s → t σ H Q → wpAny (model X.prog X.w) X.A (isTrue e X.env (eval e X.env)) (TP X pins σ Q) X.xe s

def PW (X : Cx) (e : Expr) (t : TT) : Prop :=
  ∀ (whole : Sem Value) (pins : List (Addr × Obj)) (s : Shared) (σ : St) (H : Hp) (Q : Bool → Hp → Prop), Inv X pins σ H s → t σ H Q → wpAny (model X.prog X.w) X.A (isTrue e X.env whole) (TP X pins σ Q) X.xe s
theorem PW.pt {X : Cx} {e : Expr} {t : TT} (h : PW X e t) : PT X e t := h _

def PA (X : Cx) (es : List Expr) (t : TA) : Prop :=
  ∀ (pos : Pos) (pins : List (Addr × Obj)) (s : Shared) (σ : St) (H : Hp) (Q : List V → Hp → Prop), Inv X pins σ H s → t σ H Q → wpAny (model X.prog X.w) X.A (spliced (backTo pos (starEach es X.env))) (AP X pins σ Q) X.xe s
def PS (X : Cx) (st : Stmt) (t : TS) : Prop :=
  ∀ (pins : List (Addr × Obj)) (s : Shared) (σ : St) (H : Hp) (D : Ends), Inv X pins σ H s → t D σ H → wpAny (model X.prog X.w) X.A (exec st X.env) (SP X pins D) X.xe s
def PSs (X : Cx) (st : List Stmt) (t : TS) : Prop :=
  ∀ (pins : List (Addr × Obj)) (s : Shared) (σ : St) (H : Hp) (D : Ends), Inv X pins σ H s → t D σ H → wpAny (model X.prog X.w) X.A (execs st X.env) (SP X pins D) X.xe s

theorem thn {α : Type} {t : Sem α} {Q Q' : α → Shared → Prop} {M : Model} {A : Around} {E : Value → Shared → Prop} {s : Shared} (h : wpAny M A t Q E s) (hQ : ∀ a s, Q a s → Q' a s) : wpAny M A t Q' E s := wpAny_mono h hQ fun _ _ x => x
end L2

namespace L2
open PySem PySem.Spec PyProof.Rows
section
variable {X : Cx}


def tVar (i : Nat) : TE := fun σ H Q => ∃ v, σ[i]? = some (some v) ∧ Q v H
def tC (v : V) : TE := fun _ H Q => Q v H
theorem pe_var {i : Nat} {x : Str} {pos : Pos} (hN : X.N[i]? = some x) (hv : Vis X.env.scope x) (hd : (x == ("__debug__" : Str)) = false := by decide) (hcd : (x == ("__classdict__" : Str)) = false := by decide) : PE X (.Name x pos) (tVar i) := by
  intro pins s σ H Q I h
  obtain ⟨v, e, h⟩ := h
  obtain ⟨m, hn, hl⟩ := I.loc
  obtain ⟨u, r, l⟩ := hl i x v hN e hv
  have fin : EP X pins σ Q u s := ⟨v, H, I, r, h⟩
  rcases l with ⟨hk, hm⟩ | ⟨hk, c, hc, hcell⟩
  · exact wpAny_Name (wpAny_loadName_local I.ok.kind hk hn hm fin) hd
  · rcases hk with hk | hk
    · exact wpAny_Name (wpAny_loadName_cell I.ok.kind hk hc hcell fin) hd
    · exact wpAny_Name (wpAny_loadName_free I.ok.kind hk hc hcell fin hcd) hd
theorem pe_int {i j pos} : PE X (.Constant (.int i) j pos) (tC (.int i)) := fun _ _ _ H _ I h => wpAny_Constant_int ⟨.int i, H, I.tok _, ⟨_, rfl⟩, h⟩
theorem pe_bl {b j pos} : PE X (.Constant (.bool b) j pos) (tC (.bl b)) := fun _ _ _ H _ I h => Constant_bool ⟨.bl b, H, I, rfl, h⟩
theorem pe_non {j pos} : PE X (.Constant .none j pos) (tC .non) := fun _ _ _ H _ I h => Constant_none ⟨.non, H, I, rfl, h⟩
theorem pe_str {x j pos} : PE X (.Constant (.str x) j pos) (tC (.str x)) := fun _ _ _ H _ I h => Calls.Constant_str ⟨.str x, H, I.tok _, ⟨_, rfl⟩, h⟩


def Gl (X : Cx) (x : Str) : Prop := X.env.kindOf x = some .globalImplicit
theorem ld_glob {E : Value → Shared → Prop} {pins : List (Addr × Obj)} {s : Shared} {σ : St} {H : Hp} {x : Str} {u : Value} {pos : Pos} {Q : Value → Shared → Prop} (I : Inv X pins σ H s) (hg : Gl X x) (hm : X.mg x = some u) (h : Q u s)
    (hd : (x == ("__debug__" : Str)) = false := by decide) : wpAny (model X.prog X.w) X.A (eval (.Name x pos) X.env) Q E s :=
  Calls.Name_function_global I.ok.kind hg (Calls.loadGlobal_global (by rw [I.ok.glob]; exact I.mod.glob.keeps I.bk) hm h) hd
theorem ld_blt {E : Value → Shared → Prop} {pins : List (Addr × Obj)} {s : Shared} {σ : St} {H : Hp} {x : Str} {u : Value} {pos : Pos} {Q : Value → Shared → Prop} (I : Inv X pins σ H s) (hg : Gl X x) (hm : X.mg x = none) (hv : bootBuiltins x = some u) (h : Q u s)
    (hn : x ≠ "__name__" := by decide) (hd : (x == ("__debug__" : Str)) = false := by decide) : wpAny (model X.prog X.w) X.A (eval (.Name x pos) X.env) Q E s := by
  obtain ⟨mb, h1, h2⟩ := I.mod.blt
  exact Calls.Name_function_global I.ok.kind hg (Calls.loadGlobal_builtin (by rw [I.ok.glob]; exact I.mod.glob.keeps I.bk) hm (by rw [I.ok.blt]; exact h1.keeps I.bk) ((h2 x hn).trans hv) h) hd

theorem pe_glob {x : Str} {v : V} {u : Value} {pos : Pos} (hg : Gl X x) (hm : X.mg x = some u) (r : RelV v u) (hd : (x == ("__debug__" : Str)) = false := by decide) : PE X (.Name x pos) (tC v) :=
  fun _ _ _ H _ I h => ld_glob I hg hm ⟨v, H, I, r, h⟩ hd
theorem pe_bltn {x : Str} {v : V} {u : Value} {pos : Pos} (hg : Gl X x) (hm : X.mg x = none) (hv : bootBuiltins x = some u) (r : RelV v u) (hn : x ≠ "__name__" := by decide) (hd : (x == ("__debug__" : Str)) = false := by decide) : PE X (.Name x pos) (tC v) :=
  fun _ _ _ H _ I h => ld_blt I hg hm hv ⟨v, H, I, r, h⟩ hn hd



variable {a b : Expr} {ta tb : TE} {pos : Pos}
variable {tA tB' : TT} {rest : List Expr}
def tAnd (t u : TT) : TT := fun σ H Q => t σ H fun c H1 => if c = true then u σ H1 Q else Q false H1
def tOr (t u : TT) : TT := fun σ H Q => t σ H fun c H1 => if c = true then Q true H1 else u σ H1 Q
def tNot (t : TT) : TT := fun σ H Q => t σ H fun c H1 => Q (!c) H1
theorem pw_and1 (ha : PT X a tA) : PW X (.BoolOp .And [a] pos) tA := by
  intro wh pins s σ H Q I h
  refine isTrue_and (thn (ha pins s σ H Q I h) fun c s1 e => ?_)
  cases c with
  | true => exact isTrue_and_nil e
  | false => exact e
theorem pw_or1 (ha : PT X a tA) : PW X (.BoolOp .Or [a] pos) tA := by
  intro wh pins s σ H Q I h
  refine isTrue_or (thn (ha pins s σ H Q I h) fun c s1 e => ?_)
  cases c with
  | false => exact isTrue_or_nil e
  | true => exact e
theorem pw_and (ha : PT X a tA) (hb : PW X (.BoolOp .And (b :: rest) pos) tB') : PW X (.BoolOp .And (a :: b :: rest) pos) (tAnd tA tB') := by
  intro wh pins s σ H Q I h
  refine isTrue_and (thn (ha pins s σ H _ I h) fun c s1 ⟨H1, I1, q1⟩ => ?_)
  cases c with
  | true => exact hb wh pins s1 σ H1 Q I1 q1
  | false => exact ⟨H1, I1, q1⟩
theorem pw_or (ha : PT X a tA) (hb : PW X (.BoolOp .Or (b :: rest) pos) tB') : PW X (.BoolOp .Or (a :: b :: rest) pos) (tOr tA tB') := by
  intro wh pins s σ H Q I h
  refine isTrue_or (thn (ha pins s σ H _ I h) fun c s1 ⟨H1, I1, q1⟩ => ?_)
  cases c with
  | true => exact ⟨H1, I1, q1⟩
  | false => exact hb wh pins s1 σ H1 Q I1 q1
theorem pt_not (ha : PT X a tA) : PT X (.UnaryOp .Not a pos) (tNot tA) := by
  intro pins s σ H Q I h
  exact isTrue_not (ha pins s σ H (fun c H1 => Q (!c) H1) I h)

def tAndV (ta tb : TE) : TE := fun σ H Q => ta σ H fun x H1 => ∃ c, x = .bl c ∧ if c = true then tb σ H1 Q else Q (.bl false) H1
def tNotV (ta : TE) : TE := fun σ H Q => ta σ H fun x H1 => ∃ c, x = .bl c ∧ Q (.bl (!c)) H1
theorem pe_one {op} {t : TE} (h : PE X a t) : PE X (.BoolOp op [a] pos) t := fun pins s σ H Q I hw => BoolOp_one (h pins s σ H Q I hw)
theorem pe_and (ha : PE X a ta) (hb : PE X (.BoolOp .And (b :: rest) pos) tb) : PE X (.BoolOp .And (a :: b :: rest) pos) (tAndV ta tb) := by
  intro pins s σ H Q I h
  refine BoolOp_and (thn (ha pins s σ H _ I h) fun v s1 ⟨x, H1, I1, r1, q1⟩ => ?_)
  obtain ⟨c, rfl, q1⟩ := q1
  cases r1
  refine wpAny_truthy_bool ?_
  cases c with
  | true => exact hb pins s1 σ H1 Q I1 q1
  | false => exact ⟨.bl false, H1, I1, rfl, q1⟩
theorem pe_not (ha : PE X a ta) : PE X (.UnaryOp .Not a pos) (tNotV ta) := by
  intro pins s σ H Q I h
  refine UnaryOp_ (thn (ha pins s σ H _ I h) fun v s1 ⟨x, H1, I1, r1, q1⟩ => ?_)
  obtain ⟨c, rfl, q1⟩ := q1
  cases r1
  exact not_of (wpAny_truthy_bool ⟨.bl (!c), H1, I1, rfl, q1⟩)

def tIf (t : TT) (ta tb : TE) : TE := fun σ H Q => t σ H fun c H1 => if c = true then ta σ H1 Q else tb σ H1 Q
theorem pe_ifExp {c : Expr} (hc : PT X c tA) (ha : PE X a ta) (hb : PE X b tb) : PE X (.IfExp c a b pos) (tIf tA ta tb) := by
  intro pins s σ H Q I h
  refine wpAny_IfExp (thn (hc pins s σ H _ I h) fun d s1 ⟨H1, I1, q1⟩ => ?_)
  cases d with
  | true => exact ha pins s1 σ H1 Q I1 q1
  | false => exact hb pins s1 σ H1 Q I1 q1
end
end L2

namespace L2
open PySem PySem.Spec PyProof.Rows


def SqL (K : PySem.W.Frag) (H : Hp) (a : Addr) (xs : List V) : Prop :=
  Rd H a (.lst xs) ∨
    ∃ (o : Obj) (its : Array Value) (n : Nat), K.lookup a = some o ∧ o.cls = .type "list" ∧ o.dict = none ∧ o.data = .seq its n ∧ its.size ≤ sizeLine ∧ Vals xs its.toList
def SqT (K : PySem.W.Frag) (H : Hp) (a : Addr) (xs : List V) : Prop :=
  Rd H a (.tup xs) ∨
    ∃ (o : Obj) (its : Array Value) (n : Nat), K.lookup a = some o ∧ o.cls = .type "tuple" ∧ o.data = .seq its n ∧ its.size ≤ sizeLine ∧ Vals xs its.toList
def absV : Value → Option V
  | .none => some .non
  | .bool b => some (.bl b)
  | .int i _ => some (.int i)
  | .str x _ => some (.str x)
  | .bytes b _ => some (.byt b)
  | .float b _ => some (.flt b)
  | .ref a => some (.ref a)
  | .type n => some (.ty n)
  | _ => none
theorem RelV.abs {x : V} {u : Value} (r : RelV x u) : absV u = some x := by
  cases x with
  | non => cases r; rfl
  | bl _ => cases r; rfl
  | int _ => obtain ⟨t, rfl⟩ := r; rfl
  | str _ => obtain ⟨t, rfl⟩ := r; rfl
  | byt _ => obtain ⟨t, rfl⟩ := r; rfl
  | flt _ => obtain ⟨t, rfl⟩ := r; rfl
  | ref _ => cases r; rfl
  | ty _ => cases r; rfl
theorem RelV.inj {x y : V} {u : Value} (r : RelV x u) (q : RelV y u) : x = y := Option.some.inj (r.abs.symm.trans q.abs)
theorem Vals.inj : ∀ {xs ys : List V} {us : List Value}, Vals xs us → Vals ys us → xs = ys
  | _, _, _, .nil, .nil => rfl
  | _, _, _, .cons r t, .cons r' t' => by rw [r.inj r', Vals.inj t t']
section
variable {X : Cx} {pins : List (Addr × Obj)} {σ : St} {H : Hp} {s : Shared} {a : Addr} {xs ys : List V}
theorem SqL.of {K : PySem.W.Frag} (h : H a = some (.lst xs)) : SqL K H a xs := .inl (.inl h)
theorem SqT.of {K : PySem.W.Frag} (h : H a = some (.tup xs)) : SqT K H a xs := .inl (.inl h)
theorem Inv.list (I : Inv X pins σ H s) (h : SqL X.K H a xs) : ∃ its : List Value, Vals xs its ∧ PlainL s.heap a its.toArray ∧ xs.length ≤ sizeLine := by
  rcases h with h | ⟨o, its, n, hk, hc, hd, hs, hz, r⟩
  · obtain ⟨z, its, n, r, e⟩ := h.ok I.hok
    exact ⟨its, r, ⟨_, n, e, rfl, rfl, rfl⟩, z⟩
  · refine ⟨its.toList, r, ⟨o, n, I.kIn a o hk, hc, hd, by simpa using hs⟩, ?_⟩
    have e := r.length
    simp only [Array.length_toList] at e
    omega
theorem Inv.tuple (I : Inv X pins σ H s) (h : SqT X.K H a xs) : ∃ its : List Value, Vals xs its ∧ IsTup s.heap a its.toArray ∧ xs.length ≤ sizeLine := by
  rcases h with h | ⟨o, its, n, hk, hc, hs, hz, r⟩
  · obtain ⟨z, its, r, p⟩ := h.ok I.hok
    exact ⟨its, r, p, z⟩
  · refine ⟨its.toList, r, ⟨o, I.kIn a o hk, hc, n, by simpa using hs⟩, ?_⟩
    have e := r.length
    simp only [Array.length_toList] at e
    omega
theorem Inv.list_inj (I : Inv X pins σ H s) (h : SqL X.K H a xs) (h' : SqL X.K H a ys) : xs = ys := by
  obtain ⟨its, r, ⟨o, n, e, _, _, d⟩, _⟩ := I.list h
  obtain ⟨its', r', ⟨o', n', e', _, _, d'⟩, _⟩ := I.list h'
  rw [e] at e'; cases e'
  rw [d] at d'
  injection d' with d1 _
  have : its = its' := by simpa using congrArg Array.toList d1
  subst this
  exact r.inj r'
end


abbrev Cx.wish (X : Cx) (E : Value → Shared → Prop) : Cx := { X with xe := E }

abbrev Cx.nox (X : Cx) : Cx := X.wish fun _ _ => False
theorem Cx.Ok.wish {X : Cx} (ok : X.Ok) (E : Value → Shared → Prop) : (X.wish E).Ok :=
  ⟨ok.mod, ok.kind, ok.glob, ok.blt, ok.above, ok.inj, ok.has, ok.cab, ok.hd, ok.frames, ok.stk, ok.exf, ok.bs, ok.bsz, ok.noex, ok.exfs, ok.funs, ok.frf⟩
theorem Cx.Ok.unwish {X : Cx} {E : Value → Shared → Prop} (ok : (X.wish E).Ok) : X.Ok :=
  ⟨ok.mod, ok.kind, ok.glob, ok.blt, ok.above, ok.inj, ok.has, ok.cab, ok.hd, ok.frames, ok.stk, ok.exf, ok.bs, ok.bsz, ok.noex, ok.exfs, ok.funs, ok.frf⟩
section
variable {X : Cx} {pins : List (Addr × Obj)} {σ : St} {H : Hp} {s : Shared} {E : Value → Shared → Prop}
theorem Inv.wish (I : Inv X pins σ H s) (E : Value → Shared → Prop) : Inv (X.wish E) pins σ H s := ⟨I.ok.wish E, I.os, I.bare, I.base, I.loc, I.cell, I.free, I.freeC, I.pin, I.hok, I.len⟩
theorem Inv.unwish (I : Inv (X.wish E) pins σ H s) : Inv X pins σ H s := ⟨I.ok.unwish, I.os, I.bare, I.base, I.loc, I.cell, I.free, I.freeC, I.pin, I.hok, I.len⟩
theorem SP.unwish {D : Ends} {f : Flow} {s' : Shared} (h : SP (X.wish E) pins D f s') : SP X pins D f s' := by
  cases f with
  | next => obtain ⟨σ', H', I, q⟩ := h; exact ⟨σ', H', I.unwish, q⟩
  | brk => obtain ⟨σ', H', I, q⟩ := h; exact ⟨σ', H', I.unwish, q⟩
  | cont => obtain ⟨σ', H', I, q⟩ := h; exact ⟨σ', H', I.unwish, q⟩
  | ret u => obtain ⟨v, σ', H', I, r, q⟩ := h; exact ⟨v, σ', H', I.unwish, r, q⟩
theorem PSs.nox {st : List Stmt} {t : TS} (h : PSs X.nox st t) : PSs X st t := fun pins s σ H D I hw =>
  wpAny_mono (h pins s σ H D (I.wish _) hw) (fun _ _ q => q.unwish) fun _ _ z => False.elim z
end


section
variable {X : Cx} {st : Stmt} {rest : List Stmt} {t u : TS} {e : Expr} {te : TE} {pos : Pos}
def tNext : TS := fun D σ H => D.nx σ H
def tSeq (t u : TS) : TS := fun D σ H => t { D with nx := u D } σ H
theorem pss_nil : PSs X [] tNext := fun _ _ σ H _ I h => wpAny_execs_nil ⟨σ, H, I, h⟩
theorem pss_cons (h1 : PS X st t) (h2 : PSs X rest u) : PSs X (st :: rest) (tSeq t u) := by
  intro pins s σ H D I h
  refine wpAny_execs_cons (thn (h1 pins s σ H { D with nx := u D } I h) fun f s1 q => ?_)
  cases f with
  | next =>
    obtain ⟨σ', H', I', q⟩ := q
    exact h2 pins s1 σ' H' D I' q
  | ret v => exact q
  | brk => exact q
  | cont => exact q
theorem pss_one (h1 : PS X st t) : PSs X [st] t := by
  intro pins s σ H D I h
  refine wpAny_execs_cons (thn (h1 pins s σ H D I h) fun f s1 q => ?_)
  cases f with
  | next => exact wpAny_execs_nil q
  | ret v => exact q
  | brk => exact q
  | cont => exact q
def tCont : TS := fun D σ H => D.ct σ H
theorem ps_continue : PS X (.Continue pos) tCont := fun _ _ σ H _ I h => wpAny_Continue ⟨σ, H, I, h⟩

theorem Inv.quiet {pins : List (Addr × Obj)} {σ : St} {H : Hp} {s : Shared} (I : Inv X pins σ H s) : interactive X.env = false := by simp [interactive, I.ok.kind]

def tDrop (te : TE) : TS := fun D σ H => te σ H fun _ H1 => D.nx σ H1
theorem ps_expr (he : PE X e te) (hs : swapsWith e none pos.line X.env = pure false := by rfl) : PS X (.Expr e pos) (tDrop te) := by
  intro pins s σ H D I h
  exact wpAny_Expr_any (thn (he pins s σ H _ I h) fun v s1 ⟨x, H1, I1, r1, q1⟩ => ⟨σ, H1, I1, q1⟩) I.quiet hs
def tRet (te : TE) : TS := fun D σ H => te σ H D.rt
theorem ps_ret (he : PE X e te) : PS X (.Return (some e) pos) (tRet te) := by
  intro pins s σ H D I h
  exact wpAny_Return_some (thn (he pins s σ H _ I h) fun v s1 ⟨x, H1, I1, r1, q1⟩ => ⟨x, σ, H1, I1, r1, q1⟩)
def tIfS (c : TT) (t u : TS) : TS := fun D σ H => c σ H fun b H1 => if b = true then t D σ H1 else u D σ H1
theorem ps_if {c : Expr} {a b : List Stmt} {tc : TT} (hc : PT X c tc) (ha : PSs X a t) (hb : PSs X b u) : PS X (.If c a b pos) (tIfS tc t u) := by
  intro pins s σ H D I h
  refine wpAny_If (thn (hc pins s σ H _ I h) fun d s1 ⟨H1, I1, q1⟩ => ?_)
  cases d with
  | true => exact ha pins s1 σ H1 D I1 q1
  | false => exact hb pins s1 σ H1 D I1 q1

def tNever : TS := fun _ _ _ => False
theorem ps_never : PS X st tNever := fun _ _ _ _ _ _ h => h.elim
end


abbrev TG := V → St → Hp → (St → Hp → Prop) → Prop
abbrev TGs := List V → St → Hp → (St → Hp → Prop) → Prop
def PG (X : Cx) (target : Expr) (t : TG) : Prop :=
  ∀ (pins : List (Addr × Obj)) (s : Shared) (σ : St) (H : Hp) (v : V) (u : Value) (Q : St → Hp → Prop), Inv X pins σ H s → RelV v u → t v σ H Q →
    wpAny (model X.prog X.w) X.A (assign target X.env u) (fun _ s' => ∃ σ' H', Inv X pins σ' H' s' ∧ Q σ' H') X.xe s

def PGs (X : Cx) (ts : List Expr) (t : TGs) : Prop :=
  ∀ (pins : List (Addr × Obj)) (s : Shared) (σ : St) (H : Hp) (vs : List V) (us : List Value) (Q : St → Hp → Prop), Inv X pins σ H s → Vals vs us → t vs σ H Q →
    wpAny (model X.prog X.w) X.A (assignInOrder ((assignEach ts X.env).map (·.2)) us) (fun _ s' => ∃ σ' H', Inv X pins σ' H' s' ∧ Q σ' H') X.xe s

abbrev TSet := V → V → V → Hp → (Hp → Prop) → Prop
def PSet (X : Cx) (t : TSet) : Prop :=
  ∀ (pins : List (Addr × Obj)) (s : Shared) (σ : St) (H : Hp) (o i v : V) (ov iv u : Value) (Q : Hp → Prop), Inv X pins σ H s → RelV o ov → RelV i iv → RelV v u → t o i v H Q →
    wpAny (model X.prog X.w) X.A (setItem ov iv u) (fun _ s' => ∃ H', Inv X pins σ H' s' ∧ Q H') X.xe s

abbrev TIp := V → V → Hp → VK → Prop
def PIp (X : Cx) (op : Operator) (t : TIp) : Prop :=
  ∀ (pins : List (Addr × Obj)) (s : Shared) (σ : St) (H : Hp) (x y : V) (v u : Value) (Q : VK), Inv X pins σ H s → RelV x v → RelV y u → t x y H Q →
    wpAny (model X.prog X.w) X.A (inplaceOp op v u) (EP X pins σ Q) X.xe s
section
variable {X : Cx} {pos : Pos}
def gName (i : Nat) : TG := fun v σ H Q => Q (σ.set i (some v)) H
theorem pg_name {i : Nat} {x : Str} (hN : X.N.Nodup) (hi : X.N[i]? = some x) (hx : Loc X.env.scope x) (hf : X.fn x = true ∨ X.env.scope.names.lookup x = some .local := by first | exact .inl rfl | exact .inr rfl | assumption) : PG X (.Name x pos) (gName i) := by
  intro pins s σ H v u Q I r h
  exact wpAny_assign_Name (store_ok I hN hi hx r (fun s' I' => ⟨_, H, I', h⟩) hf)
def gNil : TGs := fun vs σ H Q => vs = [] ∧ Q σ H
def gCons (t : TG) (u : TGs) : TGs := fun vs σ H Q => ∃ v r, vs = v :: r ∧ t v σ H fun σ' H' => u r σ' H' Q
theorem pgs_nil : PGs X [] gNil := by
  intro pins s σ H vs us Q I r h
  obtain ⟨e, h⟩ := h
  subst e
  cases r
  exact assignInOrder_nil ⟨σ, H, I, h⟩
theorem pgs_cons {e : Expr} {es : List Expr} {t : TG} {u : TGs} (h1 : PG X e t) (h2 : PGs X es u)
    (hs : (assignEach (e :: es) X.env).map (·.2) = assign e X.env :: (assignEach es X.env).map (·.2) := by rfl) : PGs X (e :: es) (gCons t u) := by
  intro pins s σ H vs us Q I r h
  obtain ⟨v, vr, e1, h⟩ := h
  subst e1
  cases r with
  | cons r rr =>
    rw [hs]
    refine assignInOrder_cons (thn (h1 pins s σ H _ _ _ I r h) fun _ s1 ⟨σ1, H1, I1, q1⟩ => ?_)
    exact h2 pins s1 σ1 H1 _ _ Q I1 rr q1

def gTup (K : PySem.W.Frag) (n : Nat) (t : TGs) : TG := fun v σ H Q => ∃ a xs, v = .ref a ∧ SqT K H a xs ∧ xs.length = n ∧ t xs σ H Q
theorem pg_tup {es : List Expr} {k : Nat} {t : TGs} {n : Nat} (hc : X.calm = true) (h : PGs X es t)
    (hn : (assignEach es X.env).length = n := by rfl) (hst : (assignEach es X.env).findIdx? (·.1) = none := by rfl) : PG X (.Tuple es k pos) (gTup X.K n t) := by
  intro pins s σ H v u Q I r hw
  obtain ⟨a, xs, e1, hq, hl, hw⟩ := hw
  subst e1
  cases r
  obtain ⟨its, rv, ht, hz⟩ := I.tuple hq
  refine assign_Tuple_tuple (I.ok.hd hc) ht (by simp [hn, ← hl, rv.length]) hst fun h' hx => ?_
  have I1 : Inv X pins σ H { s with heap := h' } := I.kept (t' := s.toks) fun b o e => hx b o (Nat.ne_of_lt (Heap.lt_size e)) e
  exact h pins _ σ H xs _ Q I1 (by simpa using rv) hw

def gSub (to ti : TE) (t : TSet) : TG := fun v σ H Q => to σ H fun o H1 => ti σ H1 fun i H2 => t o i v H2 fun H3 => Q σ H3
theorem pg_sub {o i : Expr} {to ti : TE} {t : TSet} (ho : PE X o to) (hi : PE X i ti) (hs : PSet X t)
    (ha : ∀ v, assign (.Subscript o i pos) X.env v = (do
      let ov ← holding [v] (eval o X.env)
      let iv ← holding [v, ov] (eval i X.env)
      standAt pos
      holding [v, ov, iv] (setItem ov iv v)
      release [v, ov, iv] []) := by intro _; rfl) : PG X (.Subscript o i pos) (gSub to ti t) := by
  intro pins s σ H v u Q I r h
  rw [ha]
  refine wpAny_bind (wpAny_holding (thn (ho pins s σ H _ I h) fun ov s1 ⟨x, H1, I1, r1, q1⟩ => ?_))
  refine wpAny_bind (wpAny_holding (thn (hi pins s1 σ H1 _ I1 q1) fun iv s2 ⟨y, H2, I2, r2, q2⟩ => ?_))
  refine wpAny_bind (wpAny_standAt (wpAny_bind (wpAny_holding (thn (hs pins s2 σ H2 x y v ov iv u _ I2 r1 r2 r q2) fun _ s3 ⟨H3, I3, q3⟩ => ?_))))
  exact wpAny_release ⟨σ, H3, I3, q3⟩

def tAsg (te : TE) (g : TG) : TS := fun D σ H => te σ H fun x H1 => g x σ H1 D.nx
theorem ps_asg {tg e : Expr} {te : TE} {g : TG} (he : PE X e te) (hg : PG X tg g) (hs : swapsWithSole [tg] e pos.line X.env = pure false := by rfl) (hw : swappedStores [tg] e X.env = pure none := by rfl)
    (h1 : (assignEach [tg] X.env).map (·.2) = [assign tg X.env] := by rfl) : PS X (.Assign [tg] e pos) (tAsg te g) := by
  intro pins s σ H D I h
  refine wpAny_Assign_stores (thn (he pins s σ H _ I h) fun v s1 ⟨x, H1, I1, r1, q1⟩ => ?_) hs hw
  rw [h1]
  exact thn (hg pins s1 σ H1 x v _ I1 r1 q1) fun _ s2 q => q

theorem ps_set {i : Nat} {x : Str} {e : Expr} {te : TE} {pos' : Pos} (hN : X.N.Nodup) (hi : X.N[i]? = some x) (hx : Loc X.env.scope x) (he : PE X e te) (hs : swapsWith e (some (.Name x pos')) pos.line X.env = pure false := by rfl) (hf : X.fn x = true ∨ X.env.scope.names.lookup x = some .local := by first | exact .inl rfl | exact .inr rfl | assumption) :
    PS X (.Assign [.Name x pos'] e pos) (tAsg te (gName i)) := by
  intro pins s σ H D I h
  refine wpAny_Assign_Name (thn (he pins s σ H _ I h) fun v s1 ⟨y, H1, I1, r1, q1⟩ => ?_) hs
  exact store_ok I1 hN hi hx r1 (fun s2 I2 => ⟨_, H1, I2, q1⟩) hf

def tAug (i : Nat) (te : TE) (ti : TIp) : TS := fun D σ H => ∃ x, σ[i]? = some (some x) ∧ te σ H fun y H1 => ti x y H1 fun z H2 => D.nx (σ.set i (some z)) H2
theorem ps_aug {i : Nat} {x : Str} {e : Expr} {te : TE} {op : Operator} {ti : TIp} {pos' : Pos} (hN : X.N.Nodup) (hi : X.N[i]? = some x) (hx : Loc X.env.scope x) (he : PE X e te) (ho : PIp X op ti) (hf : X.fn x = true ∨ X.env.scope.names.lookup x = some .local := by first | exact .inl rfl | exact .inr rfl | assumption) :
    PS X (.AugAssign (.Name x pos') op e pos) (tAug i te ti) := by
  intro pins s σ H D I h
  obtain ⟨v, e1, h⟩ := h
  obtain ⟨m, hn, hl⟩ := I.loc
  have vis : Vis X.env.scope x := by rcases hx with k | k; exact .inl k; exact .inr (.inl k)
  obtain ⟨u, r, l⟩ := hl i x v hi e1 vis
  refine wpAny_AugAssign_Name ?_
  have go : wpAny (model X.prog X.w) X.A (eval e X.env) (fun w s₂ => wpAny (model X.prog X.w) X.A (inplaceOp op u w) (fun r s₃ => wpAny (model X.prog X.w) X.A (storeName X.env x r) (fun _ => SP X pins D .next) X.xe s₃) X.xe s₂) X.xe s := by
    refine thn (he pins s σ H _ I h) fun w s1 ⟨y, H1, I1, r1, q1⟩ => ?_
    refine thn (ho pins s1 σ H1 v y u w _ I1 r r1 q1) fun z s2 ⟨zv, H2, I2, r2, q2⟩ => ?_
    exact store_ok I2 hN hi hx r2 (fun s3 I3 => ⟨_, H2, I3, q2⟩) hf
  rcases l with ⟨hk, hm⟩ | ⟨hk, c, hc, hcell⟩
  · exact wpAny_loadName_local I.ok.kind hk hn hm go
  · rcases hk with hk | hk
    · exact wpAny_loadName_cell I.ok.kind hk hc hcell go
    · rcases hx with k | k
      · have : X.env.scope.names.lookup x = some .free := hk
        rw [k] at this; cases this
      · have : X.env.scope.names.lookup x = some .free := hk
        rw [k] at this; cases this

def ipI (f : Int → Int → Int) : TIp := fun x y H Q => ∃ i j, x = .int i ∧ y = .int j ∧ Q (.int (f i j)) H
theorem ip_add : PIp X .Add (ipI fun i j => i + j) := by
  intro pins s σ H x y v u Q I r1 r2 h
  obtain ⟨i, j, e1, e2, q⟩ := h
  subst e1; subst e2
  obtain ⟨t, rfl⟩ := r1
  obtain ⟨t', rfl⟩ := r2
  exact iadd_int ⟨.int _, H, I.tok _, ⟨_, rfl⟩, q⟩
end


section
variable {X : Cx} {pos : Pos}

def tWhile (c : TT) (tb : TS) : TS := fun D σ H => ∃ W : Nat → St → Hp → Prop, (∃ m, W m σ H) ∧ ∀ m σ H, W m σ H →
  c σ H fun b H1 => if b = true then ∃ N : St → Hp → Prop, (∀ σ' H', N σ' H' → ∃ m', m' < m ∧ W m' σ' H') ∧ tb { D with nx := N, ct := N, bk := D.nx } σ H1 else D.nx σ H1
theorem ps_while {c : Expr} {body : List Stmt} {tc : TT} {tb : TS} (hp : PassesOwn (model X.prog X.w) X.A X.env X.xe) (hc : PT X c tc) (hb : PSs X body tb) : PS X (.While c body [] pos) (tWhile tc tb) := by
  intro pins s σ H D I h
  obtain ⟨W, ⟨m0, w0⟩, turn⟩ := h
  refine wpAny_While (codeAny_whileLoop (fun n s' => ∃ σ' H', Inv X pins σ' H' s' ∧ W n σ' H') ?_ m0 ⟨σ, H, I, w0⟩)
  rintro n s1 ⟨σ1, H1, I1, w1⟩
  refine wpAny_passesOwn hp (thn (hc pins s1 σ1 H1 _ I1 (turn n σ1 H1 w1)) fun b s2 ⟨H2, I2, q2⟩ => ?_)
  cases b with
  | true =>
    obtain ⟨N, hN, q2⟩ := q2
    rw [if_pos rfl]
    refine wpAny_passesOwn hp (thn (hb pins s2 σ1 H2 _ I2 q2) fun f s3 q3 => ?_)
    cases f with
    | next =>
      obtain ⟨σ3, H3, I3, n3⟩ := q3
      obtain ⟨m', hm, w3⟩ := hN σ3 H3 n3
      exact ⟨m', hm, σ3, H3, I3, w3⟩
    | cont =>
      obtain ⟨σ3, H3, I3, n3⟩ := q3
      obtain ⟨m', hm, w3⟩ := hN σ3 H3 n3
      exact ⟨m', hm, σ3, H3, I3, w3⟩
    | brk => exact q3
    | ret v => exact q3
  | false =>
    rw [if_neg Bool.false_ne_true]
    exact wpAny_execs_nil ⟨σ1, H2, I2, q2⟩
end



structure It where
  go : Nat → Hp → Prop
  yld : Nat → Hp → V → Hp → Prop
  stop : Nat → Hp → Prop

def FpOk (X : Cx) (pins : List (Addr × Obj)) (H : Hp) (b : Addr) : Prop :=
  H b = none ∧ b ≠ X.env.locals ∧ b ∉ X.fs ∧ (b ∈ X.ex ∨ X.s₀.heap.objs.size ≤ b) ∧ (∀ x c, X.env.cells.lookup x = some c → c ≠ b) ∧ ∀ p ∈ X.pn ++ pins, p.1 ≠ b
theorem Inv.fpOk {X : Cx} {pins : List (Addr × Obj)} {σ : St} {H H' : Hp} {s : Shared} {b : Addr} (I : Inv X pins σ H s) (hb : s.heap.objs.size ≤ b) (hn : H' b = none) : FpOk X pins H' b := by
  refine ⟨hn, Nat.ne_of_gt (Nat.lt_of_lt_of_le I.lt hb), I.nofs hb, .inr (Nat.le_trans I.sz hb), fun x c e z => ?_, fun p hp z => ?_⟩
  · obtain ⟨v, q⟩ := I.cell x c e
    exact absurd (Nat.lt_of_lt_of_le q.lt (by rw [z]; exact hb)) (Nat.lt_irrefl _)
  · exact absurd (Nat.lt_of_lt_of_le (Heap.lt_size (I.pin p hp).1) (by rw [z]; exact hb)) (Nat.lt_irrefl _)
structure Turn (P : Program) (w : World) (K : PySem.W.Frag) (tg : Expr) (J : It) (fp : List Addr) (it : Addr) (tn : Nat → Heap → Prop) : Prop where
  mem : it ∈ fp
  obj : ∀ i h, tn i h → ∀ b ∈ fp, ∃ o, h.get? b = some o ∧ ∀ v, o.data ≠ .cell v
  keep : ∀ i h h', tn i h → (∀ b ∈ fp, ∀ o, h.get? b = some o → h'.get? b = some o) → tn i h'
  item : ∀ (X : Cx), X.prog = P → X.w = w → X.K = K → X.calm = true → ∀ (i : Nat) (pins : List (Addr × Obj)) (s : Shared) (σ : St) (H : Hp) (E : Value → Shared → Prop), Inv X pins σ H s → (∀ b ∈ fp, FpOk X pins H b) → tn i s.heap → J.go i H →
    wpAny (model P w) X.A (pyNext (.ref it)) (fun r s1 => ∃ u, r = some u ∧
      wpAny (model P w) X.A (letOwnedTupleGo tg (.ref it) u) (fun _ s2 => ∃ x H', Inv X pins σ H' s2 ∧ RelV x u ∧ J.yld i H x H' ∧ tn (i + 1) s2.heap ∧ ∀ b ∈ fp, H' b = none) E s1) E s
  done : ∀ (X : Cx), X.prog = P → X.w = w → X.K = K → X.calm = true → ∀ (i : Nat) (pins : List (Addr × Obj)) (s : Shared) (σ : St) (H : Hp) (E : Value → Shared → Prop), Inv X pins σ H s → (∀ b ∈ fp, FpOk X pins H b) → tn i s.heap → J.stop i H →
    wpAny (model P w) X.A (pyNext (.ref it)) (fun r s1 => r = none ∧ Inv X pins σ H s1) E s
  self : ∀ (A : Around) (i : Nat) (s : Shared) (Q : Value → Shared → Prop) (E : Value → Shared → Prop), tn i s.heap → Q (.ref it) s → wpAny (model P w) A (pyIter (.ref it)) Q E s
abbrev TI := St → Hp → (It → Hp → Prop) → Prop

def PIE (X : Cx) (pins : List (Addr × Obj)) (σ : St) (tg : Expr) (R : It → Hp → Prop) (itv : Value) (s2 : Shared) : Prop :=
  ∃ (it : Addr) (fp : List Addr) (tn : Nat → Heap → Prop) (J : It) (H' : Hp), itv = .ref it ∧ Inv X pins σ H' s2 ∧ Turn X.prog X.w X.K tg J fp it tn ∧ tn 0 s2.heap ∧ (∀ b ∈ fp, FpOk X pins H' b) ∧ R J H'
def PI (X : Cx) (tg iter : Expr) (wi : TI) : Prop :=
  ∀ (pins : List (Addr × Obj)) (s : Shared) (σ : St) (H : Hp) (R : It → Hp → Prop), Inv X pins σ H s → wi σ H R →
    wpAny (model X.prog X.w) X.A (eval iter X.env) (fun v s1 => wpAny (model X.prog X.w) X.A (pyIter v) (PIE X pins σ tg R) X.xe s1) X.xe s


theorem go_of {M : Model} {A : Around} {E : Value → Shared → Prop} {s : Shared} {tg : Expr} {it : Addr} {u : Value} {o : Obj} {n : String} {vs : Array Value} {Q : Unit → Shared → Prop} (ho : s.heap.get? it = some o) (hc : o.cls = .type n) (hd : o.data = .fields vs)
    (hn : ["enumerate", "zip", "dict_itemiterator", "dict_reverseitemiterator", "odict_iterator", "itertools.zip_longest", "itertools.pairwise"].contains n = false) (hQ : Q () s) : wpAny M A (letOwnedTupleGo tg (.ref it) u) Q E s := by
  unfold letOwnedTupleGo
  cases tg <;> first
    | exact wpAny_pure hQ
    | (cases u <;> first
        | exact wpAny_pure hQ
        | (refine wpAny_bind (wpAny_load ho ?_)
           rw [hc, hd]
           show wpAny M A (if (["enumerate", "zip", "dict_itemiterator", "dict_reverseitemiterator", "odict_iterator", "itertools.zip_longest", "itertools.pairwise"].contains n && vs[0]? == some (rawInt _)) = true then _ else _) Q E s
           rw [if_neg (by intro h; rw [hn, Bool.false_and] at h; cases h)]
           exact wpAny_pure hQ))


def Itl (K : PySem.W.Frag) (a : Addr) : It :=
  ⟨fun i H => ∃ xs x, SqL K H a xs ∧ xs[i]? = some x, fun i H x H' => H' = H ∧ ∀ xs, SqL K H a xs → xs[i]? = some x, fun i H => ∃ xs, SqL K H a xs ∧ xs.length ≤ i⟩
def Itr (lo : Int) (n : Nat) : It := ⟨fun i _ => i < n, fun i H x H' => H' = H ∧ x = .int (lo + i), fun i _ => n ≤ i⟩
theorem turn_list {P : Program} {w : World} {K : PySem.W.Frag} {tg : Expr} (a it : Addr) : Turn P w K tg (Itl K a) [it] it (fun i h => h.IsListIter it a i) where
  mem := by simp
  obj := fun i h st b hb => by
    have e : b = it := by simpa using hb
    subst e
    obtain ⟨o, e, c, d⟩ := st
    exact ⟨o, e, fun v z => by rw [d] at z; cases z⟩
  keep := fun i h h' st k => st.at fun o e => k it (by simp) o e
  item := by
    intro X hP hw hK hc i pins s σ H E I hf st hg
    subst hP hw hK
    obtain ⟨xs, x, hq, hx⟩ := hg
    obtain ⟨its, rv, p, hz⟩ := I.list hq
    obtain ⟨u, hu, ru⟩ := rv.get hx
    obtain ⟨f0, f1, f2, f3, f4, f5⟩ := hf it (by simp)
    refine wpAny_pyNext_list_item st p.isList (x := u) (by simpa using hu) fun h' st' sb => ?_
    have I1 : Inv X pins σ H { s with heap := h' } := I.turned (t' := s.toks) (fun b o hb e => (sb.2 b hb).trans e) f0 f1 f3 f4 f5
    obtain ⟨o, e, c, d⟩ := id st'
    exact ⟨u, rfl, go_of (s := { s with heap := h' }) e c d (by decide) ⟨x, H, I1, ru, ⟨rfl, fun ys hy => by rw [I.list_inj hy hq]; exact hx⟩, st', fun b hb => (hf b hb).1⟩⟩
  done := by
    intro X hP hw hK hc i pins s σ H E I hf st hg
    subst hP hw hK
    obtain ⟨xs, hq, hx⟩ := hg
    obtain ⟨its, rv, p, hz⟩ := I.list hq
    obtain ⟨f0, f1, f2, f3, f4, f5⟩ := hf it (by simp)
    have hl := rv.length
    exact wpAny_pyNext_list_end (I.ok.hd hc) st p.isList (by simp; omega) fun h' eb => ⟨rfl, I.turned (t' := s.toks) (fun b o hb e => eb b o hb e) f0 f1 f3 f4 f5⟩
  self := fun _ _ _ _ _ st h => wpAny_pyIter_listiter st h
theorem turn_range {P : Program} {w : World} {K : PySem.W.Frag} {tg : Expr} (it : Addr) (lo : Int) (n : Nat) : Turn P w K tg (Itr lo n) [it] it (fun i h => IsRangeIter h it (lo + (i : Nat) * 1) ((n : Int) - (i : Nat)) 1) where
  mem := by simp
  obj := fun i h st b hb => by
    have e : b = it := by simpa using hb
    subst e
    exact ⟨_, st, fun v z => by
      have z' : Data.fields _ = Data.cell v := z
      cases z'⟩
  keep := fun i h h' st k => k it (by simp) _ st
  item := by
    intro X hP hw hK hc i pins s σ H E I hf st hg
    subst hP hw hK
    obtain ⟨f0, f1, f2, f3, f4, f5⟩ := hf it (by simp)
    have W := Walks.range (prog := X.prog) (w := X.w) (I.ok.hd hc) it lo 1 n
    refine W.item i s _ _ hg st fun v h' tk hv st' kk => ?_
    obtain ⟨t, rfl⟩ := hv
    have I1 : Inv X pins σ H { s with heap := h', toks := tk } := I.turned (fun b o hb e => kk b o (by simpa using hb) e) f0 f1 f3 f4 f5
    refine ⟨_, rfl, go_of (s := { s with heap := h', toks := tk }) (n := "range_iterator") st' rfl rfl (by decide) ⟨.int (lo + i), H, I1, ⟨t, ?_⟩, ⟨rfl, rfl⟩, st', fun b hb => (hf b hb).1⟩⟩
    rw [Int.mul_one]
  done := by
    intro X hP hw hK hc i pins s σ H E I hf st hg
    subst hP hw hK
    obtain ⟨f0, f1, f2, f3, f4, f5⟩ := hf it (by simp)
    exact wpAny_pyNext_range_end (I.ok.hd hc) st (by have : n ≤ i := hg; omega) fun h' eb => ⟨rfl, I.turned (t' := s.toks) (fun b o hb e => eb b o hb e) f0 f1 f3 f4 f5⟩
  self := fun _ _ _ _ _ st h => wpAny_pyIter_rangeiter st h
end L2

namespace L2
open PySem PySem.Spec PyProof.Rows
section
variable {X : Cx} {tg : Expr}
def iList (K : PySem.W.Frag) (tl : TE) : TI := fun σ H R => tl σ H fun x H1 => ∃ a, x = .ref a ∧ (∃ xs, SqL K H1 a xs) ∧ R (Itl K a) H1
theorem pi_list {l : Expr} {tl : TE} (hl : PE X l tl) : PI X tg l (iList X.K tl) := by
  intro pins s σ H R I h
  refine thn (hl pins s σ H _ I h) fun v s1 ⟨x, H1, I1, r1, q1⟩ => ?_
  obtain ⟨a, e, ⟨xs, hq⟩, q⟩ := q1
  subst e
  cases r1
  obtain ⟨its, rv, p, hz⟩ := I1.list hq
  refine wpAny_pyIter_list p.isList ?_
  refine ⟨s1.heap.objs.size, [s1.heap.objs.size], _, _, H1, rfl, I1.kept (t' := s1.toks) fun b o e => Heap.get?_push_of_some _ e, turn_list a _, ⟨_, Heap.get?_push_size _ rfl, rfl, rfl⟩, fun b hb => ?_, q⟩
  have e : b = s1.heap.objs.size := by simpa using hb
  subst e
  exact I1.fpOk (Nat.le_refl _) (I1.hok.fresh (Nat.le_refl _))
theorem range_it {pins : List (Addr × Obj)} {σ : St} {H : Hp} {s : Shared} {R : It → Hp → Prop} {E : Value → Shared → Prop} {lo hi : Int} {t u v : Tok} {tk : Nat} (I : Inv X pins σ H s) (h1 : -(2 ^ 62) ≤ lo) (h2 : lo < 2 ^ 62) (h3 : -(2 ^ 62) ≤ hi) (h4 : hi < 2 ^ 62)
    (q : R (Itr lo (hi - lo).toNat) H) : wpAny (model X.prog X.w) X.A (pyIter (.ref s.heap.objs.size)) (PIE X pins σ tg R) E { s with heap := s.heap.push { cls := .type "range", data := .fields #[.int lo t, .int hi u, .int 1 v] }, toks := tk } := by
  refine wpAny_pyIter_range (IsRange.new ..) (small_one h1 h2 h3 h4) ?_
  have I1 : Inv X pins σ H { s with heap := s.heap.push { cls := .type "range", data := .fields #[.int lo t, .int hi u, .int 1 v] }, toks := tk } := I.kept fun b o e => Heap.get?_push_of_some _ e
  refine ⟨(s.heap.push { cls := .type "range", data := .fields #[.int lo t, .int hi u, .int 1 v] }).objs.size, [(s.heap.push { cls := .type "range", data := .fields #[.int lo t, .int hi u, .int 1 v] }).objs.size], _, _, H, rfl,
    I1.kept (t' := tk) fun b o e => Heap.get?_push_of_some _ e, turn_range _ lo (hi - lo).toNat, ?_, fun b hb => ?_, q⟩
  · have e1 : lo + ((0 : Nat) : Int) * 1 = lo := by simp
    have e2 : (((hi - lo).toNat : Nat) : Int) - ((0 : Nat) : Int) = Builtin.Range.rangeSize lo hi 1 := by rw [rangeSize_one]; split <;> omega
    show IsRangeIter _ _ (lo + ((0 : Nat) : Int) * 1) ((((hi - lo).toNat : Nat) : Int) - ((0 : Nat) : Int)) 1
    rw [e1, e2]
    exact Heap.get?_push_size _ rfl
  · have e : b = (s.heap.push { cls := .type "range", data := .fields #[.int lo t, .int hi u, .int 1 v] }).objs.size := by simpa using hb
    subst e
    exact I1.fpOk (Nat.le_refl _) (I1.hok.fresh (Nat.le_refl _))
def iRng1 (ta : TA) : TI := fun σ H R => ta σ H fun vs H1 => ∃ j : Int, vs = [.int j] ∧ -(2 ^ 62) ≤ j ∧ j < 2 ^ 62 ∧ R (Itr 0 j.toNat) H1
theorem pi_range1 {a : Expr} {ta : TA} {p pos : Pos} (hg : Gl X "range") (hm : X.mg "range" = none) (ha : PA X [a] ta) (hs : starEach [a] X.env = [(false, eval a X.env)] := by rfl) : PI X tg (.Call (.Name "range" p) [a] [] pos) (iRng1 ta) := by
  intro pins s σ H R I h
  refine Call_ (ld_blt I hg hm boot_range (PyProof.Rows.callWith_type1 (thn (ha pos pins s σ H _ I h) fun us s1 ⟨vs, H1, I1, r1, q1⟩ => ?_) hs rfl))
  obtain ⟨j, e, q1, q2, q⟩ := q1
  subst e
  cases r1 with
  | cons r rr =>
    cases rr
    obtain ⟨t, rfl⟩ := r
    exact call_range_1 (range_it I1 (by omega) (by omega) q1 q2 (by simpa using q))
def tFor (wi : TI) (g : TG) (tb : TS) : TS := fun D σ H => wi σ H fun J H1 => ∃ W : Nat → Nat → St → Hp → Prop, (∃ m, W 0 m σ H1) ∧ ∀ i m σ H, W i m σ H →
  (J.stop i H ∧ D.nx σ H) ∨ (J.go i H ∧ ∃ N : St → Hp → Prop, (∀ σ' H', N σ' H' → ∃ m', m' < m ∧ W (i + 1) m' σ' H') ∧ ∀ x H', J.yld i H x H' → g x σ H' fun σ2 H2 => tb { D with nx := N, ct := N, bk := D.nx } σ2 H2)

def pinsAt (fp : List Addr) (h : Heap) : List (Addr × Obj) := fp.filterMap fun b => (h.get? b).map fun o => (b, o)
theorem mem_pinsAt {fp : List Addr} {h : Heap} {b : Addr} {o : Obj} (hb : b ∈ fp) (e : h.get? b = some o) : (b, o) ∈ pinsAt fp h := List.mem_filterMap.mpr ⟨b, hb, by rw [e]; rfl⟩
theorem of_pinsAt {fp : List Addr} {h : Heap} {p : Addr × Obj} (hp : p ∈ pinsAt fp h) : p.1 ∈ fp ∧ h.get? p.1 = some p.2 := by
  obtain ⟨b, hb, e⟩ := List.mem_filterMap.mp hp
  cases q : h.get? b with
  | none => rw [q] at e; cases e
  | some o =>
    rw [q] at e
    have e' : (b, o) = p := Option.some.inj e
    subst e'
    exact ⟨hb, q⟩
theorem Inv.pinned {pins : List (Addr × Obj)} {σ : St} {H : Hp} {s : Shared} {fp : List Addr} (I : Inv X pins σ H s) (hf : ∀ b ∈ fp, FpOk X pins H b) (ho : ∀ b ∈ fp, ∃ o, s.heap.get? b = some o ∧ ∀ v, o.data ≠ .cell v) : Inv X (pins ++ pinsAt fp s.heap) σ H s :=
  I.pins_of fun p hp => (List.mem_append.mp hp).elim (fun z => I.pin p (List.mem_append_right _ z)) fun z => by
    obtain ⟨hb, e⟩ := of_pinsAt z
    obtain ⟨f0, f1, f2, _⟩ := hf p.1 hb
    obtain ⟨o, e', d⟩ := ho p.1 hb
    rw [e] at e'; cases e'
    exact ⟨e, f0, f1, f2, d⟩
theorem Inv.unpinned {pins pl : List (Addr × Obj)} {σ : St} {H : Hp} {s : Shared} (I : Inv X (pins ++ pl) σ H s) : Inv X pins σ H s := I.pins_of fun p hp => I.pin p (List.mem_append_right _ (List.mem_append_left _ hp))
theorem ps_for {iter : Expr} {body : List Stmt} {wi : TI} {g : TG} {tb : TS} {pos : Pos} (hp : PassesOwn (model X.prog X.w) X.A X.env X.xe) (hc : X.calm = true) (hi : PI X tg iter wi) (hg : PG X tg g) (hb : PSs X body tb)
    (hs : ∀ x, foldedSetIterable iter X.env x = pure x := by intro _; rfl) : PS X (.For tg iter body [] pos) (tFor wi g tb) := by
  intro pins s σ H D I h
  refine wpAny_For (thn (hi pins s σ H _ I h) fun v s1 h1 => thn h1 fun itv s2 h2 => ?_) hs
  obtain ⟨it, fp, tn, J, H2, e, I2, T, st2, f2, W, ⟨m0, w0⟩, turn⟩ := h2
  subst e
  -- what stays true of the iterator's objects through the loop
  have stat : ∀ {H' : Hp}, (∀ b ∈ fp, H' b = none) → ∀ b ∈ fp, FpOk X pins H' b := fun hn b hb => ⟨hn b hb, (f2 b hb).2⟩
  refine codeAny_forLoop_any (fun n s' => ∃ i σ' H', Inv X pins σ' H' s' ∧ tn i s'.heap ∧ (∀ b ∈ fp, H' b = none) ∧ W i n σ' H') ?_ m0 ⟨0, σ, H2, I2, st2, fun b hb => (f2 b hb).1, w0⟩
  rintro n s3 ⟨i, σ3, H3, I3, st3, fr3, w3⟩
  rcases turn i n σ3 H3 w3 with ⟨stop, qn⟩ | ⟨go, N, hN, step⟩
  · refine wpAny_passesOwn hp (thn (T.done X rfl rfl rfl hc i pins s3 σ3 H3 X.xe I3 (stat fr3) st3 stop) fun r s4 ⟨hr, I4⟩ => ?_)
    subst hr
    exact wpAny_execs_nil ⟨σ3, H3, I4, qn⟩
  · refine wpAny_passesOwn hp (thn (T.item X rfl rfl rfl hc i pins s3 σ3 H3 X.xe I3 (stat fr3) st3 go) fun r s4 ⟨u, hr, h4⟩ => ?_)
    subst hr
    refine wpAny_passesOwn hp (thn h4 fun _ s5 ⟨x, H5, I5, r5, y5, st5, fr5⟩ => ?_)
    have I5' := I5.pinned (stat fr5) (T.obj _ _ st5)
    refine wpAny_passesOwn hp (thn (hg _ s5 σ3 H5 x u _ I5' r5 (step x H5 y5)) fun _ s6 ⟨σ6, H6, I6, q6⟩ => ?_)
    refine wpAny_passesOwn hp (thn (hb _ s6 σ6 H6 _ I6 q6) fun f s7 q7 => ?_)
    have again : ∀ {σ7 : St} {H7 : Hp}, Inv X (pins ++ pinsAt fp s5.heap) σ7 H7 s7 → N σ7 H7 → ∃ m, m < n ∧ ∃ i σ' H', Inv X pins σ' H' s7 ∧ tn i s7.heap ∧ (∀ b ∈ fp, H' b = none) ∧ W i m σ' H' := fun {σ7 H7} I7 n7 => by
      obtain ⟨m', hm, w7⟩ := hN σ7 H7 n7
      refine ⟨m', hm, i + 1, σ7, H7, I7.unpinned, T.keep _ _ _ st5 fun b hb o e => (I7.pin (b, o) (List.mem_append_right _ (List.mem_append_right _ (mem_pinsAt hb e)))).1, fun b hb => ?_, w7⟩
      obtain ⟨o, e, d⟩ := T.obj _ _ st5 b hb
      exact (I7.pin (b, o) (List.mem_append_right _ (List.mem_append_right _ (mem_pinsAt hb e)))).2.1
    cases f with
    | next => obtain ⟨σ7, H7, I7, n7⟩ := q7; exact again I7 n7
    | cont => obtain ⟨σ7, H7, I7, n7⟩ := q7; exact again I7 n7
    | brk => obtain ⟨σ7, H7, I7, q7⟩ := q7; exact ⟨σ7, H7, I7.unpinned, q7⟩
    | ret v => obtain ⟨x7, σ7, H7, I7, r7, q7⟩ := q7; exact ⟨x7, σ7, H7, I7.unpinned, r7, q7⟩
end



theorem for_list {K : PySem.W.Frag} {a : Addr} {xs : List V} {g : TG} {tb : TS} {D : Ends} {σ : St} {H : Hp} (Pv : Nat → St → Hp → Prop) (h0 : Pv 0 σ H) (hl : ∀ i σ H, i ≤ xs.length → Pv i σ H → SqL K H a xs)
    (hs : ∀ i x σ H, xs[i]? = some x → Pv i σ H → g x σ H fun σ2 H2 => tb { D with nx := Pv (i + 1), ct := Pv (i + 1), bk := D.nx } σ2 H2) (hd : ∀ σ H, Pv xs.length σ H → D.nx σ H) :
    ∃ W : Nat → Nat → St → Hp → Prop, (∃ m, W 0 m σ H) ∧ ∀ i m σ H, W i m σ H →
      ((Itl K a).stop i H ∧ D.nx σ H) ∨ ((Itl K a).go i H ∧ ∃ N : St → Hp → Prop, (∀ σ' H', N σ' H' → ∃ m', m' < m ∧ W (i + 1) m' σ' H') ∧ ∀ x H', (Itl K a).yld i H x H' → g x σ H' fun σ2 H2 => tb { D with nx := N, ct := N, bk := D.nx } σ2 H2) := by
  refine ⟨fun i m σ H => m = xs.length - i ∧ i ≤ xs.length ∧ Pv i σ H, ⟨xs.length, by simp, Nat.zero_le _, h0⟩, ?_⟩
  rintro i m σ H ⟨rfl, hi, p⟩
  have q := hl i σ H hi p
  by_cases hlt : i < xs.length
  · refine .inr ⟨⟨xs, xs[i], q, by simp [hlt]⟩, Pv (i + 1), fun σ' H' p' => ⟨xs.length - (i + 1), by omega, rfl, hlt, p'⟩, fun x H' y => ?_⟩
    obtain ⟨e, y⟩ := y
    subst e
    exact hs i x σ _ (y xs q) p
  · have e : i = xs.length := by omega
    subst e
    exact .inl ⟨⟨xs, q, Nat.le_refl _⟩, hd σ H p⟩
theorem for_range {lo : Int} {n : Nat} {g : TG} {tb : TS} {D : Ends} {σ : St} {H : Hp} (Pv : Nat → St → Hp → Prop) (h0 : Pv 0 σ H)
    (hs : ∀ i σ H, i < n → Pv i σ H → g (.int (lo + i)) σ H fun σ2 H2 => tb { D with nx := Pv (i + 1), ct := Pv (i + 1), bk := D.nx } σ2 H2) (hd : ∀ σ H, Pv n σ H → D.nx σ H) :
    ∃ W : Nat → Nat → St → Hp → Prop, (∃ m, W 0 m σ H) ∧ ∀ i m σ H, W i m σ H →
      ((Itr lo n).stop i H ∧ D.nx σ H) ∨ ((Itr lo n).go i H ∧ ∃ N : St → Hp → Prop, (∀ σ' H', N σ' H' → ∃ m', m' < m ∧ W (i + 1) m' σ' H') ∧ ∀ x H', (Itr lo n).yld i H x H' → g x σ H' fun σ2 H2 => tb { D with nx := N, ct := N, bk := D.nx } σ2 H2) := by
  refine ⟨fun i m σ H => m = n - i ∧ i ≤ n ∧ Pv i σ H, ⟨n, by simp, Nat.zero_le _, h0⟩, ?_⟩
  rintro i m σ H ⟨rfl, hi, p⟩
  by_cases hlt : i < n
  · refine .inr ⟨hlt, Pv (i + 1), fun σ' H' p' => ⟨n - (i + 1), by omega, rfl, hlt, p'⟩, fun x H' y => ?_⟩
    obtain ⟨e, y⟩ := y
    subst e y
    exact hs i σ _ hlt p
  · have e : i = n := by omega
    subst e
    exact .inl ⟨Nat.le_refl _, hd σ H p⟩

end L2

namespace L2
open PySem PySem.Spec PyProof.Rows

abbrev R2 := V → V → Hp → VK → Prop

def OpR (X : Cx) (f : Value → Value → Sem Value) (r : R2) : Prop :=
  ∀ (pins : List (Addr × Obj)) (s : Shared) (σ : St) (H : Hp) (x y : V) (v u : Value) (Q : VK), Inv X pins σ H s → RelV x v → RelV y u → r x y H Q →
    wpAny (model X.prog X.w) X.A (f v u) (EP X pins σ Q) X.xe s

def UnR (X : Cx) (f : Value → Sem Value) (r : V → Hp → VK → Prop) : Prop :=
  ∀ (pins : List (Addr × Obj)) (s : Shared) (σ : St) (H : Hp) (x : V) (v : Value) (Q : VK), Inv X pins σ H s → RelV x v → r x H Q →
    wpAny (model X.prog X.w) X.A (f v) (EP X pins σ Q) X.xe s

def CallR (X : Cx) (f : Value) (r : List V → Hp → VK → Prop) : Prop :=
  ∀ (pins : List (Addr × Obj)) (s : Shared) (σ : St) (H : Hp) (xs : List V) (us : List Value) (Q : VK), Inv X pins σ H s → Vals xs us → r xs H Q →
    wpAny (model X.prog X.w) X.A (call f us) (EP X pins σ Q) X.xe s

def TruR (X : Cx) (r : V → Hp → (Bool → Hp → Prop) → Prop) : Prop :=
  ∀ (pins : List (Addr × Obj)) (s : Shared) (σ : St) (H : Hp) (x : V) (v : Value) (Q : Bool → Hp → Prop), Inv X pins σ H s → RelV x v → r x H Q →
    wpAny (model X.prog X.w) X.A (truthy v) (TP X pins σ Q) X.xe s

def tOp (r : R2) (ta tb : TE) : TE := fun σ H Q => ta σ H fun x H1 => tb σ H1 fun y H2 => r x y H2 Q
def tUn (r : V → Hp → VK → Prop) (ta : TE) : TE := fun σ H Q => ta σ H fun x H1 => r x H1 Q

def rI (C : Int → Int → Prop) (g : Int → Int → V) : R2 := fun x y H Q => ∃ i j, x = .int i ∧ y = .int j ∧ C i j ∧ Q (g i j) H
def rI0 (g : Int → Int → V) : R2 := fun x y H Q => ∃ i j, x = .int i ∧ y = .int j ∧ Q (g i j) H
def rU (g : Int → V) : V → Hp → VK → Prop := fun x H Q => ∃ i, x = .int i ∧ Q (g i) H

section
variable {X : Cx} {a b c : Expr} {ta tb tc : TE} {pos : Pos}

theorem binT (ha : PE X a ta) (hb : PE X b tb) {pins : List (Addr × Obj)} {s : Shared} {σ : St} {H : Hp} {R : V → V → Hp → Prop} (I : Inv X pins σ H s)
    (h : ta σ H fun x H1 => tb σ H1 fun y H2 => R x y H2) {Q : Value → Shared → Prop} {f : Value → Value → Sem Value}
    (hf : ∀ v u s2 x y H2, Inv X pins σ H2 s2 → RelV x v → RelV y u → R x y H2 → wpAny (model X.prog X.w) X.A (f v u) Q X.xe s2) :
    wpAny (model X.prog X.w) X.A (eval a X.env) (fun v s₁ => wpAny (model X.prog X.w) X.A (eval b X.env) (fun u s₂ => wpAny (model X.prog X.w) X.A (f v u) Q X.xe s₂) X.xe s₁) X.xe s := by
  refine thn (ha pins s σ H _ I h) fun v s1 ⟨x, H1, I1, r1, q1⟩ => ?_
  refine thn (hb pins s1 σ H1 _ I1 q1) fun u s2 ⟨y, H2, I2, r2, q2⟩ => ?_
  exact hf v u s2 x y H2 I2 r1 r2 q2

theorem pe_op {op : Operator} {r : R2} (ho : OpR X (binaryOp op) r) (ha : PE X a ta) (hb : PE X b tb) : PE X (.BinOp a op b pos) (tOp r ta tb) := by
  intro pins s σ H Q I h
  exact wpAny_BinOp (binT ha hb I h fun v u s2 x y H2 I2 rx ry q => ho pins s2 σ H2 x y v u Q I2 rx ry q)
theorem pe_un {op : UnaryOp} {r : V → Hp → VK → Prop} (ho : UnR X (unaryOp op) r) (ha : PE X a ta) : PE X (.UnaryOp op a pos) (tUn r ta) := by
  intro pins s σ H Q I h
  exact UnaryOp_ (thn (ha pins s σ H _ I h) fun v s1 ⟨x, H1, I1, r1, q1⟩ => ho pins s1 σ H1 x v Q I1 r1 q1)

theorem opI {f : Value → Value → Sem Value} {C : Int → Int → Prop} {g : Int → Int → Int}
    (rule : ∀ (i j : Int) (t u : Tok) (s : Shared) (Q : Value → Shared → Prop) (E : Value → Shared → Prop), C i j → Q (.int (g i j) s.toks) { s with toks := s.toks + 1 } → wpAny (model X.prog X.w) X.A (f (.int i t) (.int j u)) Q E s) :
    OpR X f (rI C fun i j => .int (g i j)) := by
  intro pins s σ H x y v u Q I rx ry h
  obtain ⟨i, j, rfl, rfl, hc, q⟩ := h
  obtain ⟨t, rfl⟩ := rx
  obtain ⟨t', rfl⟩ := ry
  exact rule i j t t' s _ _ hc ⟨.int (g i j), H, I.tok _, ⟨_, rfl⟩, q⟩
theorem opI0 {f : Value → Value → Sem Value} {g : Int → Int → Int}
    (rule : ∀ (i j : Int) (t u : Tok) (s : Shared) (Q : Value → Shared → Prop) (E : Value → Shared → Prop), Q (.int (g i j) s.toks) { s with toks := s.toks + 1 } → wpAny (model X.prog X.w) X.A (f (.int i t) (.int j u)) Q E s) :
    OpR X f (rI0 fun i j => .int (g i j)) := by
  intro pins s σ H x y v u Q I rx ry h
  obtain ⟨i, j, rfl, rfl, q⟩ := h
  obtain ⟨t, rfl⟩ := rx
  obtain ⟨t', rfl⟩ := ry
  exact rule i j t t' s _ _ ⟨.int (g i j), H, I.tok _, ⟨_, rfl⟩, q⟩
theorem opB0 {f : Value → Value → Sem Value} {g : Int → Int → Bool}
    (rule : ∀ (i j : Int) (t u : Tok) (s : Shared) (Q : Value → Shared → Prop) (E : Value → Shared → Prop), Q (.bool (g i j)) s → wpAny (model X.prog X.w) X.A (f (.int i t) (.int j u)) Q E s) :
    OpR X f (rI0 fun i j => .bl (g i j)) := by
  intro pins s σ H x y v u Q I rx ry h
  obtain ⟨i, j, rfl, rfl, q⟩ := h
  obtain ⟨t, rfl⟩ := rx
  obtain ⟨t', rfl⟩ := ry
  exact rule i j t t' s _ _ ⟨.bl (g i j), H, I, rfl, q⟩

def CDiv (i j : Int) : Prop := 0 < j ∧ j < 1073741824
def CPow (i j : Int) : Prop := 0 ≤ j ∧ j ≤ 1000000 ∧ i.natAbs < 2 ^ 64
def CMul (i j : Int) : Prop := (-(2 ^ 64) < i ∧ i < 2 ^ 64) ∨ (-(2 ^ 64) < j ∧ j < 2 ^ 64)
theorem CMul.ok {i j : Int} (h : CMul i j) : IntMulOk i j := by
  rcases h with ⟨h1, h2⟩ | ⟨h1, h2⟩
  · exact .of_left (intBits_le_64 h1 h2)
  · exact .of_right (intBits_le_64 h1 h2)
theorem op_add : OpR X (binaryOp .Add) (rI0 fun i j => .int (i + j)) := opI0 fun _ _ _ _ _ _ _ q => add_int q
theorem op_sub : OpR X (binaryOp .Sub) (rI0 fun i j => .int (i - j)) := opI0 fun _ _ _ _ _ _ _ q => sub_int q
theorem op_mul : OpR X (binaryOp .Mult) (rI CMul fun i j => .int (i * j)) := opI fun _ _ _ _ _ _ _ hc q => mul_int q hc.ok

theorem op_fdiv : OpR X (binaryOp .FloorDiv) (rI CDiv fun i j => .int (i / j)) := opI fun i j _ _ _ _ _ hc q => by
  have h1 : (0 : Int) < j := hc.1
  have h2 : j < 1073741824 := hc.2
  exact floordiv_int (by omega) (by rw [Int.fdiv_eq_ediv_of_nonneg i (by omega)]; exact q) (.inl (PyProof.noPylong_small (by omega)))
theorem op_mod : OpR X (binaryOp .Mod) (rI (fun _ j => 0 < j) fun i j => .int (i % j)) := opI fun i j _ _ _ _ _ hc q => by
  have h1 : (0 : Int) < j := hc
  exact mod_int' (by omega) (by rw [Int.fmod_eq_emod_of_nonneg i (by omega)]; exact q)
theorem op_pow : OpR X (binaryOp .Pow) (rI CPow fun i j => .int (i ^ j.toNat)) := opI fun _ _ _ _ _ _ _ hc q => pow_int_small hc.1 hc.2.1 hc.2.2 q
theorem unI {f : Value → Sem Value} {g : Int → Int}
    (rule : ∀ (i : Int) (t : Tok) (s : Shared) (Q : Value → Shared → Prop) (E : Value → Shared → Prop), Q (.int (g i) s.toks) { s with toks := s.toks + 1 } → wpAny (model X.prog X.w) X.A (f (.int i t)) Q E s) :
    UnR X f (rU fun i => .int (g i)) := by
  intro pins s σ H x v Q I rx h
  obtain ⟨i, rfl, q⟩ := h
  obtain ⟨t, rfl⟩ := rx
  exact rule i t s _ _ ⟨.int (g i), H, I.tok _, ⟨_, rfl⟩, q⟩
theorem un_neg : UnR X (unaryOp .USub) (rU fun i => .int (-i)) := unI fun _ _ _ _ _ q => neg_int q
end



def scal : V → V → Bool
  | .non, .non => true | .non, .int _ => true | .int _, .non => true | .non, .bl _ => true | .bl _, .non => true | .non, .str _ => true | .str _, .non => true
  | .int _, .int _ => true | .bl _, .bl _ => true | .str _, .str _ => true | .byt _, .byt _ => true
  | .int _, .str _ => true | .str _, .int _ => true | .bl _, .str _ => true | .str _, .bl _ => true
  | _, _ => false
def rEq : R2 := fun x y H Q => scal x y = true ∧ Q (.bl (decide (x = y))) H
def rNe : R2 := fun x y H Q => scal x y = true ∧ Q (.bl (!decide (x = y))) H

theorem dec_int {i j : Int} : decide (V.int i = V.int j) = (i == j) := by
  rw [Bool.eq_iff_iff]
  simp
theorem dec_bl {i j : Bool} : decide (V.bl i = V.bl j) = (i == j) := by
  rw [Bool.eq_iff_iff]
  simp
theorem dec_str {i j : Str} : decide (V.str i = V.str j) = (i == j) := by
  rw [Bool.eq_iff_iff]
  simp
theorem dec_byt {i j : Array UInt8} : decide (V.byt i = V.byt j) = (i.toList == j.toList) := by
  rw [Bool.eq_iff_iff]
  cases i
  cases j
  simp

section
variable {X : Cx} {a b c : Expr} {ta tb tc : TE} {pos : Pos}
theorem fin_bl {pins : List (Addr × Obj)} {σ : St} {H : Hp} {s : Shared} {Q : VK} {k k' : Bool} (I : Inv X pins σ H s) (q : Q (.bl k) H) (e : k = k') : EP X pins σ Q (.bool k') s := by
  subst e
  exact ⟨.bl k, H, I, rfl, q⟩
theorem op_eq : OpR X (compareOp .Eq) rEq := by
  intro pins s σ H x y v u Q I rx ry h
  obtain ⟨hs, q⟩ := h
  cases x with
  | non =>
    cases rx
    cases y with
    | non => cases ry; exact PySem.EqNone.eq_none_none (fin_bl I q (by simp))
    | bl j => cases ry; exact PySem.EqNone.eq_none_bool (fin_bl I q (by simp))
    | int j => obtain ⟨t', rfl⟩ := ry; exact PySem.EqNone.eq_none_int (fin_bl I q (by simp))
    | str j => obtain ⟨t', rfl⟩ := ry; exact PySem.EqNone.eq_none_str (fin_bl I q (by simp))
    | _ => exact absurd (show false = true from hs) Bool.false_ne_true
  | bl i =>
    cases rx
    cases y with
    | non => cases ry; exact PySem.EqNone.eq_bool_none (fin_bl I q (by simp))
    | bl j => cases ry; exact eq_bool (fin_bl I q dec_bl)
    | str j => obtain ⟨t', rfl⟩ := ry; exact PySem.EqMixed.eq_bool_str (fin_bl I q (by simp))
    | _ => exact absurd (show false = true from hs) Bool.false_ne_true
  | int i =>
    obtain ⟨t, rfl⟩ := rx
    cases y with
    | non => cases ry; exact PySem.EqNone.eq_int_none (fin_bl I q (by simp))
    | int j => obtain ⟨t', rfl⟩ := ry; exact eq_int (fin_bl I q dec_int)
    | str j => obtain ⟨t', rfl⟩ := ry; exact PySem.EqMixed.eq_int_str (fin_bl I q (by simp))
    | _ => exact absurd (show false = true from hs) Bool.false_ne_true
  | str i =>
    obtain ⟨t, rfl⟩ := rx
    cases y with
    | non => cases ry; exact PySem.EqNone.eq_str_none (fin_bl I q (by simp))
    | bl j => cases ry; exact PySem.EqMixed.eq_str_bool (fin_bl I q (by simp))
    | int j => obtain ⟨t', rfl⟩ := ry; exact PySem.EqMixed.eq_str_int (fin_bl I q (by simp))
    | str j => obtain ⟨t', rfl⟩ := ry; exact eq_str (fin_bl I q dec_str)
    | _ => exact absurd (show false = true from hs) Bool.false_ne_true
  | byt i =>
    obtain ⟨t, rfl⟩ := rx
    cases y with
    | byt j => obtain ⟨t', rfl⟩ := ry; exact PySem.W.eq_bytes (fin_bl I q dec_byt)
    | _ => exact absurd (show false = true from hs) Bool.false_ne_true
  | _ => cases y <;> exact absurd (show false = true from hs) Bool.false_ne_true
theorem op_ne : OpR X (compareOp .NotEq) rNe := by
  intro pins s σ H x y v u Q I rx ry h
  obtain ⟨hs, q⟩ := h
  cases x with
  | non =>
    cases rx
    cases y with
    | non => cases ry; exact PySem.EqNone.ne_none_none (fin_bl I q (by simp))
    | bl j => cases ry; exact PySem.EqNone.ne_none_bool (fin_bl I q (by simp))
    | int j => obtain ⟨t', rfl⟩ := ry; exact PySem.EqNone.ne_none_int (fin_bl I q (by simp))
    | str j => obtain ⟨t', rfl⟩ := ry; exact PySem.EqNone.ne_none_str (fin_bl I q (by simp))
    | _ => exact absurd (show false = true from hs) Bool.false_ne_true
  | bl i =>
    cases rx
    cases y with
    | non => cases ry; exact PySem.EqNone.ne_bool_none (fin_bl I q (by simp))
    | bl j => cases ry; exact ne_bool (fin_bl I q (congrArg not dec_bl))
    | str j => obtain ⟨t', rfl⟩ := ry; exact PySem.EqMixed.ne_bool_str (fin_bl I q (by simp))
    | _ => exact absurd (show false = true from hs) Bool.false_ne_true
  | int i =>
    obtain ⟨t, rfl⟩ := rx
    cases y with
    | non => cases ry; exact PySem.EqNone.ne_int_none (fin_bl I q (by simp))
    | int j => obtain ⟨t', rfl⟩ := ry; exact ne_int (fin_bl I q (congrArg not dec_int))
    | str j => obtain ⟨t', rfl⟩ := ry; exact PySem.EqMixed.ne_int_str (fin_bl I q (by simp))
    | _ => exact absurd (show false = true from hs) Bool.false_ne_true
  | str i =>
    obtain ⟨t, rfl⟩ := rx
    cases y with
    | non => cases ry; exact PySem.EqNone.ne_str_none (fin_bl I q (by simp))
    | bl j => cases ry; exact PySem.EqMixed.ne_str_bool (fin_bl I q (by simp))
    | int j => obtain ⟨t', rfl⟩ := ry; exact PySem.EqMixed.ne_str_int (fin_bl I q (by simp))
    | str j => obtain ⟨t', rfl⟩ := ry; exact ne_str (fin_bl I q (congrArg not dec_str))
    | _ => exact absurd (show false = true from hs) Bool.false_ne_true
  | byt i =>
    obtain ⟨t, rfl⟩ := rx
    cases y with
    | byt j => obtain ⟨t', rfl⟩ := ry; exact PySem.W.ne_bytes (fin_bl I q (congrArg not dec_byt))
    | _ => exact absurd (show false = true from hs) Bool.false_ne_true
  | _ => cases y <;> exact absurd (show false = true from hs) Bool.false_ne_true

theorem op_lt : OpR X (compareOp .Lt) (rI0 fun i j => .bl (decide (i < j))) := opB0 fun _ _ _ _ _ _ _ q => lt_int q
theorem op_le : OpR X (compareOp .LtE) (rI0 fun i j => .bl (decide (i ≤ j))) := opB0 fun _ _ _ _ _ _ _ q => le_int q
theorem op_gt : OpR X (compareOp .Gt) (rI0 fun i j => .bl (decide (j < i))) := opB0 fun _ _ _ _ _ _ _ q => gt_int q
theorem op_ge : OpR X (compareOp .GtE) (rI0 fun i j => .bl (decide (j ≤ i))) := opB0 fun _ _ _ _ _ _ _ q => ge_int q
theorem op_in_str : OpR X (compareOp .In) (fun x y H Q => ∃ i j, x = .str i ∧ y = .str j ∧ Q (.bl (!(Builtin.Str.occurrences j i 0 j.length 1).isEmpty)) H) := by
  intro pins s σ H x y v u Q I rx ry h
  obtain ⟨i, j, rfl, rfl, q⟩ := h
  obtain ⟨t, rfl⟩ := rx
  obtain ⟨t', rfl⟩ := ry
  exact in_str (fin_bl I q rfl)


theorem op_notin_str : OpR X (compareOp .NotIn) (fun x y H Q => ∃ i j, x = .str i ∧ y = .str j ∧ Q (.bl (!(!(Builtin.Str.occurrences j i 0 j.length 1).isEmpty))) H) := by
  intro pins s σ H x y v u Q I rx ry h
  obtain ⟨i, j, rfl, rfl, q⟩ := h
  obtain ⟨t, rfl⟩ := rx
  obtain ⟨t', rfl⟩ := ry
  exact notIn_str (fin_bl I q rfl)

theorem OpR.or {f : Value → Value → Sem Value} {r r' : R2} (h : OpR X f r) (h' : OpR X f r') : OpR X f (fun x y H Q => r x y H Q ∨ r' x y H Q) := by
  intro pins s σ H x y v u Q I rx ry q
  rcases q with q | q
  · exact h pins s σ H x y v u Q I rx ry q
  · exact h' pins s σ H x y v u Q I rx ry q

theorem nomark (b : Expr) {op : CmpOp} (h : op ≠ .In := by decide) (h2 : op ≠ .NotIn := by decide) : behindInMarks op b = false := by
  have e1 : (op == CmpOp.In) = false := by cases op <;> first | rfl | exact absurd rfl h
  have e2 : (op == CmpOp.NotIn) = false := by cases op <;> first | rfl | exact absurd rfl h2
  cases b <;> simp [behindInMarks, e1, e2]

theorem pe_cmpR {op : CmpOp} {r : R2} (ho : OpR X (compareOp op) r) (ha : PE X a ta) (hb : PE X b tb) (hm : behindInMarks op b = false) : PE X (.Compare a [op] [b] pos) (tOp r ta tb) := by
  intro pins s σ H Q I h
  exact wpAny_Compare1 (binT ha hb I h fun v u s2 x y H2 I2 rx ry q => ho pins s2 σ H2 x y v u Q I2 rx ry q) hm

def tTest (t : TE) : TT := fun σ H Q => t σ H fun x H' => ∃ k, x = .bl k ∧ Q k H'
theorem pt_cmpR {op : CmpOp} {r : R2} (ho : OpR X (compareOp op) r) (ha : PE X a ta) (hb : PE X b tb) (hm : behindInMarks op b = false) : PT X (.Compare a [op] [b] pos) (tTest (tOp r ta tb)) := by
  intro pins s σ H Q I h
  refine wpAny_isTrue_Compare1 (thn (ha pins s σ H _ I h) fun v s1 ⟨x, H1, I1, r1, q1⟩ => thn (hb pins s1 σ H1 _ I1 q1) fun u s2 ⟨y, H2, I2, r2, q2⟩ =>
    thn (ho pins s2 σ H2 x y v u _ I2 r1 r2 q2) fun c s3 ⟨z, H3, I3, r3, k, e, q3⟩ => ?_) hm
  subst e
  cases r3
  exact wpAny_truthy_bool ⟨H3, I3, q3⟩

def tChain (r r' : R2) (ta tb tc : TE) : TE := fun σ H Q => ta σ H fun x H1 => tb σ H1 fun y H2 => r x y H2 fun z H3 => ∃ k, z = .bl k ∧
  (if k = true then tc σ H3 fun w' H4 => r' y w' H4 Q else Q (.bl false) H3)
theorem pe_chain {op op' : CmpOp} {r r' : R2} (ho : OpR X (compareOp op) r) (ho' : OpR X (compareOp op') r') (ha : PE X a ta) (hb : PE X b tb) (hc : PE X c tc)
    (hm : lastMarks [op, op'] [b, c] = false := by with_unfolding_all rfl) : PE X (.Compare a [op, op'] [b, c] pos) (tChain r r' ta tb tc) := by
  intro pins s σ H Q I h
  refine Compare_chain (thn (ha pins s σ H _ I h) fun v s1 ⟨x, H1, I1, r1, q1⟩ => chain_link (thn (hb pins s1 σ H1 _ I1 q1) fun u s2 ⟨y, H2, I2, r2, q2⟩ =>
    thn (ho pins s2 σ H2 x y v u _ I2 r1 r2 q2) fun d s3 ⟨z, H3, I3, r3, k, e, q3⟩ => ?_)) hm
  subst e
  cases r3
  refine wpAny_truthy_bool ?_
  cases k with
  | false => exact ite_ff ⟨.bl false, H3, I3, rfl, q3⟩
  | true => exact ite_tt (chain_last (thn (hc pins s3 σ H3 _ I3 q3) fun w' s4 ⟨z', H4, I4, r4, q4⟩ => ho' pins s4 σ H4 y z' u w' Q I4 r2 r4 q4))
theorem pt_chain {op op' : CmpOp} {r r' : R2} (ho : OpR X (compareOp op) r) (ho' : OpR X (compareOp op') r') (ha : PE X a ta) (hb : PE X b tb) (hc : PE X c tc)
    (hm : lastMarks [op, op'] [b, c] = false := by with_unfolding_all rfl) : PT X (.Compare a [op, op'] [b, c] pos) (tTest (tChain r r' ta tb tc)) := by
  intro pins s σ H Q I h
  refine isTrue_chain (thn (ha pins s σ H _ I h) fun v s1 ⟨x, H1, I1, r1, q1⟩ => test_link (thn (hb pins s1 σ H1 _ I1 q1) fun u s2 ⟨y, H2, I2, r2, q2⟩ =>
    thn (ho pins s2 σ H2 x y v u _ I2 r1 r2 q2) fun d s3 ⟨z, H3, I3, r3, k, e, q3⟩ => ?_)) hm
  subst e
  cases r3
  refine wpAny_truthy_bool ?_
  cases k with
  | false =>
    obtain ⟨k', e', q'⟩ := q3
    cases e'
    exact ite_ff ⟨H3, I3, q'⟩
  | true =>
    refine ite_tt (test_last (thn (hc pins s3 σ H3 _ I3 q3) fun w' s4 ⟨z', H4, I4, r4, q4⟩ => thn (ho' pins s4 σ H4 y z' u w' _ I4 r2 r4 q4) fun d' s5 ⟨z2, H5, I5, r5, k2, e2, q5⟩ => ?_))
    subst e2
    cases r5
    exact wpAny_truthy_bool ⟨H5, I5, q5⟩



def TruV (K : PySem.W.Frag) (x : V) (H : Hp) (k : Bool) : Prop :=
  match x with
  | .non => k = false
  | .bl b => k = b
  | .int i => k = (i != 0)
  | .str y => y.length ≤ sizeLine ∧ k = ((y.length : Int) != 0)
  | .byt y => y.size ≤ sizeLine ∧ k = ((y.size : Int) != 0)
  | .ref p => (∃ xs, SqL K H p xs ∧ k = !xs.isEmpty) ∨ (∃ xs, SqT K H p xs ∧ k = !xs.isEmpty) ∨ ∃ kvs, H p = some (.dK kvs) ∧ k = !kvs.isEmpty
  | _ => False
theorem isEmpty_kv {κ : Type} {kvs : List (κ × V)} {vs : List (κ × Value)} (r : KV kvs vs) : (!vs.isEmpty) = !kvs.isEmpty := by
  cases r <;> rfl
theorem isEmpty_of {xs : List V} {its : List Value} (r : Vals xs its) : (!its.toArray.isEmpty) = !xs.isEmpty := by
  cases r <;> simp
theorem line63 : (sizeLine : Nat) < 2 ^ 63 := by rw [sizeLine_eq]; decide
theorem tru_ok : TruR X (fun x H Q => ∃ k, TruV X.K x H k ∧ Q k H) := by
  intro pins s σ H x v Q I rx h
  obtain ⟨k, e, q⟩ := h
  have hl := line63
  have hs : sizeLine = 16777216 := sizeLine_eq
  cases x with
  | non =>
    cases rx
    have e' : k = false := e
    subst e'
    exact truthy_none ⟨H, I, q⟩
  | bl b =>
    cases rx
    have e' : k = b := e
    subst e'
    exact wpAny_truthy_bool ⟨H, I, q⟩
  | int i =>
    obtain ⟨t, rfl⟩ := rx
    have e' : k = (i != 0) := e
    subst e'
    exact PySem.P.truthy_int ⟨H, I, q⟩
  | str y =>
    obtain ⟨t, rfl⟩ := rx
    obtain ⟨hy, e'⟩ : y.length ≤ sizeLine ∧ k = ((y.length : Int) != 0) := e
    subst e'
    exact PySem.P.truthy_str (by omega) ⟨H, I.tok _, q⟩
  | byt y =>
    obtain ⟨t, rfl⟩ := rx
    obtain ⟨hy, e'⟩ : y.size ≤ sizeLine ∧ k = ((y.size : Int) != 0) := e
    subst e'
    exact PySem.W.truthy_bytes (by omega) ⟨H, I.tok _, q⟩
  | ref p =>
    cases rx
    have e' : (∃ xs, SqL X.K H p xs ∧ k = !xs.isEmpty) ∨ (∃ xs, SqT X.K H p xs ∧ k = !xs.isEmpty) ∨ ∃ kvs, H p = some (.dK kvs) ∧ k = !kvs.isEmpty := e
    rcases e' with ⟨xs, hx, e'⟩ | ⟨xs, hx, e'⟩ | ⟨kvs, hx, e'⟩
    · subst e'
      obtain ⟨its, r, pl, hz⟩ := I.list hx
      have hlen := r.length
      exact wpAny_truthy_list pl.isList (by simp only [List.size_toArray]; omega) ⟨H, I.tok _, by rw [isEmpty_of r]; exact q⟩
    · subst e'
      obtain ⟨its, r, pl, hz⟩ := I.tuple hx
      have hlen := r.length
      exact truthy_tuple pl (by simp only [List.size_toArray]; omega) ⟨H, I.tok _, by rw [isEmpty_of r]; exact q⟩
    · subst e'
      obtain ⟨hz, hS, vs, r, m⟩ : kvs.length ≤ sizeLine ∧ (p == sysModules) = false ∧ ∃ vs, KV kvs vs ∧ s.heap.DictOf (mixKind X.prog X.w) p vs := I.hok p _ hx
      have hlen : kvs.length = vs.length := Paired.length r
      exact wpAny_truthy_dict hS m (by omega) ⟨H, I.tok _, by rw [isEmpty_kv r]; exact q⟩
  | _ => exact (show False from e).elim

theorem pt_truth (ha : PE X a ta) (he : ∀ whole, isTrue a X.env whole = (do let v ← whole; standAt a.pos; holding [v] (truthy v))) :
    PT X a (fun σ H Q => ta σ H fun x H' => ∃ k, TruV X.K x H' k ∧ Q k H') := by
  intro pins s σ H Q I h
  exact isTrue_plain (thn (ha pins s σ H _ I h) fun v s1 ⟨x, H1, I1, r1, q1⟩ => tru_ok pins s1 σ H1 x v Q I1 r1 q1) (he _)


theorem op_add_str : OpR X (binaryOp .Add) (fun x y H Q => ∃ i j, x = .str i ∧ y = .str j ∧ i.length + j.length ≤ sizeLine ∧ Q (.str (i ++ j)) H) := by
  intro pins s σ H x y v u Q I rx ry h
  obtain ⟨i, j, rfl, rfl, hz, q⟩ := h
  obtain ⟨t, rfl⟩ := rx
  obtain ⟨t', rfl⟩ := ry
  exact add_str (fun t' tk => ⟨.str (i ++ j), H, I.tok _, ⟨_, rfl⟩, q⟩) hz
theorem vals1 {x : V} {us : List Value} (r : Vals [x] us) : ∃ u, us = [u] ∧ RelV x u := by
  cases r with
  | cons r1 r2 => cases r2; exact ⟨_, rfl, r1⟩
theorem vals2 {x y : V} {us : List Value} (r : Vals [x, y] us) : ∃ u w', us = [u, w'] ∧ RelV x u ∧ RelV y w' := by
  cases r with
  | cons r1 r2 =>
    cases r2 with
    | cons r3 r4 => cases r4; exact ⟨_, _, rfl, r1, r3⟩
theorem call_max2 (hc : X.calm = true) : CallR X (.builtin "max") (fun xs H Q => ∃ i j, xs = [.int i, .int j] ∧ Q (.int (if j > i then j else i)) H) := by
  intro pins s σ H xs us Q I r h
  obtain ⟨i, j, rfl, q⟩ := h
  obtain ⟨u, w', rfl, ⟨t, rfl⟩, ⟨t', rfl⟩⟩ := vals2 r
  refine max_two_ints (I.ok.hd hc) fun h' tk k => ⟨_, H, I.kept k, ?_, q⟩
  by_cases hj : j > i
  · rw [if_pos hj, if_pos hj]; exact ⟨_, rfl⟩
  · rw [if_neg hj, if_neg hj]; exact ⟨_, rfl⟩
theorem call_min2 (hc : X.calm = true) : CallR X (.builtin "min") (fun xs H Q => ∃ i j, xs = [.int i, .int j] ∧ Q (.int (if j < i then j else i)) H) := by
  intro pins s σ H xs us Q I r h
  obtain ⟨i, j, rfl, q⟩ := h
  obtain ⟨u, w', rfl, ⟨t, rfl⟩, ⟨t', rfl⟩⟩ := vals2 r
  refine min_two_ints (I.ok.hd hc) fun h' tk k => ⟨_, H, I.kept k, ?_, q⟩
  by_cases hj : j < i
  · rw [if_pos hj, if_pos hj]; exact ⟨_, rfl⟩
  · rw [if_neg hj, if_neg hj]; exact ⟨_, rfl⟩
end
end L2

namespace L2
open PySem PySem.Spec PyProof.Rows


structure ObjM (h : Heap) (x dx C : Addr) (mA : Str → Option Value) : Prop where
  obj : h.get? x = some (PySem.W.instObj C dx)
  ns : h.Ns1 dx mA
  ne : dx ≠ x

theorem lookIn_ns {h : Heap} {dx : Addr} {mA : Str → Option Value} (n : h.Ns1 dx mA) : ∃ od, h.get? dx = some od ∧ ∀ name, PySem.W.lookIn name od = some (mA name) := by
  obtain ⟨o, es, ep, ho, hd, hk, _, hm⟩ := n
  refine ⟨o, ho, fun name => ?_⟩
  have e := hm name
  unfold nsFind findBy at e
  rw [← Array.find?_toList] at e
  unfold PySem.W.lookIn
  rw [hd]
  dsimp only
  split
  · rename_i y q
    rw [q] at e
    exact congrArg some e
  · rename_i q
    rw [q] at e
    have a : es.toList.any (·.refKey) = false := by
      rw [List.any_eq_false]
      intro y hy
      obtain ⟨z, t, hkey⟩ := hk y (Array.mem_toList_iff.mp hy)
      simp [DictEntry.refKey, hkey]
    have a' : ¬ es.toList.any (·.refKey) = true := by rw [a]; exact Bool.false_ne_true
    rw [if_neg a']
    exact congrArg some e

theorem ObjM.look {h : Heap} {x dx C : Addr} {mA : Str → Option Value} (I : ObjM h x dx C mA) : ∃ od, PySem.W.InstAt h x (PySem.W.instObj C dx) C (some od) ∧ ∀ name, PySem.W.lookIn name od = some (mA name) :=
  let ⟨od, ho, hl⟩ := lookIn_ns I.ns
  ⟨od, ⟨I.obj, rfl, rfl, ho⟩, hl⟩

section
variable {prog : Program} {w : World} {A : Around} {E : Value → Shared → Prop} {s : Shared} {K : PySem.W.Frag} {x dx C f : Addr} {mA : Str → Option Value} {name : Str} {v : Value}

end


section
variable {P : Program} {w : World} {H H' : Hp} {h h' : Heap} {a C dx : Addr} {fs fs' : List (Str × V)}
theorem ins_get (hok : HOk P w H h) (e : H a = some (.ins C dx fs)) : ∃ mA, ObjM h a dx C mA ∧ (∀ f, RelO (fs.lookup f) (mA f)) ∧ PySem.Within mA (fs.map (·.1)) ∧ fs.length ≤ 1000 ∧ H dx = some (.own a) := by
  obtain ⟨d, z, ne, ob, mA, n, r, q⟩ := (show ObjOk P w H h a (.ins C dx fs) from hok a _ e)
  exact ⟨mA, ⟨ob, n, ne⟩, r, q, z, d⟩
end


structure Cls (K : PySem.W.Frag) (C : Addr) : Prop where
  pg : PySem.W.plainGet K C Str.empty = true
  hd : PySem.W.hasDictIn K C = true
  po : PySem.W.plainOver K C = true
  sa : PySem.W.findIn K (.ref C) "__setattr__" = some (some (.builtin "object.__setattr__"))
theorem Cls.get {K : PySem.W.Frag} {C : Addr} (c : Cls K C) (f : Str) : PySem.W.plainGet K C f = true := c.pg

section
variable {X : Cx} {pins : List (Addr × Obj)} {σ : St} {H : Hp} {s : Shared} {a C dx : Addr} {fs : List (Str × V)} {f : Str} {v : V} {A : Around} {E : Value → Shared → Prop}

end



section
variable {X : Cx} {o e value : Expr} {f : Str} {pos pos' tpos : Pos} {ta tv : TE}
end


section
variable {X : Cx} {pins : List (Addr × Obj)} {σ : St} {H : Hp} {s : Shared} {A : Around} {E : Value → Shared → Prop} {Q : Value → Shared → Prop} {c : Value} {b : Bool}

inductive TyOf (K : PySem.W.Frag) (H : Hp) : V → Value → Prop where
  | non : TyOf K H .non (.type "NoneType")
  | bl (x : Bool) : TyOf K H (.bl x) (.type "bool")
  | int (i : Int) : TyOf K H (.int i) (.type "int")
  | str (x : Str) : TyOf K H (.str x) (.type "str")
  | flt (x : UInt64) : TyOf K H (.flt x) (.type "float")
  | lst {a : Addr} {xs : List V} (e : H a = some (.lst xs)) : TyOf K H (.ref a) (.type "list")
  | frz {a : Addr} {o : Obj} {xs : List V} (e : H a = some (.frz o (.lst xs))) : TyOf K H (.ref a) (.type "list")
  | tup {a : Addr} {xs : List V} (e : H a = some (.tup xs)) : TyOf K H (.ref a) (.type "tuple")
  | dK {a : Addr} {kvs : List (Key × V)} (e : H a = some (.dK kvs)) : TyOf K H (.ref a) (.type "dict")
  | dT {a : Addr} {kvs : List (List Key × V)} (e : H a = some (.dT kvs)) : TyOf K H (.ref a) (.type "dict")
  | ins {a C dx : Addr} {fs : List (Str × V)} (e : H a = some (.ins C dx fs)) (cl : Cls K C) (ha : PySem.W.findIn K (.ref C) "__class__" = some (some (.builtin "object.__class__")))
      (hn : PySem.W.specialIn K (.builtin "object.__class__") "__get__" = some (some (.builtin "getset_descriptor.__get__"))) (htk : PySem.W.takesIn K (.builtin "object.__class__") = some true)
      (hm : PySem.W.mroIn K C (.type "object") = some true) : TyOf K H (.ref a) (.ref C)

theorem isinst_ok {x : V} {u t : Value} (I : Inv X pins σ H s) (rx : RelV x u) (ty : TyOf X.K H x t) (e : PySem.W.kitOne X.K t c = some b) (h : ∀ tk, Q (.bool b) { s with toks := tk }) :
    wpAny (model X.prog X.w) A (call (.builtin "isinstance") [u, c]) Q E s := by
  cases ty with
  | non => cases (show u = Value.none from rx); exact PySem.W.kia_one PySem.W.kitx_none I.kIn True.intro e (fun z => nomatch z) h
  | bl y => cases (show u = Value.bool y from rx); exact PySem.W.kia_one PySem.W.kitx_bool I.kIn True.intro e (fun z => nomatch z) h
  | int i => obtain ⟨t, q⟩ := (show ∃ t, u = Value.int i t from rx); cases q; exact PySem.W.kia_one PySem.W.kitx_int I.kIn True.intro e (fun z => nomatch z) h
  | str y => obtain ⟨t, q⟩ := (show ∃ t, u = Value.str y t from rx); cases q; exact PySem.W.kia_one PySem.W.kitx_str I.kIn True.intro e (fun z => nomatch z) h
  | flt y => obtain ⟨t, q⟩ := (show ∃ t, u = Value.float y t from rx); cases q; exact PySem.W.kia_one PySem.W.kitx_float I.kIn True.intro e (fun z => nomatch z) h
  | @lst a xs ea =>
    cases (show u = Value.ref a from rx)
    obtain ⟨_, _, n, _, h1⟩ := (show ObjOk X.prog X.w H s.heap a (.lst xs) from I.hok a _ ea)
    exact PySem.W.kia_one PySem.W.kitx_list I.kIn ⟨_, h1, rfl⟩ e (fun z => nomatch z) h
  | @frz a ob xs ea =>
    cases (show u = Value.ref a from rx)
    obtain ⟨_, _, _, n, _, h1⟩ := (show ObjOk X.prog X.w H s.heap a (.frz ob (.lst xs)) from I.hok a _ ea)
    exact PySem.W.kia_one PySem.W.kitx_list I.kIn ⟨_, h1, rfl⟩ e (fun z => nomatch z) h
  | @tup a xs ea =>
    cases (show u = Value.ref a from rx)
    obtain ⟨_, _, _, p⟩ := (show ObjOk X.prog X.w H s.heap a (.tup xs) from I.hok a _ ea)
    obtain ⟨o, h1, h2, _⟩ := p
    exact PySem.W.kia_one PySem.W.kitx_tuple I.kIn ⟨o, h1, h2⟩ e (fun z => nomatch z) h
  | @dK a kvs ea =>
    cases (show u = Value.ref a from rx)
    obtain ⟨_, _, vs, _, p⟩ := (show ObjOk X.prog X.w H s.heap a (.dK kvs) from I.hok a _ ea)
    obtain ⟨o, es, ep, h1, h2, _⟩ := p
    exact PySem.W.kia_one PySem.W.kitx_dict I.kIn ⟨o, h1, h2.1⟩ e (fun z => nomatch z) h
  | @dT a kvs ea =>
    cases (show u = Value.ref a from rx)
    obtain ⟨_, _, xs, _, o, es, ep, h1, h2, _⟩ := (show ObjOk X.prog X.w H s.heap a (.dT kvs) from I.hok a _ ea)
    exact PySem.W.kia_one PySem.W.kitx_dict I.kIn ⟨o, h1, h2.1⟩ e (fun z => nomatch z) h
  | @ins a C dx fs ea cl ha hn htk hm =>
    cases (show u = Value.ref a from rx)
    obtain ⟨mA, O, _⟩ := ins_get I.hok ea
    obtain ⟨od, J, _⟩ := O.look
    exact PySem.W.kia_one (PySem.W.kitx_own (cl.get _) cl.hd ha hn htk hm) I.kIn J e (fun z => nomatch z) h
end
end L2

namespace L2
open PySem PySem.Spec PyProof.Rows


structure Room (k : Nat) (A : Around) : Prop where
  hd : A.handled = none
  dp : A.depth + 3 * k + 5 < recursionLimit
  un : A.units + 16 * k + 200 < cLine
  gd : A.guards = some []
theorem Room.mono {j k : Nat} {A : Around} (r : Room k A) (h : j ≤ k) : Room j A := ⟨r.hd, by have := r.dp; omega, by have := r.un; omega, by first | exact r.gd | simpa [Around.deeper, Around.under, Code.guards, Code.isGuard, guardIds, pushGuards] using r.gd⟩
theorem Room.deeper {k : Nat} {A : Around} (r : Room (k + 1) A) (env : Env) : Room k (A.deeper env) :=
  ⟨r.hd, by have := r.dp; show A.depth + 1 + 3 * k + 5 < _; omega, by have := r.un; show A.units + 3 + 16 * k + 200 < _; omega, by first | exact r.gd | simpa [Around.deeper, Around.under, Code.guards, Code.isGuard, guardIds, pushGuards] using r.gd⟩
theorem Room.depth {k : Nat} {A : Around} (r : Room k A) : A.depth < recursionLimit := by have := r.dp; omega
theorem Room.units {k : Nat} {A : Around} (r : Room k A) : A.units + 64 < cLine := by have := r.un; omega
theorem Room.units0 {k : Nat} {A : Around} (r : Room k A) : A.units < cLine := by have := r.un; omega


def tNil : TA := fun _ H Q => Q [] H
def tCons (ta : TE) (tr : TA) : TA := fun σ H Q => ta σ H fun x H1 => tr σ H1 fun xs H2 => Q (x :: xs) H2
section
variable {X : Cx} {e : Expr} {es : List Expr} {te : TE} {t : TA} {pos : Pos}
theorem pa_nil : PA X [] tNil := fun _ _ _ _ H Q I h => Calls.spliced_nil ⟨[], H, I, .nil, h⟩
theorem pa_cons (ha : PE X e te) (hr : PA X es t) (hs : starEach (e :: es) X.env = (false, eval e X.env) :: starEach es X.env := by rfl) : PA X (e :: es) (tCons te t) := by
  intro pos pins s σ H Q I h
  rw [hs]
  show wpAny _ _ (spliced ((false, eval e X.env) :: backTo pos (starEach es X.env))) _ _ s
  refine Calls.spliced_cons (thn (ha pins s σ H _ I h) fun u s1 ⟨x, H1, I1, r1, q1⟩ => ?_)
  exact thn (hr pos pins s1 σ H1 _ I1 q1) fun us s2 ⟨xs, H2, I2, r2, q2⟩ => ⟨x :: xs, H2, I2, .cons r1 r2, q2⟩


def tTup (t : TA) : TE := fun σ H Q => t σ H fun xs H1 => xs.length ≤ sizeLine ∧ ∀ p, H1 p = none → Q (.ref p) (upd H1 p (.tup xs))
def tLst (t : TA) : TE := fun σ H Q => t σ H fun xs H1 => xs.length ≤ sizeLine ∧ ∀ p, H1 p = none → Q (.ref p) (upd H1 p (.lst xs))
theorem pe_tup {x1} (h : PA X es t) : PE X (.Tuple es x1 pos) (tTup t) := by
  intro pins s σ H Q I hq
  refine wpAny_Tuple_spliced (thn (h pos pins s σ H _ I hq) fun us s1 ⟨xs, H1, I1, r, z, q⟩ => ⟨by rw [← r.length]; exact z, ?_⟩)
  have hf : H1 s1.heap.objs.size = none := I1.hok.fresh (Nat.le_refl _)
  refine ⟨.ref s1.heap.objs.size, upd H1 s1.heap.objs.size (.tup xs), I1.laid (t' := s1.toks) (fun b u e => Heap.get?_push_of_some _ e) (Nat.le_refl _) ?_, rfl, q _ hf⟩
  exact ⟨z, us, r, ⟨_, Heap.get?_push_size _ rfl, rfl, _, rfl⟩⟩
theorem pe_lst (h : PA X es t) : PE X (.List es pos) (tLst t) := by
  intro pins s σ H Q I hq
  refine wpAny_List_spliced (thn (h pos pins s σ H _ I hq) fun us s1 ⟨xs, H1, I1, r, z, q⟩ => ⟨by rw [← r.length]; exact z, ?_⟩)
  have hf : H1 s1.heap.objs.size = none := I1.hok.fresh (Nat.le_refl _)
  refine ⟨.ref s1.heap.objs.size, upd H1 s1.heap.objs.size (.lst xs), I1.laid (t' := s1.toks) (fun b u e => Heap.get?_push_of_some _ e) (Nat.le_refl _) ?_, rfl, q _ hf⟩
  exact ⟨z, us, 0, r, Heap.get?_push_size _ rfl⟩
end



abbrev Sp := List V → Hp → VK → XK → Prop

abbrev CXT := List Env → Hp → Shared → XK → Value → Shared → Prop


structure Env0 (P : Program) (w : World) (K : PySem.W.Frag) (mg : Str → Option Value) (base : Heap) (A : Around) (outer : List Env) (s : Shared) (H : Hp) : Prop where
  frames : A.frames = some outer
  mod : Mod K mg base
  bs : ∀ b o, base.get? b = some o → s.heap.get? b = some o ∧ H b = none
  bsz : base.objs.size ≤ s.heap.objs.size
  funs : s.heap.FunFrames base outer
  frf : ∀ b ∈ frs outer, H b = none
  hok : HOk P w H s.heap
  bare : AllBare s.gens

def CE (outer : List Env) (P : Program) (w : World) (H : Hp) (s : Shared) (Q : VK) (u : Value) (s' : Shared) : Prop :=
  ∃ v H', s'.os = s.os ∧ AllBare s'.gens ∧ Un (frs outer) [] H H' s.heap s'.heap ∧ HOk P w H' s'.heap ∧ RelV v u ∧ Q v H'
def CR (CX : CXT) (outer : List Env) (P : Program) (w : World) (H : Hp) (s : Shared) (Q : VK) (E : XK) (r : Result) (s' : Shared) : Prop :=
  match r with
  | .ok (.ret u) => CE outer P w H s Q u s'
  | .ok _ => False
  | .error e => CX outer H s E e s'
structure FnOk (P : Program) (w : World) (K : PySem.W.Frag) (mg : Str → Option Value) (base : Heap) (CX : CXT) (k : Nat) (f : Addr) (fd : FuncData) (ps : List Str) (sp : Sp) : Prop where
  len : ∀ vs H Q E, sp vs H Q E → vs.length = ps.length
  run : ∀ (A : Around) (outer : List Env) (s : Shared) (H : Hp) (args : Args) (us : List Value) (vs : List V) (Q : VK) (E : XK), Room k A → Env0 P w K mg base A outer s H → BindsTo s fd args (ps.zip us) → Vals vs us → sp vs H Q E →
    codeAny (model P w) A (.call (.ref f) args) (CR CX outer P w H s Q E) s
theorem FnOk.mono {P : Program} {w : World} {K : PySem.W.Frag} {mg : Str → Option Value} {base : Heap} {CX : CXT} {j k : Nat} {f : Addr} {fd : FuncData} {ps : List Str} {sp : Sp} (F : FnOk P w K mg base CX j f fd ps sp) (h : j ≤ k) :
    FnOk P w K mg base CX k f fd ps sp := ⟨F.len, fun A outer s H args us vs Q E hr => F.run A outer s H args us vs Q E (hr.mono h)⟩

theorem FnOk.imp {P : Program} {w : World} {K : PySem.W.Frag} {mg : Str → Option Value} {base : Heap} {CX : CXT} {k : Nat} {f : Addr} {fd : FuncData} {ps : List Str} {sp sp' : Sp} (F : FnOk P w K mg base CX k f fd ps sp)
    (h : ∀ vs H Q E, sp' vs H Q E → sp vs H Q E) : FnOk P w K mg base CX k f fd ps sp' :=
  ⟨fun vs H Q E q => F.len vs H Q E (h _ _ _ _ q), fun A outer s H args us vs Q E hr he hb hv hs => F.run A outer s H args us vs Q E hr he hb hv (h _ _ _ _ hs)⟩

section
variable {X : Cx} {pins : List (Addr × Obj)} {σ : St} {H : Hp} {s s' : Shared}

theorem Inv.env0 (I : Inv X pins σ H s) : Env0 X.prog X.w X.K X.mg X.base X.A X.stack s H :=
  ⟨I.ok.frames, I.ok.mod, I.bs, Nat.le_trans I.ok.bsz I.sz, I.stack, I.stkFree, I.hok, I.bare⟩

theorem Inv.after {Q : VK} {u : Value} (I : Inv X pins σ H s) (h : CE X.stack X.prog X.w H s Q u s') : EP X pins σ Q u s' := by
  obtain ⟨v, H', os, bare, un, hok, r, q⟩ := h
  obtain ⟨hh, g, d, t, os'⟩ := s'
  obtain rfl : os' = s.os := os
  exact ⟨v, H', I.call (h' := hh) (g' := g) (d' := d) (t' := t) (ch := []) un hok bare (fun b z => absurd z (by simp)), r, q⟩
end



def tCall (sp : Sp) (dvs : List V) (E : XK) (t : TA) : TE := fun σ H Q => t σ H fun vs H1 => sp (vs ++ dvs) H1 Q E

def Binds (K : PySem.W.Frag) (fd : FuncData) (ps : List Str) (ds : List Value) : Prop :=
  ∀ (s : Shared) (us : List Value), K.In s.heap → (us ++ ds).length = ps.length → BindsTo s fd ⟨us, []⟩ (ps.zip (us ++ ds))

theorem Binds.all {K : PySem.W.Frag} {fd : FuncData} {ps : List Str} (h : ∀ us : List Value, us.length = ps.length → bindArgs fd ⟨us, []⟩ = pure (ps.zip us)) : Binds K fd ps [] := fun s us _ hl => by
  rw [List.append_nil] at hl ⊢
  exact .of_eq (h us hl)


def Passes (CX : CXT) (X : Cx) (E : XK) : Prop := ∀ (pins : List (Addr × Obj)) (σ : St) (H : Hp) (s : Shared) (e : Value) (s' : Shared), Inv X pins σ H s → CX X.stack H s E e s' → X.xe e s'

section
variable {X : Cx} {CX : CXT} {k : Nat} {f C : Addr} {fd : FuncData} {ps : List Str} {sp : Sp} {dvs : List V} {ds : List Value} {E : XK} {x m : Str} {p pos apos : Pos} {e o : Expr} {es : List Expr} {ta : TE} {t : TA}


theorem run_fn {pins : List (Addr × Obj)} {σ : St} {H : Hp} {s : Shared} {Q : VK} {us : List Value} {vs : List V} (F : FnOk X.prog X.w X.K X.mg X.base CX k f fd ps sp) (hr : Room k X.A) (hb : Binds X.K fd ps ds) (hd : Vals dvs ds) (hx : Passes CX X E)
    (I : Inv X pins σ H s) (r : Vals vs us) (h : sp (vs ++ dvs) H Q E) : wpAny (model X.prog X.w) X.A (call (.ref f) us) (EP X pins σ Q) X.xe s := by
  have r2 : Vals (vs ++ dvs) (us ++ ds) := r.append hd
  have hl : (us ++ ds).length = ps.length := by rw [← r2.length]; exact F.len _ _ _ _ h
  refine wpAny_call (codeAny_mono (F.run X.A X.stack s H ⟨us, []⟩ (us ++ ds) (vs ++ dvs) Q E hr I.env0 (hb s us I.kIn hl) r2 h) fun r s' hq => ?_)
  cases r with
  | error e => exact hx pins σ H s e s' I hq
  | ok fl =>
    cases fl with
    | ret u => exact I.after hq
    | next => exact False.elim hq
    | brk => exact False.elim hq
    | cont => exact False.elim hq

theorem pe_call (F : FnOk X.prog X.w X.K X.mg X.base CX k f fd ps sp) (hr : Room k X.A) (hg : Gl X x) (hm : X.mg x = some (.ref f)) (hk : PySem.W.keepIn X.K (.ref f) = true) (hb : Binds X.K fd ps ds) (hd : Vals dvs ds) (hx : Passes CX X E)
    (ha : PA X (e :: es) t) (hdb : (x == ("__debug__" : Str)) = false := by decide) (he : starEach (e :: es) X.env = (false, eval e X.env) :: starEach es X.env := by rfl) (hpl : (backTo pos (starEach es X.env)).any (·.1) = false := by rfl) :
    PE X (.Call (.Name x p) (e :: es) [] pos) (tCall sp dvs E t) := by
  intro pins s σ H Q I h
  refine wpAny_Call_Name_kw (ld_glob I hg hm ?_ hdb)
  refine PySem.W.callWith_K (h₀ := X.base) I.ok.mod.kin hk (thn (ha pos pins s σ H _ I h) fun us s1 ⟨vs, H1, I1, r, q⟩ => ⟨I1.kIn, ?_⟩) he hpl
  exact run_fn F hr hb hd hx I1 r q
end



section
variable {X : Cx} {CX : CXT} {k : Nat} {f C : Addr} {fd : FuncData} {ps ks : List Str} {sp : Sp} {E : XK} {x m : Str} {p pos apos kpos : Pos} {e o : Expr} {es : List Expr} {kws : List Keyword} {te ta : TE} {t tk : TA} {nm : Option Str}
variable {g : List Value → List Value → List Value} {gV : List V → List V → List V}
end



structure FnScope (N P : List Str) (sc : Scope) : Prop where
  kind : sc.kind = .function
  co : sc.isCoroutine = false
  gen : sc.isGenerator = false
  nd : N.Nodup
  pre : N.take P.length = P
  par : ∀ x ∈ P, sc.names.lookup x = some .local ∨ sc.names.lookup x = some .cell
  nofree : ∀ y ∈ sc.names, y.2 ≠ .free

theorem bindL_out {kindOf : Str → Option NameKind} {x : Str} : ∀ {binds : List (Str × Value)} {m : Str → Option Value}, (∀ v, (x, v) ∉ binds) → bindL kindOf binds m x = m x
  | [], _, _ => rfl
  | (n, v) :: r, m, h => by
    unfold bindL
    rw [bindL_out fun w hw => h w (List.mem_cons_of_mem _ hw)]
    split
    · have : x ≠ n := by rintro rfl; exact h v List.mem_cons_self
      simp [this]
    · rfl
theorem bindC_out {kindOf : Str → Option NameKind} {x : Str} : ∀ {binds : List (Str × Value)} {m : Str → Option Value}, (∀ v, (x, v) ∉ binds) → bindC kindOf binds m x = m x
  | [], _, _ => rfl
  | (n, v) :: r, m, h => by
    unfold bindC
    rw [bindC_out fun w hw => h w (List.mem_cons_of_mem _ hw)]
    split
    · rfl
    · have : x ≠ n := by rintro rfl; exact h v List.mem_cons_self
      simp [this]
theorem bindL_get {kindOf : Str → Option NameKind} {x : Str} {v : Value} : ∀ {P : List Str} {vs : List Value} {i : Nat} {m : Str → Option Value}, P.Nodup → P[i]? = some x → vs[i]? = some v → kindOf x = some .local →
    bindL kindOf (P.zip vs) m x = some v
  | [], _, _, _, _, h, _, _ => by simp at h
  | _ :: _, [], _, _, _, _, h, _ => by simp at h
  | p :: P, w :: vs, 0, m, nd, h1, h2, hk => by
    simp at h1 h2; subst h1; subst h2
    show bindL kindOf ((p, w) :: P.zip vs) m p = _
    unfold bindL
    rw [bindL_out fun v hv => (List.nodup_cons.mp nd).1 (List.of_mem_zip hv).1, if_pos hk]
    simp
  | p :: P, w :: vs, i + 1, m, nd, h1, h2, hk => by
    show bindL kindOf ((p, w) :: P.zip vs) m x = _
    unfold bindL
    exact bindL_get (i := i) (List.nodup_cons.mp nd).2 (by simpa using h1) (by simpa using h2) hk
theorem bindC_get {kindOf : Str → Option NameKind} {x : Str} {v : Value} : ∀ {P : List Str} {vs : List Value} {i : Nat} {m : Str → Option Value}, P.Nodup → P[i]? = some x → vs[i]? = some v → kindOf x ≠ some .local →
    bindC kindOf (P.zip vs) m x = some v
  | [], _, _, _, _, h, _, _ => by simp at h
  | _ :: _, [], _, _, _, _, h, _ => by simp at h
  | p :: P, w :: vs, 0, m, nd, h1, h2, hk => by
    simp at h1 h2; subst h1; subst h2
    show bindC kindOf ((p, w) :: P.zip vs) m p = _
    unfold bindC
    rw [bindC_out fun v hv => (List.nodup_cons.mp nd).1 (List.of_mem_zip hv).1, if_neg hk]
    simp
  | p :: P, w :: vs, i + 1, m, nd, h1, h2, hk => by
    show bindC kindOf ((p, w) :: P.zip vs) m x = _
    unfold bindC
    exact bindC_get (i := i) (List.nodup_cons.mp nd).2 (by simpa using h1) (by simpa using h2) hk


def start (N : List Str) (vs : List V) : St := vs.map some ++ List.replicate (N.length - vs.length) none


def cxOf (CX : CXT) (P : Program) (w : World) (K : PySem.W.Frag) (mg : Str → Option Value) (base : Heap) (N : List Str) (qual : Str) (scope : Scope) (f : Addr) (cd : Value) (A : Around) (outer : List Env) (s : Shared) (H : Hp) (E : XK) : Cx where
  prog := P
  w := w
  K := K
  mg := mg
  base := base
  A := A.deeper (envOfC qual scope s.heap.objs.size f cd)
  N := N
  s₀ := s
  H₀ := H
  env := envOfC qual scope s.heap.objs.size f cd
  outer := outer
  stack := envOfC qual scope s.heap.objs.size f cd :: outer
  ex := []
  calm := true
  fn := fun _ => true
  pn := []
  xe := fun e s' => wpAny (model P w) (A.deeper (envOfC qual scope s.heap.objs.size f cd)) (leaving (envOfC qual scope s.heap.objs.size f cd) e) (fun _ s'' => CX outer H s E e s'') (fun e' s'' => CX outer H s E e' s'') s'

theorem cell_has {sc : Scope} {n : Nat} {x : Str} (h : sc.names.lookup x = some .cell) : ∃ c, (cellsFrom n sc.names []).lookup x = some c := by
  have q := PySem.W.cellsFrom_some sc.names n [] (.inl h)
  exact Option.isSome_iff_exists.mp q

theorem inv_start {CX : CXT} {P : Program} {w : World} {K : PySem.W.Frag} {mg : Str → Option Value} {base : Heap} {N ps : List Str} {qual : Str} {scope : Scope} {f : Addr} {cd : Value} {A : Around} {outer : List Env} {s s1 : Shared} {H : Hp} {E : XK} {us : List Value} {vs : List V}
    (S : FnScope N ps scope) (hd : A.handled = none) (e0 : Env0 P w K mg base A outer s H) (hl : vs.length = ps.length) (r : Vals vs us)
    (x : InCallC s s.heap.objs.size (bindL (envOfC qual scope s.heap.objs.size f cd).kindOf (ps.zip us) fun _ => none) (cellsFrom (s.heap.objs.size + 1) scope.names []) (bindC (envOfC qual scope s.heap.objs.size f cd).kindOf (ps.zip us) fun _ => none) s1) :
    Inv (cxOf CX P w K mg base N qual scope f cd A outer s H E) [] (start N vs) H s1 := by
  have hpl : ps.length ≤ N.length := by have := congrArg List.length S.pre; rw [List.length_take] at this; omega
  obtain ⟨h1, tk, rfl, hk⟩ := x.done
  have noA : ∀ b : Addr, b ∉ (cxOf CX P w K mg base N qual scope f cd A outer s H E).ex := fun b z => absurd (show b ∈ ([] : List Addr) from z) (by simp)
  refine ⟨⟨e0.mod, S.kind, rfl, rfl, Nat.le_refl _, fun y z c h1 h2 => ?_, fun y hy => ?_, fun y c _ h => ?_, fun _ => hd, Around.frames_deeper e0.frames, .inr ⟨rfl, rfl⟩, fun b z => absurd z (noA b), e0.bs, e0.bsz, fun b _ _ => noA b, fun b z => absurd z (noA b), e0.funs, e0.frf⟩,
    rfl, e0.bare, Un.kept hk, ⟨_, x.toInCall.ns, fun i y v h1 h2 h3 => ?_⟩, fun y c h => ⟨_, x.cell y c h⟩, e0.hok.fresh (Nat.le_refl _), fun y c h => ?_, fun p hp => absurd (show p ∈ ([] : List (Addr × Obj)) from hp) (by simp), e0.hok.kept hk, ?_⟩
  · exact name_of_addr x.apart (PySem.mem_of_lookup h1) (PySem.mem_of_lookup h2)
  · have hy : scope.names.lookup y = some .cell ∨ scope.names.lookup y = some .free := hy
    rcases hy with hy | hy
    · exact cell_has hy
    · exact absurd rfl (S.nofree _ (PySem.mem_of_lookup hy))
  · exact Nat.le_of_lt (x.above y c (PySem.mem_of_lookup h))
  · have hi : i < vs.length := by
      unfold start at h2
      by_cases hi : i < vs.length
      · exact hi
      · rw [List.getElem?_append_right (by simpa using hi)] at h2
        rw [List.getElem?_replicate] at h2
        split at h2 <;> cases h2
    have ha : vs[i]? = some v := by
      unfold start at h2
      rw [List.getElem?_append_left (by simpa using hi), List.getElem?_map] at h2
      cases e : vs[i]? with
      | none => rw [e] at h2; cases h2
      | some a => rw [e] at h2; cases h2; rfl
    obtain ⟨u, hu, rv⟩ := r.get ha
    have hp : ps[i]? = some y := by
      rw [← S.pre, List.getElem?_take_of_lt (by omega)]; exact h1
    have ndP : ps.Nodup := by rw [← S.pre]; exact S.nd.sublist (List.take_sublist _ _)
    refine ⟨u, rv, ?_⟩
    rcases S.par y (List.mem_of_getElem? hp) with k | k
    · exact .inl ⟨k, bindL_get ndP hp hu k⟩
    · obtain ⟨c, e⟩ := cell_has (n := s.heap.objs.size + 1) k
      refine .inr ⟨.inl k, c, e, ?_⟩
      have q := x.cell y c e
      rw [bindC_get ndP hp hu (by show scope.names.lookup y ≠ _; rw [k]; decide)] at q
      exact q
  · exact e0.hok.fresh (Nat.le_of_lt (x.above y c (PySem.mem_of_lookup h)))
  · unfold start
    show _ = N.length
    rw [List.length_append, List.length_map, List.length_replicate]
    omega


theorem fn_of {CX : CXT} {P : Program} {w : World} {K : PySem.W.Frag} {mg : Str → Option Value} {base : Heap} {k : Nat} {f : Addr} {name qual : Str} {params : Arguments} {body : List Stmt} {scope : Scope} {dV kV doc pm cdv ct oc : Value} {an od : Option Addr}
    {osl : Array (Option Value)} {N ps : List Str} {sp : Sp} (lk : K.lookup f = some ⟨oc, od, .func (PySem.W.fnOf name qual params body scope dV kV doc pm an cdv ct), osl⟩) (hcd : PySem.W.codeIn K cdv qual = true) (S : FnScope N ps scope)
    (len : ∀ vs H Q E, sp vs H Q E → vs.length = ps.length)
    (hbody : ∀ (A : Around) (outer : List Env) (s : Shared) (H : Hp) (vs : List V) (Q : VK) (E : XK), Room k (A.deeper (envOfC qual scope s.heap.objs.size f cdv)) → sp vs H Q E →
      ∃ t, PSs (cxOf CX P w K mg base N qual scope f cdv A outer s H E) body t ∧ t { nx := fun _ H' => Q .non H', rt := Q } (start N vs) H) :
    FnOk P w K mg base CX (k + 1) f (PySem.W.fnOf name qual params body scope dV kV doc pm an cdv ct) ps sp := by
  refine ⟨len, fun A outer s H args us vs Q E hr e0 hb r hsp => ?_⟩
  have hl := len _ _ _ _ hsp
  have KX : K.In s.heap := e0.mod.kin.keeps fun b o e => (e0.bs b o e).1
  have lim : s.heap.NoLimit := e0.mod.nolimit.keeps fun b o e => (e0.bs b o e).1
  have hkind : ∀ y ∈ ps.zip us, scope.names.lookup y.1 = some .local ∨ (scope.names.lookup y.1 = some .cell ∧ ((cellsFrom (s.heap.objs.size + 1) scope.names []).lookup y.1).isSome = true) := fun ⟨n, v⟩ hy => by
    rcases S.par n (List.of_mem_zip hy).1 with q | q
    · exact .inl q
    · exact .inr ⟨q, PySem.W.cellsFrom_some _ _ _ (.inl q)⟩
  refine codeAny_call_function hr.depth (KX _ _ lk) rfl S.co S.gen rfl (PySem.W.codeRec_of KX hcd) (hb _ _ _ _ ?_)
  refine wpAny_newFunctionEnv_cells S.kind hkind fun env he s1 x => ?_
  subst he
  refine ⟨lim.keeps x.toInCall.keep, codeAny_func ?_⟩
  obtain ⟨t, ht, hq⟩ := hbody A outer s H vs Q E (hr.deeper _) hsp
  have I : Inv (cxOf CX P w K mg base N qual scope f cdv A outer s H E) [] (start N vs) H s1 := inv_start S hr.hd e0 hl r x
  refine wpAny_mono (ht [] s1 (start N vs) H _ I hq) (fun fl s' hs => ?_) fun e s' hs => hs
  have fin : ∀ {σ' : St} {H' : Hp} {v : V} {u : Value}, Inv (cxOf CX P w K mg base N qual scope f cdv A outer s H E) [] σ' H' s' → RelV v u → Q v H' → CE outer P w H s Q u s' :=
    fun {σ' H' v u} J rv q => ⟨v, H', J.os, J.bare, J.base, J.hok, rv, q⟩
  cases fl with
  | ret u =>
    obtain ⟨v, σ', H', J, rv, q⟩ := hs
    exact fin J rv q
  | next =>
    obtain ⟨σ', H', J, q⟩ := hs
    exact fin (v := V.non) (u := Value.none) J rfl q
  | brk =>
    obtain ⟨_, _, _, q⟩ := hs
    exact False.elim q
  | cont =>
    obtain ⟨_, _, _, q⟩ := hs
    exact False.elim q
end L2

namespace L2
open PySem PySem.Spec PyProof.Rows
section
variable {X : Cx} {x : Str} {p pos : Pos} {e : Expr} {es : List Expr} {t : TA} {id T : String} {r : List V → Hp → VK → Prop}

def tCB (r : List V → Hp → VK → Prop) (t : TA) : TE := fun σ H Q => t σ H fun vs H1 => r vs H1 Q

theorem pe_callB (hc : CallR X (.builtin id) r) (hg : Gl X x) (hm : X.mg x = none) (hv : bootBuiltins x = some (.builtin id)) (ha : PA X (e :: es) t) (hn : x ≠ "__name__" := by decide) (hdb : (x == ("__debug__" : Str)) = false := by decide)
    (he : starEach (e :: es) X.env = (false, eval e X.env) :: starEach es X.env := by rfl) (hpl : (backTo pos (starEach es X.env)).any (·.1) = false := by rfl) : PE X (.Call (.Name x p) (e :: es) [] pos) (tCB r t) := by
  intro pins s σ H Q I h
  refine wpAny_Call_Name_kw (ld_blt I hg hm hv ?_ hn hdb)
  exact PyProof.Rows.callWith_builtin1 (thn (ha pos pins s σ H _ I h) fun us s1 ⟨vs, H1, I1, r1, q1⟩ => hc pins s1 σ H1 vs us Q I1 r1 q1) he hpl

end
end L2

namespace HT
open PySem PyProof.Rows


section
open PySem.SeqAt
open PySem.AutoSeq1 (wpAny_loadPart')
open PySem.MeetsSeq PySem.MeetsSeq2 PySem.MeetsSeq3

end

section
variable {prog : Program} {w : World} {A : Around} {E : Value → Shared → Prop} {s : Shared}

def sIx (n d : Nat) : Option Int → Nat
  | none => d
  | some v => if v < 0 then (v + (n : Int)).toNat else min v.toNat n
theorem sIx_none (n d : Nat) : sIx n d none = d := rfl
theorem sIx_nat (n d k : Nat) : sIx n d (some (k : Int)) = min k n := by
  show (if (k : Int) < 0 then ((k : Int) + (n : Int)).toNat else min (k : Int).toNat n) = min k n
  rw [if_neg (by omega), Int.toNat_natCast]
theorem sIx_le (n d : Nat) (hd : d ≤ n) (o : Option Int) : sIx n d o ≤ n := by
  cases o with
  | none => exact hd
  | some v =>
    show (if v < 0 then (v + (n : Int)).toNat else min v.toNat n) ≤ n
    by_cases hv : v < 0
    · rw [if_pos hv]; omega
    · rw [if_neg hv]; exact Nat.min_le_right _ _
end
end HT

namespace L2
open PySem PySem.Spec PyProof.Rows


abbrev TO := St → Hp → (Option Int → Hp → Prop) → Prop

def PO (X : Cx) (e : Option Expr) (t : TO) : Prop :=
  ∀ (pins : List (Addr × Obj)) (s : Shared) (σ : St) (H : Hp) (Q : Option Int → Hp → Prop), Inv X pins σ H s → t σ H Q →
    wpAny (model X.prog X.w) X.A (evalPart e X.env) (fun u s' => ∃ o H', Inv X pins σ H' s' ∧ IsPart u o ∧ Q o H') X.xe s
def tNoPart : TO := fun _ H Q => Q none H
def tPart (t : TE) : TO := fun σ H Q => t σ H fun x H1 => ∃ i, x = .int i ∧ Q (some i) H1

section
variable {X : Cx} {e : Expr} {te : TE} {lo hi : Option Expr} {tl th : TO} {pos p2 : Pos}

theorem po_none : PO X none tNoPart := by
  intro pins s σ H Q I h
  rw [evalPart_none]
  exact wpAny_pure ⟨none, H, I, .none, h⟩
theorem po_some (h : PE X e te) : PO X (some e) (tPart te) := by
  intro pins s σ H Q I hw
  rw [evalPart_some]
  refine thn (h pins s σ H _ I hw) fun u s1 ⟨x, H1, I1, r1, q1⟩ => ?_
  obtain ⟨i, rfl, q⟩ := q1
  obtain ⟨t, rfl⟩ := r1
  exact ⟨some i, H1, I1, .int i t, q⟩


def SlR (X : Cx) (r : V → Option Int → Option Int → Hp → VK → Prop) : Prop :=
  ∀ (pins : List (Addr × Obj)) (s : Shared) (σ : St) (H : Hp) (x : V) (v vl vu : Value) (lo hi : Option Int) (sl : Addr) (Q : VK), Inv X pins σ H s → RelV x v → s.heap.IsSliceOf sl vl vu .none → IsPart vl lo → IsPart vu hi → r x lo hi H Q →
    ∃ T id, typeLookup (.type T) "__getitem__" = pure (some (.builtin id)) ∧ s.TypeIs v T ∧ wpAny (model X.prog X.w) X.A (getItem v (.ref sl)) (EP X pins σ Q) X.xe s
theorem SlR.or {r r' : V → Option Int → Option Int → Hp → VK → Prop} (h : SlR X r) (h' : SlR X r') : SlR X (fun x lo hi H Q => r x lo hi H Q ∨ r' x lo hi H Q) := by
  intro pins s σ H x v vl vu lo hi sl Q I rx hs pl pu q
  rcases q with q | q
  · exact h pins s σ H x v vl vu lo hi sl Q I rx hs pl pu q
  · exact h' pins s σ H x v vl vu lo hi sl Q I rx hs pl pu q
def tSl (r : V → Option Int → Option Int → Hp → VK → Prop) (te : TE) (tl th : TO) : TE := fun σ H Q => te σ H fun x H1 => tl σ H1 fun l H2 => th σ H2 fun u H3 => r x l u H3 Q

theorem pe_slice {r : V → Option Int → Option Int → Hp → VK → Prop} (hr : SlR X r) (he : PE X e te) (hl : PO X lo tl) (hu : PO X hi th) : PE X (.Subscript e (.Slice lo hi none p2) pos) (tSl r te tl th) := by
  intro pins s σ H Q I h
  refine Subscript_ (thn (he pins s σ H _ I h) fun v s1 ⟨x, H1, I1, r1, q1⟩ => ?_)
  refine wpAny_Slice (thn (hl pins s1 σ H1 _ I1 q1) fun vl s2 ⟨l, H2, I2, pl, q2⟩ => thn (hu pins s2 σ H2 _ I2 q2) fun vu s3 ⟨u, H3, I3, pu, q3⟩ => ?_)
  rw [evalPart_none]
  refine wpAny_pure ?_
  have I4 : Inv X pins σ H3 { s3 with heap := s3.heap.push { cls := .type "slice", data := .fields #[vl, vu, .none] } } := I3.kept (t' := s3.toks) fun b ob q => Heap.get?_push_of_some _ q
  obtain ⟨T, id, hT, ht, hg⟩ := hr pins { s3 with heap := s3.heap.push { cls := .type "slice", data := .fields #[vl, vu, .none] } } σ H3 x v vl vu l u s3.heap.objs.size Q I4 r1 (Heap.IsSliceOf.new ..) pl pu q3
  show wpAny (model X.prog X.w) X.A (subscriptTail e (.Slice lo hi none p2) v (.ref s3.heap.objs.size)) (EP X pins σ Q) X.xe { s3 with heap := s3.heap.push { cls := .type "slice", data := .fields #[vl, vu, .none] } }
  exact tail_any (ops := [.ref s3.heap.objs.size, v]) ht hT hg (by with_unfolding_all rfl)


def cutV (xs : List V) (lo hi : Option Int) : List V := (xs.drop (HT.sIx xs.length 0 lo)).take (HT.sIx xs.length xs.length hi - HT.sIx xs.length 0 lo)
theorem cutV_length (xs : List V) (lo hi : Option Int) : (cutV xs lo hi).length ≤ xs.length := by
  unfold cutV
  rw [List.length_take, List.length_drop]
  omega

end
end L2

namespace L2
open PySem PySem.Spec PyProof.Rows



def ixN (n : Nat) (i : Int) : Option Nat := if 0 ≤ i then (if i < n then some i.toNat else none) else if -(n : Int) ≤ i then some (i + n).toNat else none
def atI {α : Type} (xs : List α) (i : Int) : Option α := (ixN xs.length i).bind fun j => xs[j]?
theorem ixN_seq {n : Nat} {i : Int} {j : Nat} (h : ixN n i = some j) : seqIndex? i n = some j ∧ j < n ∧ -(n : Int) ≤ i ∧ i < n := by
  unfold ixN at h
  by_cases h0 : 0 ≤ i
  · rw [if_pos h0] at h
    by_cases h1 : i < n
    · rw [if_pos h1] at h
      have e : i.toNat = j := Option.some.inj h
      exact ⟨by rw [seqIndex_of h0 h1, e], by omega, by omega, h1⟩
    · rw [if_neg h1] at h; cases h
  · rw [if_neg h0] at h
    by_cases h1 : -(n : Int) ≤ i
    · rw [if_pos h1] at h
      have e : (i + n).toNat = j := Option.some.inj h
      exact ⟨by rw [seqIndex_neg (by omega) h1, e], by omega, h1, by omega⟩
    · rw [if_neg h1] at h; cases h
theorem atI_get {α : Type} {xs : List α} {i : Int} {v : α} (h : atI xs i = some v) : ∃ j, seqIndex? i xs.length = some j ∧ xs[j]? = some v ∧ j < xs.length ∧ -(xs.length : Int) ≤ i ∧ i < xs.length := by
  unfold atI at h
  cases e : ixN xs.length i with
  | none => rw [e] at h; cases h
  | some j =>
    rw [e] at h
    obtain ⟨h1, h2, h3, h4⟩ := ixN_seq e
    exact ⟨j, h1, h, h2, h3, h4⟩
theorem atI_nat {α : Type} {xs : List α} {j : Nat} {v : α} (h : xs[j]? = some v) : atI xs (j : Int) = some v := by
  have hj : j < xs.length := (List.getElem?_eq_some_iff.mp h).1
  have e : ixN xs.length (j : Int) = some j := by
    unfold ixN
    rw [if_pos (by omega), if_pos (by omega)]; simp
  unfold atI; rw [e]; exact h
theorem atI_last {α : Type} (xs : List α) (v : α) : atI (xs ++ [v]) (-1) = some v := by
  have hl : (xs ++ [v]).length = xs.length + 1 := by simp
  have e : ixN (xs ++ [v]).length (-1) = some xs.length := by
    unfold ixN
    rw [hl, if_neg (by decide), if_pos (by omega)]
    congr 1
    omega
  unfold atI
  rw [e]
  show (xs ++ [v])[xs.length]? = some v
  simp



def PlainIx (b : Expr) : Prop := ∀ o i, subscripted b false o i = operate [o, i] (getItem o i)

def IxR (X : Cx) (r : R2) : Prop :=
  ∀ (value slice : Expr) (pins : List (Addr × Obj)) (s : Shared) (σ : St) (H : Hp) (x y : V) (v u : Value) (Q : VK), Inv X pins σ H s → RelV x v → RelV y u → r x y H Q →
    subscripted slice false v u = operate [v, u] (getItem v u) → wpAny (model X.prog X.w) X.A (subscriptTail value slice v u) (EP X pins σ Q) X.xe s

def MtR (X : Cx) (id : String) (r : V → List V → Hp → VK → Prop) : Prop :=
  ∀ (pins : List (Addr × Obj)) (s : Shared) (σ : St) (H : Hp) (x : V) (xs : List V) (v : Value) (us : List Value) (Q : VK), Inv X pins σ H s → RelV x v → Vals xs us → r x xs H Q →
    wpAny (model X.prog X.w) X.A (call (.builtin id) (v :: us)) (EP X pins σ Q) X.xe s
section
variable {X : Cx} {a b : Expr} {ta tb : TE} {pos : Pos}
theorem IxR.or {r r' : R2} (h : IxR X r) (h' : IxR X r') : IxR X (fun x y H Q => r x y H Q ∨ r' x y H Q) := by
  intro value slice pins s σ H x y v u Q I rx ry q hs
  rcases q with q | q
  · exact h value slice pins s σ H x y v u Q I rx ry q hs
  · exact h' value slice pins s σ H x y v u Q I rx ry q hs
theorem pe_ix {r : R2} (hr : IxR X r) (ha : PE X a ta) (hb : PE X b tb) (hs : PlainIx b) : PE X (.Subscript a b pos) (tOp r ta tb) := by
  intro pins s σ H Q I h
  exact Subscript_ (binT ha hb I h fun v u s2 x y H2 I2 rx ry q => hr a b pins s2 σ H2 x y v u Q I2 rx ry q (hs _ _))

def rIxL (K : PySem.W.Frag) : R2 := fun x y H Q => ∃ p xs i v, x = .ref p ∧ y = .int i ∧ SqL K H p xs ∧ atI xs i = some v ∧ Q v H
def rIxT (K : PySem.W.Frag) : R2 := fun x y H Q => ∃ p xs i v, x = .ref p ∧ y = .int i ∧ SqT K H p xs ∧ atI xs i = some v ∧ Q v H
def rIxS : R2 := fun x y H Q => ∃ z i c, x = .str z ∧ y = .int i ∧ z.length ≤ sizeLine ∧ atI z.cps.toList i = some c ∧ Q (.str ⟨#[c]⟩) H
theorem ix_list : IxR X (rIxL X.K) := by
  intro value slice pins s σ H x y v u Q I rx ry h hs
  obtain ⟨p, xs, i, z, rfl, rfl, hq, he, q⟩ := h
  cases rx
  obtain ⟨t, rfl⟩ := ry
  obtain ⟨its, r, pl, hz⟩ := I.list hq
  obtain ⟨j, h1, h2, h3, h4, h5⟩ := atI_get he
  obtain ⟨w, ew, rw'⟩ := r.get h2
  have hl := r.length
  have hn := line63
  have fin : EP X pins σ Q w s := ⟨z, H, I, rw', q⟩
  by_cases h0 : 0 ≤ i
  · have hj : i.toNat = j := by
      rw [seqIndex_of h0 h5] at h1
      exact Option.some.inj h1
    exact item_listR pl.isList h0 (by omega) (by rw [hj]; simpa using ew) fin hs
  · have hj : (i + (its.toArray.size : Int)).toNat = j := by
      rw [seqIndex_neg (by omega) h4] at h1
      rw [List.size_toArray, ← hl]
      exact Option.some.inj h1
    exact subscriptTail_builtinR (x := w) pl.isList.typeIs slot_list_getitem.lookup
      (wpAny_getItem_list_neg (Q := fun r s' => r = w ∧ EP X pins σ Q r s') pl.isList (by omega) (by rw [List.size_toArray] <;> omega) (by omega) (by rw [hj]; simpa using ew) ⟨rfl, fin⟩) hs
theorem ix_tup : IxR X (rIxT X.K) := by
  intro value slice pins s σ H x y v u Q I rx ry h hs
  obtain ⟨p, xs, i, z, rfl, rfl, hq, he, q⟩ := h
  cases rx
  obtain ⟨t, rfl⟩ := ry
  obtain ⟨its, r, pl, hz⟩ := I.tuple hq
  obtain ⟨j, h1, h2, h3, h4, h5⟩ := atI_get he
  obtain ⟨w, ew, rw'⟩ := r.get h2
  have hl := r.length
  have hn := line63
  have fin : EP X pins σ Q w s := ⟨z, H, I, rw', q⟩
  exact subscriptTail_builtinR (x := w) pl.typeIs slot_tuple_getitem.lookup
    (getItem_tuple (j := j) (Q := fun r s' => r = w ∧ EP X pins σ Q r s') pl (by omega) (by omega) (by rw [List.size_toArray, ← hl]; exact h1) (by simpa using ew) ⟨rfl, fin⟩) hs
theorem ix_str : IxR X rIxS := by
  intro value slice pins s σ H x y v u Q I rx ry h hs
  obtain ⟨z, i, c, rfl, rfl, hz, he, q⟩ := h
  obtain ⟨t, rfl⟩ := rx
  obtain ⟨t', rfl⟩ := ry
  obtain ⟨j, h1, h2, h3, h4, h5⟩ := atI_get he
  have hl : z.cps.toList.length = z.length := by simp [Str.length]
  rw [hl] at h1 h4 h5
  have hn := line63
  exact tail_any (typeIs_str s z t) slot_str_getitem.lookup (getItem_str (c := c) (by
    have e1 : decide (i < -(2 ^ 63 : Int)) = false := decide_eq_false (by omega)
    have e2 : decide (i ≥ 2 ^ 63) = false := decide_eq_false (by omega)
    rw [e1, e2, Bool.or_false]) (by rw [h1]; simpa using h2) ⟨.str ⟨#[c]⟩, H, I.tok _, ⟨_, rfl⟩, q⟩) hs

theorem mapSeq_set (its : List Value) (n j : Nat) (u : Value) : Obj.mapSeq (·.setIfInBounds j u) { cls := .type "list", data := .seq its.toArray n } = { cls := .type "list", data := .seq (its.set j u).toArray n } := by
  simp [Obj.mapSeq]
theorem Inv.lst {pins : List (Addr × Obj)} {σ : St} {H : Hp} {s : Shared} {p : Addr} {xs : List V} (I : Inv X pins σ H s) (h : H p = some (.lst xs)) :
    ∃ (its : List Value) (n : Nat), Vals xs its ∧ s.heap.get? p = some { cls := .type "list", data := .seq its.toArray n } ∧ xs.length ≤ sizeLine := by
  obtain ⟨z, its, n, r, e⟩ := I.hok p _ h
  exact ⟨its, n, r, e, z⟩

theorem Inv.lstUpd {pins : List (Addr × Obj)} {σ : St} {H : Hp} {s : Shared} {p : Addr} {xs ys : List V} {its its' : List Value} {n n' : Nat} {f : Obj → Obj} (I : Inv X pins σ H s) (h : H p = some (.lst xs))
    (ho : s.heap.get? p = some { cls := .type "list", data := .seq its.toArray n }) (hf : f { cls := .type "list", data := .seq its.toArray n } = { cls := .type "list", data := .seq its'.toArray n' }) (r : Vals ys its') (hz : ys.length ≤ sizeLine) (t : Nat) :
    Inv X pins σ (upd H p (.lst ys)) { s with heap := s.heap.update p f, toks := t } := by
  have e : (s.heap.update p f).get? p = some { cls := .type "list", data := .seq its'.toArray n' } := by
    rw [Heap.get?_update_self f ho (by rw [hf] <;> rfl), hf]
  refine I.write (x := p) (e := p) (by rw [h]; trivial) (.inl rfl) (fun b u hb q => (Heap.get?_update_other _ _ (Ne.symm hb)).trans q) ⟨_, e⟩ ?_
  exact ⟨hz, its', n', r, e⟩
def rSetL : V → V → V → Hp → (Hp → Prop) → Prop := fun o i v H Q => ∃ p xs k j, o = .ref p ∧ i = .int k ∧ H p = some (.lst xs) ∧ ixN xs.length k = some j ∧ Q (upd H p (.lst (xs.set j v)))
theorem set_list : PSet X rSetL := by
  intro pins s σ H o i v ov iv u Q I ro ri rv h
  obtain ⟨p, xs, k, j, rfl, rfl, hp, hj, q⟩ := h
  cases ro
  obtain ⟨t, rfl⟩ := ri
  obtain ⟨its, n, r, ho, hz⟩ := I.lst hp
  obtain ⟨h1, h2, h3, h4⟩ := ixN_seq hj
  have hl := r.length
  have hn := line63
  have I' : Inv X pins σ (upd H p (.lst (xs.set j v))) { s with heap := s.heap.update p (Obj.mapSeq (·.setIfInBounds j u)) } :=
    I.lstUpd hp ho (mapSeq_set its n j u) (r.set rv j) (by rw [List.length_set]; exact hz) s.toks
  by_cases h0 : 0 ≤ k
  · have hk : k.toNat = j := by
      rw [seqIndex_of h0 h4] at h1
      exact Option.some.inj h1
    exact PySem.W.ki_setAt ho h0 (by omega) (by rw [List.size_toArray, ← hl]; exact h4) (by rw [hk]; exact ⟨_, I', q⟩)
  · have hk : (k + (its.toArray.size : Int)).toNat = j := by
      rw [seqIndex_neg (by omega) h3] at h1
      rw [List.size_toArray, ← hl]
      exact Option.some.inj h1
    exact PySem.W.ki_setBack ho (by omega) (by rw [List.size_toArray, ← hl]; exact h3) (by omega) (by rw [hk]; exact ⟨_, I', q⟩)


theorem slice_bounds (lo hi : Option Int) (n : Nat) : (sliceBounds lo hi none n).1 = ((HT.sIx n 0 lo : Nat) : Int) ∧ (sliceBounds lo hi none n).2.1 = ((HT.sIx n n hi : Nat) : Int) ∧ (sliceBounds lo hi none n).2.2 = 1 := by
  refine ⟨?_, ?_, rfl⟩
  · cases lo with
    | none => simp [sliceBounds, HT.sIx]
    | some i =>
      simp only [sliceBounds, HT.sIx, Option.getD_none, show (1 : Int) > 0 by decide, if_true]
      by_cases h : i < 0
      · simp only [h, if_true] <;> omega
      · simp only [h, if_false] <;> omega
  · cases hi with
    | none => simp [sliceBounds, HT.sIx]
    | some i =>
      simp only [sliceBounds, HT.sIx, Option.getD_none, show (1 : Int) > 0 by decide, if_true]
      by_cases h : i < 0
      · simp only [h, if_true] <;> omega
      · simp only [h, if_false] <;> omega
theorem slicePick_cut (its : List Value) (lo hi : Option Int) : slicePick its.toArray lo hi none = ((its.drop (HT.sIx its.length 0 lo)).take (HT.sIx its.length its.length hi - HT.sIx its.length 0 lo)).toArray := by
  obtain ⟨h1, h2, h3⟩ := slice_bounds lo hi its.toArray.size
  unfold slicePick
  rw [h1, h2, h3]
  simp only [sliceRange_one, pick_run, List.size_toArray] <;> rfl

def rSlL (K : PySem.W.Frag) : V → Option Int → Option Int → Hp → VK → Prop := fun x lo hi H Q => ∃ a xs, x = .ref a ∧ SqL K H a xs ∧ ∀ p, H p = none → Q (.ref p) (upd H p (.lst (cutV xs lo hi)))
theorem sl_list : SlR X (rSlL X.K) := by
  intro pins s σ H x v vl vu lo hi sl Q I rx hs pl pu h
  obtain ⟨a, xs, rfl, hx, q⟩ := h
  cases rx
  obtain ⟨its, r, ht, hz⟩ := I.list hx
  have hlen := r.length
  refine ⟨"list", _, slot_list_getitem.lookup, ht.isList.typeIs, ?_⟩
  refine wpAny_getItem_list_slice ht.isList hs pl pu .none (by simp) ?_ (by rw [List.size_toArray] <;> omega)
  rw [slicePick_cut, ← hlen]
  refine ⟨.ref s.heap.objs.size, _, I.laid (t' := s.toks) (o := .lst (cutV xs lo hi)) (fun b ob q => Heap.get?_push_of_some _ q) (Nat.le_refl _) ?_, rfl, q _ (I.hok.fresh (Nat.le_refl _))⟩
  exact ⟨Nat.le_trans (cutV_length xs lo hi) hz, _, 0, (r.drop (HT.sIx xs.length 0 lo)).take (HT.sIx xs.length xs.length hi - HT.sIx xs.length 0 lo), Heap.get?_push_size _ rfl⟩


def flatV : V → Bool
  | .non => true
  | .bl _ => true
  | .int _ => true
  | .str _ => true
  | _ => false

def eqV : V → V → Bool
  | .non, .non => true
  | .bl a, .bl b => a == b
  | .bl a, .int b => (if a then 1 else 0) == b
  | .int a, .bl b => a == (if b then 1 else 0)
  | .int a, .int b => a == b
  | .str a, .str b => a == b
  | _, _ => false
theorem eqAt_V {A : Around} {s : Shared} {y x : V} {u v : Value} (ry : RelV y u) (rx : RelV x v) (fy : flatV y = true) (fx : flatV x = true) : SeqAt.EqAt A s u v (eqV y x) := by
  cases y with
  | non =>
    cases ry
    cases x with
    | non => cases rx; exact SeqAt.EqAt.same _
    | bl b => cases rx; exact SeqAt.EqAt.none_bool b
    | int b => obtain ⟨t, rfl⟩ := rx; exact SeqAt.EqAt.none_int b t
    | str b => obtain ⟨t, rfl⟩ := rx; exact SeqAt.EqAt.none_str b t
    | _ => exact absurd (show false = true from fx) Bool.false_ne_true
  | bl a =>
    cases ry
    cases x with
    | non => cases rx; exact SeqAt.EqAt.bool_none a
    | bl b => cases rx; exact SeqAt.EqAt.bool_bool a b
    | int b => obtain ⟨t, rfl⟩ := rx; exact SeqAt.EqAt.bool_int a b t
    | str b => obtain ⟨t, rfl⟩ := rx; exact SeqAt.EqAt.bool_str a b t
    | _ => exact absurd (show false = true from fx) Bool.false_ne_true
  | int a =>
    obtain ⟨t', rfl⟩ := ry
    cases x with
    | non => cases rx; exact SeqAt.EqAt.int_none a t'
    | bl b => cases rx; exact SeqAt.EqAt.int_bool a t' b
    | int b => obtain ⟨t, rfl⟩ := rx; exact SeqAt.EqAt.int_int a t' b t
    | str b => obtain ⟨t, rfl⟩ := rx; exact SeqAt.EqAt.int_str a t' b t
    | _ => exact absurd (show false = true from fx) Bool.false_ne_true
  | str a =>
    obtain ⟨t', rfl⟩ := ry
    cases x with
    | non => cases rx; exact SeqAt.EqAt.str_none a t'
    | bl b => cases rx; exact SeqAt.EqAt.str_bool a t' b
    | int b => obtain ⟨t, rfl⟩ := rx; exact SeqAt.EqAt.str_int a t' b t
    | str b => obtain ⟨t, rfl⟩ := rx; exact SeqAt.EqAt.str_str a t' b t
    | _ => exact absurd (show false = true from fx) Bool.false_ne_true
  | _ => exact absurd (show false = true from fy) Bool.false_ne_true

def eqU (x : V) (u : Value) : Bool := match u with
  | .none => eqV .non x
  | .bool b => eqV (.bl b) x
  | .int i _ => eqV (.int i) x
  | .str z _ => eqV (.str z) x
  | _ => false
theorem eqU_of {x y : V} {u : Value} (r : RelV y u) (f : flatV y = true) : eqU x u = eqV y x := by
  cases y with
  | non => cases r; rfl
  | bl b => cases r; rfl
  | int i => obtain ⟨t, rfl⟩ := r; rfl
  | str z => obtain ⟨t, rfl⟩ := r; rfl
  | _ => exact absurd (show false = true from f) Bool.false_ne_true
theorem any_eqU {x : V} : ∀ {xs : List V} {us : List Value}, Vals xs us → xs.all flatV = true → us.any (eqU x) = xs.any fun y => eqV y x
  | _, _, .nil, _ => rfl
  | y :: xs, u :: us, .cons r t, f => by
    rw [List.all_cons, Bool.and_eq_true] at f
    rw [List.any_cons, List.any_cons, eqU_of r f.1, any_eqU t f.2]
theorem mem_eqAt {A : Around} {s : Shared} {x : V} {v : Value} (rx : RelV x v) (fx : flatV x = true) : ∀ {xs : List V} {us : List Value}, Vals xs us → xs.all flatV = true → ∀ u ∈ us, SeqAt.EqAt A s u v (eqU x u)
  | _, _, .nil, _ => fun u hu => by cases hu
  | y :: xs, u :: us, .cons r t, f => fun u' hu => by
    rw [List.all_cons, Bool.and_eq_true] at f
    rcases List.mem_cons.mp hu with rfl | hu
    · rw [eqU_of r f.1]; exact eqAt_V r rx f.1 fx
    · exact mem_eqAt rx fx t f.2 u' hu
def inV (x : V) (xs : List V) : Bool := xs.any fun y => eqV y x

def rIn (K : PySem.W.Frag) (neg : Bool) : R2 := fun x y H Q => ∃ p xs, y = .ref p ∧ (SqL K H p xs ∨ SqT K H p xs) ∧ flatV x = true ∧ xs.all flatV = true ∧ Q (.bl (if neg then !inV x xs else inV x xs)) H
theorem op_in_seq : OpR X (compareOp .In) (rIn X.K false) := by
  intro pins s σ H x y v u Q I rx ry h
  obtain ⟨p, xs, rfl, hq, fx, fs, q⟩ := h
  cases ry
  rcases hq with hq | hq
  · obtain ⟨its, r, pl, hz⟩ := I.list hq
    refine SeqAt.in_listAt (eqU x) pl.isList (fun w hw => mem_eqAt rx fx r fs w (by simpa using hw)) ⟨.bl _, H, I, rfl, ?_⟩
    rw [show its.toArray.any (eqU x) = its.any (eqU x) by simp, any_eqU r fs]
    exact q
  · obtain ⟨its, r, pl, hz⟩ := I.tuple hq
    refine SeqAt.in_tupleAt (eqU x) pl (fun w hw => mem_eqAt rx fx r fs w (by simpa using hw)) ⟨.bl _, H, I, rfl, ?_⟩
    rw [show its.toArray.any (eqU x) = its.any (eqU x) by simp, any_eqU r fs]
    exact q
theorem op_notIn_seq : OpR X (compareOp .NotIn) (rIn X.K true) := by
  intro pins s σ H x y v u Q I rx ry h
  obtain ⟨p, xs, rfl, hq, fx, fs, q⟩ := h
  cases ry
  rcases hq with hq | hq
  · obtain ⟨its, r, pl, hz⟩ := I.list hq
    refine SeqAt.notIn_listAt (eqU x) pl.isList (fun w hw => mem_eqAt rx fx r fs w (by simpa using hw)) ⟨.bl _, H, I, rfl, ?_⟩
    rw [show its.toArray.any (eqU x) = its.any (eqU x) by simp, any_eqU r fs]
    exact q
  · obtain ⟨its, r, pl, hz⟩ := I.tuple hq
    refine SeqAt.notIn_tupleAt (eqU x) pl (fun w hw => mem_eqAt rx fx r fs w (by simpa using hw)) ⟨.bl _, H, I, rfl, ?_⟩
    rw [show its.toArray.any (eqU x) = its.any (eqU x) by simp, any_eqU r fs]
    exact q
theorem call_len_seq : CallR X (.builtin "len") (fun xs H Q => ∃ p ys, xs = [.ref p] ∧ (SqL X.K H p ys ∨ SqT X.K H p ys) ∧ Q (.int ys.length) H) := by
  intro pins s σ H xs us Q I r h
  obtain ⟨p, ys, rfl, hq, q⟩ := h
  obtain ⟨u, rfl, rx⟩ := vals1 r
  cases rx
  have hn := line63
  rcases hq with hq | hq
  · obtain ⟨its, r', pl, hz⟩ := I.list hq
    have hlen := r'.length
    exact Calls.call_len_list pl.isList (by simp only [List.size_toArray] <;> omega) ⟨.int ys.length, H, I.tok _, ⟨s.toks + 1, by rw [List.size_toArray, hlen]⟩, q⟩
  · obtain ⟨its, r', pl, hz⟩ := I.tuple hq
    have hlen := r'.length
    exact len_tuple pl (by simp only [List.size_toArray] <;> omega) ⟨.int ys.length, H, I.tok _, ⟨s.toks + 1, by rw [List.size_toArray, hlen]⟩, q⟩
theorem call_len_str : CallR X (.builtin "len") (fun xs H Q => ∃ z, xs = [.str z] ∧ z.length ≤ sizeLine ∧ Q (.int z.length) H) := by
  intro pins s σ H xs us Q I r h
  obtain ⟨z, rfl, hz, q⟩ := h
  obtain ⟨u, rfl, t, rfl⟩ := vals1 r
  have hn := line63
  exact len_str (by omega) ⟨.int z.length, H, I.tok _, ⟨_, rfl⟩, q⟩
theorem CallR.or {f : Value} {r r' : List V → Hp → VK → Prop} (h : CallR X f r) (h' : CallR X f r') : CallR X f (fun xs H Q => r xs H Q ∨ r' xs H Q) := by
  intro pins s σ H xs us Q I rs q
  rcases q with q | q
  · exact h pins s σ H xs us Q I rs q
  · exact h' pins s σ H xs us Q I rs q
def tyV (K : PySem.W.Frag) (T : String) (x : V) (H : Hp) : Prop := match x with
  | .str _ => T = "str"
  | .int _ => T = "int"
  | .ref p => (T = "list" ∧ ∃ xs, SqL K H p xs) ∨ (T = "tuple" ∧ ∃ o, K.lookup p = some o ∧ o.cls = .type "tuple" ∧ o.dict = none) ∨
      (T = "dict" ∧ ((∃ kvs, H p = some (.dK kvs)) ∨ ∃ kvs, H p = some (.dT kvs))) ∨ (T = "set" ∧ ∃ S n, H p = some (.set S n))
  | _ => False
theorem tyV_is {pins : List (Addr × Obj)} {σ : St} {H : Hp} {s : Shared} {T : String} {x : V} {v : Value} (I : Inv X pins σ H s) (r : RelV x v) (ty : tyV X.K T x H) :
    s.TypeIs v T ∧ ∀ a, v = .ref a → ∃ ob, s.heap.get? a = some ob ∧ ob.dict = none := by
  cases x with
  | str z =>
    obtain ⟨t, rfl⟩ := r
    cases (show T = "str" from ty)
    exact ⟨typeIs_str s z t, fun _ e => nomatch e⟩
  | int i =>
    obtain ⟨t, rfl⟩ := r
    cases (show T = "int" from ty)
    exact ⟨typeIs_int s i t, fun _ e => nomatch e⟩
  | ref p =>
    cases r
    rcases ty with ⟨rfl, xs, hq⟩ | ⟨rfl, o, hk, hc, hd⟩ | ⟨rfl, hk⟩ | ⟨rfl, S, n, hk⟩
    · obtain ⟨its, _, pl, _⟩ := I.list hq
      refine ⟨pl.isList.typeIs, fun a e => ?_⟩
      cases e
      obtain ⟨o, n, e, c, hd, _⟩ := pl
      exact ⟨o, e, hd⟩
    · refine ⟨⟨o, I.kIn p o hk, hc⟩, fun a e => ?_⟩
      cases e
      exact ⟨o, I.kIn _ o hk, hd⟩
    · have z : ∃ o, s.heap.get? p = some o ∧ o.ExactDict := by
        rcases hk with ⟨kvs, hk⟩ | ⟨kvs, hk⟩
        · obtain ⟨_, _, _, _, o, _, _, e, ex, _⟩ := I.hok p _ hk
          exact ⟨o, e, ex⟩
        · obtain ⟨_, _, _, _, o, _, _, e, ex, _⟩ := I.hok p _ hk
          exact ⟨o, e, ex⟩
      obtain ⟨o, e, ex⟩ := z
      refine ⟨⟨o, e, ex.1⟩, fun a e2 => ?_⟩
      cases e2
      exact ⟨o, e, ex.2.1⟩
    · obtain ⟨o, _, _, _, e, ex, _⟩ := I.hok p _ hk
      refine ⟨⟨o, e, ex.1⟩, fun a e2 => ?_⟩
      cases e2
      exact ⟨o, e, ex.2.1⟩
  | _ => exact False.elim ty
def tBM0 (K : PySem.W.Frag) (T : String) (r : V → List V → Hp → VK → Prop) (to : TE) : TE := fun σ H Q => to σ H fun x H1 => tyV K T x H1 ∧ r x [] H1 Q
def tBM (K : PySem.W.Frag) (T : String) (r : V → List V → Hp → VK → Prop) (to : TE) (t : TA) : TE := fun σ H Q => to σ H fun x H1 => tyV K T x H1 ∧ t σ H1 fun xs H2 => r x xs H2 Q
variable {o e : Expr} {es : List Expr} {to : TE} {t : TA} {name : Str} {apos cpos : Pos} {T id : String} {r : V → List V → Hp → VK → Prop}
theorem pe_bm0 (pa : PlainAttrs T) (slot : Slot T name id) (hty : typeOf (.builtin id) = pure (.type "method_descriptor")) (hm : MtR X id r) (ho : PE X o to)
    (hbase : attributeBase o name X.env (eval o X.env) = eval o X.env := by rfl) (hline : (apos.endLine == cpos.line) = true := by rfl) : PE X (.Call (.Attribute o name apos) [] [] cpos) (tBM0 X.K T r to) := by
  intro pins s σ H Q I h
  refine wpAny_Call_method0_late hbase hline (thn (ho pins s σ H _ I h) fun v s1 ⟨x, H1, I1, r1, ty, q1⟩ => ?_)
  obtain ⟨h1, h2⟩ := tyV_is I1 r1 ty
  exact ⟨T, id, pa, slot, hty, h1, h2, Calls.callWith_builtin rfl (PySem.evalArgs_none (hm pins s1 σ H1 x [] v [] Q I1 r1 .nil q1))⟩
theorem pe_bm (pa : PlainAttrs T) (slot : Slot T name id) (hty : typeOf (.builtin id) = pure (.type "method_descriptor")) (hm : MtR X id r) (ho : PE X o to) (ha : PA X (e :: es) t)
    (hbase : attributeBase o name X.env (eval o X.env) = eval o X.env := by rfl)
    (hfew : ((backTo cpos (starEach (e :: es) X.env)).all (fun x => !x.1) && (backToKw cpos (keywordEach [] X.env)).all (fun x => x.1.isSome)
      && decide ((e :: es).length + ([] : List Keyword).length + (if ([] : List Keyword).isEmpty then 0 else 1) < 30)) = true := by rfl)
    (hline : (apos.endLine == cpos.line) = true := by rfl) (hs : starEach (e :: es) X.env = (false, eval e X.env) :: starEach es X.env := by rfl) (hplain : (backTo cpos (starEach es X.env)).any (·.1) = false := by rfl) :
    PE X (.Call (.Attribute o name apos) (e :: es) [] cpos) (tBM X.K T r to t) := by
  intro pins s σ H Q I h
  refine wpAny_Call_method_late hbase hfew hline rfl (thn (ho pins s σ H _ I h) fun v s1 ⟨x, H1, I1, r1, ty, q1⟩ => ?_)
  obtain ⟨h1, h2⟩ := tyV_is I1 r1 ty
  refine ⟨T, id, pa, slot, hty, h1, h2, ?_⟩
  have hA := ha cpos pins s1 σ H1 _ I1 q1
  rw [hs] at hA ⊢
  refine Calls.callWith_builtin (by show (false || (backTo cpos (starEach es X.env)).any (·.1)) = false; rw [hplain] <;> rfl) (Calls.evalArgs_plain ?_)
  exact thn hA fun us s2 ⟨vs, H2, I2, r2, q2⟩ => hm pins s2 σ H2 x vs v us Q I2 r1 r2 q2

end
end L2

namespace L2
open PySem PySem.Spec PyProof.Rows

def MtM (X : Cx) (id : String) (r : V → List V → Hp → VK → Prop) : Prop :=
  ∀ (pins : List (Addr × Obj)) (s : Shared) (σ : St) (H : Hp) (x : V) (xs : List V) (v : Value) (us : List Value) (Q : VK), Inv X pins σ H s → RelV x v → Vals xs us → r x xs H Q →
    wpAny (model X.prog X.w) X.A (call (.builtin id) (v :: us)) (EP X pins σ Q) X.xe s


theorem Vals.one : ∀ {x : V} {us : List Value}, Vals [x] us → ∃ u, us = [u] ∧ RelV x u
  | _, _, .cons r .nil => ⟨_, rfl, r⟩
theorem Vals.zero : ∀ {us : List Value}, Vals [] us → us = []
  | _, .nil => rfl
theorem Vals.dropLast {xs : List V} {us : List Value} (h : Vals xs us) : Vals xs.dropLast us.dropLast := by
  induction h with
  | nil => exact .nil
  | cons r t ih =>
    cases t with
    | nil => exact .nil
    | cons q t' => exact .cons r ih
theorem Vals.reverse {xs : List V} {us : List Value} (h : Vals xs us) : Vals xs.reverse us.reverse := by
  induction h with
  | nil => exact .nil
  | cons r t ih => rw [List.reverse_cons, List.reverse_cons]; exact Vals.append ih (.cons r .nil)
theorem Vals.rep {xs : List V} {us : List Value} (h : Vals xs us) : ∀ k : Nat, Vals (List.replicate k xs).flatten (List.replicate k us).flatten
  | 0 => .nil
  | k + 1 => by
    rw [List.replicate_succ, List.replicate_succ, List.flatten_cons, List.flatten_cons]
    exact Vals.append h (Vals.rep h k)
theorem erase_last {α : Type} (l : List α) : l.eraseIdx (l.length - 1) = l.dropLast := by
  induction l with
  | nil => rfl
  | cons a r ih =>
    cases r with
    | nil => rfl
    | cons b r =>
      have e : (a :: b :: r).length - 1 = ((b :: r).length - 1) + 1 := by
        have h1 : (a :: b :: r).length = r.length + 2 := rfl
        have h2 : (b :: r).length = r.length + 1 := rfl
        omega
      rw [e, List.eraseIdx_cons_succ, ih]
      all_goals rfl
theorem foldl_rep (its : List Value) : ∀ (k : Nat) (acc : List Value),
    List.foldl (fun x1 x2 => x1 ++ x2) acc.toArray (List.replicate k its.toArray) = (acc ++ (List.replicate k its).flatten).toArray
  | 0, acc => by simp
  | k + 1, acc => by
    have e : acc.toArray ++ its.toArray = (acc ++ its).toArray := by simp
    have e2 : (acc ++ its) ++ (List.replicate k its).flatten = acc ++ (List.replicate (k + 1) its).flatten := by
      rw [List.replicate_succ, List.flatten_cons, List.append_assoc]
    rw [← e2, ← foldl_rep its k (acc ++ its), ← e, List.replicate_succ, List.foldl_cons]

section
variable {X : Cx} {pins : List (Addr × Obj)} {σ : St} {H : Hp} {s : Shared} {l b : Addr} {xs ys zs : List V}


theorem Inv.lset {its its' : List Value} {n : Nat} {f : Array Value → Array Value} {t' : Nat} (I : Inv X pins σ H s) (hH : H l = some (.lst xs))
    (e : s.heap.get? l = some { cls := .type "list", data := .seq its.toArray n }) (hf : f its.toArray = its'.toArray) (hv : Vals ys its') (hz : ys.length ≤ sizeLine) :
    Inv X pins σ (upd H l (.lst ys)) { s with heap := s.heap.update l (Obj.mapSeq f), toks := t' } := by
  have q := PySem.IsL.update e f
  rw [hf] at q
  refine I.write (x := l) (e := l) (by rw [hH]; exact trivial) (.inl rfl) (fun b' u hb hu => (Heap.get?_update_other s.heap (Obj.mapSeq f) (Ne.symm hb)).trans hu) ⟨_, q⟩ ?_
  exact ⟨hz, its', _, hv, q⟩
theorem Inv.lnew {its : List Value} {t' : Nat} (I : Inv X pins σ H s) (hv : Vals ys its) (hz : ys.length ≤ sizeLine) :
    Inv X pins σ (upd H s.heap.objs.size (.lst ys)) { s with heap := s.heap.push { cls := .type "list", data := .seq its.toArray }, toks := t' } :=
  I.laid (fun _ _ q => Heap.get?_push_of_some _ q) (Nat.le_refl _) ⟨hz, its, 0, hv, Heap.get?_push_size _ rfl⟩
theorem Inv.fresh (I : Inv X pins σ H s) : H s.heap.objs.size = none := I.hok.fresh (Nat.le_refl _)
theorem Inv.lstM (I : Inv X pins σ H s) (hH : H l = some (.lst xs)) : xs.length ≤ sizeLine ∧ ∃ (its : List Value) (n : Nat), Vals xs its ∧ xs.length = its.length ∧ s.heap.get? l = some { cls := .type "list", data := .seq its.toArray n } := by
  obtain ⟨z, its, n, r, e⟩ := I.hok l _ hH
  exact ⟨z, its, n, r, r.length, e⟩

theorem notLongL {n : Nat} (h : n ≤ sizeLine) : Builtin.List.listTooLong n = false := by
  unfold Builtin.List.listTooLong
  exact decide_eq_false (by omega)
end

section
variable {X : Cx}


def rAppend : V → List V → Hp → VK → Prop := fun x vs H Q => ∃ l xs y, x = .ref l ∧ vs = [y] ∧ H l = some (.lst xs) ∧ xs.length < sizeLine ∧ Q .non (upd H l (.lst (xs ++ [y])))
theorem mt_append : MtM X "list.append" rAppend := by
  intro pins s σ H x vs v us Q I rx rv h
  obtain ⟨l, xs, y, rfl, rfl, hH, hz, q⟩ := h
  cases rx
  obtain ⟨u, rfl, ru⟩ := rv.one
  obtain ⟨z, its, n, r, hl, e⟩ := I.lstM hH
  refine call_meets F.slot_list_append ⟨_, e, rfl⟩ F.entry_list_append (F.args_list_append_2 _ _) (PySem.list_append l its.toArray n u (by rw [List.size_toArray]; omega)) ⟨e, ?_⟩
  refine ⟨.non, _, I.lset (its' := its ++ [u]) hH e (by simp) (r.append (.cons ru .nil)) ?_, rfl, q⟩
  rw [List.length_append, List.length_singleton]
  omega

def rPop : V → List V → Hp → VK → Prop := fun x vs H Q => ∃ l xs y, x = .ref l ∧ vs = [] ∧ H l = some (.lst xs) ∧ xs[xs.length - 1]? = some y ∧ Q y (upd H l (.lst xs.dropLast))
theorem mt_pop : MtM X "list.pop" rPop := by
  intro pins s σ H x vs v us Q I rx rv h
  obtain ⟨l, xs, y, rfl, rfl, hH, hy, q⟩ := h
  cases rx
  have hus := rv.zero
  subst hus
  obtain ⟨z, its, n, r, hl, e⟩ := I.lstM hH
  obtain ⟨u, hu, ru⟩ := r.get hy
  have hy' : its.toArray[its.toArray.size - 1]? = some u := by
    show its.toArray[its.length - 1]? = some u
    rw [← Array.getElem?_toList, ← hl]
    exact hu
  refine call_meets F.slot_list_pop ⟨_, e, rfl⟩ F.entry_list_pop (F.args_list_pop_1 _) (MeetsSeq.list_pop_last l its.toArray n u hy' (by rw [List.size_toArray]; omega)) ⟨e, ?_⟩
  refine ⟨y, _, I.lset (its' := its.dropLast) hH e ?_ r.dropLast ?_, ru, q⟩
  · show its.toArray.eraseIdxIfInBounds (its.toArray.size - 1) = its.dropLast.toArray
    rw [List.size_toArray, List.eraseIdxIfInBounds_toArray, erase_last]
  · rw [List.length_dropLast]
    omega

def rCat : R2 := fun x y H Q => ∃ l b xs zs, x = .ref l ∧ y = .ref b ∧ H l = some (.lst xs) ∧ H b = some (.lst zs) ∧ xs.length + zs.length ≤ sizeLine ∧ ∀ p, H p = none → Q (.ref p) (upd H p (.lst (xs ++ zs)))
theorem op_cat : OpR X (binaryOp .Add) rCat := by
  intro pins s σ H x y v u Q I rx ry h
  obtain ⟨l, b, xs, zs, rfl, rfl, hH, hB, hz, q⟩ := h
  cases rx
  cases ry
  obtain ⟨z, its, n, r, hl, e⟩ := I.lstM hH
  obtain ⟨z2, its2, n2, r2, hl2, e2⟩ := I.lstM hB
  refine PySem.P.add_list e e2 ?_ (by rw [List.size_toArray, List.size_toArray]; omega)
  have ea : its.toArray ++ its2.toArray = (its ++ its2).toArray := by simp
  rw [ea]
  exact ⟨.ref _, _, I.lnew (t' := s.toks) (r.append r2) (by rw [List.length_append]; omega), rfl, q _ I.fresh⟩

def rRep : R2 := fun x y H Q => ∃ l k xs, x = .ref l ∧ y = .int k ∧ H l = some (.lst xs) ∧ -(2 ^ 63) ≤ k ∧ k < 2 ^ 63 ∧ xs.length * k.toNat ≤ sizeLine ∧
  ∀ p, H p = none → Q (.ref p) (upd H p (.lst (List.replicate k.toNat xs).flatten))
theorem len_rep {α : Type} (xs : List α) (k : Nat) : (List.replicate k xs).flatten.length = k * xs.length := by
  induction k with
  | zero => simp
  | succ k ih => rw [List.replicate_succ, List.flatten_cons, List.length_append, ih, Nat.succ_mul, Nat.add_comm]
theorem op_rep : OpR X (binaryOp .Mult) rRep := by
  intro pins s σ H x y v u Q I rx ry h
  obtain ⟨l, k, xs, rfl, rfl, hH, h1, h2, hz, q⟩ := h
  cases rx
  obtain ⟨t, rfl⟩ := ry
  obtain ⟨z, its, n, r, hl, e⟩ := I.lstM hH
  have hlen : its.toArray.size * k.toNat ≤ sizeLine := by rw [List.size_toArray, ← hl]; exact hz
  have hcap : ¬ its.toArray.size * k.toNat > (2 ^ 63 - 1) / 8 := by
    have : (sizeLine : Nat) ≤ (2 ^ 63 - 1) / 8 := by decide
    omega
  have hfit : ¬ (!Builtin.List.listFitsIndex k) = true := by
    rw [fitsIndex_both h1 h2]
    exact Bool.false_ne_true
  have hlong : ¬ Builtin.List.listTooLong (its.toArray.size * k.toNat) = true := by
    rw [notLongL hlen]
    exact Bool.false_ne_true
  have hnew : List.foldl (fun x1 x2 => x1 ++ x2) #[] (List.replicate (if its.toArray.isEmpty = true then 0 else k.toNat) its.toArray) = (List.replicate k.toNat its).flatten.toArray := by
    have f0 : ∀ m : Nat, List.foldl (fun x1 x2 => x1 ++ x2) #[] (List.replicate m its.toArray) = (List.replicate m its).flatten.toArray := fun m => by
      have := foldl_rep its m []
      rw [List.nil_append] at this
      exact this
    rw [f0]
    cases its with
    | nil => simp
    | cons a r' => rw [if_neg (by simp)]
  refine wpAny_binaryOp_repeat_ref (T := "list") (U := "int") (by decide) ⟨_, e, rfl⟩ (fun s' => typeIs_int s' k t) noFill_list_mul F.fills_int_mul F.slot_int_rmul repeat_list F.slot_int_index.lookup
    (call_meets F.slot_int_rmul (typeIs_int s k t) F.entry_int_rmul (F.args_int_rmul_2 _ _) (int___rmul___int_list k t l its.toArray n)
      ⟨e, rfl, ⟨_, e, rfl⟩, call_meets F.slot_list_mul ⟨_, e, rfl⟩ F.entry_list_mul (F.args_list_mul_2 _ _) (AutoListH.list___mul___list_int_3 l its.toArray n k t hfit hcap hlong) ⟨e, ?_⟩⟩)
  rw [hnew]
  exact ⟨.ref _, _, I.lnew (t' := s.toks) (r.rep k.toNat) (by rw [len_rep, Nat.mul_comm]; exact hz), rfl, q _ I.fresh⟩


end


section
variable {prog : Program} {w : World} {A : Around} {E : Value → Shared → Prop} {s : Shared}
end

section
variable {X : Cx}

end
end L2

namespace Att
open PySem PySem.W PySem.Calls PyProof.Rows


theorem ints_of_wellAll {P : Params} {h : Heap} : ∀ (ns : List Int) (vs : List Value), WellAll P h vs (ns.map WData.int) → IntsAre vs ns := by
  intro ns
  induction ns with
  | nil =>
    intro vs w
    rw [List.map_nil] at w
    cases w
    exact .nil
  | cons n ns ih =>
    intro vs w
    rw [List.map_cons] at w
    cases w with
    | cons a b =>
      cases a
      exact .cons _ _ (ih _ b)

theorem script_of {l : OpenLaw} {n : Nat} (hn : l.most = some n) {P : Params} {h : Heap} {args : List WData} {vals : List Value}
    (hpre : l.row.toRowW.claim.pre args = true) (hwl : WellAll P h vals args) :
    ∃ a vs ns, vals = [Value.ref a] ∧ args = [WData.list (ns.map WData.int)] ∧ h.get? a = some { cls := .type "list", data := .seq vs.toArray } ∧ IntsAre vs ns ∧ ns.length ≤ n := by
  have hsh : WShape.hasAll [] args [.list .int] = true := (pre_splitW hpre).1
  have hc : l.pre.holds [] { args := args } = true := (pre_splitW hpre).2
  obtain ⟨d, r, rfl, h1, h2⟩ := hasAllW_cons hsh
  obtain rfl := hasAllW_nil h2
  obtain ⟨xs, rfl, h3⟩ := hasW_list h1
  obtain ⟨ns, rfl⟩ := items_int h3
  have hlen : ns.length ≤ n := by
    unfold OpenLaw.pre at hc
    have h4 : (WTm.not (.lt (.lit (.int (n : Int))) (.len (.arg 0)))).holds [] { args := [.list (ns.map .int)] } = true := by
      have h4 := (holds_andW hc).1
      rw [hn] at h4
      exact h4
    have h5 := condW_of h4 (w_not (w_lt w_lit (w_len_list (w_arg rfl))))
    rw [List.length_map] at h5
    refine Nat.le_of_not_lt fun q => ?_
    have q' : (n : Int) < ((ns.length : Nat) : Int) := by omega
    first
      | (rw [decide_eq_true q'] at h5; exact absurd h5 (by decide))
      | (simp at h5; omega)
  cases hwl with
  | cons w1 w2 =>
    cases w2
    cases w1 with
    | list ho hall => exact ⟨_, _, ns, rfl, rfl, ho, ints_of_wellAll ns _ hall, hlen⟩

theorem post_true (l : OpenLaw) (args : List WData) : l.row.toRowW.claim.post args (.bool true) args = true :=
  postW_of (r := l.row.toRowW) (X := (true == true))
    (show WShape.has [] (.bool true) .bool = true by first | rfl | decide | simp [WShape.has, WShape.arms, WShape.armsAll])
    (show (WTm.eq .res (.lit (.bool true))).value [] { args := args, res := some (.bool true), after := args } = some (.bool (true == true)) from w_eq_bool (w_res rfl) w_lit) rfl


theorem attach_call {l : OpenLaw} {n : Nat} {q : Program} {loose : List Str} {XP : (Str → Option Value) → Heap → Prop} {YP : World → Heap → Prop} {d : DefRec}
    (hn : l.most = some n) (hdf : d.params.defaults = [])
    (call : ∀ (w : World) (s₀ s₁ : Shared) (mg mb : Str → Option Value) (fa : Addr) (o : Obj) (pm cd doc : Value) (a : Addr) (vs : List Value) (ns : List Int),
      Ground q loose [] XP w s₀ mg mb s₁.heap → YP w s₁.heap →
      s₁.heap.get? fa = some o → o.data = .func (docDef d.name d.params d.body d.scope pm cd doc) → s₁.heap.CodeRec cd d.name → mg d.name = some (.ref fa) →
      s₁.heap.get? a = some { cls := .type "list", data := .seq vs.toArray } → IntsAre vs ns → ns.length ≤ n → s₁.gens = #[] →
      codeAny (model l.prog w) callerA (.call (.ref fa) ⟨[.ref a], []⟩) (fun r s' => r = .ok (.ret (.bool true)) ∧ OldK s₁.heap s'.heap ∧ s'.os = s₁.os ∧ AllBare s'.gens) s₁) :
    WalkO q loose XP YP l.row.toRowW d [] (fun f vs => PySem.call f vs) := by
  intro w s₀ s₁ mg mb G Y fa o pm cd doc dV kV ho hd hcd hD hmg hg args vals as hpre hlay hrd hwl hlo
  obtain rfl : dV = .none := Dflts.none hD hdf
  obtain rfl : kV = .none := Dflts.noKw hD
  obtain ⟨a, vs, ns, rfl, rfl, hobj, hints, hlen⟩ := script_of hn hpre hwl
  refine enter_call (codeAny_mono (call w s₀ s₁ mg mb fa o pm cd doc a vs ns G Y ho (fd_plain hd) hcd hmg hobj hints hlen hg) fun r s' hq => ?_)
  obtain ⟨rfl, h2, h3, h4⟩ := hq
  exact ⟨.inl ⟨.bool true, .bool true, [], rfl, fun _ => rfl, .bool true, post_true l _, fun _ => ⟨List.Pairwise.nil, fun _ hm => (nomatch hm)⟩⟩, h2, h3, h4⟩


section
variable {prog : Program} {w : World} {A : Around} {E : Value → Shared → Prop} {s : Shared} {K : Frag}


end
end Att

namespace L2
open PySem PySem.Spec PyProof.Rows

theorem vals_ints : ∀ {vs : List Value} {ns : List Int}, IntsAre vs ns → Vals (ns.map V.int) vs
  | _, _, .nil => .nil
  | _, _, .cons n t h => .cons ⟨t, rfl⟩ (vals_ints h)


def Only (H : Hp) : Prop := ∀ b, H b = none ∨ ∃ o xs, H b = some (.frz o (.lst xs))


theorem law_call {P : Program} {w : World} {K : PySem.W.Frag} {mg mb : Str → Option Value} {CX : CXT} {k : Nat} {fa a : Addr} {fd : FuncData} {x : Str} {sp : Sp} {s₁ : Shared} {vs : List Value} {ns : List Int}
    (KX : K.In s₁.heap) (hns : s₁.heap.Ns mainGlobals mg) (hb : s₁.heap.Ns builtinsNs mb) (hbb : ∀ x : Str, x ≠ "__name__" → mb x = bootBuiltins x) (hlim : s₁.heap.NoLimit) (hg : s₁.gens = #[])
    (ha : s₁.heap.get? a = some { cls := .type "list", data := .seq vs.toArray }) (hi : IntsAre vs ns) (hl : ns.length ≤ sizeLine) (hr : Room k callerA)
    (F : ∀ base : Heap, K.In base → base.Ns mainGlobals mg → FnOk P w K mg base CX k fa fd [x] sp) (hbind : ∀ (s : Shared) (u : Value), BindsTo s fd ⟨[u], []⟩ [(x, u)])
    (hsp : ∀ H : Hp, Only H → SqL K H a (ns.map V.int) → sp [.ref a] H (fun v _ => v = .bl true) fun _ _ _ => False)
    (hCX : ∀ H e s', CX [] H s₁ (fun _ _ _ => False) e s' → False) :
    codeAny (model P w) callerA (.call (.ref fa) ⟨[.ref a], []⟩) (fun r s' => r = .ok (.ret (.bool true)) ∧ OldK s₁.heap s'.heap ∧ s'.os = s₁.os ∧ AllBare s'.gens) s₁ := by
  have rv := vals_ints hi
  have lenV := hi.length
  -- from an abstract heap in which nothing but the script may be tracked
  have core : ∀ H : Hp, Only H → SqL K H a (ns.map V.int) → HOk P w H s₁.heap → (∀ b, H b ≠ none → b = a) → (H a ≠ none → K.lookup a = none) →
      codeAny (model P w) callerA (.call (.ref fa) ⟨[.ref a], []⟩) (fun r s' => r = .ok (.ret (.bool true)) ∧ OldK s₁.heap s'.heap ∧ s'.os = s₁.os ∧ AllBare s'.gens) s₁ := by
    intro H hO hS hok hA hK
    have base_of : ∀ {b : Addr} {o : Obj}, s₁.heap.get? b = some o → H b = none → (hidT s₁.heap H).get? b = some o := fun e n => hidT_get e n
    have noA : ∀ {b : Addr} {o : Obj} {es : Array DictEntry} {ep : Nat}, s₁.heap.get? b = some o → o.data = .dict es ep → H b = none := fun {b o es ep} e d => by
      cases q : H b with
      | none => rfl
      | some u =>
        have e' : b = a := hA b (by rw [q]; simp)
        subst e'
        rw [ha] at e; cases e
        have d' : Data.seq vs.toArray _ = Data.dict es ep := d
        cases d'
    have nsK : ∀ {b : Addr} {m : Str → Option Value}, s₁.heap.Ns b m → (hidT s₁.heap H).Ns b m := fun {b m} ⟨o, es, ep, e, d, r⟩ => ⟨o, es, ep, base_of e (noA e d), d, r⟩
    have hKb : K.In (hidT s₁.heap H) := fun b o e => base_of (KX b o e) (by
      cases q : H b with
      | none => rfl
      | some u =>
        have e' : b = a := hA b (by rw [q]; simp)
        subst e'
        rw [hK (by rw [q]; simp)] at e; cases e)
    have hM : Mod K mg (hidT s₁.heap H) := ⟨hKb, nsK hns, ⟨mb, nsK hb, hbb⟩, let ⟨mc, h1, h2⟩ := hlim; ⟨mc, nsK h1, h2⟩⟩
    have e0 : Env0 P w K mg (hidT s₁.heap H) callerA [] s₁ H := ⟨rfl, hM, fun b o e => of_hidT e, Nat.le_of_eq (hidT_size _ _), trivial, fun b hb => absurd (show b ∈ ([] : List Addr) from hb) (by simp), hok, .of_eq hg⟩
    refine codeAny_mono ((F _ hKb (nsK hns)).run callerA [] s₁ H ⟨[.ref a], []⟩ [.ref a] [.ref a] _ _ hr e0 (hbind s₁ (.ref a)) (.cons rfl .nil) (hsp H hO hS)) fun r s' h => ?_
    cases r with
    | error e => exact (hCX H e s' h).elim
    | ok fl =>
      cases fl with
      | next => exact False.elim h
      | brk => exact False.elim h
      | cont => exact False.elim h
      | ret u =>
        obtain ⟨v, H', os, bare, un, hok', r', q⟩ := h
        have q' : v = .bl true := q
        subst q'
        obtain rfl : u = Value.bool true := r'
        refine ⟨rfl, OldK.of_keep fun b o e => ?_, os, bare⟩
        cases q : H b with
        | none => exact un.keep b o e q (by intro z; exact absurd (show b ∈ ([] : List Addr) from z) (by simp)) (by simp)
        | some u =>
          rcases hO b with z | ⟨ob, xs, z⟩
          · rw [q] at z; cases z
          · have z2 := un.frzs b ob _ z
            obtain ⟨e1, _⟩ := hok b _ z
            obtain ⟨e2, _⟩ := hok' b _ z2
            rw [e] at e1; cases e1
            exact e2
  cases hk : K.lookup a with
  | some o =>
    -- the script is one of the module's own objects
    have e := KX a o hk
    rw [ha] at e
    cases e
    refine core (fun _ => none) (fun _ => .inl rfl) (.inr ⟨_, vs.toArray, _, hk, rfl, rfl, rfl, by rw [List.size_toArray, lenV]; exact hl, by simpa using rv⟩) ⟨(fun b u z => by have z' : (none : Option HO) = some u := z; cases z'), (fun u z => nomatch (show (none : Option HO) = some u from z)), let ⟨o, _, _, e, _⟩ := hns; ⟨mainGlobals, o, by decide, e⟩⟩ (fun b z => absurd rfl z) fun z => absurd rfl z
  | none =>
    refine core (fun b => if b = a then some (.frz { cls := .type "list", data := .seq vs.toArray } (.lst (ns.map V.int))) else none) (fun b => ?_) (.inl (.inr ⟨{ cls := .type "list", data := .seq vs.toArray }, if_pos rfl⟩)) ⟨fun b u z => ?_, (fun u z => by
      by_cases hb : sysModules = a
      · have z' := (if_pos hb).symm.trans z
        cases z'; exact ⟨_, _, rfl⟩
      · have z' := (if_neg hb).symm.trans z
        cases z'), let ⟨o, _, _, e, _⟩ := hns; ⟨mainGlobals, o, by decide, e⟩⟩ (fun b z => ?_) fun _ => hk
    · by_cases hb : b = a
      · exact .inr ⟨_, _, if_pos hb⟩
      · exact .inl (if_neg hb)
    · by_cases hb : b = a
      · have z' := (if_pos hb).symm.trans z
        cases z'
        subst hb
        exact ⟨ha, by rw [List.length_map]; exact hl, vs, _, rv, ha⟩
      · have z' := (if_neg hb).symm.trans z
        cases z'
    · by_cases hb : b = a
      · exact hb
      · exact absurd (if_neg hb) z
end L2

namespace L2
open PySem PySem.Spec PyProof.Rows

theorem walk_of {l : PySem.W.OpenLaw} {n k : Nat} {q : Program} {loose : List Str} {XP : (Str → Option Value) → Heap → Prop} {YP : World → Heap → Prop} {d : DefRec} {K : Params → PySem.W.Frag} {CX : World → CXT} {sp : World → Sp} {x : Str}
    (hn : l.most = some n) (hn2 : n ≤ sizeLine) (hdf : d.params.defaults = []) (hr : Room k callerA)
    (hY : ∀ (w : World) (h : Heap), YP w h → (K w.params).In h)
    (F : ∀ (w : World) (mg : Str → Option Value) (fa : Addr) (h : Heap), (K w.params).In h → h.Ns mainGlobals mg → mg d.name = some (.ref fa) →
      ∃ fd : FuncData, (∀ (s : Shared) (u : Value), BindsTo s fd ⟨[u], []⟩ [(x, u)]) ∧
        ∀ base : Heap, (K w.params).In base → base.Ns mainGlobals mg → FnOk l.prog w (K w.params) mg base (CX w) k fa fd [x] (sp w))
    (hsp : ∀ (w : World) (H : Hp) (a : Addr) (ns : List Int), ns.length ≤ n → Only H → SqL (K w.params) H a (ns.map V.int) → sp w [.ref a] H (fun v _ => v = .bl true) fun _ _ _ => False)
    (hCX : ∀ (w : World) (H : Hp) (s : Shared) (e : Value) (s' : Shared), CX w [] H s (fun _ _ _ => False) e s' → False) :
    PySem.W.WalkO q loose XP YP l.row.toRowW d [] (fun f vs => PySem.call f vs) := by
  refine Att.attach_call hn hdf fun w s₀ s₁ mg mb fa o pm cd doc a vs ns G Y ho hd hcd hmg hobj hints hlen hg => ?_
  have KX := hY w _ Y
  obtain ⟨fd, hb, hF⟩ := F w mg fa _ KX G.T.g hmg
  exact law_call KX G.T.g G.T.b G.T.builtins G.T.nolimit hg hobj hints (Nat.le_trans hlen hn2) hr hF hb (fun H hO hS => hsp w H a ns hlen hO hS) fun H e s' => hCX w H s₁ e s'

end L2




namespace L2
open PySem PySem.Spec PyProof.Rows



def defArgs (s : Stmt) : Arguments := match s with
  | .FunctionDef _ a _ _ _ _ _ _ _ _ => a
  | _ => { posonlyargs := [], args := [], vararg := none, kwonlyargs := [], kw_defaults := [], kwarg := none, defaults := [] }
def defBody (s : Stmt) : List Stmt := match s with
  | .FunctionDef _ _ b _ _ _ _ _ _ _ => b
  | _ => []
def defScope (s : Stmt) : Scope := match s with
  | .FunctionDef _ _ _ _ _ _ sc _ _ _ => sc
  | _ => { kind := .function, names := [], isGenerator := false, isCoroutine := false }


abbrev CX0 : CXT := fun _ _ _ _ _ _ => False
abbrev E0 : XK := fun _ _ _ => False
theorem pass0 {X : Cx} : Passes CX0 X E0 := fun _ _ _ _ _ _ _ h => h.elim


structure Fun (K : PySem.W.Frag) (x qual : Str) (st : Stmt) (f : Addr) (fd : FuncData) : Prop where
  ex : ∃ (oc : Value) (od : Option Addr) (kV doc pm : Value) (an : Option Addr) (cdv ct : Value) (osl : Array (Option Value)),
    fd = PySem.W.fnOf x qual (defArgs st) (defBody st) (defScope st) .none kV doc pm an cdv ct ∧ K.lookup f = some ⟨oc, od, .func fd, osl⟩ ∧ PySem.W.codeIn K cdv qual = true
  kp : PySem.W.keepIn K (.ref f) = true
section
variable {P : Program} {w : World} {K : PySem.W.Frag} {mg : Str → Option Value} {base : Heap}

theorem Fun.ok {x qual : Str} {st : Stmt} {f : Addr} {fd : FuncData} {N ps : List Str} {k : Nat} {sp : Sp} (F : Fun K x qual st f fd) (S : FnScope N ps (defScope st)) (len : ∀ vs H Q E, sp vs H Q E → vs.length = ps.length)
    (hbody : ∀ (cdv : Value) (A : Around) (outer : List Env) (s : Shared) (H : Hp) (vs : List V) (Q : VK) (E : XK), Room k (A.deeper (envOfC qual (defScope st) s.heap.objs.size f cdv)) → sp vs H Q E →
      ∃ t, PSs (cxOf CX0 P w K mg base N qual (defScope st) f cdv A outer s H E).nox (defBody st) t ∧ t { nx := fun _ H' => Q .non H', rt := Q } (start N vs) H) : FnOk P w K mg base CX0 (k + 1) f fd ps sp := by
  obtain ⟨oc, od, kV, doc, pm, an, cdv, ct, osl, rfl, lk, hcd⟩ := F.ex
  refine fn_of lk hcd S len fun A outer s H vs Q E hr hsp => ?_
  obtain ⟨t, h, q⟩ := hbody cdv A outer s H vs Q E hr hsp
  exact ⟨t, h.nox, q⟩

theorem Fun.binds {x qual : Str} {st : Stmt} {f : Addr} {fd : FuncData} {ps : List Str} (F : Fun K x qual st f fd)
    (h : ∀ (kV doc pm : Value) (an : Option Addr) (cdv ct : Value) (us : List Value), us.length = ps.length → bindArgs (PySem.W.fnOf x qual (defArgs st) (defBody st) (defScope st) .none kV doc pm an cdv ct) ⟨us, []⟩ = pure (ps.zip us)) : Binds K fd ps [] := by
  obtain ⟨oc, od, kV, doc, pm, an, cdv, ct, osl, rfl, lk, hcd⟩ := F.ex
  exact .all (h kV doc pm an cdv ct)
theorem fun_mk {x qual : Str} {st : Stmt} {f : Addr} {oc : Value} {od an : Option Addr} {osl : Array (Option Value)} {kV doc pm cdv ct : Value} (l : K.lookup f = some ⟨oc, od, .func (PySem.W.fnOf x qual (defArgs st) (defBody st) (defScope st) .none kV doc pm an cdv ct), osl⟩)
    (c : PySem.W.codeIn K cdv qual = true) (k : PySem.W.keepIn K (.ref f) = true) : Fun K x qual st f (PySem.W.fnOf x qual (defArgs st) (defBody st) (defScope st) .none kV doc pm an cdv ct) := ⟨⟨oc, od, kV, doc, pm, an, cdv, ct, osl, rfl, l, c⟩, k⟩
end
theorem small1000 {n : Nat} (h : n ≤ 1000) : n < sizeLine := Nat.lt_of_le_of_lt h (by decide)


section
variable {X : Cx}
theorem pv (i : Nat) {x : Str} {pos : Pos} (hN : X.N[i]? = some x := by rfl) (hv : Vis X.env.scope x := by first | exact Or.inl rfl | exact Or.inr (Or.inl rfl) | exact Or.inr (Or.inr rfl)) (hd : (x == ("__debug__" : Str)) = false := by decide)
    (hcd : (x == ("__classdict__" : Str)) = false := by decide) : PE X (.Name x pos) (tVar i) := pe_var hN hv hd hcd
end


theorem iteF {A B : Prop} (h : B) : if false = true then A else B := by
  rw [if_neg Bool.false_ne_true]
  exact h
theorem iteT {A B : Prop} (h : A) : if true = true then A else B := by
  rw [if_pos rfl]
  exact h
theorem ite2 {c A B : Prop} [Decidable c] (h1 : c → A) (h2 : ¬ c → B) : if c then A else B := by
  by_cases h : c
  · rw [if_pos h]
    exact h1 h
  · rw [if_neg h]
    exact h2 h
def Same (H H' : Hp) : Prop := ∀ b o, H b = some o → H' b = some o
theorem Same.refl (H : Hp) : Same H H := fun _ _ h => h
theorem Same.trans {H H1 H2 : Hp} (a : Same H H1) (b : Same H1 H2) : Same H H2 := fun c o h => b c o (a c o h)
theorem Same.free {H H' : Hp} (e : Same H H') {l : Addr} (h : H' l = Option.none) : H l = Option.none := by
  cases q : H l with
  | none => rfl
  | some o =>
    rw [e l o q] at h
    cases h
theorem Same.seq {K : PySem.W.Frag} {H H' : Hp} {a : Addr} {xs : List V} (e : Same H H') (h : SqL K H a xs) : SqL K H' a xs := by
  rcases h with (h | ⟨o, h⟩) | h
  · exact .inl (.inl (e _ _ h))
  · exact .inl (.inr ⟨o, e _ _ h⟩)
  · exact .inr h

end L2

set_option maxHeartbeats 8000000

namespace L2
open PySem PySem.Spec PyProof.Rows



theorem clos_go {env : Env} : ∀ (ns : List (Str × NameKind)) (acc : List (Str × Addr)), (∀ y ∈ ns, y.2 = .free → ∃ c, env.cells.lookup y.1 = some c) → (∀ x c, acc.lookup x = some c → env.cells.lookup x = some c) →
    ∃ cl, (forIn ns acc fun (y : Str × NameKind) cs => (if (y.2 == .free) = true then (do let c ← cellOf env y.1; pure (ForInStep.yield ((y.1, c) :: cs))) else pure (ForInStep.yield cs) : Sem (ForInStep (List (Str × Addr))))) = pure cl ∧
      (∀ x c, cl.lookup x = some c → env.cells.lookup x = some c) ∧ (∀ y ∈ ns, y.2 = .free → ∃ c, cl.lookup y.1 = some c) ∧ ∀ x c, acc.lookup x = some c → ∃ c', cl.lookup x = some c'
  | [], acc, _, ha => ⟨acc, rfl, ha, (fun _ h => nomatch h), fun x c e => ⟨c, e⟩⟩
  | (n, k) :: r, acc, hf, ha => by
    rw [List.forIn_cons]
    by_cases hk : k = .free
    · subst hk
      obtain ⟨c, hc⟩ := hf (n, .free) List.mem_cons_self rfl
      have hcell : cellOf env n = pure c := by unfold cellOf; rw [hc]
      have ha' : ∀ x c', List.lookup x ((n, c) :: acc) = some c' → env.cells.lookup x = some c' := fun x c' e => by
        rw [List.lookup_cons] at e
        cases hx : x == n with
        | true => rw [hx] at e; simp at e; subst e; rw [eq_of_beq hx]; exact hc
        | false => rw [hx] at e; exact ha x c' e
      obtain ⟨cl, e1, e2, e3, e4⟩ := clos_go r ((n, c) :: acc) (fun y hy => hf y (List.mem_cons_of_mem _ hy)) ha'
      refine ⟨cl, ?_, e2, fun y hy hyf => ?_, fun x c' e => ?_⟩
      · simp only [beq_self_eq_true, if_true, hcell, pure_bind]
        exact e1
      · rcases List.mem_cons.mp hy with rfl | hy
        · exact e4 n c (by simp [List.lookup_cons])
        · exact e3 y hy hyf
      · cases hx : x == n with
        | true => rw [eq_of_beq hx]; exact e4 n c (by simp [List.lookup_cons])
        | false => exact e4 x c' (by rw [List.lookup_cons, hx]; exact e)
    · have hb : (k == NameKind.free) = false := by simpa using hk
      obtain ⟨cl, e1, e2, e3, e4⟩ := clos_go r acc (fun y hy => hf y (List.mem_cons_of_mem _ hy)) ha
      refine ⟨cl, ?_, e2, fun y hy hyf => ?_, e4⟩
      · simp only [hb, Bool.false_eq_true, if_false, pure_bind]
        exact e1
      · rcases List.mem_cons.mp hy with rfl | hy
        · exact absurd hyf hk
        · exact e3 y hy hyf
theorem clos_ex {scope : Scope} {env : Env} (h : ∀ y ∈ scope.names, y.2 = .free → ∃ c, env.cells.lookup y.1 = some c) :
    ∃ cl, closureFor scope env = pure cl ∧ (∀ x c, cl.lookup x = some c → env.cells.lookup x = some c) ∧ ∀ y ∈ scope.names, y.2 = .free → ∃ c, cl.lookup y.1 = some c := by
  obtain ⟨cl, e1, e2, e3, _⟩ := clos_go (env := env) scope.names [] h (fun x c e => nomatch e)
  refine ⟨cl, ?_, e2, e3⟩
  have e : closureFor scope env = (forIn scope.names ([] : List (Str × Addr)) fun (y : Str × NameKind) cs => (if (y.2 == .free) = true then (do let c ← cellOf env y.1; pure (ForInStep.yield ((y.1, c) :: cs))) else pure (ForInStep.yield cs) : Sem (ForInStep (List (Str × Addr))))) >>= pure := by
    rfl
  rw [e, e1, pure_bind]


def cxIn (X : Cx) (own : List Str) (sel : List Nat) (scope : Scope) (cl : List (Str × Addr)) (C : Addr) (s2 : Shared) (H2 : Hp) (fp : List Addr) : Cx where
  prog := X.prog
  w := X.w
  K := X.K
  mg := X.mg
  base := X.base
  A := X.A
  N := own ++ sel.map fun j => X.N.getD j Str.empty
  s₀ := s2
  H₀ := H2
  env := compEnvC scope cl C X.env
  outer := X.stack
  stack := X.stack
  ex := fp
  fn := fun _ => false
  calm := X.calm
  pn := []
  xe := fun _ _ => False
def inSt (own : List Str) (sel : List Nat) (σ : St) : St := own.map (fun _ => none) ++ sel.map fun j => σ.getD j none


structure CompOk (osc : Scope) (N : List Str) (own : List Str) (sel : List Nat) (scope : Scope) : Prop where
  kind : scope.kind = .function
  cell : ∀ y ∈ scope.names, y.2 ≠ .cell
  names : ∀ y ∈ scope.names, y.2 = .local → scope.names.lookup y.1 = some .local
  free : ∀ y ∈ scope.names, y.2 = .free → osc.names.lookup y.1 = some .cell ∨ osc.names.lookup y.1 = some .free
  seln : ∀ j ∈ sel, j < N.length ∧ scope.names.lookup (N.getD j Str.empty) = some .free ∧ (osc.names.lookup (N.getD j Str.empty) = some .cell ∨ osc.names.lookup (N.getD j Str.empty) = some .free)


def PIf (Y : Cx) (ifs : List Expr) (t : TT) : Prop :=
  ∀ (pins : List (Addr × Obj)) (s : Shared) (σ : St) (H : Hp) (Q : Bool → Hp → Prop), Inv Y pins σ H s → t σ H Q →
    wpAny (model Y.prog Y.w) Y.A (forIn ifs true fun c r => if r = true then do let ok ← isTrue c Y.env (eval c Y.env); pure (ForInStep.yield ok) else pure (ForInStep.yield r)) (TP Y pins σ Q) Y.xe s
def tYes : TT := fun _ H Q => Q true H
theorem pif_nil {Y : Cx} : PIf Y [] tYes := fun pins s σ H Q I h => wpAny_tests_nil ⟨H, I, h⟩
def GK (n : Nat) (g : TG) : Prop := ∀ v σ H Q, g v σ H Q → g v σ H fun σ' H' => Q σ' H' ∧ σ'.length = σ.length ∧ ∀ i, n ≤ i → σ'[i]? = σ[i]?
def GKs (n : Nat) (g : TGs) : Prop := ∀ vs σ H Q, g vs σ H Q → g vs σ H fun σ' H' => Q σ' H' ∧ σ'.length = σ.length ∧ ∀ i, n ≤ i → σ'[i]? = σ[i]?
theorem gk_name {n i : Nat} (h : i < n) : GK n (gName i) := fun v σ H Q q => ⟨q, by simp, fun j hj => by rw [List.getElem?_set_ne (by omega)]⟩
theorem gk_nil {n : Nat} : GKs n gNil := fun vs σ H Q q => ⟨q.1, q.2, rfl, fun _ _ => rfl⟩

def GM (g : TG) : Prop := ∀ v σ H Q Q', (∀ σ' H', Q σ' H' → Q' σ' H') → g v σ H Q → g v σ H Q'
def GMs (g : TGs) : Prop := ∀ vs σ H Q Q', (∀ σ' H', Q σ' H' → Q' σ' H') → g vs σ H Q → g vs σ H Q'
theorem gm_name {i : Nat} : GM (gName i) := fun _ _ _ _ _ h q => h _ _ q
theorem gm_nil : GMs gNil := fun _ _ _ _ _ h q => ⟨q.1, h _ _ q.2⟩
theorem gm_cons {t : TG} {u : TGs} (h1 : GM t) (h2 : GMs u) : GMs (gCons t u) := fun vs σ H Q Q' h ⟨v, r, e, q⟩ => ⟨v, r, e, h1 _ _ _ _ _ (fun σ' H' z => h2 _ _ _ _ _ h z) q⟩
theorem gk_cons {n : Nat} {t : TG} {u : TGs} (m1 : GM t) (m2 : GMs u) (h1 : GK n t) (h2 : GKs n u) : GKs n (gCons t u) := fun vs σ H Q ⟨v, r, e, q⟩ => by
  refine ⟨v, r, e, m1 _ _ _ _ _ (fun σ' H' z => ?_) (h1 _ _ _ _ q)⟩
  obtain ⟨q', l, k⟩ := z
  exact m2 _ _ _ _ _ (fun σ2 H2 ⟨a, b, c⟩ => ⟨a, b.trans l, fun i hi => (c i hi).trans (k i hi)⟩) (h2 _ _ _ _ q')
theorem gk_tup {K : PySem.W.Frag} {n m : Nat} {t : TGs} (h : GKs n t) : GK n (gTup K m t) := fun v σ H Q ⟨a, xs, e1, e2, e3, q⟩ => ⟨a, xs, e1, e2, e3, h _ _ _ _ q⟩

def tComp (own : List Str) (sel : List Nat) (wi : TI) (g : TG) (tt : TT) (te : TE) : TE := fun σ H Q => wi σ H fun J H1 => ∀ D, H1 D = none →
  ∃ W : Nat → Nat → Hp → Prop, (∃ m, W 0 m (upd H1 D (.lst []))) ∧ ∀ i m H2, W i m H2 →
    (J.stop i H2 ∧ Q (.ref D) H2) ∨ (J.go i H2 ∧ ∀ x H3, J.yld i H2 x H3 → g x (inSt own sel σ) H3 fun σ4 H4 => tt σ4 H4 fun b H5 =>
      if b = true then te σ4 H5 fun v H6 => ∃ ys, H6 D = some (.lst ys) ∧ ys.length < sizeLine ∧ ∃ m', m' < m ∧ W (i + 1) m' (upd H6 D (.lst (ys ++ [v])))
      else ∃ m', m' < m ∧ W (i + 1) m' H5)

section
variable {prog : Program} {w : World} {A : Around} {R : Result → Shared → Prop} {s : Shared}

theorem comp_turns {elt target iter : Expr} {ifs : List Expr} {scope : Scope} {pos : Pos} {it acc : Value} {env : Env} (I : Nat → Shared → Prop)
    (turn : ∀ n s, I n s → wpAny (model prog w) A (pyNext it) (fun r s1 => match r with
      | none => R (.ok .next) s1
      | some v => wpAny (model prog w) A (letOwnedTupleGo target it v) (fun _ s0 => wpAny (model prog w) A (assign target env v) (fun _ s2 =>
          wpAny (model prog w) A (forIn ifs true fun c r => if r = true then do let ok ← isTrue c env (eval c env); pure (ForInStep.yield ok) else pure (ForInStep.yield r)) (fun ok s3 =>
            if ok = true then wpAny (model prog w) A (eval elt env) (fun x s4 => wpAny (model prog w) A (call (.builtin "list.append") [acc, x]) (fun _ s5 => ∃ m, m < n ∧ I m s5) (fun _ _ => False) s4) (fun _ _ => False) s3
            else ∃ m, m < n ∧ I m s3) (fun _ _ => False) s2) (fun _ _ => False) s0) (fun _ _ => False) s1) (fun _ _ => False) s)
    (n : Nat) (h : I n s) :
    codeAny (model prog w) A (.compLoop (.ListComp elt [⟨target, iter, ifs, 0⟩] scope pos) 0 it acc env) R s := by
  refine codeAny_loop rfl I (fun n s hI => ?_) n h
  show wpAny _ A ((compTurn (.ListComp elt [⟨target, iter, ifs, 0⟩] scope pos) 0 it acc env).onRaise (fun x => do noteFrame x env; theTreesLotGoes x)) _ _ s
  refine wpAny_noted ?_
  rw [compTurn_list]
  refine wpAny_bind (wpAny_standAt (wpAny_bind (wpAny_mono (turn n s hI) (fun r s1 h1 => ?_) fun _ _ z => z.elim)))
  cases r with
  | none => exact wpAny_pure h1
  | some v =>
    refine wpAny_bind (wpAny_mono h1 (fun _ s0 h0 => wpAny_bind (wpAny_mono h0 (fun _ s2 h2 => wpAny_bind (wpAny_mono h2 (fun ok s3 h3 => ?_) fun _ _ z => z.elim)) fun _ _ z => z.elim)) fun _ _ z => z.elim)
    cases ok with
    | false => exact wpAny_pure ⟨rfl, h3⟩
    | true =>
      exact wpAny_bind (wpAny_bind (wpAny_mono h3 (fun x s4 h4 => wpAny_bind (wpAny_mono h4 (fun _ s5 h5 => wpAny_pure (wpAny_pure ⟨rfl, h5⟩)) fun _ _ z => z.elim)) fun _ _ z => z.elim))
end

section
variable {X : Cx}
theorem relabel_lookup {env : Env} : ∀ {names : List (Str × NameKind)} {x : Str} {k : NameKind},
    (names.map fun (n, k) => if (k == NameKind.free && env.scope.kind == .function && env.kindOf n == some .cell) then (n, NameKind.cell) else (n, k)).lookup x = some k →
    names.lookup x = some k ∨ names.lookup x = some .free
  | [], _, _, h => by simp at h
  | (n, k') :: r, x, k, h => by
    have ih := @relabel_lookup env r x k
    have h' : List.lookup x ((if (k' == NameKind.free && env.scope.kind == .function && env.kindOf n == some .cell) = true then (n, NameKind.cell) else (n, k')) :: r.map fun (n, k) => if (k == NameKind.free && env.scope.kind == .function && env.kindOf n == some .cell) then (n, NameKind.cell) else (n, k)) = some k := h
    cases hx : x == n with
    | true =>
      rw [List.lookup_cons, hx]
      by_cases hc : (k' == NameKind.free && env.scope.kind == .function && env.kindOf n == some .cell) = true
      · have : k' = .free := by simp only [Bool.and_eq_true, beq_iff_eq] at hc; exact hc.1.1
        subst this
        exact .inr rfl
      · rw [if_neg hc, List.lookup_cons, hx] at h'
        exact .inl h'
    | false =>
      rw [List.lookup_cons, hx]
      by_cases hc : (k' == NameKind.free && env.scope.kind == .function && env.kindOf n == some .cell) = true
      · rw [if_pos hc, List.lookup_cons, hx] at h'; exact ih h'
      · rw [if_neg hc, List.lookup_cons, hx] at h'; exact ih h'

theorem relabel_free {env : Env} (hk : env.scope.kind = .function) : ∀ {names : List (Str × NameKind)} {x : Str}, names.lookup x = some .free → 
    (names.map fun (n, k) => if (k == NameKind.free && env.scope.kind == .function && env.kindOf n == some .cell) then (n, NameKind.cell) else (n, k)).lookup x = some .cell ∨
    (names.map fun (n, k) => if (k == NameKind.free && env.scope.kind == .function && env.kindOf n == some .cell) then (n, NameKind.cell) else (n, k)).lookup x = some .free
  | [], _, h => by simp at h
  | (n, k') :: r, x, h => by
    have ih := @relabel_free env hk r x
    show List.lookup x ((if (k' == NameKind.free && env.scope.kind == .function && env.kindOf n == some .cell) = true then (n, NameKind.cell) else (n, k')) :: _) = _ ∨ List.lookup x ((if (k' == NameKind.free && env.scope.kind == .function && env.kindOf n == some .cell) = true then (n, NameKind.cell) else (n, k')) :: _) = _
    cases hx : x == n with
    | true =>
      rw [List.lookup_cons, hx] at h
      by_cases hc : (k' == NameKind.free && env.scope.kind == .function && env.kindOf n == some .cell) = true
      · rw [if_pos hc, List.lookup_cons, hx]; exact .inl rfl
      · rw [if_neg hc, List.lookup_cons, hx]; exact .inr h
    | false =>
      rw [List.lookup_cons, hx] at h
      by_cases hc : (k' == NameKind.free && env.scope.kind == .function && env.kindOf n == some .cell) = true
      · rw [if_pos hc, List.lookup_cons, hx]; exact ih h
      · rw [if_neg hc, List.lookup_cons, hx]; exact ih h
end
end L2

namespace L2
open PySem PySem.Spec PyProof.Rows
section
variable {X : Cx}

theorem inSt_own {own : List Str} {sel : List Nat} {σ : St} {i : Nat} (h : i < own.length) : (inSt own sel σ)[i]? = some none := by
  unfold inSt
  rw [List.getElem?_append_left (by simpa using h), List.getElem?_map, List.getElem?_eq_getElem h]
  rfl
theorem inSt_sel {own : List Str} {sel : List Nat} {σ : St} {i : Nat} {v : V} (h : (inSt own sel σ)[i]? = some (some v)) : ∃ k j, i = own.length + k ∧ sel[k]? = some j ∧ σ[j]? = some (some v) := by
  by_cases hi : i < own.length
  · rw [inSt_own hi] at h; cases h
  · unfold inSt at h
    rw [List.getElem?_append_right (by simpa using hi), List.getElem?_map] at h
    rw [List.length_map] at h
    cases e : sel[i - own.length]? with
    | none => rw [e] at h; cases h
    | some j =>
      rw [e] at h
      simp only [Option.map_some, Option.some.injEq] at h
      refine ⟨i - own.length, j, by omega, e, ?_⟩
      rw [List.getD_eq_getElem?_getD] at h
      cases q : σ[j]? with
      | none => rw [q] at h; cases h
      | some u => rw [q] at h; simp at h; rw [h]
theorem inSt_len {own : List Str} {sel : List Nat} {σ : St} : (inSt own sel σ).length = own.length + sel.length := by
  unfold inSt; simp


structure Far (X : Cx) (pins : List (Addr × Obj)) (H : Hp) (C : Addr) : Prop where
  nt : H C = none
  nl : C ≠ X.env.locals
  up : X.s₀.heap.objs.size ≤ C
  nc : ∀ x c, X.env.cells.lookup x = some c → c ≠ C
  np : ∀ p ∈ X.pn ++ pins, p.1 ≠ C
theorem Inv.far {pins : List (Addr × Obj)} {σ : St} {H : Hp} {s : Shared} {h' : Heap} {C : Addr} (I : Inv X pins σ H s) (f : Far X pins H C) (k : Heap.SameBut C s.heap h') : Inv X pins σ H { s with heap := h' } :=
  I.turned (t' := s.toks) (fun b o hb e => (k.2 b hb).trans e) f.nt f.nl (.inr f.up) f.nc f.np

theorem comp_core {elt tg iter : Expr} {ifs : List Expr} {scope : Scope} {pos : Pos} {own : List Str} {sel : List Nat} {wi : TI} {g : TG} {tt : TT} {te : TE} {use : Option (Value → Sem Unit)} {Qo : Value → Shared → Prop}
    (S : CompOk X.env.scope X.N own sel scope) (hc : X.calm = true) (hi : PI X tg iter wi)
    (hg : ∀ cl C s2 H2 fp, PG (cxIn X own sel scope cl C s2 H2 fp) tg g) (hk : GK own.length g)
    (ht : ∀ cl C s2 H2 fp, PIf (cxIn X own sel scope cl C s2 H2 fp) ifs tt) (he : ∀ cl C s2 H2 fp, PE (cxIn X own sel scope cl C s2 H2 fp) elt te)
    (hs : ∀ x, foldedSetIterable iter X.env x = pure x) {pins : List (Addr × Obj)} {s : Shared} {σ : St} {H : Hp} {Q : VK} {ps : Pos} (I0 : Inv X pins σ H s) (h : tComp own sel wi g tt te σ H Q)
    (fin : ∀ (D C : Addr) (H' : Hp) (s' : Shared) (m : Str → Option Value), Inv X pins σ H' s' → s'.heap.Ns C m → Far X pins H' C → Q (.ref D) H' → compPost (model X.prog X.w) X.A X.xe use Qo (.ref D) C (.ok .next) s') :
    wpAny (model X.prog X.w) X.A (comprehension (.ListComp elt [⟨tg, iter, ifs, 0⟩] scope pos) scope X.env ps (newList []) false (eval iter X.env) use) Qo X.xe s := by
  obtain ⟨cl, hclos, hcl, hfree⟩ := clos_ex (scope := scope) (env := X.env) fun y hy e => I0.ok.has y.1 (S.free y hy e)
  refine wpAny_comprehension_free (use := use) rfl hs hclos S.kind S.names (thn (hi pins s σ H _ I0 h) fun v s1 h1 => thn h1 fun itv s2 h2 => ?_)
  obtain ⟨it, fp, tn, J, H2, e, I, T, st2, f2, h3⟩ := h2
  subst e
  clear h h1 I0
  refine wpAny_newObj_type (wpAny_newFunctionEnv S.cell (by intro y hy; simp at hy) (fun h1 hns1 hsb1 => ?_) S.kind)
  dsimp only at hns1 hsb1 ⊢
  generalize hP : s2.heap.push { cls := .type "list", dict := none, data := .seq ([] : List Value).toArray } = P1 at hns1 hsb1 ⊢
  generalize hD : s2.heap.objs.size = D at hns1 hsb1 ⊢
  generalize hC : P1.objs.size = C at hns1 hsb1 ⊢
  have hCD : C = D + 1 := by rw [← hC, ← hP, Heap.size_push, hD]
  have hlt : D < C := by rw [hCD]; exact Nat.lt_succ_self D
  have hDC : D ≠ C := Nat.ne_of_lt hlt
  have neC : ∀ b : Addr, b < D → b ≠ C := fun b hb => Nat.ne_of_lt (Nat.lt_trans hb hlt)
  have neD : ∀ b : Addr, b < D → b ≠ D := fun b hb => Nat.ne_of_lt hb
  have hsD : s2.heap.objs.size ≤ D := Nat.le_of_eq hD
  have hsC : s2.heap.objs.size ≤ C := Nat.le_trans hsD (Nat.le_of_lt hlt)
  have fresh : ∀ a, D ≤ a → H2 a = none := fun a ha => I.hok.fresh (by rw [hD]; exact ha)
  have hnD : H2 D = none := fresh D (Nat.le_refl _)
  have hnC : H2 C = none := fresh C (Nat.le_of_lt hlt)
  have below : ∀ b o, s2.heap.get? b = some o → b < D := fun b o e => by rw [← hD]; exact Heap.lt_size e
  have keep1 : ∀ b o, s2.heap.get? b = some o → h1.get? b = some o := fun b o e =>
    hsb1.extBut b o (neC b (below b o e)) (Heap.get?_push_of_some _ (hP ▸ Heap.get?_push_of_some _ e))
  have gD : h1.get? D = some { cls := .type "list", dict := none, data := .seq ([] : List Value).toArray } := by
    refine hsb1.extBut _ _ hDC (Heap.get?_push_of_some _ ?_)
    rw [← hP, ← hD]
    exact Heap.get?_push_size _ rfl
  obtain ⟨W, ⟨m0, w0⟩, turn⟩ := h3 D hnD
  have fpb : ∀ b ∈ fp, b < D := fun b hb => by obtain ⟨o, e, _⟩ := T.obj _ _ st2 b hb; exact below b o e
  -- the block's context
  generalize hY : cxIn X own sel scope cl C s2 H2 fp = Y
  have hg := hg cl C s2 H2 fp
  have ht := ht cl C s2 H2 fp
  have he := he cl C s2 H2 fp
  rw [hY] at hg ht he
  have okY : Y.Ok := by
    subst hY
    refine ⟨I.ok.mod, S.kind, I.ok.glob, I.ok.blt, ?_, fun x y c a b => I.ok.inj x y c (hcl _ _ a) (hcl _ _ b), fun x hx => ?_, (fun _ _ z => nomatch z), fun z => I.ok.hd z, I.ok.frames, .inl rfl, fun b hb => ⟨?_, fun x c e => (f2 b hb).2.2.2.2.1 x c (hcl _ _ e)⟩, I.bs,
      Nat.le_trans I.ok.bsz I.sz, fun b o e hb => ?_, fun b hb z => ?_, I.stack, I.stkFree⟩
    · exact hsC
    · have hx' : (relabel scope X.env).names.lookup x = some .cell ∨ (relabel scope X.env).names.lookup x = some .free := hx
      have hf : scope.names.lookup x = some .free := by
        rcases hx' with z | z
        · rcases relabel_lookup z with q | q
          · exact absurd rfl (S.cell _ (PySem.mem_of_lookup q))
          · exact q
        · rcases relabel_lookup z with q | q <;> exact q
      exact hfree _ (PySem.mem_of_lookup hf) rfl
    · exact neC b (fpb b hb)
    · rcases (f2 b hb).2.2.2.1 with z | z
      · exact I.ok.noex b o e z
      · exact absurd (Nat.lt_of_lt_of_le (Heap.lt_size e) (Nat.le_trans I.ok.bsz z)) (Nat.lt_irrefl _)
    · rcases List.mem_cons.mp (I.stkSub b z) with q | q
      · exact (f2 b hb).2.1 q
      · exact (f2 b hb).2.2.1 q
  -- the state ahead of the first turn
  have eo : ObjOk X.prog X.w (upd H2 D (.lst [])) h1 D (.lst []) := ⟨by decide, [], _, .nil, gD⟩
  have I1 : Inv Y [] (inSt own sel σ) (upd H2 D (.lst [])) { s2 with heap := h1, toks := s2.toks + ([] : List (Str × Value)).length } := by
    subst hY
    refine ⟨okY, rfl, I.bare, Un.laid keep1 hsD hnD, ⟨_, hns1, fun i x v e1 e2 e3 => ?_⟩, fun x c e => ?_, ?_, fun x c e => ?_, fun p hp => absurd (show p ∈ ([] : List (Addr × Obj)) from hp) (by simp), I.hok.laid keep1 hsD eo, ?_⟩
    · obtain ⟨k, j, ei, ej, es⟩ := inSt_sel e2
      subst ei
      have e1' : (own ++ sel.map fun j => X.N.getD j Str.empty)[own.length + k]? = some x := e1
      rw [List.getElem?_append_right (by omega), List.getElem?_map, show own.length + k - own.length = k by omega, ej] at e1'
      simp only [Option.map_some, Option.some.injEq] at e1'
      obtain ⟨hj, hfx, hkd⟩ := S.seln j (List.mem_of_getElem? ej)
      have hN : X.N[j]? = some x := by rw [← e1', List.getD_eq_getElem?_getD, List.getElem?_eq_getElem hj]; rfl
      rw [e1'] at hkd hfx
      obtain ⟨m, _, hl⟩ := I.loc
      obtain ⟨u, r, lk⟩ := hl j x v hN es (.inr hkd)
      refine ⟨u, r, .inr ⟨relabel_free I.ok.kind hfx, ?_⟩⟩
      rcases lk with ⟨z1, _⟩ | ⟨_, c, hc1, hc2⟩
      · have z1' : X.env.scope.names.lookup x = some .local := z1
        rcases hkd with q | q <;> (rw [z1'] at q; cases q)
      · obtain ⟨c', q⟩ := hfree _ (PySem.mem_of_lookup hfx) rfl
        have q2 := hcl _ _ q
        rw [hc1] at q2
        cases q2
        exact ⟨c, q, hc2.keeps keep1⟩
    · obtain ⟨u, z⟩ := I.cell x c (hcl _ _ e)
      exact ⟨u, z.keeps keep1⟩
    · show upd H2 D (.lst []) C = none
      rw [upd_ne (Ne.symm hDC)]; exact hnC
    · have q := I.freeC x c (hcl _ _ e)
      obtain ⟨u, o, z, _⟩ := I.cell x c (hcl _ _ e)
      rw [upd_ne (neD c (below c o z))]
      exact q
    · show (inSt own sel σ).length = (own ++ sel.map fun j => X.N.getD j Str.empty).length
      rw [inSt_len]; simp
  -- its end
  have fin : ∀ (σ' : St) (H' : Hp) (s' : Shared), Inv Y [] σ' H' s' → Q (.ref D) H' → compPost (model X.prog X.w) X.A X.xe use Qo (.ref D) C (.ok .next) s' := by
    intro σ' H' s' I' q
    subst hY
    obtain ⟨m, hn, _⟩ := I'.loc
    have J' : Inv X pins σ H' s' := I.call' I'.os I'.base I'.hok I'.bare fun b hb => ⟨(f2 b hb).2.2.2.1, (f2 b hb).2.1, (f2 b hb).2.2.2.2.1, (f2 b hb).2.2.2.2.2⟩
    refine fin D C H' s' m J' hn ⟨I'.free, Ne.symm (neC _ (by rw [← hD]; exact I.lt)), Nat.le_trans I.sz hsC, fun x c e => ?_, fun p hp => ?_⟩ q
    · obtain ⟨u, o, z, _⟩ := I.cell x c e
      exact neC c (below c o z)
    · exact neC p.1 (below p.1 p.2 (I.pin p hp).1)
  -- what stays true of the iterator's objects
  have stat : ∀ {H' : Hp}, (∀ b ∈ fp, H' b = none) → ∀ b ∈ fp, FpOk Y [] H' b := fun {H'} hn b hb => by
    subst hY
    refine ⟨hn b hb, neC b (fpb b hb), fun z => ?_, .inl hb, fun x c e => (f2 b hb).2.2.2.2.1 x c (hcl _ _ e), fun p hp => absurd (show p ∈ ([] : List (Addr × Obj)) from hp) (by simp)⟩
    rcases List.mem_cons.mp (I.stkSub b z) with q | q
    · exact (f2 b hb).2.1 q
    · exact (f2 b hb).2.2.1 q
  have loop : ∀ s3 : Shared, s3 = { s2 with heap := h1, toks := s2.toks + ([] : List (Str × Value)).length } →
      codeAny (model X.prog X.w) X.A (.compLoop (.ListComp elt [⟨tg, iter, ifs, 0⟩] scope pos) 0 (.ref it) (.ref D) (compEnvC scope cl C X.env)) (compPost (model X.prog X.w) X.A X.xe use Qo (.ref D) C) s3 := by
    rintro s3 rfl
    have eP : Y.prog = X.prog := by subst hY; rfl
    have eW : Y.w = X.w := by subst hY; rfl
    have eA : Y.A = X.A := by subst hY; rfl
    have eK : Y.K = X.K := by subst hY; rfl
    have eE : Y.env = compEnvC scope cl C X.env := by subst hY; rfl
    have eX : Y.xe = fun _ _ => False := by subst hY; rfl
    have eC : Y.calm = true := by subst hY; exact hc
    refine comp_turns (fun n s' => ∃ i H', Inv Y [] (inSt own sel σ) H' s' ∧ tn i s'.heap ∧ (∀ b ∈ fp, H' b = none) ∧ W i n H') ?_ m0
      ⟨0, _, I1, T.keep _ _ _ st2 fun b _ o e => keep1 b o e, fun b hb => by rw [upd_ne (neD b (fpb b hb))]; exact (f2 b hb).1, w0⟩
    rintro n s4 ⟨i, H4, I4, st4, fr4, w4⟩
    rcases turn i n H4 w4 with ⟨stop, q⟩ | ⟨go, step⟩
    · have dn := T.done Y eP eW eK eC i [] s4 _ H4 (fun _ _ => False) I4 (stat fr4) st4 stop
      rw [eA] at dn
      refine thn dn fun r s5 ⟨hr, I5⟩ => ?_
      subst hr
      exact fin _ _ _ I5 q
    · have im := T.item Y eP eW eK eC i [] s4 _ H4 (fun _ _ => False) I4 (stat fr4) st4 go
      rw [eA] at im
      refine thn im fun r s5 ⟨u, hr, h5⟩ => ?_
      subst hr
      refine thn h5 fun _ s6 ⟨x, H6, I6, r6, y6, st6, fr6⟩ => ?_
      have I6' := I6.pinned (stat fr6) (T.obj _ _ st6)
      have back : ∀ {σ7 : St} {H7 : Hp} {s7 : Shared} {k : Nat}, Inv Y ([] ++ pinsAt fp s6.heap) σ7 H7 s7 → σ7.length = (inSt own sel σ).length → (∀ j, own.length ≤ j → σ7[j]? = (inSt own sel σ)[j]?) → (∃ m', m' < n ∧ W (i + 1) m' H7) →
          ∃ m', m' < n ∧ ∃ i H', Inv Y [] (inSt own sel σ) H' s7 ∧ tn i s7.heap ∧ (∀ b ∈ fp, H' b = none) ∧ W i m' H' := fun {σ7 H7 s7 k} I7 l7 k7 w7 => by
        obtain ⟨m', hm, w7⟩ := w7
        refine ⟨m', hm, i + 1, H7, I7.unpinned.weak l7.symm fun j v e => ?_, T.keep _ _ _ st6 fun b hb o e => (I7.pin (b, o) (List.mem_append_right _ (List.mem_append_right _ (mem_pinsAt hb e)))).1, fun b hb => ?_, w7⟩
        · by_cases hj : j < own.length
          · rw [inSt_own hj] at e; cases e
          · rw [k7 j (Nat.le_of_not_lt hj)]; exact e
        · obtain ⟨o, e, d⟩ := T.obj _ _ st6 b hb
          exact (I7.pin (b, o) (List.mem_append_right _ (List.mem_append_right _ (mem_pinsAt hb e)))).2.1
      have ga := hg _ s6 _ H6 x u _ I6' r6 (hk _ _ _ _ (step x H6 y6))
      rw [eP, eW, eA, eE, eX] at ga
      refine thn ga fun _ s7 ⟨σ7, H7, I7, q7, l7, k7⟩ => ?_
      have ta := ht _ s7 σ7 H7 _ I7 q7
      rw [eP, eW, eA, eE, eX] at ta
      refine thn ta fun b s8 ⟨H8, I8, q8⟩ => ?_
      cases b with
      | false =>
        rw [if_neg Bool.false_ne_true] at q8 ⊢
        exact back (k := 0) I8 l7 k7 q8
      | true =>
        rw [if_pos rfl] at q8 ⊢
        have ea := he _ s8 σ7 H8 _ I8 q8
        rw [eP, eW, eA, eE, eX] at ea
        refine thn ea fun v s9 ⟨x9, H9, I9, r9, ys, hD9, hz9, q9⟩ => ?_
        have aa := mt_append (X := Y) _ s9 σ7 H9 (.ref D) [x9] (.ref D) [v] (fun _ H' => ∃ m', m' < n ∧ W (i + 1) m' H') I9 rfl (.cons r9 .nil) ⟨D, ys, x9, rfl, rfl, hD9, hz9, q9⟩
        rw [eP, eW, eA, eX] at aa
        exact thn aa fun _ s10 ⟨_, H10, I10, _, q10⟩ => back (k := 0) I10 l7 k7 q10
  exact codeAny_compStart_list (loop _ rfl) (T.self X.A 0 _ _ _ (T.keep _ _ _ st2 fun b _ o e => keep1 b o e) (loop _ rfl))

theorem pe_comp {elt tg iter : Expr} {ifs : List Expr} {scope : Scope} {pos : Pos} {own : List Str} {sel : List Nat} {wi : TI} {g : TG} {tt : TT} {te : TE}
    (S : CompOk X.env.scope X.N own sel scope) (hc : X.calm = true) (hi : PI X tg iter wi)
    (hg : ∀ cl C s2 H2 fp, PG (cxIn X own sel scope cl C s2 H2 fp) tg g) (hk : GK own.length g)
    (ht : ∀ cl C s2 H2 fp, PIf (cxIn X own sel scope cl C s2 H2 fp) ifs tt) (he : ∀ cl C s2 H2 fp, PE (cxIn X own sel scope cl C s2 H2 fp) elt te)
    (hs : ∀ x, foldedSetIterable iter X.env x = pure x := by intro _; rfl) :
    PE X (.ListComp elt [⟨tg, iter, ifs, 0⟩] scope pos) (tComp own sel wi g tt te) := by
  intro pins s σ H Q I h
  rw [eval_ListComp]
  refine comp_core (use := none) S hc hi hg hk ht he hs I h fun D C H' s' m I' hn f q => ?_
  exact ⟨m, hn, fun h' k => ⟨.ref D, H', I'.far f k, rfl, q⟩⟩

end
end L2

namespace L2
open PySem PySem.Spec PyProof.Rows
section
variable {X : Cx} {pins : List (Addr × Obj)} {σ : St} {H : Hp} {s : Shared} {h' : Heap}
theorem Inv.bigAfter {ch : List Addr} (I : Inv X pins σ H s) (hf : ∀ b ∈ ch, FpOk X pins H b) (k : ∀ b u, b ∉ ch → s.heap.get? b = some u → h'.get? b = some u) : ∃ b o, 1 < b ∧ h'.get? b = some o := by
  obtain ⟨o, _, _, e, _⟩ := I.ok.mod.glob
  refine ⟨mainGlobals, o, by decide, k _ _ (fun z => ?_) (I.bk _ _ e)⟩
  rcases (hf _ z).2.2.2.1 with q | q
  · exact I.ok.noex _ _ e q
  · exact absurd (Nat.lt_of_lt_of_le (Heap.lt_size e) (Nat.le_trans I.ok.bsz q)) (Nat.lt_irrefl _)

theorem Inv.turnedLaid {a : Addr} {o : HO} {t' : Nat} {ch : List Addr} (I : Inv X pins σ H s) (hf : ∀ b ∈ ch, FpOk X pins H b) (k : ∀ b u, b ∉ ch → s.heap.get? b = some u → h'.get? b = some u) (hp : s.heap.objs.size ≤ a)
    (new : ObjOk X.prog X.w (upd H a o) h' a o) : Inv X pins σ (upd H a o) { s with heap := h', toks := t' } := by
  have hn : H a = none := I.hok.fresh hp
  have ne : ∀ b u, s.heap.get? b = some u → b ≠ a := fun b u e => Nat.ne_of_lt (Nat.lt_of_lt_of_le (Heap.lt_size e) hp)
  have nt : ∀ b u, H b = some u → b ∉ ch := fun b u e z => by rw [(hf b z).1] at e; cases e
  refine I.step (g' := s.gens) (d' := s.drawn) (ch := ch) (fun b hb => ⟨(hf b hb).2.2.2.1, (hf b hb).2.1, (hf b hb).2.2.2.2.1, (hf b hb).2.2.2.2.2⟩) (fun b u _ _ hc e _ => k b u hc e) (fun b u _ _ hc e _ => ⟨u.slots, k b u hc e⟩)
    (fun b u _ e n => by rw [upd_ne (ne b u e)]; exact n) (fun b u hc e => ⟨u, k b u hc e⟩) (fun b xs e => by rw [upd_ne (ne_of_none e hn)]; exact e) (fun b u xs e => by rw [upd_ne (ne_of_none e hn)]; exact e)
    (fun b ps e => ⟨#[], by rw [upd_ne (ne_of_none e hn), e]; simp⟩) (fun m hm => ?_) ⟨fun b u e => ?_, fun u e => I.hok.sm u (by
      by_cases hb : sysModules = a
      · obtain ⟨b, o', l, q⟩ := I.hok.bg
        exact absurd (Nat.lt_trans l (show b < sysModules from by rw [hb]; exact Nat.lt_of_lt_of_le (Heap.lt_size q) hp)) (Nat.lt_irrefl 1)
      · rw [upd_ne hb] at e; exact e), I.bigAfter hf k⟩ I.bare
  · obtain ⟨ob, es, ep, ho, r⟩ := hm
    exact ⟨ob, es, ep, k _ ob (fun z => (hf _ z).2.1 rfl) ho, r⟩
  · by_cases hb : b = a
    · subst hb; rw [upd_same] at e; cases e; exact new
    · rw [upd_ne hb] at e
      refine (I.hok b u e).stay (fun c v hc q => k c v ?_ q) (fun c q => by rw [upd_ne (ne_of_none q hn)]; exact q) fun c xs q => by rw [upd_ne (ne_of_none q hn)]; exact q
      rcases hc with z | z
      · rw [z]; exact nt b u e
      · exact nt c _ z
theorem Inv.turnedAll {t' : Nat} {ch : List Addr} (I : Inv X pins σ H s) (hf : ∀ b ∈ ch, FpOk X pins H b) (k : ∀ b u, b ∉ ch → s.heap.get? b = some u → h'.get? b = some u) : Inv X pins σ H { s with heap := h', toks := t' } := by
  have nt : ∀ b u, H b = some u → b ∉ ch := fun b u e z => by rw [(hf b z).1] at e; cases e
  refine I.step (g' := s.gens) (d' := s.drawn) (ch := ch) (fun b hb => ⟨(hf b hb).2.2.2.1, (hf b hb).2.1, (hf b hb).2.2.2.2.1, (hf b hb).2.2.2.2.2⟩) (fun b u _ _ hc e _ => k b u hc e) (fun b u _ _ hc e _ => ⟨u.slots, k b u hc e⟩)
    (fun b u _ e n => n) (fun b u hc e => ⟨u, k b u hc e⟩) (fun b xs e => e) (fun b u xs e => e) (fun b ps e => ⟨#[], by rw [e]; simp⟩) (fun m hm => ?_) ⟨fun b u e => ?_, I.hok.sm, I.bigAfter hf k⟩ I.bare
  · obtain ⟨ob, es, ep, ho, r⟩ := hm
    exact ⟨ob, es, ep, k _ ob (fun z => (hf _ z).2.1 rfl) ho, r⟩
  · refine (I.hok b u e).stay (fun c v hc q => k c v ?_ q) (fun c q => q) fun c xs q => q
    rcases hc with z | z
    · rw [z]; exact nt b u e
    · exact nt c _ z
end


def Its (x : Str) : It := ⟨fun i _ => i < x.cps.size, fun i H v H' => H' = H ∧ ∃ c, x.cps[i]? = some c ∧ v = .str ⟨#[c]⟩, fun i _ => i = x.cps.size⟩
section
variable {P : Program} {w : World} {K : PySem.W.Frag} {tg : Expr}
theorem turn_str {x : Str} {t : Tok} {T : String} {it : Addr} (hT : T = "str_ascii_iterator" ∨ T = "str_iterator")
    (W : ∀ A : Around, A.handled = none → Walks P w A it [it] [it] x.cps.size (SignAt x) (fun i h => h.IsStrIter it T x t i))
    (sf : ∀ (A : Around) (i : Nat) (s : Shared) (Q : Value → Shared → Prop) (E : Value → Shared → Prop), s.heap.IsStrIter it T x t i → Q (.ref it) s → wpAny (model P w) A (pyIter (.ref it)) Q E s) :
    Turn P w K tg (Its x) [it] it (fun i h => h.IsStrIter it T x t i) where
  mem := by simp
  obj := fun i h st b hb => by
    obtain ⟨o, ho, _, hd⟩ := st
    have e : b = it := by simpa using hb
    subst e
    exact ⟨o, ho, fun v z => by rw [hd] at z; cases z⟩
  keep := fun i h h' st k => by
    obtain ⟨o, ho, r⟩ := st
    exact ⟨o, k it (by simp) o ho, r⟩
  item := by
    intro X hP hw hK hc i pins s σ H E I hf st hg
    subst hP hw hK
    refine (W X.A (I.ok.hd hc)).item i s _ _ hg st fun v h' tk hv st' kk => ?_
    obtain ⟨c, u, hx, rfl⟩ := hv
    obtain ⟨o, ho, hcl, hd⟩ := id st'
    have I1 : Inv X pins σ H { s with heap := h', toks := tk } := I.turnedAll hf kk
    refine ⟨_, rfl, go_of (s := { s with heap := h', toks := tk }) (n := T) ho hcl hd (by rcases hT with rfl | rfl <;> decide) ⟨.str ⟨#[c]⟩, H, I1, ⟨u, rfl⟩, ⟨rfl, c, hx, rfl⟩, st', fun b hb => (hf b hb).1⟩⟩
  done := by
    intro X hP hw hK hc i pins s σ H E I hf st hg
    subst hP hw hK
    have e : i = x.cps.size := hg
    subst e
    exact (W X.A (I.ok.hd hc)).done s _ _ st fun h' tk kk => ⟨rfl, I.turnedAll hf kk⟩
  self := fun A i s Q E st h => sf A i s Q E st h
end
def iStr (tl : TE) : TI := fun σ H R => tl σ H fun x H1 => ∃ z, x = .str z ∧ R (Its z) H1
theorem pi_str {X : Cx} {tg l : Expr} {tl : TE} (hl : PE X l tl) : PI X tg l (iStr tl) := by
  intro pins s σ H R I h
  refine thn (hl pins s σ H _ I h) fun v s1 ⟨x, H1, I1, r1, q1⟩ => ?_
  obtain ⟨z, rfl, q⟩ := q1
  obtain ⟨t, rfl⟩ := r1
  have side : ∀ b ∈ [s1.heap.objs.size], FpOk X pins H1 b := fun b hb => by
    have e : b = s1.heap.objs.size := by simpa using hb
    subst e
    exact I1.fpOk (Nat.le_refl _) (I1.hok.fresh (Nat.le_refl _))
  cases ha : z.cps.all (· < 128)
  · refine wpAny_pyIter_wide ha ⟨s1.heap.objs.size, [s1.heap.objs.size], _, _, H1, rfl, I1.kept (t' := s1.toks) fun b o e => Heap.get?_push_of_some _ e, turn_str (t := t) (T := "str_iterator") (.inr rfl) (fun A hh => Walks.strWide hh _ z t) (fun A i s Q E st h => wpAny_pyIter_striter_wide st h), ⟨_, Heap.get?_push_size _ rfl, rfl, rfl⟩, side, q⟩
  · refine wpAny_pyIter_ascii ha ⟨s1.heap.objs.size, [s1.heap.objs.size], _, _, H1, rfl, I1.kept (t' := s1.toks) fun b o e => Heap.get?_push_of_some _ e, turn_str (t := t) (T := "str_ascii_iterator") (.inl rfl) (fun A hh => Walks.strAscii hh _ z t) (fun A i s Q E st h => wpAny_pyIter_striter_ascii st h), ⟨_, Heap.get?_push_size _ rfl, rfl, rfl⟩, side, q⟩


def IteS (x : Str) : It := ⟨fun i _ => i < x.cps.size, fun i H v H' => ∃ T c, H T = none ∧ x.cps[i]? = some c ∧ v = .ref T ∧ H' = upd H T (.tup [.int i, .str ⟨#[c]⟩]), fun i _ => i = x.cps.size⟩
section
variable {P : Program} {w : World} {K : PySem.W.Frag} {elts : List Expr} {k : Nat} {tpos : Pos}

theorem enum_item {X : Cx} {pins : List (Addr × Obj)} {σ : St} {H : Hp} {s : Shared} {E : Value → Shared → Prop} {e it : Addr} {fp : List Addr} {n i : Nat} {Pr : Nat → Value → Prop} {St : Nat → Heap → Prop} {old : Value} {Qx : Value → Hp → V → Prop} {tn : Heap → Prop}
    (D : Draws X.prog X.w X.A.in1 it fp n Pr St) (I : Inv X pins σ H s) (hf : ∀ b ∈ [e, it], FpOk X pins H b) (he : IsEnum s.heap e it i old) (hst : St i s.heap) (hlt : i < n) (hne : e ≠ it) (hef : e ∉ fp)
    (tnk : ∀ h' o, IsEnum h' e it ((i : Int) + 1) o → St (i + 1) h' → tn h') (y : ∀ v, Pr i v → ∃ z, RelV z v ∧ Qx v H z) :
    wpAny (model X.prog X.w) X.A (pyNext (.ref e)) (fun r s1 => ∃ u, r = some u ∧ wpAny (model X.prog X.w) X.A (letOwnedTupleGo (.Tuple elts k tpos) (.ref e) u) (fun _ s2 => ∃ x H', Inv X pins σ H' s2 ∧ RelV x u ∧
      (∃ T z v, H T = none ∧ Pr i v ∧ RelV z v ∧ Qx v H z ∧ x = .ref T ∧ H' = upd H T (.tup [.int i, z])) ∧ tn s2.heap ∧ ∀ b ∈ [e, it], H' b = none) E s1) E s := by
  refine wpAny_pyNext_enum_itemD D he hst hlt hne hef fun v h1 tk hP ho hs' hT hsz hk => ⟨_, rfl, wpAny_letOwnedTupleGo_enum ho fun h2 he2 hs2 => ?_⟩
  obtain ⟨z, rz, qz⟩ := y v hP
  have hel : e < s.heap.objs.size := Heap.lt_size he
  have hil : it < s.heap.objs.size := by obtain ⟨_, q⟩ := D.live _ _ hst; exact Heap.lt_size q
  have hT2 : h2.get? s.heap.objs.size = some { cls := .type "tuple", data := .seq #[.int i tk, v] } := (hs2.2 _ (Nat.ne_of_gt hel)).trans hT
  have ob : ObjOk X.prog X.w (upd H s.heap.objs.size (.tup [.int i, z])) h2 s.heap.objs.size (.tup [.int i, z]) := ⟨(by show 2 ≤ sizeLine; decide), [.int i tk, v], .cons ⟨tk, rfl⟩ (.cons rz .nil), ⟨_, hT2, rfl, _, rfl⟩⟩
  have I2 : Inv X pins σ (upd H s.heap.objs.size (.tup [.int i, z])) { s with heap := h2, toks := tk + 1 } := I.turnedLaid hf (fun b u hb q => (hs2.2 b (fun z => hb (by simp [z]))).trans (hk b u (fun z => hb (by simp [z])) (fun z => hb (by simp [z])) q)) (Nat.le_refl _) ob
  refine ⟨.ref s.heap.objs.size, _, I2, rfl, ⟨s.heap.objs.size, z, v, I.hok.fresh (Nat.le_refl _), hP, rz, qz, rfl, rfl⟩, tnk h2 _ he2 (D.frame _ _ _ hs' fun b hb o q => (hs2.2 b fun z => hef (z ▸ hb)).trans q), fun b hb => ?_⟩
  have hb' : b ≠ s.heap.objs.size := by
    rcases List.mem_cons.mp hb with z | hb
    · rw [z]; exact Nat.ne_of_lt hel
    · rw [List.mem_singleton.mp hb]; exact Nat.ne_of_lt hil
  rw [upd_ne hb']
  exact (hf b hb).1
theorem turn_enumS {x : Str} {t : Tok} {T : String} {e it : Addr} (hne : e ≠ it)
    (W : ∀ A : Around, A.handled = none → Draws P w A it [it] x.cps.size (fun i v => ∃ c u, x.cps[i]? = some c ∧ v = .str ⟨#[c]⟩ u) (fun i h => h.IsStrIter it T x t i)) :
    Turn P w K (.Tuple elts k tpos) (IteS x) [e, it] e (fun i h => (∃ old, IsEnum h e it i old) ∧ h.IsStrIter it T x t i) where
  mem := by simp
  obj := fun i h st b hb => by
    obtain ⟨⟨old, he⟩, o, ho, _, hd⟩ := st
    rcases List.mem_cons.mp hb with z | hb
    · subst z; exact ⟨_, he, fun v z => by cases z⟩
    · rw [List.mem_singleton.mp hb]; exact ⟨o, ho, fun v z => by rw [hd] at z; cases z⟩
  keep := fun i h h' st k => by
    obtain ⟨⟨old, he⟩, o, ho, r⟩ := st
    exact ⟨⟨old, k e (by simp) _ he⟩, o, k it (by simp) o ho, r⟩
  item := by
    intro X hP hw hK hc i pins s σ H E I hf st hg
    subst hP hw hK
    obtain ⟨⟨old, he⟩, st⟩ := st
    refine thn (enum_item (elts := elts) (k := k) (tpos := tpos) (Qx := fun v H z => ∃ c, x.cps[i]? = some c ∧ z = .str ⟨#[c]⟩) (tn := fun h => (∃ old, IsEnum h e it ((i + 1 : Nat) : Int) old) ∧ h.IsStrIter it T x t (i + 1)) (W X.A.in1 (I.ok.hd hc)) I hf he st hg hne (fun z => hne (List.mem_singleton.mp z)) (fun h' o a b => ⟨⟨o, by simpa using a⟩, b⟩) ?_) ?_
    · rintro v ⟨c, u, hx, rfl⟩
      exact ⟨.str ⟨#[c]⟩, ⟨u, rfl⟩, c, hx, rfl⟩
    · rintro r s1 ⟨u, hr, h1⟩
      refine ⟨u, hr, thn h1 ?_⟩
      rintro _ s2 ⟨xv, H', I2, rx, ⟨Ta, z, v, hT, hv, rz, ⟨c, hx, rfl⟩, ex, eH⟩, tn2, fr⟩
      exact ⟨xv, H', I2, rx, ⟨Ta, c, hT, hx, ex, eH⟩, tn2, fr⟩
  done := by
    intro X hP hw hK hc i pins s σ H E I hf st hg
    subst hP hw hK
    obtain ⟨⟨old, he⟩, st⟩ := st
    have ei : i = x.cps.size := hg
    subst ei
    exact wpAny_pyNext_enum_endD (W X.A.in1 (I.ok.hd hc)) he st fun h' hx => ⟨rfl, I.turnedAll (t' := s.toks) hf fun b o hb q => hx b o (fun z => hb (by simp [z])) q⟩
  self := fun A i s Q E st h => by
    obtain ⟨⟨old, he⟩, _⟩ := st
    exact wpAny_pyIter_enum he h
end
def iEnS (ta : TA) : TI := fun σ H R => ta σ H fun vs H1 => ∃ z, vs = [.str z] ∧ R (IteS z) H1
section
variable {X : Cx} {a : Expr} {ta : TA} {p pos : Pos} {elts : List Expr} {k : Nat} {tpos : Pos}
theorem fresh2 {pins : List (Addr × Obj)} {σ : St} {H : Hp} {s : Shared} (I : Inv X pins σ H s) : ∀ b ∈ [s.heap.objs.size + 1, s.heap.objs.size], FpOk X pins H b := fun b hb => by
  rcases List.mem_cons.mp hb with z | hb
  · subst z; exact I.fpOk (Nat.le_succ _) (I.hok.fresh (Nat.le_succ _))
  · rw [List.mem_singleton.mp hb]; exact I.fpOk (Nat.le_refl _) (I.hok.fresh (Nat.le_refl _))
theorem pi_enumS (hg : Gl X "enumerate") (hm : X.mg "enumerate" = none) (ha : PA X [a] ta) (hs : starEach [a] X.env = [(false, eval a X.env)] := by rfl) : PI X (.Tuple elts k tpos) (.Call (.Name "enumerate" p) [a] [] pos) (iEnS ta) := by
  intro pins s σ H R I h
  refine Call_ (ld_blt I hg hm boot_enumerate (PyProof.Rows.callWith_type1 (thn (ha pos pins s σ H _ I h) fun us s1 ⟨vs, H1, I1, r1, q1⟩ => ?_) hs rfl))
  obtain ⟨z, e, q⟩ := q1
  subst e
  cases r1 with
  | cons r rr =>
    cases rr
    obtain ⟨t, rfl⟩ := r
    refine call_enumerate_str fun h' he hit hsz hk => wpAny_pyIter_enum he ?_
    cases hall : z.cps.all (· < 128)
    · have hit' : h'.IsStrIter s1.heap.objs.size "str_iterator" z t 0 := by simpa [strIterType, hall] using hit
      exact ⟨s1.heap.objs.size + 1, [s1.heap.objs.size + 1, s1.heap.objs.size], _, _, H1, rfl, I1.kept (t' := s1.toks) hk, turn_enumS (t := t) (T := "str_iterator") (Nat.succ_ne_self _) (fun A hh => Draws.strWide hh _ z t), ⟨⟨_, he⟩, hit'⟩, fresh2 I1, q⟩
    · have hit' : h'.IsStrIter s1.heap.objs.size "str_ascii_iterator" z t 0 := by simpa [strIterType, hall] using hit
      exact ⟨s1.heap.objs.size + 1, [s1.heap.objs.size + 1, s1.heap.objs.size], _, _, H1, rfl, I1.kept (t' := s1.toks) hk, turn_enumS (t := t) (T := "str_ascii_iterator") (Nat.succ_ne_self _) (fun A hh => Draws.strAscii hh _ z t), ⟨⟨_, he⟩, hit'⟩, fresh2 I1, q⟩
end
end L2

namespace L2
open PySem PySem.Spec PyProof.Rows


def tx (l : List Nat) : V := .str ⟨l.toArray⟩
theorem tx_inj {a b : List Nat} : tx a = tx b ↔ a = b := by
  unfold tx
  constructor
  · intro h
    injection h with h
    injection h with h
    simpa using congrArg Array.toList h
  · rintro rfl; rfl
theorem tx_len (a : List Nat) : (⟨a.toArray⟩ : Str).length = a.length := by simp [Str.length]
theorem eqV_tx (a b : List Nat) : eqV (tx a) (tx b) = decide (a = b) := by
  have e : eqV (tx a) (tx b) = ((⟨a.toArray⟩ : Str) == ⟨b.toArray⟩) := rfl
  rw [e]
  by_cases h : a = b
  · subst h; simp
  · rw [decide_eq_false h, beq_eq_false_iff_ne]
    intro q
    exact h (tx_inj.mp (congrArg V.str q))
theorem dec_tx (a b : List Nat) : decide (tx a = tx b) = decide (a = b) := by
  by_cases h : a = b
  · subst h; simp
  · rw [decide_eq_false h, decide_eq_false (fun q => h (tx_inj.mp q))]

section
variable {X : Cx}
theorem pe_tx {x : Str} {l : List Nat} {j pos} (h : x = ⟨l.toArray⟩) : PE X (.Constant (.str x) j pos) (tC (tx l)) := by
  subst h
  exact pe_str
theorem op_addT : OpR X (binaryOp .Add) (fun x y H Q => ∃ a b, x = tx a ∧ y = tx b ∧ a.length + b.length ≤ sizeLine ∧ Q (tx (a ++ b)) H) := by
  intro pins s σ H x y v u Q I rx ry ⟨a, b, e1, e2, hz, q⟩
  subst e1 e2
  refine op_add_str pins s σ H _ _ v u Q I rx ry ⟨_, _, rfl, rfl, by rw [tx_len, tx_len]; exact hz, ?_⟩
  have e : (V.str ((⟨a.toArray⟩ : Str) ++ ⟨b.toArray⟩)) = tx (a ++ b) := by
    unfold tx
    congr 1
    show (⟨a.toArray ++ b.toArray⟩ : Str) = _
    simp
  rw [e]; exact q
def rIxT' : R2 := fun x y H Q => ∃ a i c, x = tx a ∧ y = .int i ∧ a.length ≤ sizeLine ∧ atI a i = some c ∧ Q (tx [c]) H
theorem ix_T : IxR X rIxT' := by
  intro value slice pins s σ H x y v u Q I rx ry ⟨a, i, c, e1, e2, hz, he, q⟩ hs
  subst e1 e2
  exact ix_str value slice pins s σ H _ _ v u Q I rx ry ⟨_, i, c, rfl, rfl, by rw [tx_len]; exact hz, by simpa using he, q⟩ hs
theorem call_lenT : CallR X (.builtin "len") (fun xs H Q => ∃ a, xs = [tx a] ∧ a.length ≤ sizeLine ∧ Q (.int a.length) H) := by
  intro pins s σ H xs us Q I r ⟨a, e, hz, q⟩
  subst e
  refine call_len_str pins s σ H _ us Q I r ⟨_, rfl, by rw [tx_len]; exact hz, ?_⟩
  rw [tx_len]; exact q
theorem op_inT : OpR X (compareOp .In) (fun x y H Q => ∃ c l, x = tx [c] ∧ y = tx l ∧ Q (.bl (decide (c ∈ l))) H) := by
  intro pins s σ H x y v u Q I rx ry ⟨c, l, e1, e2, q⟩
  subst e1 e2
  refine op_in_str pins s σ H _ _ v u Q I rx ry ⟨_, _, rfl, rfl, ?_⟩
  have e := PySem.StrLaws.found_one (⟨l.toArray⟩ : Str) c
  simp only at e
  rw [show (⟨[c].toArray⟩ : Str) = ⟨#[c]⟩ from rfl, e]
  exact q
theorem op_notinT : OpR X (compareOp .NotIn) (fun x y H Q => ∃ c l, x = tx [c] ∧ y = tx l ∧ Q (.bl (!decide (c ∈ l))) H) := by
  intro pins s σ H x y v u Q I rx ry ⟨c, l, e1, e2, q⟩
  subst e1 e2
  refine op_notin_str pins s σ H _ _ v u Q I rx ry ⟨_, _, rfl, rfl, ?_⟩
  have e := PySem.StrLaws.found_one (⟨l.toArray⟩ : Str) c
  simp only at e
  rw [show (⟨[c].toArray⟩ : Str) = ⟨#[c]⟩ from rfl, e]
  exact q

theorem rep_fold (a : List Nat) : ∀ (n : Nat) (acc : Array Nat), ((List.replicate n a.toArray).foldl (· ++ ·) acc) = (acc.toList ++ (List.replicate n a).flatten).toArray
  | 0, acc => by simp
  | n + 1, acc => by
    rw [List.replicate_succ, List.foldl_cons, rep_fold a n, List.replicate_succ, List.flatten_cons]
    simp
theorem op_mulT : OpR X (binaryOp .Mult) (fun x y H Q => ∃ a k, x = tx a ∧ y = .int k ∧ 0 ≤ k ∧ k ≤ 1000 ∧ a.length ≤ 1000 ∧ Q (tx (List.replicate k.toNat a).flatten) H) := by
  intro pins s σ H x y v u Q I rx ry ⟨a, k, e1, e2, h0, h1, hl, q⟩
  subst e1 e2
  obtain ⟨t, rfl⟩ := rx
  obtain ⟨t', rfl⟩ := ry
  have e : Txt.mul ⟨a.toArray⟩ k = ⟨((List.replicate k.toNat a).flatten).toArray⟩ := by
    unfold Txt.mul
    by_cases hk : k < 1
    · have : k = 0 := by omega
      subst this
      rfl
    · rw [if_neg hk]
      split
      · rename_i hc
        rw [tx_len] at hc
        simp only [Bool.or_eq_true, beq_iff_eq] at hc
        rcases hc with hc | hc
        · subst hc; simp
        · have : a = [] := List.length_eq_zero_iff.mp hc
          subst this
          simp
      · simp only
        rw [rep_fold]
        simp
  refine SB.mul ⟨by simp; omega, fun h2 _ => ?_, fun h2 _ => ?_⟩ fun t2 tk => ⟨tx (List.replicate k.toNat a).flatten, H, I.tok tk, ⟨t2, by rw [e]⟩, q⟩
  · rw [tx_len]
    have : (1000 : Int) ≤ (2 ^ 63 - 1) / k := by
      refine Int.le_ediv_of_mul_le (by omega) ?_
      omega
    omega
  · rw [tx_len]
    unfold Builtin.Str.tooLong
    have hs : sizeLine = 16777216 := sizeLine_eq
    have : a.length * k.toNat ≤ 1000 * 1000 := Nat.mul_le_mul hl (by omega)
    simp; omega


def cutL {α : Type} (xs : List α) (lo hi : Option Int) : List α := (xs.drop (HT.sIx xs.length 0 lo)).take (HT.sIx xs.length xs.length hi - HT.sIx xs.length 0 lo)
theorem clipS (v : Option Int) (n d : Nat) (hd : d ≤ n) : (match v with | none => (d : Int) | some i => max 0 (min (if i < 0 then i + (n : Int) else i) (n : Int))) = ((HT.sIx n d v : Nat) : Int) := by
  cases v with
  | none => rfl
  | some i =>
    show max 0 (min (if i < 0 then i + (n : Int) else i) (n : Int)) = (((if i < 0 then (i + (n : Int)).toNat else min i.toNat n) : Nat) : Int)
    by_cases hv : i < 0
    · simp only [if_pos hv]; omega
    · simp only [if_neg hv]; omega
theorem idx_run (lo hi : Option Int) (n : Nat) : Builtin.Str.strSliceIndices lo hi 1 n = (List.range (HT.sIx n n hi - HT.sIx n 0 lo)).map fun k => HT.sIx n 0 lo + k := by
  have h1 : (1 : Int) > 0 := by omega
  have key : Builtin.Str.strSliceIndices lo hi 1 n = sliceRange ((HT.sIx n 0 lo : Nat) : Int) ((HT.sIx n n hi : Nat) : Int) 1 := by
    unfold Builtin.Str.strSliceIndices
    simp only [h1, if_true]
    congr 1
    · cases lo with
      | none => rfl
      | some i => exact clipS (some i) n 0 (Nat.zero_le _)
    · cases hi with
      | none => rfl
      | some i => exact clipS (some i) n n (Nat.le_refl _)
  rw [key]
  unfold sliceRange
  simp only [h1, if_true]
  have e3 : (if ((HT.sIx n 0 lo : Nat) : Int) < ((HT.sIx n n hi : Nat) : Int) then (((HT.sIx n n hi : Nat) : Int) - ((HT.sIx n 0 lo : Nat) : Int) + 1 - 1) / 1 else 0).toNat = HT.sIx n n hi - HT.sIx n 0 lo := by
    split <;> omega
  rw [e3]
  refine List.map_congr_left fun k _ => ?_
  omega
theorem pick_cut (a : List Nat) (i k : Nat) : ((List.range k).map fun m => i + m).filterMap (fun j => a.toArray[j]?) = (a.drop i).take k := by
  rw [List.filterMap_map]
  induction k generalizing i with
  | zero => simp
  | succ k ih =>
    rw [List.range_succ, List.filterMap_append, ih i, List.take_add_one]
    congr 1
    simp only [List.filterMap_cons, List.filterMap_nil, Function.comp]
    rw [List.getElem?_drop]
    simp only [List.getElem?_toArray]
    cases a[i + k]? <;> rfl
theorem cut_le {α : Type} (a : List α) (lo hi : Option Int) : (cutL a lo hi).length ≤ a.length := by
  unfold cutL; rw [List.length_take, List.length_drop]; omega
def rSlS : V → Option Int → Option Int → Hp → VK → Prop := fun x lo hi H Q => ∃ a, x = tx a ∧ a.length ≤ sizeLine ∧ Q (tx (cutL a lo hi)) H
theorem sl_T : SlR X rSlS := by
  intro pins s σ H x v vl vu lo hi sl Q I rx hs pl pu ⟨a, e, hz, q⟩
  subst e
  obtain ⟨t, rfl⟩ := rx
  refine ⟨"str", _, F.slot_str_getitem.lookup, typeIs_str _ _ _, ?_⟩
  obtain ⟨l, el, ml⟩ : ∃ l : Option (Int × Tok), vl = partValue l ∧ l.map (·.1) = lo := by
    cases pl with
    | none => exact ⟨none, rfl, rfl⟩
    | int i t => exact ⟨some (i, t), rfl, rfl⟩
  obtain ⟨u, eu, mu⟩ : ∃ u : Option (Int × Tok), vu = partValue u ∧ u.map (·.1) = hi := by
    cases pu with
    | none => exact ⟨none, rfl, rfl⟩
    | int i t => exact ⟨some (i, t), rfl, rfl⟩
  subst el eu
  refine wpAny_getItem_str_slice (l := l) (u := u) (st := none) hs rfl ?_
  have hle := cut_le a lo hi
  have ep : slicePicked ⟨a.toArray⟩ l u none = (List.range (HT.sIx a.length a.length hi - HT.sIx a.length 0 lo)).map fun k => HT.sIx a.length 0 lo + k := by
    unfold slicePicked
    rw [ml, mu, tx_len]
    exact idx_run lo hi a.length
  have ec : ((slicePicked ⟨a.toArray⟩ l u none).filterMap (a.toArray[·]?)) = cutL a lo hi := by
    rw [ep]; exact pick_cut a _ _
  unfold sliceMade
  refine post_val_or_str ?_
  have fin : (if ((Option.map (fun x => x.1) (none : Option (Int × Tok))).getD 1 == 1 && (slicePicked ⟨a.toArray⟩ l u none).length == (⟨a.toArray⟩ : Str).length) = true then (⟨a.toArray⟩ : Str) else ⟨((slicePicked ⟨a.toArray⟩ l u none).filterMap (a.toArray[·]?)).toArray⟩) = ⟨(cutL a lo hi).toArray⟩ := by
    rw [ec]
    split
    · rename_i hc
      rw [ep, tx_len] at hc
      simp only [Option.map_none, Option.getD_none, beq_self_eq_true, Bool.true_and, List.length_map, List.length_range, beq_iff_eq] at hc
      have hl : HT.sIx a.length a.length hi ≤ a.length := HT.sIx_le _ _ (Nat.le_refl _) _
      have h0 : HT.sIx a.length 0 lo = 0 ∨ a.length = 0 := by omega
      unfold cutL
      rw [hc]
      rcases h0 with h0 | h0
      · rw [h0, List.drop_zero, List.take_length]
      · have : a = [] := List.length_eq_zero_iff.mp h0
        subst this
        simp
    · rfl
  have fin' := fin
  simp only at fin' ⊢
  rw [fin']
  refine ⟨by rw [tx_len]; omega, fun t' k => ⟨tx (cutL a lo hi), H, I.tok k, ⟨t', rfl⟩, q⟩⟩


theorem call_isi : CallR X (.builtin "isinstance") (fun xs H Q => ∃ x T t b, xs = [x, .ty T] ∧ TyOf X.K H x t ∧ PySem.W.kitOne X.K t (.type T) = some b ∧ Q (.bl b) H) := by
  intro pins s σ H xs us Q I r ⟨x, T, t, b, e, ty, hk, q⟩
  subst e
  obtain ⟨u, w', rfl, ru, rw'⟩ := vals2 r
  cases rw'
  exact isinst_ok I ru ty hk fun tk => ⟨.bl b, H, I.tok tk, rfl, q⟩


theorem call_allL : CallR X (.builtin "all") (fun xs H Q => X.calm = true ∧ ∃ (a : Addr) (bs : List Bool), xs = [.ref a] ∧ SqL X.K H a (bs.map V.bl) ∧ Q (.bl (bs.all id)) H) := by
  intro pins s σ H xs us Q I r ⟨hc, a, bs, e, hq, q⟩
  subst e
  obtain ⟨u, rfl, ru⟩ := vals1 r
  cases ru
  obtain ⟨its, rv, pl, hz⟩ := I.list hq
  obtain ⟨ol, hol, _⟩ := id pl.isList
  have hl : a < s.heap.objs.size := Heap.lt_size hol
  have hlen := rv.length
  rw [List.length_map] at hlen
  refine call_all_walk (wpAny_pyIter_list pl.isList ⟨s.heap.objs.size, _, _, _, _, _, fun i => bs.getD i false, rfl, Walks.list (A := X.A.in1) (I.ok.hd hc) s.heap.objs.size a (Nat.ne_of_lt hl) its.toArray, ⟨⟨_, Heap.get?_push_size _ rfl, rfl, rfl⟩, pl.isList.at fun o e => Heap.get?_push_of_some _ e⟩, ?_, fun h' tk kk => ?_⟩)
  · intro i v s' Q' E' hv hQ'
    have hv' : its[i]? = some v := by simpa using hv
    have hi : i < bs.length := by rw [hlen]; exact (List.getElem?_eq_some_iff.mp hv').1
    obtain ⟨w', e1, e2⟩ := rv.get (i := i) (x := V.bl bs[i]) (by simp [hi])
    rw [hv'] at e1
    cases e1
    cases e2
    have : bs.getD i false = bs[i] := by simp [List.getD_eq_getElem?_getD, hi]
    simp only [this] at hQ'
    exact wpAny_truthy_bool hQ'
  · have e : (List.range its.toArray.size).all (fun i => bs.getD i false) = bs.all id := by
      rw [List.size_toArray, ← hlen]
      rw [Bool.eq_iff_iff]
      simp only [List.all_eq_true, List.mem_range, id]
      constructor
      · intro h b hb
        obtain ⟨i, hi, rfl⟩ := List.mem_iff_getElem.mp hb
        have := h i hi
        simpa [List.getD_eq_getElem?_getD, hi] using this
      · intro h i hi
        have := h bs[i] (List.getElem_mem hi)
        simpa [List.getD_eq_getElem?_getD, hi] using this
    rw [e]
    have I1 : Inv X pins σ H { s with heap := s.heap.push { cls := .type "list_iterator", data := .fields #[.ref a, .int 0 0] } } := I.kept (t' := s.toks) fun b o z => Heap.get?_push_of_some _ z
    refine ⟨.bl (bs.all id), H, I.kept (t' := tk) fun b o z => kk b o (fun y => ?_) (Heap.get?_push_of_some _ z), rfl, q⟩
    exact absurd (Heap.lt_size z) (by rw [List.mem_singleton.mp y]; exact Nat.lt_irrefl _)


def eqVs : List V → List V → Bool
  | [], [] => true
  | x :: xs, y :: ys => eqV x y && eqVs xs ys
  | _, _ => false
theorem eqVs_len : ∀ {xs ys : List V}, xs.length ≠ ys.length → eqVs xs ys = false
  | [], [], h => absurd rfl h
  | [], _ :: _, _ => rfl
  | _ :: _, [], _ => rfl
  | x :: xs, y :: ys, h => by
    have : eqVs xs ys = false := eqVs_len (by simpa using h)
    show (eqV x y && eqVs xs ys) = false
    rw [this, Bool.and_false]
theorem eqVs_range : ∀ (xs ys : List V), xs.length = ys.length → (List.range xs.length).all (fun i => eqV (xs.getD i .non) (ys.getD i .non)) = eqVs xs ys
  | [], [], _ => rfl
  | x :: xs, y :: ys, h => by
    have ih := eqVs_range xs ys (by simpa using h)
    rw [List.length_cons, List.range_succ_eq_map, List.all_cons, List.all_map]
    show (eqV x y && _) = (eqV x y && eqVs xs ys)
    rw [← ih]
    rfl
  | [], _ :: _, h => by simp at h
  | _ :: _, [], h => by simp at h
theorem eqVs_at {A : Around} {s : Shared} {xs ys : List V} {us ws : List Value} (r1 : Vals xs us) (r2 : Vals ys ws) (f1 : xs.all flatV = true) (f2 : ys.all flatV = true) :
    ∀ j (h1 : j < us.toArray.size) (h2 : j < ws.toArray.size), SeqAt.EqAt A s us.toArray[j] ws.toArray[j] (eqV (xs.getD j .non) (ys.getD j .non)) := by
  intro j h1 h2
  have l1 := r1.length
  have l2 := r2.length
  rw [List.size_toArray] at h1 h2
  have k1 : j < xs.length := by omega
  have k2 : j < ys.length := by omega
  obtain ⟨u, e1, q1⟩ := r1.get (i := j) (x := xs[j]) (by simp [k1])
  obtain ⟨w', e2, q2⟩ := r2.get (i := j) (x := ys[j]) (by simp [k2])
  have eu : us.toArray[j] = u := by
    have := List.getElem?_eq_getElem (l := us) (i := j) h1
    rw [e1] at this
    simpa using (Option.some.inj this).symm
  have ew : ws.toArray[j] = w' := by
    have := List.getElem?_eq_getElem (l := ws) (i := j) h2
    rw [e2] at this
    simpa using (Option.some.inj this).symm
  rw [eu, ew]
  have g1 : xs.getD j .non = xs[j] := by simp [List.getD_eq_getElem?_getD, k1]
  have g2 : ys.getD j .non = ys[j] := by simp [List.getD_eq_getElem?_getD, k2]
  rw [g1, g2]
  exact eqAt_V q1 q2 (List.all_eq_true.mp f1 _ (List.getElem_mem k1)) (List.all_eq_true.mp f2 _ (List.getElem_mem k2))
def rEqL (K : PySem.W.Frag) (neg : Bool) : R2 := fun x y H Q => ∃ a b xs ys, x = .ref a ∧ y = .ref b ∧ SqL K H a xs ∧ SqL K H b ys ∧ xs.all flatV = true ∧ ys.all flatV = true ∧ Q (.bl (if neg then !eqVs xs ys else eqVs xs ys)) H
theorem op_eqL (hu : X.A.units < cLine) : OpR X (compareOp .Eq) (rEqL X.K false) := by
  intro pins s σ H x y v u Q I rx ry ⟨a, b, xs, ys, e1, e2, q1, q2, f1, f2, q⟩
  subst e1 e2
  cases rx
  cases ry
  obtain ⟨us, r1, p1, z1⟩ := I.list q1
  obtain ⟨ws, r2, p2, z2⟩ := I.list q2
  have l1 := r1.length
  have l2 := r2.length
  by_cases hl : xs.length = ys.length
  · refine SeqAt.eq_listAt p1.isList p2.isList (by simp; omega) hu (eqVs_at r1 r2 f1 f2) ⟨.bl _, H, I, rfl, ?_⟩
    rw [List.size_toArray, ← l1, eqVs_range xs ys hl]
    exact q
  · refine SeqAt.eq_list_lengthsAt p1.isList p2.isList (by simp; omega) hu ⟨.bl _, H, I, rfl, ?_⟩
    rw [← eqVs_len hl]
    exact q
theorem op_neL (hu : X.A.units < cLine) : OpR X (compareOp .NotEq) (rEqL X.K true) := by
  intro pins s σ H x y v u Q I rx ry ⟨a, b, xs, ys, e1, e2, q1, q2, f1, f2, q⟩
  subst e1 e2
  cases rx
  cases ry
  obtain ⟨us, r1, p1, z1⟩ := I.list q1
  obtain ⟨ws, r2, p2, z2⟩ := I.list q2
  have l1 := r1.length
  have l2 := r2.length
  by_cases hl : xs.length = ys.length
  · refine SeqAt.RcNeAt.lists p1.isList p2.isList (by simp; omega) hu (eqVs_at r1 r2 f1 f2) _ _ _ _ ⟨.bl _, H, I, rfl, ?_⟩
    rw [List.size_toArray, ← l1, eqVs_range xs ys hl]
    exact q
  · refine SeqAt.RcNeAt.lists_lengths p1.isList p2.isList (by simp; omega) hu _ _ _ _ ⟨.bl _, H, I, rfl, ?_⟩
    have : eqVs xs ys = false := eqVs_len hl
    rw [if_pos rfl, this] at q
    exact q

def litV : V → Bool
  | .non => true
  | .bl _ => true
  | _ => false
theorem op_isB : OpR X (compareOp .Is) (fun x y H Q => litV y = true ∧ Q (.bl (decide (x = y))) H) := by
  intro pins s σ H x y v u Q I rx ry ⟨hl, q⟩
  refine wpAny_is_plain ?_ ⟨.bl _, H, I, ?_, q⟩
  · cases y <;> first
      | (exact absurd hl Bool.false_ne_true)
      | (cases ry; cases x <;> first | (cases rx; rfl) | (obtain ⟨t, rfl⟩ := rx; rfl))
  · cases y <;> first
      | (exact absurd hl Bool.false_ne_true)
      | (cases ry; cases x <;> first | (cases rx; rfl) | (obtain ⟨t, rfl⟩ := rx; rfl) | (cases rx; rename_i b1 _ b2; cases b1 <;> cases b2 <;> rfl) | (cases rx; rename_i b1 b2; cases b1 <;> cases b2 <;> rfl) | (cases rx; rename_i b1 _ b2 _; cases b1 <;> cases b2 <;> rfl))
end
end L2

namespace L2
open PySem PySem.Spec PyProof.Rows
section
variable {X : Cx}

def rPlus : R2 := fun x y H Q => (∃ i j, x = .int i ∧ y = .int j ∧ Q (.int (i + j)) H) ∨ (∃ a b, x = tx a ∧ y = tx b ∧ a.length + b.length ≤ sizeLine ∧ Q (tx (a ++ b)) H) ∨ rCat x y H Q
theorem op_plus : OpR X (binaryOp .Add) rPlus := op_add.or (op_addT.or op_cat)
def rMulT : R2 := fun x y H Q => ∃ a k, x = tx a ∧ y = .int k ∧ 0 ≤ k ∧ k ≤ 1000 ∧ a.length ≤ 1000 ∧ Q (tx (List.replicate k.toNat a).flatten) H
def rTimes : R2 := fun x y H Q => (∃ i j, x = .int i ∧ y = .int j ∧ CMul i j ∧ Q (.int (i * j)) H) ∨ rRep x y H Q ∨ rMulT x y H Q
theorem op_times : OpR X (binaryOp .Mult) rTimes := op_mul.or (op_rep.or op_mulT)
def rEqA (K : PySem.W.Frag) : R2 := fun x y H Q => rEq x y H Q ∨ rEqL K false x y H Q
theorem op_eqA (K : PySem.W.Frag) (hu : X.A.units < cLine) (hK : X.K = K := by rfl) : OpR X (compareOp .Eq) (rEqA K) := by subst hK; exact op_eq.or (op_eqL hu)
def rNeA (K : PySem.W.Frag) : R2 := fun x y H Q => rNe x y H Q ∨ rEqL K true x y H Q
theorem op_neA (K : PySem.W.Frag) (hu : X.A.units < cLine) (hK : X.K = K := by rfl) : OpR X (compareOp .NotEq) (rNeA K) := by subst hK; exact op_ne.or (op_neL hu)
def rInA (K : PySem.W.Frag) : R2 := fun x y H Q => (∃ c l, x = tx [c] ∧ y = tx l ∧ Q (.bl (decide (c ∈ l))) H) ∨ rIn K false x y H Q
theorem op_inA (K : PySem.W.Frag) (hK : X.K = K := by rfl) : OpR X (compareOp .In) (rInA K) := by subst hK; exact op_inT.or op_in_seq
def rNotInA (K : PySem.W.Frag) : R2 := fun x y H Q => (∃ c l, x = tx [c] ∧ y = tx l ∧ Q (.bl (!decide (c ∈ l))) H) ∨ rIn K true x y H Q
theorem op_notinA (K : PySem.W.Frag) (hK : X.K = K := by rfl) : OpR X (compareOp .NotIn) (rNotInA K) := by subst hK; exact op_notinT.or op_notIn_seq
def rIsA : R2 := fun x y H Q => litV y = true ∧ Q (.bl (decide (x = y))) H
theorem op_isA : OpR X (compareOp .Is) rIsA := op_isB
def rIxA (K : PySem.W.Frag) : R2 := fun x y H Q => rIxT' x y H Q ∨ rIxL K x y H Q ∨ rIxT K x y H Q
theorem ix_A (K : PySem.W.Frag) (hK : X.K = K := by rfl) : IxR X (rIxA K) := by subst hK; exact ix_T.or (ix_list.or ix_tup)
def rSlA (K : PySem.W.Frag) : V → Option Int → Option Int → Hp → VK → Prop := fun x lo hi H Q => rSlS x lo hi H Q ∨ rSlL K x lo hi H Q
theorem sl_A (K : PySem.W.Frag) (hK : X.K = K := by rfl) : SlR X (rSlA K) := by subst hK; exact sl_T.or sl_list
def rLen (K : PySem.W.Frag) : List V → Hp → VK → Prop := fun xs H Q => (∃ a, xs = [tx a] ∧ a.length ≤ sizeLine ∧ Q (.int a.length) H) ∨ ∃ p ys, xs = [.ref p] ∧ (SqL K H p ys ∨ SqT K H p ys) ∧ Q (.int ys.length) H
theorem call_lenA (K : PySem.W.Frag) (hK : X.K = K := by rfl) : CallR X (.builtin "len") (rLen K) := by subst hK; exact call_lenT.or call_len_seq
def rAll (K : PySem.W.Frag) : List V → Hp → VK → Prop := fun xs H Q => ∃ (a : Addr) (bs : List Bool), xs = [.ref a] ∧ SqL K H a (bs.map V.bl) ∧ Q (.bl (bs.all id)) H
theorem call_allA (K : PySem.W.Frag) (hc : X.calm = true) (hK : X.K = K := by rfl) : CallR X (.builtin "all") (rAll K) := by subst hK; exact fun pins s σ H xs us Q I r h => call_allL pins s σ H xs us Q I r ⟨hc, h⟩
def rIsi (K : PySem.W.Frag) : List V → Hp → VK → Prop := fun xs H Q => ∃ x T t b, xs = [x, .ty T] ∧ TyOf K H x t ∧ PySem.W.kitOne K t (.type T) = some b ∧ Q (.bl b) H
theorem call_isiA (K : PySem.W.Frag) (hK : X.K = K := by rfl) : CallR X (.builtin "isinstance") (rIsi K) := by subst hK; exact call_isi
def rMax : List V → Hp → VK → Prop := fun xs H Q => ∃ i j, xs = [.int i, .int j] ∧ Q (.int (if j > i then j else i)) H
def rMin : List V → Hp → VK → Prop := fun xs H Q => ∃ i j, xs = [.int i, .int j] ∧ Q (.int (if j < i then j else i)) H
theorem call_maxA (hc : X.calm = true) : CallR X (.builtin "max") rMax := call_max2 hc
theorem call_minA (hc : X.calm = true) : CallR X (.builtin "min") rMin := call_min2 hc
def tTru (K : PySem.W.Frag) (ta : TE) : TT := fun σ H Q => ta σ H fun x H' => ∃ k, TruV K x H' k ∧ Q k H'
theorem pt_tru (K : PySem.W.Frag) {a : Expr} {ta : TE} (ha : PE X a ta) (he : ∀ whole, isTrue a X.env whole = (do let v ← whole; standAt a.pos; holding [v] (truthy v)) := by intro _; rfl) (hK : X.K = K := by rfl) : PT X a (tTru K ta) := by subst hK; exact pt_truth ha he

theorem pi_listK (K : PySem.W.Frag) {tg l : Expr} {tl : TE} (hl : PE X l tl) (hK : X.K = K := by rfl) : PI X tg l (iList K tl) := by subst hK; exact pi_list hl
theorem pg_tupK (K : PySem.W.Frag) {es : List Expr} {k : Nat} {t : TGs} {n : Nat} {pos : Pos} (hc : X.calm = true) (h : PGs X es t)
    (hn : (assignEach es X.env).length = n := by rfl) (hst : (assignEach es X.env).findIdx? (·.1) = none := by rfl) (hK : X.K = K := by rfl) : PG X (.Tuple es k pos) (gTup K n t) := by subst hK; exact pg_tup hc h hn hst
theorem pe_bm0K (K : PySem.W.Frag) {o : Expr} {to : TE} {name : Str} {apos cpos : Pos} {T id : String} {r : V → List V → Hp → VK → Prop} (pa : PlainAttrs T) (slot : Slot T name id) (hty : typeOf (.builtin id) = pure (.type "method_descriptor")) (hm : MtR X id r) (ho : PE X o to)
    (hbase : attributeBase o name X.env (eval o X.env) = eval o X.env := by rfl) (hline : (apos.endLine == cpos.line) = true := by rfl) (hK : X.K = K := by rfl) : PE X (.Call (.Attribute o name apos) [] [] cpos) (tBM0 K T r to) := by subst hK; exact pe_bm0 pa slot hty hm ho hbase hline
theorem pe_bmK (K : PySem.W.Frag) {o e : Expr} {es : List Expr} {to : TE} {t : TA} {name : Str} {apos cpos : Pos} {T id : String} {r : V → List V → Hp → VK → Prop} (pa : PlainAttrs T) (slot : Slot T name id) (hty : typeOf (.builtin id) = pure (.type "method_descriptor")) (hm : MtR X id r) (ho : PE X o to) (ha : PA X (e :: es) t)
    (hbase : attributeBase o name X.env (eval o X.env) = eval o X.env := by rfl)
    (hfew : ((backTo cpos (starEach (e :: es) X.env)).all (fun x => !x.1) && (backToKw cpos (keywordEach [] X.env)).all (fun x => x.1.isSome)
      && decide ((e :: es).length + ([] : List Keyword).length + (if ([] : List Keyword).isEmpty then 0 else 1) < 30)) = true := by rfl)
    (hline : (apos.endLine == cpos.line) = true := by rfl) (hs : starEach (e :: es) X.env = (false, eval e X.env) :: starEach es X.env := by rfl) (hplain : (backTo cpos (starEach es X.env)).any (·.1) = false := by rfl) (hK : X.K = K := by rfl) :
    PE X (.Call (.Attribute o name apos) (e :: es) [] cpos) (tBM K T r to t) := by subst hK; exact pe_bm pa slot hty hm ho ha hbase hfew hline hs hplain


theorem pe_gl {x : Str} {v : V} {pos : Pos} (h : ∃ u, X.mg x = some u ∧ RelV v u) (hg : Gl X x := by rfl) (hd : (x == ("__debug__" : Str)) = false := by decide) : PE X (.Name x pos) (tC v) := by
  obtain ⟨u, hm, r⟩ := h
  exact pe_glob hg hm r hd
theorem pe_ty {x : Str} {T : String} {pos : Pos} (hm : X.mg x = none) (hv : bootBuiltins x = some (.type T)) (hg : Gl X x := by rfl) (hn : x ≠ "__name__" := by decide) (hd : (x == ("__debug__" : Str)) = false := by decide) : PE X (.Name x pos) (tC (.ty T)) :=
  pe_bltn hg hm hv rfl hn hd


structure FnU (P : Program) (w : World) (K : PySem.W.Frag) (mg : Str → Option Value) (base : Heap) (k : Nat) (x : Str) (ps : List Str) (sp : Sp) : Prop where
  ex : ∃ f fd, FnOk P w K mg base CX0 k f fd ps sp ∧ mg x = some (.ref f) ∧ PySem.W.keepIn K (.ref f) = true ∧ Binds K fd ps []
theorem FnU.mono {P : Program} {w : World} {K : PySem.W.Frag} {mg : Str → Option Value} {base : Heap} {j k : Nat} {x : Str} {ps : List Str} {sp : Sp} (U : FnU P w K mg base j x ps sp) (h : j ≤ k) : FnU P w K mg base k x ps sp := by
  obtain ⟨f, fd, F, a, b, c⟩ := U.ex
  exact ⟨f, fd, F.mono h, a, b, c⟩
theorem pe_fn {k : Nat} {x : Str} {ps : List Str} {sp : Sp} {e : Expr} {es : List Expr} {t : TA} {p pos : Pos} (U : FnU X.prog X.w X.K X.mg X.base k x ps sp) (hr : Room k X.A) (ha : PA X (e :: es) t) (hg : Gl X x := by rfl)
    (hdb : (x == ("__debug__" : Str)) = false := by decide) (he : starEach (e :: es) X.env = (false, eval e X.env) :: starEach es X.env := by rfl) (hpl : (backTo pos (starEach es X.env)).any (·.1) = false := by rfl) :
    PE X (.Call (.Name x p) (e :: es) [] pos) (tCall sp [] E0 t) := by
  obtain ⟨f, fd, F, hm, hk, hb⟩ := U.ex
  exact pe_call F hr hg hm hk hb .nil pass0 ha hdb he hpl
end


section
variable {σ : St} {H : Hp} {Q : VK} {D : Ends} {K : PySem.W.Frag}
theorem s_seq {t u : TS} (h : t { D with nx := u D } σ H) : tSeq t u D σ H := h
theorem s_if {c : TT} {t u : TS} (h : c σ H fun b H1 => if b = true then t D σ H1 else u D σ H1) : tIfS c t u D σ H := h
theorem s_asg {te : TE} {g : TG} (h : te σ H fun x H1 => g x σ H1 D.nx) : tAsg te g D σ H := h
theorem s_aug {i : Nat} {te : TE} {ti : TIp} {x : V} (e : σ[i]? = some (some x)) (h : te σ H fun y H1 => ti x y H1 fun z H2 => D.nx (σ.set i (some z)) H2) : tAug i te ti D σ H := ⟨x, e, h⟩
theorem s_ipI {f : Int → Int → Int} {i j : Int} (h : Q (.int (f i j)) H) : ipI f (.int i) (.int j) H Q := ⟨i, j, rfl, rfl, h⟩
theorem s_ret {te : TE} (h : te σ H D.rt) : tRet te D σ H := h
theorem s_drop {te : TE} (h : te σ H fun _ H1 => D.nx σ H1) : tDrop te D σ H := h
theorem s_next (h : D.nx σ H) : tNext D σ H := h
theorem s_cont (h : D.ct σ H) : tCont D σ H := h
theorem s_name {i : Nat} {v : V} {R : St → Hp → Prop} (h : R (σ.set i (some v)) H) : gName i v σ H R := h
theorem s_gnil {R : St → Hp → Prop} (h : R σ H) : gNil [] σ H R := ⟨rfl, h⟩
theorem s_gcons {t : TG} {u : TGs} {v : V} {r : List V} {R : St → Hp → Prop} (h : t v σ H fun σ' H' => u r σ' H' R) : gCons t u (v :: r) σ H R := ⟨v, r, rfl, h⟩
theorem s_gtup {n : Nat} {t : TGs} {a : Addr} {xs : List V} {R : St → Hp → Prop} (hq : SqT K H a xs) (hl : xs.length = n) (h : t xs σ H R) : gTup K n t (.ref a) σ H R := ⟨a, xs, rfl, hq, hl, h⟩
theorem s_gsub {to ti : TE} {t : TSet} {v : V} {R : St → Hp → Prop} (h : to σ H fun o H1 => ti σ H1 fun i H2 => t o i v H2 fun H3 => R σ H3) : gSub to ti t v σ H R := h
theorem s_var {i : Nat} {v : V} (e : σ[i]? = some (some v)) (q : Q v H) : tVar i σ H Q := ⟨v, e, q⟩
theorem s_c {v : V} (q : Q v H) : tC v σ H Q := q
theorem s_op {r : R2} {ta tb : TE} (h : ta σ H fun x H1 => tb σ H1 fun y H2 => r x y H2 Q) : tOp r ta tb σ H Q := h
theorem s_un {r : V → Hp → VK → Prop} {ta : TE} (h : ta σ H fun x H1 => r x H1 Q) : tUn r ta σ H Q := h
theorem s_neg {i : Int} {g : Int → V} (h : Q (g i) H) : rU g (.int i) H Q := ⟨i, rfl, h⟩
theorem s_call {sp : Sp} {dvs : List V} {E : XK} {t : TA} (h : t σ H fun vs H1 => sp (vs ++ dvs) H1 Q E) : tCall sp dvs E t σ H Q := h
theorem s_cons {ta : TE} {tr : TA} {R : List V → Hp → Prop} (h : ta σ H fun x H1 => tr σ H1 fun xs H2 => R (x :: xs) H2) : tCons ta tr σ H R := h
theorem s_nil {R : List V → Hp → Prop} (h : R [] H) : tNil σ H R := h
theorem s_cb {r : List V → Hp → VK → Prop} {t : TA} (h : t σ H fun vs H1 => r vs H1 Q) : tCB r t σ H Q := h
theorem s_lst {t : TA} (h : t σ H fun xs H1 => xs.length ≤ sizeLine ∧ ∀ p, H1 p = none → Q (.ref p) (upd H1 p (.lst xs))) : tLst t σ H Q := h
theorem s_tup {t : TA} (h : t σ H fun xs H1 => xs.length ≤ sizeLine ∧ ∀ p, H1 p = none → Q (.ref p) (upd H1 p (.tup xs))) : tTup t σ H Q := h
theorem s_ifE {t : TT} {ta tb : TE} (h : t σ H fun c H1 => if c = true then ta σ H1 Q else tb σ H1 Q) : tIf t ta tb σ H Q := h
theorem s_or {t u : TT} {R : Bool → Hp → Prop} (h : t σ H fun c H1 => if c = true then R true H1 else u σ H1 R) : tOr t u σ H R := h
theorem s_not {t : TT} {R : Bool → Hp → Prop} (h : t σ H fun c H1 => R (!c) H1) : tNot t σ H R := h
theorem s_andV {ta tb : TE} (h : ta σ H fun x H1 => ∃ c, x = .bl c ∧ if c = true then tb σ H1 Q else Q (.bl false) H1) : tAndV ta tb σ H Q := h
theorem s_notV {ta : TE} (h : ta σ H fun x H1 => ∃ c, x = .bl c ∧ Q (.bl (!c)) H1) : tNotV ta σ H Q := h
theorem s_test {t : TE} {R : Bool → Hp → Prop} (h : t σ H fun x H' => ∃ k, x = .bl k ∧ R k H') : tTest t σ H R := h
theorem s_tru {ta : TE} {R : Bool → Hp → Prop} (h : ta σ H fun x H' => ∃ k, TruV K x H' k ∧ R k H') : tTru K ta σ H R := h
theorem s_chain {r r' : R2} {ta tb tc : TE} (h : ta σ H fun x H1 => tb σ H1 fun y H2 => r x y H2 fun z H3 => ∃ k, z = .bl k ∧ (if k = true then tc σ H3 fun w' H4 => r' y w' H4 Q else Q (.bl false) H3)) : tChain r r' ta tb tc σ H Q := h
theorem s_bl {c : Bool} {R : Bool → Prop} (h : R c) : ∃ k, V.bl c = V.bl k ∧ R k := ⟨c, rfl, h⟩
theorem s_truB {c : Bool} {R : Bool → Prop} (h : R c) : ∃ k, TruV K (.bl c) H k ∧ R k := ⟨c, rfl, h⟩
theorem s_truL {a : Addr} {xs : List V} {R : Bool → Prop} (hq : SqL K H a xs) (h : R (!xs.isEmpty)) : ∃ k, TruV K (.ref a) H k ∧ R k := ⟨_, .inl ⟨xs, hq, rfl⟩, h⟩
theorem s_addI {i j : Int} (h : Q (.int (i + j)) H) : rPlus (.int i) (.int j) H Q := .inl ⟨i, j, rfl, rfl, h⟩
theorem s_addT {a b : List Nat} (hz : a.length + b.length ≤ sizeLine) (h : Q (tx (a ++ b)) H) : rPlus (tx a) (tx b) H Q := .inr (.inl ⟨a, b, rfl, rfl, hz, h⟩)
theorem s_addL {a b : Addr} {xs ys : List V} (h1 : H a = some (.lst xs)) (h2 : H b = some (.lst ys)) (hz : xs.length + ys.length ≤ sizeLine) (h : ∀ p, H p = none → Q (.ref p) (upd H p (.lst (xs ++ ys)))) : rPlus (.ref a) (.ref b) H Q := .inr (.inr ⟨a, b, xs, ys, rfl, rfl, h1, h2, hz, h⟩)
theorem s_subI {g : Int → Int → V} {i j : Int} (h : Q (g i j) H) : rI0 g (.int i) (.int j) H Q := ⟨i, j, rfl, rfl, h⟩
theorem s_rI {C : Int → Int → Prop} {g : Int → Int → V} {i j : Int} (hc : C i j) (h : Q (g i j) H) : rI C g (.int i) (.int j) H Q := ⟨i, j, rfl, rfl, hc, h⟩
theorem s_mulI {i j : Int} (hc : CMul i j) (h : Q (.int (i * j)) H) : rTimes (.int i) (.int j) H Q := .inl ⟨i, j, rfl, rfl, hc, h⟩
theorem s_rep {a : Addr} {k : Int} {xs : List V} (h1 : H a = some (.lst xs)) (h2 : -(2 ^ 63) ≤ k) (h3 : k < 2 ^ 63) (hz : xs.length * k.toNat ≤ sizeLine) (h : ∀ p, H p = none → Q (.ref p) (upd H p (.lst (List.replicate k.toNat xs).flatten))) : rTimes (.ref a) (.int k) H Q := .inr (.inl ⟨a, k, xs, rfl, rfl, h1, h2, h3, hz, h⟩)
theorem s_eqI {i j : Int} (h : Q (.bl (decide (i = j))) H) : rEqA K (.int i) (.int j) H Q := .inl ⟨rfl, by rw [show decide (V.int i = V.int j) = decide (i = j) from by rw [dec_int]; exact (Bool.beq_eq_decide_eq i j)]; exact h⟩
theorem s_eqT {a b : List Nat} (h : Q (.bl (decide (a = b))) H) : rEqA K (tx a) (tx b) H Q := .inl ⟨rfl, by rw [dec_tx]; exact h⟩
theorem s_neI {i j : Int} (h : Q (.bl (!decide (i = j))) H) : rNeA K (.int i) (.int j) H Q := .inl ⟨rfl, by rw [show decide (V.int i = V.int j) = decide (i = j) from by rw [dec_int]; exact (Bool.beq_eq_decide_eq i j)]; exact h⟩
theorem s_neT {a b : List Nat} (h : Q (.bl (!decide (a = b))) H) : rNeA K (tx a) (tx b) H Q := .inl ⟨rfl, by rw [dec_tx]; exact h⟩
theorem s_neL {a b : Addr} {xs ys : List V} (h1 : SqL K H a xs) (h2 : SqL K H b ys) (f1 : xs.all flatV = true) (f2 : ys.all flatV = true) (h : Q (.bl (!eqVs xs ys)) H) : rNeA K (.ref a) (.ref b) H Q := .inr ⟨a, b, xs, ys, rfl, rfl, h1, h2, f1, f2, h⟩
theorem s_inT {c : Nat} {l : List Nat} (h : Q (.bl (decide (c ∈ l))) H) : rInA K (tx [c]) (tx l) H Q := .inl ⟨c, l, rfl, rfl, h⟩
theorem s_notinS {x : V} {a : Addr} {xs : List V} (h1 : SqL K H a xs ∨ SqT K H a xs) (f1 : flatV x = true) (f2 : xs.all flatV = true) (h : Q (.bl (!inV x xs)) H) : rNotInA K x (.ref a) H Q := .inr ⟨a, xs, rfl, h1, f1, f2, h⟩
theorem s_is {x y : V} (hl : litV y = true) (h : Q (.bl (decide (x = y))) H) : rIsA x y H Q := ⟨hl, h⟩
theorem s_ixT {a : List Nat} {i : Int} {c : Nat} (hz : a.length ≤ sizeLine) (he : atI a i = some c) (h : Q (tx [c]) H) : rIxA K (tx a) (.int i) H Q := .inl ⟨a, i, c, rfl, rfl, hz, he, h⟩
theorem s_ixL {p : Addr} {xs : List V} {i : Int} {v : V} (hq : SqL K H p xs) (he : atI xs i = some v) (h : Q v H) : rIxA K (.ref p) (.int i) H Q := .inr (.inl ⟨p, xs, i, v, rfl, rfl, hq, he, h⟩)
theorem s_ixU {p : Addr} {xs : List V} {i : Int} {v : V} (hq : SqT K H p xs) (he : atI xs i = some v) (h : Q v H) : rIxA K (.ref p) (.int i) H Q := .inr (.inr ⟨p, xs, i, v, rfl, rfl, hq, he, h⟩)
theorem s_sl {r : V → Option Int → Option Int → Hp → VK → Prop} {te : TE} {tl th : TO} (h : te σ H fun x H1 => tl σ H1 fun l H2 => th σ H2 fun u H3 => r x l u H3 Q) : tSl r te tl th σ H Q := h
theorem s_nopart {R : Option Int → Hp → Prop} (h : R none H) : tNoPart σ H R := h
theorem s_part {t : TE} {R : Option Int → Hp → Prop} (h : t σ H fun x H1 => ∃ i, x = .int i ∧ R (some i) H1) : tPart t σ H R := h
theorem s_partI {i : Int} {R : Int → Prop} (h : R i) : ∃ j, V.int i = V.int j ∧ R j := ⟨i, rfl, h⟩
theorem s_slT {a : List Nat} {lo hi : Option Int} (hz : a.length ≤ sizeLine) (h : Q (tx (cutL a lo hi)) H) : rSlA K (tx a) lo hi H Q := .inl ⟨a, rfl, hz, h⟩
theorem s_slL {p : Addr} {xs : List V} {lo hi : Option Int} (hq : SqL K H p xs) (h : ∀ r, H r = none → Q (.ref r) (upd H r (.lst (cutV xs lo hi)))) : rSlA K (.ref p) lo hi H Q := .inr ⟨p, xs, rfl, hq, h⟩
theorem s_lenT {a : List Nat} (hz : a.length ≤ sizeLine) (h : Q (.int a.length) H) : rLen K [tx a] H Q := .inl ⟨a, rfl, hz, h⟩
theorem s_lenL {p : Addr} {ys : List V} (hq : SqL K H p ys ∨ SqT K H p ys) (h : Q (.int ys.length) H) : rLen K [.ref p] H Q := .inr ⟨p, ys, rfl, hq, h⟩
theorem s_all {a : Addr} {bs : List Bool} (hq : SqL K H a (bs.map V.bl)) (h : Q (.bl (bs.all id)) H) : rAll K [.ref a] H Q := ⟨a, bs, rfl, hq, h⟩
theorem s_isi {x : V} {T : String} {t : Value} {b : Bool} (ty : TyOf K H x t) (e : PySem.W.kitOne K t (.type T) = some b) (h : Q (.bl b) H) : rIsi K [x, .ty T] H Q := ⟨x, T, t, b, rfl, ty, e, h⟩
theorem s_max {i j : Int} (h : Q (.int (if j > i then j else i)) H) : rMax [.int i, .int j] H Q := ⟨i, j, rfl, h⟩
theorem s_min {i j : Int} (h : Q (.int (if j < i then j else i)) H) : rMin [.int i, .int j] H Q := ⟨i, j, rfl, h⟩
theorem s_bm {T : String} {r : V → List V → Hp → VK → Prop} {to : TE} {t : TA} (h : to σ H fun x H1 => tyV K T x H1 ∧ t σ H1 fun xs H2 => r x xs H2 Q) : tBM K T r to t σ H Q := h
theorem s_bm0 {T : String} {r : V → List V → Hp → VK → Prop} {to : TE} (h : to σ H fun x H1 => tyV K T x H1 ∧ r x [] H1 Q) : tBM0 K T r to σ H Q := h
end


section
variable {g : TG} {tb : TS} {D : Ends} {σ : St} {H : Hp}

def ForW (J : It) (g : TG) (tb : TS) (D : Ends) (σ : St) (H : Hp) : Prop := ∃ W : Nat → Nat → St → Hp → Prop, (∃ m, W 0 m σ H) ∧ ∀ i m σ H, W i m σ H →
  (J.stop i H ∧ D.nx σ H) ∨ (J.go i H ∧ ∃ N : St → Hp → Prop, (∀ σ' H', N σ' H' → ∃ m', m' < m ∧ W (i + 1) m' σ' H') ∧ ∀ x H', J.yld i H x H' → g x σ H' fun σ2 H2 => tb { D with nx := N, ct := N, bk := D.nx } σ2 H2)
theorem s_for {wi : TI} (h : wi σ H fun J H1 => ForW J g tb D σ H1) : tFor wi g tb D σ H := h
theorem s_irng1 {ta : TA} {R : It → Hp → Prop} (h : ta σ H fun vs H1 => ∃ j : Int, vs = [.int j] ∧ -(2 ^ 62) ≤ j ∧ j < 2 ^ 62 ∧ R (Itr 0 j.toNat) H1) : iRng1 ta σ H R := h
theorem s_ilist {K : PySem.W.Frag} {tl : TE} {R : It → Hp → Prop} (h : tl σ H fun x H1 => ∃ a, x = .ref a ∧ (∃ xs, SqL K H1 a xs) ∧ R (Itl K a) H1) : iList K tl σ H R := h
theorem s_istr {tl : TE} {R : It → Hp → Prop} (h : tl σ H fun x H1 => ∃ z, x = .str z ∧ R (Its z) H1) : iStr tl σ H R := h
theorem s_istrT {a : List Nat} {R : Str → Prop} (h : R ⟨a.toArray⟩) : ∃ z, tx a = .str z ∧ R z := ⟨_, rfl, h⟩
theorem s_ienS {ta : TA} {R : It → Hp → Prop} (h : ta σ H fun vs H1 => ∃ z, vs = [.str z] ∧ R (IteS z) H1) : iEnS ta σ H R := h
theorem s_ienST {a : List Nat} {R : Str → Prop} (h : R ⟨a.toArray⟩) : ∃ z, [tx a] = [.str z] ∧ R z := ⟨_, rfl, h⟩
theorem for_rng {lo : Int} {n : Nat} (Pv : Nat → St → Hp → Prop) (h0 : Pv 0 σ H)
    (hs : ∀ i σ H, i < n → Pv i σ H → g (.int (lo + i)) σ H fun σ2 H2 => tb { D with nx := Pv (i + 1), ct := Pv (i + 1), bk := D.nx } σ2 H2) (hd : ∀ σ H, Pv n σ H → D.nx σ H) : ForW (Itr lo n) g tb D σ H := for_range Pv h0 hs hd
theorem for_lst {K : PySem.W.Frag} {a : Addr} {xs : List V} (Pv : Nat → St → Hp → Prop) (h0 : Pv 0 σ H) (hl : ∀ i σ H, i ≤ xs.length → Pv i σ H → SqL K H a xs)
    (hs : ∀ i x σ H, xs[i]? = some x → Pv i σ H → g x σ H fun σ2 H2 => tb { D with nx := Pv (i + 1), ct := Pv (i + 1), bk := D.nx } σ2 H2) (hd : ∀ σ H, Pv xs.length σ H → D.nx σ H) : ForW (Itl K a) g tb D σ H := for_list Pv h0 hl hs hd
theorem for_of {J : It} {n : Nat} (Pv : Nat → St → Hp → Prop) (h0 : Pv 0 σ H) (hgo : ∀ i σ H, i < n → Pv i σ H → J.go i H) (hst : ∀ σ H, Pv n σ H → J.stop n H)
    (hs : ∀ i x σ H H', i < n → Pv i σ H → J.yld i H x H' → g x σ H' fun σ2 H2 => tb { D with nx := Pv (i + 1), ct := Pv (i + 1), bk := D.nx } σ2 H2) (hd : ∀ σ H, Pv n σ H → D.nx σ H) : ForW J g tb D σ H := by
  refine ⟨fun i m σ H => m = n - i ∧ i ≤ n ∧ Pv i σ H, ⟨n, by simp, Nat.zero_le _, h0⟩, ?_⟩
  rintro i m σ H ⟨rfl, hi, p⟩
  by_cases hlt : i < n
  · exact .inr ⟨hgo i σ H hlt p, Pv (i + 1), fun σ' H' p' => ⟨n - (i + 1), by omega, rfl, hlt, p'⟩, fun x H' y => hs i x σ H H' hlt p y⟩
  · have e : i = n := by omega
    subst e
    exact .inl ⟨hst σ H p, hd σ H p⟩
theorem for_enS {a : List Nat} (Pv : Nat → St → Hp → Prop) (h0 : Pv 0 σ H)
    (hs : ∀ i c σ H T, a[i]? = some c → H T = none → Pv i σ H → g (.ref T) σ (upd H T (.tup [.int i, tx [c]])) fun σ2 H2 => tb { D with nx := Pv (i + 1), ct := Pv (i + 1), bk := D.nx } σ2 H2) (hd : ∀ σ H, Pv a.length σ H → D.nx σ H) : ForW (IteS ⟨a.toArray⟩) g tb D σ H := by
  refine for_of (n := a.length) Pv h0 (fun i σ H hi _ => by simpa [IteS] using hi) (fun σ H _ => by simp [IteS]) (fun i x σ H H' hi p y => ?_) hd
  obtain ⟨T, c, hT, e, rfl, rfl⟩ := y
  exact hs i c σ H T (by simpa using e) hT p
def CW (D : Addr) (n : Nat) (Pv : Nat → List V → Hp → Prop) (i m : Nat) (H : Hp) : Prop := m = n - i ∧ i ≤ n ∧ ∃ ys, H D = some (.lst ys) ∧ ys.length ≤ i ∧ Pv i ys H
def CompW (J : It) (own : List Str) (sel : List Nat) (σ : St) (g : TG) (tt : TT) (te : TE) (Q : VK) (H1 : Hp) : Prop := ∀ D, H1 D = none →
  ∃ W : Nat → Nat → Hp → Prop, (∃ m, W 0 m (upd H1 D (.lst []))) ∧ ∀ i m H2, W i m H2 →
    (J.stop i H2 ∧ Q (.ref D) H2) ∨ (J.go i H2 ∧ ∀ x H3, J.yld i H2 x H3 → g x (inSt own sel σ) H3 fun σ4 H4 => tt σ4 H4 fun b H5 =>
      if b = true then te σ4 H5 fun v H6 => ∃ ys, H6 D = some (.lst ys) ∧ ys.length < sizeLine ∧ ∃ m', m' < m ∧ W (i + 1) m' (upd H6 D (.lst (ys ++ [v])))
      else ∃ m', m' < m ∧ W (i + 1) m' H5)
theorem s_comp {own : List Str} {sel : List Nat} {wi : TI} {tt : TT} {te : TE} {Q : VK} (h : wi σ H fun J H1 => CompW J own sel σ g tt te Q H1) : tComp own sel wi g tt te σ H Q := h
theorem comp_of {J : It} {n : Nat} {own : List Str} {sel : List Nat} {tt : TT} {te : TE} {Q : VK} {H1 : Hp} (Pv : Addr → Nat → List V → Hp → Prop) (h0 : ∀ D, H1 D = none → Pv D 0 [] (upd H1 D (.lst [])))
    (hgo : ∀ D i ys H, H1 D = none → i < n → H D = some (.lst ys) → Pv D i ys H → J.go i H) (hst : ∀ D ys H, H1 D = none → H D = some (.lst ys) → ys.length ≤ n → Pv D n ys H → J.stop n H ∧ Q (.ref D) H)
    (hs : ∀ D i ys H x H3, H1 D = none → i < n → H D = some (.lst ys) → ys.length ≤ i → Pv D i ys H → J.yld i H x H3 → g x (inSt own sel σ) H3 fun σ4 H4 => tt σ4 H4 fun b H5 =>
      if b = true then te σ4 H5 fun v H6 => ∃ ys, H6 D = some (.lst ys) ∧ ys.length < sizeLine ∧ ∃ m', m' < n - i ∧ CW D n (Pv D) (i + 1) m' (upd H6 D (.lst (ys ++ [v])))
      else ∃ m', m' < n - i ∧ CW D n (Pv D) (i + 1) m' H5) : CompW J own sel σ g tt te Q H1 := by
  intro D hD
  refine ⟨CW D n (Pv D), ⟨n, by simp, Nat.zero_le _, [], upd_same, Nat.le_refl _, h0 D hD⟩, ?_⟩
  rintro i m H2 ⟨rfl, hi, ys, hy, hl, p⟩
  by_cases hlt : i < n
  · exact .inr ⟨hgo D i ys H2 hD hlt hy p, fun x H3 y => hs D i ys H2 x H3 hD hlt hy hl p y⟩
  · have e : i = n := by omega
    subst e
    exact .inl (hst D ys H2 hD hy hl p)
theorem comp_next {D : Addr} {n i : Nat} {Pv : Nat → List V → Hp → Prop} {ys : List V} {v : V} {H : Hp} (hi : i < n) (hn : n ≤ sizeLine) (hD : H D = some (.lst ys)) (hl : ys.length ≤ i) (p : Pv (i + 1) (ys ++ [v]) (upd H D (.lst (ys ++ [v])))) :
    ∃ ys, H D = some (.lst ys) ∧ ys.length < sizeLine ∧ ∃ m', m' < n - i ∧ CW D n Pv (i + 1) m' (upd H D (.lst (ys ++ [v]))) :=
  ⟨ys, hD, by omega, n - (i + 1), by omega, rfl, hi, ys ++ [v], upd_same, by simp; omega, p⟩
theorem s_yes {R : Bool → Hp → Prop} (h : R true H) : tYes σ H R := h
end


theorem small {n : Nat} (h : n ≤ 1000) : n ≤ sizeLine := Nat.le_of_lt (small1000 h)
theorem same_new {H : Hp} {p : Addr} (h : H p = none) (o : HO) : Same H (upd H p o) := fun b u q => by rw [upd_ne (ne_of_none q h)]; exact q

def SameBut1 (p : Addr) (H H' : Hp) : Prop := ∀ b o, H b = some o → b ≠ p → H' b = some o
theorem SameBut1.refl (p : Addr) (H : Hp) : SameBut1 p H H := fun _ _ h _ => h
theorem SameBut1.trans {p : Addr} {H H1 H2 : Hp} (a : SameBut1 p H H1) (b : SameBut1 p H1 H2) : SameBut1 p H H2 := fun c o h n => b c o (a c o h n) n
theorem SameBut1.of {p : Addr} {H H' : Hp} (a : Same H H') : SameBut1 p H H' := fun c o h _ => a c o h
theorem SameBut1.upd {p : Addr} {H : Hp} {o : HO} : SameBut1 p H (upd H p o) := fun c u h n => by rw [upd_ne n]; exact h
end L2

namespace L2
open PySem PySem.Spec PyProof.Rows

def compOkB (osc : Scope) (N : List Str) (own : List Str) (sel : List Nat) (scope : Scope) : Bool :=
  (scope.kind == .function) && scope.names.all (fun y => y.2 != .cell) && scope.names.all (fun y => y.2 != .local || scope.names.lookup y.1 == some .local) &&
  scope.names.all (fun y => y.2 != .free || osc.names.lookup y.1 == some .cell || osc.names.lookup y.1 == some .free) &&
  sel.all (fun j => decide (j < N.length) && scope.names.lookup (N.getD j Str.empty) == some .free && (osc.names.lookup (N.getD j Str.empty) == some .cell || osc.names.lookup (N.getD j Str.empty) == some .free))
theorem compOk_of {osc : Scope} {N : List Str} {own : List Str} {sel : List Nat} {scope : Scope} (h : compOkB osc N own sel scope = true) : CompOk osc N own sel scope := by
  unfold compOkB at h
  simp only [Bool.and_eq_true, List.all_eq_true] at h
  obtain ⟨⟨⟨⟨h1, h2⟩, h3⟩, h4⟩, h5⟩ := h
  refine ⟨by simpa using h1, fun y hy => by simpa using h2 y hy, fun y hy e => ?_, fun y hy e => ?_, fun j hj => ?_⟩
  · have := h3 y hy
    simp only [Bool.or_eq_true, bne_iff_ne, beq_iff_eq] at this
    rcases this with q | q
    · exact absurd e q
    · exact q
  · have := h4 y hy
    simp only [Bool.or_eq_true, bne_iff_ne, beq_iff_eq] at this
    rcases this with (q | q) | q
    · exact absurd e q
    · exact .inl q
    · exact .inr q
  · have := h5 j hj
    simp only [Bool.or_eq_true, beq_iff_eq, decide_eq_true_eq] at this
    exact ⟨this.1.1, this.1.2, this.2⟩


structure DefAt (K : PySem.W.Frag) (mg : Str → Option Value) (x : Str) (st : Stmt) (ps : List Str) (f : Addr) (fd : FuncData) : Prop where
  F : Fun K x x st f fd
  m : mg x = some (.ref f)
  b : Binds K fd ps []
theorem DefAt.fnU {P : Program} {w : World} {K : PySem.W.Frag} {mg : Str → Option Value} {base : Heap} {x : Str} {st : Stmt} {ps : List Str} {f : Addr} {fd : FuncData} {k : Nat} {sp : Sp} (d : DefAt K mg x st ps f fd) (ok : FnOk P w K mg base CX0 k f fd ps sp) : FnU P w K mg base k x ps sp :=
  ⟨f, fd, ok, d.m, d.F.kp, d.b⟩


def PoolAt (H : Hp) (p : Addr) (n : Nat) : Prop := ∃ a b c : Int, H p = some (.lst [.int a, .int b, .int c]) ∧ 0 ≤ c ∧ c ≤ n
theorem PoolAt.mono {H : Hp} {p : Addr} {n m : Nat} (h : PoolAt H p n) (hm : n ≤ m) : PoolAt H p m := by
  obtain ⟨a, b, c, e, h1, h2⟩ := h
  exact ⟨a, b, c, e, h1, by omega⟩
theorem PoolAt.same {H H' : Hp} {p : Addr} {n : Nat} (h : PoolAt H p n) (s : Same H H') : PoolAt H' p n := by
  obtain ⟨a, b, c, e, h1, h2⟩ := h
  exact ⟨a, b, c, s _ _ e, h1, h2⟩
theorem PoolAt.ne {H : Hp} {p q : Addr} {n : Nat} (h : PoolAt H p n) (hq : H q = none) : q ≠ p := by
  obtain ⟨a, b, c, e, _⟩ := h
  exact (ne_of_none e hq).symm
def spTake : Sp := fun vs H Q _ => ∃ p n m, vs = [.ref p, .int m] ∧ PoolAt H p n ∧ n ≤ 1000000 ∧ 0 < m ∧ m ≤ 1000000 ∧ ∀ r H', 0 ≤ r → r < m → PoolAt H' p (n + 1) → SameBut1 p H H' → Q (.int r) H'
def spPool (K : PySem.W.Frag) : Sp := fun vs H Q _ => ∃ (a : Addr) (ns : List Int) (k : Int), vs = [.ref a, .int k] ∧ SqL K H a (ns.map V.int) ∧ ns.length ≤ 63 ∧ 0 ≤ k ∧ k ≤ 63 ∧ ∀ p H', H p = none → Same H H' → PoolAt H' p 4599 → Q (.ref p) H'
theorem atI_0 {α : Type} (x : α) (r : List α) : atI (x :: r) 0 = some x := by simp [atI, ixN]
theorem s_setL {p : Addr} {xs : List V} {k : Int} {j : Nat} {v : V} {H : Hp} {R : Hp → Prop} (h : H p = some (.lst xs)) (e : ixN xs.length k = some j) (q : R (upd H p (.lst (xs.set j v)))) : rSetL (.ref p) (.int k) v H R := ⟨p, xs, k, j, rfl, rfl, h, e, q⟩

def WN (Pv : St → Hp → Prop) (μ : St → Hp → Nat) (m : Nat) : St → Hp → Prop := fun σ' H' => Pv σ' H' ∧ μ σ' H' < m
theorem while_of {c : TT} {tb : TS} {D : Ends} {σ : St} {H : Hp} (Pv : St → Hp → Prop) (μ : St → Hp → Nat) (h0 : Pv σ H)
    (hs : ∀ σ H, Pv σ H → c σ H fun b H1 => if b = true then ∃ N : St → Hp → Prop, (∀ σ' H', N σ' H' → ∃ m', m' < μ σ H ∧ (m' = μ σ' H' ∧ Pv σ' H')) ∧ tb { D with nx := N, ct := N, bk := D.nx } σ H1 else D.nx σ H1) : tWhile c tb D σ H :=
  ⟨fun m σ H => m = μ σ H ∧ Pv σ H, ⟨_, rfl, h0⟩, fun m σ H ⟨e, p⟩ => by subst e; exact hs σ H p⟩
theorem wh_body {tb : TS} {D : Ends} {σ : St} {H1 : Hp} {Pv : St → Hp → Prop} {μ : St → Hp → Nat} {m : Nat} (h : tb { D with nx := WN Pv μ m, ct := WN Pv μ m, bk := D.nx } σ H1) :
    ∃ N : St → Hp → Prop, (∀ σ' H', N σ' H' → ∃ m', m' < m ∧ (m' = μ σ' H' ∧ Pv σ' H')) ∧ tb { D with nx := N, ct := N, bk := D.nx } σ H1 :=
  ⟨WN Pv μ m, fun σ' H' ⟨p, l⟩ => ⟨_, l, rfl, p⟩, h⟩
theorem or_tests {t u : TT} {σ : St} {H : Hp} {R : Bool → Hp → Prop} {c d : Bool} (ht : ∀ R : Bool → Hp → Prop, R c H → t σ H R) (hu : ∀ R : Bool → Hp → Prop, R d H → u σ H R) (h : R (c || d) H) : tOr t u σ H R := by
  refine ht _ ?_
  cases c with
  | true => rw [if_pos rfl]; exact h
  | false => rw [if_neg Bool.false_ne_true]; exact hu _ h
theorem and_tests {t u : TT} {σ : St} {H : Hp} {R : Bool → Hp → Prop} {c d : Bool} (ht : ∀ R : Bool → Hp → Prop, R c H → t σ H R) (hu : ∀ R : Bool → Hp → Prop, R d H → u σ H R) (h : R (c && d) H) : tAnd t u σ H R := by
  refine ht _ ?_
  cases c with
  | true => rw [if_pos rfl]; exact hu _ h
  | false => rw [if_neg Bool.false_ne_true]; exact h

theorem rel_of_abs {u : Value} {x : V} (h : absV u = some x) : RelV x u := by
  cases u <;> first
    | (cases h; rfl)
    | (cases h; exact ⟨_, rfl⟩)
    | (exact absurd h (by intro z; cases z))
def tupIs (its : Array Value) (xs : List V) : Bool := decide (its.toList.map absV = xs.map some)
theorem vals_of_abs : ∀ {xs : List V} {us : List Value}, us.map absV = xs.map some → Vals xs us
  | [], [], _ => .nil
  | x :: xs, u :: us, h => by
    rw [List.map_cons, List.map_cons] at h
    injection h with h1 h2
    exact .cons (rel_of_abs h1) (vals_of_abs h2)
  | [], _ :: _, h => by cases h
  | _ :: _, [], h => by cases h
theorem tupIs_vals {its : Array Value} {xs : List V} (h : tupIs its xs = true) : Vals xs its.toList := vals_of_abs (of_decide_eq_true h)
theorem tupIs_size {its : Array Value} {xs : List V} (h : tupIs its xs = true) (hx : xs.length ≤ 1000) : its.size ≤ sizeLine := by
  have e := (tupIs_vals h).length
  have e2 : its.toList.length = its.size := by simp
  exact Nat.le_of_lt (small1000 (by omega))
theorem ifd {c A B : Prop} [Decidable c] (h1 : c → A) (h2 : ¬ c → B) : if decide c = true then A else B := by
  by_cases h : c
  · rw [if_pos (decide_eq_true h)]; exact h1 h
  · rw [if_neg (by rw [decide_eq_false h]; exact Bool.false_ne_true)]; exact h2 h
theorem ifn {c A B : Prop} [Decidable c] (h1 : ¬ c → A) (h2 : c → B) : if (!decide c) = true then A else B := by
  by_cases h : c
  · rw [if_neg (by rw [decide_eq_true h]; exact Bool.false_ne_true)]; exact h2 h
  · rw [if_pos (by rw [decide_eq_false h]; rfl)]; exact h1 h
theorem ifp {c : Bool} {A B : Prop} (hc : c = true) (h : A) : if c = true then A else B := by rw [if_pos hc]; exact h
theorem ifq {c : Bool} {A B : Prop} (hc : c = false) (h : B) : if c = true then A else B := by rw [if_neg (by rw [hc]; exact Bool.false_ne_true)]; exact h
theorem atI_ints {ns : List Int} {k : Int} (h0 : 0 ≤ k) (h : k < (ns.length : Int)) : ∃ v : Int, atI (ns.map V.int) k = some (.int v) := by
  have hk : k.toNat < ns.length := by omega
  have ek : k = ((k.toNat : Nat) : Int) := by omega
  have q : atI (ns.map V.int) ((k.toNat : Nat) : Int) = some (.int ns[k.toNat]) := atI_nat (by rw [List.getElem?_map, List.getElem?_eq_getElem hk]; rfl)
  rw [← ek] at q
  exact ⟨_, q⟩
theorem pool_new {H : Hp} {p : Addr} {a b c : Int} {n : Nat} (h0 : 0 ≤ c) (h : c ≤ n) : PoolAt (upd H p (.lst [.int a, .int b, .int c])) p n := ⟨a, b, c, upd_same, h0, h⟩
end L2

namespace BrM
open L2

def opn : List Nat := [40, 91, 123, 60]
def cls : List Nat := [41, 93, 125, 62]
def clo (c : Nat) : Nat := if c = 40 then 41 else if c = 91 then 93 else if c = 123 then 125 else 62
def stp (st : List Nat) (c : Nat) : Option (List Nat) :=
  if c ∈ opn then some (clo c :: st) else match st with
    | d :: r => if c = d then some r else none
    | [] => none
def run : List Nat → List Nat → Option (List Nat)
  | st, [] => some st
  | st, c :: r => (stp st c).bind fun s => run s r
theorem run_append (st a b : List Nat) : run st (a ++ b) = (run st a).bind fun s => run s b := by
  induction a generalizing st with
  | nil => rfl
  | cons c r ih =>
    show (stp st c).bind _ = ((stp st c).bind _).bind _
    cases stp st c with
    | none => rfl
    | some s => exact ih s
theorem run_snoc {st a s : List Nat} (h : run st a = some s) (c : Nat) : run st (a ++ [c]) = stp s c := by
  rw [run_append, h]
  show (stp s c).bind (fun s => some s) = stp s c
  cases stp s c <;> rfl
theorem stp_open {c : Nat} (h : c ∈ opn) (st : List Nat) : stp st c = some (clo c :: st) := by unfold stp; rw [if_pos h]
theorem stp_close {d : Nat} (h : d ∉ opn) (r : List Nat) : stp (d :: r) d = some r := by unfold stp; rw [if_neg h]; simp

def Rt (row : List Nat) : Prop := run [] row = some []

def kin (k : Int) (c : Nat) : Prop := c ∈ opn.take k.toNat ∨ c ∈ cls.take k.toNat
theorem opn_at {i : Int} {k : Int} (h0 : 0 ≤ i) (h1 : i < k) (hk : k ≤ 4) : ∃ c, atI [40, 91, 123, 60] i = some c ∧ c ∈ opn ∧ c ∈ opn.take k.toNat ∧ atI [41, 93, 125, 62] i = some (clo c) ∧ clo c ∈ cls.take k.toNat ∧ clo c ∉ opn := by
  have : i = 0 ∨ i = 1 ∨ i = 2 ∨ i = 3 := by omega
  have hk' : k = 1 ∨ k = 2 ∨ k = 3 ∨ k = 4 := by omega
  rcases hk' with rfl | rfl | rfl | rfl <;> rcases this with rfl | rfl | rfl | rfl <;> first
    | omega
    | exact ⟨40, by decide⟩
    | exact ⟨91, by decide⟩
    | exact ⟨123, by decide⟩
    | exact ⟨60, by decide⟩
theorem take_use {H : Hp} {p : PySem.Addr} {n : Nat} {m : Int} {Q : VK} {E : XK} (hp : PoolAt H p n) (hn : n ≤ 1000000) (h0 : 0 < m) (h1 : m ≤ 1000000) (q : ∀ r H', 0 ≤ r → r < m → PoolAt H' p (n + 1) → SameBut1 p H H' → Q (.int r) H') :
    spTake ([.ref p, .int m] ++ []) H Q E := ⟨p, n, m, rfl, hp, hn, h0, h1, q⟩
theorem at3 {α : Type} (x y z : α) {i : Int} (h0 : 0 ≤ i) (h1 : i < 3) : ∃ v, atI [x, y, z] i = some v ∧ (v = x ∨ v = y ∨ v = z) := by
  have : i = 0 ∨ i = 1 ∨ i = 2 := by omega
  rcases this with rfl | rfl | rfl
  · exact ⟨x, rfl, .inl rfl⟩
  · exact ⟨y, rfl, .inr (.inl rfl)⟩
  · exact ⟨z, rfl, .inr (.inr rfl)⟩
theorem at4b (x y z u : Bool) {i : Int} (h0 : 0 ≤ i) (h1 : i < 4) : ∃ b, atI [V.bl x, V.bl y, V.bl z, V.bl u] i = some (.bl b) := by
  have : i = 0 ∨ i = 1 ∨ i = 2 ∨ i = 3 := by omega
  rcases this with rfl | rfl | rfl | rfl
  · exact ⟨x, rfl⟩
  · exact ⟨y, rfl⟩
  · exact ⟨z, rfl⟩
  · exact ⟨u, rfl⟩
theorem cut_tail {α : Type} (c : α) (r : List α) : cutL (c :: r) (some 1) none = r := by
  unfold cutL
  have e1 : HT.sIx (c :: r).length 0 (some 1) = 1 := by
    show HT.sIx (r.length + 1) 0 (some ((1 : Nat) : Int)) = 1
    rw [HT.sIx_nat]; omega
  have e2 : HT.sIx (c :: r).length (c :: r).length none = r.length + 1 := rfl
  rw [e1, e2]
  simp

def spRightRow : Sp := fun vs H Q _ => ∃ p n k most, vs = [.ref p, .int k, .int most] ∧ PoolAt H p n ∧ n ≤ 900000 ∧ 1 ≤ k ∧ k ≤ 4 ∧ 0 ≤ most ∧ most ≤ 40 ∧
  ∀ row H', Rt row → (row.length : Int) ≤ most → (∀ c ∈ row, kin k c) → PoolAt H' p (n + 200) → SameBut1 p H H' → Q (tx row) H'
theorem right_use {H : Hp} {p : PySem.Addr} {n : Nat} {k most : Int} {Q : VK} {E : XK} (hp : PoolAt H p n) (hn : n ≤ 900000) (h1 : 1 ≤ k) (h2 : k ≤ 4) (h3 : 0 ≤ most) (h4 : most ≤ 40)
    (q : ∀ row H', Rt row → (row.length : Int) ≤ most → (∀ c ∈ row, kin k c) → PoolAt H' p (n + 200) → SameBut1 p H H' → Q (tx row) H') : spRightRow ([.ref p, .int k, .int most] ++ []) H Q E := ⟨p, n, k, most, rfl, hp, hn, h1, h2, h3, h4, q⟩
end BrM

namespace BrM
open L2

def sg (c : Nat) : Int := if c ∈ opn then 1 else -1
def hg : List Nat → Int
  | [] => 0
  | c :: r => sg c + hg r
theorem hg_append (a b : List Nat) : hg (a ++ b) = hg a + hg b := by
  induction a with
  | nil => simp [hg]
  | cons c r ih => rw [List.cons_append, hg, hg, ih]; omega
def ht (a : List Nat) (i : Nat) : Int := hg (a.take i)
theorem ht_succ {a : List Nat} {i c : Nat} (h : a[i]? = some c) : ht a (i + 1) = ht a i + sg c := by
  unfold ht
  rw [List.take_add_one, h, hg_append]
  show _ = hg _ + sg c
  simp [hg]
theorem stp_len {st s : List Nat} {c : Nat} (h : stp st c = some s) : (s.length : Int) = st.length + sg c := by
  unfold stp at h
  unfold sg
  by_cases hc : c ∈ opn
  · rw [if_pos hc] at h ⊢
    cases h
    simp
  · rw [if_neg hc] at h ⊢
    cases st with
    | nil => cases h
    | cons d r =>
      simp only at h
      split at h
      · cases h; simp; omega
      · cases h
theorem run_len {st a s : List Nat} (h : run st a = some s) : (s.length : Int) = st.length + hg a := by
  induction a generalizing st with
  | nil => cases h; simp [hg]
  | cons c r ih =>
    have h' : (stp st c).bind (fun s => run s r) = some s := h
    cases e : stp st c with
    | none => rw [e] at h'; cases h'
    | some s1 =>
      rw [e] at h'
      have := ih h'
      have := stp_len e
      rw [hg]; omega
theorem run_take {a s : List Nat} (h : run [] a = some s) (i : Nat) : ∃ st, run [] (a.take i) = some st := by
  have e : a = a.take i ++ a.drop i := (List.take_append_drop i a).symm
  rw [e, run_append] at h
  cases q : run [] (a.take i) with
  | none => rw [q] at h; cases h
  | some st => exact ⟨st, rfl⟩
theorem ht_of {a st : List Nat} {i : Nat} (h : run [] (a.take i) = some st) : ht a i = st.length := by
  have := run_len h
  unfold ht; simp at this; omega
def Pr (a : List Nat) (x y : Nat) : Prop := x < y ∧ y < a.length ∧ ht a (y + 1) = ht a x ∧ ∀ m, x < m → m ≤ y → ht a x < ht a m
def IsPart (a : List Nat) (xs : List V) : Prop := xs.length = a.length ∧ ∀ k, k < a.length → ∃ p : Nat, xs[k]? = some (.int p) ∧ (Pr a k p ∨ Pr a p k)
theorem pr_fun {a : List Nat} {k p q : Nat} (h : Pr a k p) (h' : Pr a k q) : p = q := by
  obtain ⟨h1, h2, h3, h4⟩ := h
  obtain ⟨g1, g2, g3, g4⟩ := h'
  rcases Nat.lt_trichotomy p q with z | z | z
  · have := g4 (p + 1) (by omega) (by omega); omega
  · exact z
  · have := h4 (q + 1) (by omega) (by omega); omega
theorem pr_not {a : List Nat} {k p q : Nat} (h : Pr a k p) (h' : Pr a q k) : False := by
  obtain ⟨h1, h2, h3, h4⟩ := h
  obtain ⟨g1, g2, g3, g4⟩ := h'
  have := h4 (k + 1) (by omega) (by omega)
  have := g4 k g1 (by omega)
  omega
theorem pr_open {a : List Nat} {k p c : Nat} (h : Pr a k p) (hc : a[k]? = some c) : c ∈ opn := by
  obtain ⟨h1, h2, h3, h4⟩ := h
  have h5 := h4 (k + 1) (by omega) (by omega)
  rw [ht_succ hc] at h5
  unfold sg at h5
  split at h5
  · assumption
  · omega
theorem pr_close {a : List Nat} {k p c : Nat} (h : Pr a p k) (hc : a[k]? = some c) : c ∉ opn := by
  obtain ⟨h1, h2, h3, h4⟩ := h
  have h5 := h4 k h1 (by omega)
  rw [ht_succ hc] at h3
  unfold sg at h3
  intro z
  rw [if_pos z] at h3
  omega
inductive WS (a : List Nat) (i : Nat) : List Nat → List Nat → Prop where
  | nil : WS a i [] []
  | cons {w c : Nat} {ws st : List Nat} : w < i → a[w]? = some c → c ∈ opn → ht a w = ws.length → (∀ m, w < m → m ≤ i → ht a w < ht a m) → WS a i ws st → WS a i (w :: ws) (clo c :: st)
theorem WS.len {a ws st : List Nat} {i : Nat} (h : WS a i ws st) : ws.length = st.length := by
  induction h with
  | nil => rfl
  | cons _ _ _ _ _ _ ih => simp [ih]
theorem WS.lt {a ws st : List Nat} {i : Nat} (h : WS a i ws st) : ∀ w ∈ ws, w < i := by
  induction h with
  | nil => intro w z; cases z
  | cons h1 _ _ _ _ _ ih =>
    intro w z
    rcases List.mem_cons.mp z with rfl | z
    · exact h1
    · exact ih w z
theorem WS.ext {a ws st : List Nat} {i : Nat} (h : WS a i ws st) (hh : (ws.length : Int) ≤ ht a (i + 1)) : WS a (i + 1) ws st := by
  induction h with
  | nil => exact .nil
  | cons h1 h2 h3 h4 h5 _ ih =>
    simp only [List.length_cons] at hh
    refine .cons (by omega) h2 h3 h4 (fun m hm1 hm2 => ?_) (ih (by omega))
    by_cases e : m = i + 1
    · subst e; omega
    · exact h5 m hm1 (by omega)
structure MI (a : List Nat) (i : Nat) (st ws : List Nat) (xs : List V) : Prop where
  rn : run [] (a.take i) = some st
  wk : WS a i ws st
  len : xs.length = a.length
  don : ∀ k, k < i → k ∈ ws ∨ ∃ p : Nat, xs[k]? = some (.int p) ∧ (Pr a k p ∨ Pr a p k)
theorem MI.start (a : List Nat) {xs : List V} (h : xs.length = a.length) : MI a 0 [] [] xs := ⟨rfl, .nil, h, fun k z => by omega⟩
theorem run_next {a st : List Nat} {i c : Nat} (h : run [] (a.take i) = some st) (hc : a[i]? = some c) : run [] (a.take (i + 1)) = stp st c := by
  rw [List.take_add_one, hc]
  exact run_snoc h c
theorem MI.opens {a st ws : List Nat} {xs : List V} {i c : Nat} (m : MI a i st ws xs) (hc : a[i]? = some c) (ho : c ∈ opn) : MI a (i + 1) (clo c :: st) (i :: ws) xs := by
  have e1 : ht a (i + 1) = ht a i + 1 := by rw [ht_succ hc]; unfold sg; rw [if_pos ho]
  have e2 := ht_of m.rn
  have e3 := m.wk.len
  refine ⟨by rw [run_next m.rn hc, stp_open ho], .cons (by omega) hc ho (by omega) (fun k h1 h2 => ?_) (m.wk.ext (by omega)), m.len, fun k hk => ?_⟩
  · have : k = i + 1 := by omega
    subst this; omega
  · by_cases e : k = i
    · subst e; exact .inl List.mem_cons_self
    · rcases m.don k (by omega) with z | z
      · exact .inl (List.mem_cons_of_mem _ z)
      · exact .inr z
theorem MI.top {a st : List Nat} {w : Nat} {ws : List Nat} {xs : List V} {i : Nat} (m : MI a i st (w :: ws) xs) : ∃ c r, a[w]? = some c ∧ c ∈ opn ∧ st = clo c :: r ∧ w < i := by
  have h := m.wk
  cases h with
  | cons h1 h2 h3 h4 h5 h6 => exact ⟨_, _, h2, h3, rfl, h1⟩
theorem MI.closes {a r : List Nat} {w : Nat} {ws : List Nat} {xs : List V} {i c : Nat} (m : MI a i (c :: r) (w :: ws) xs) (hc : a[i]? = some c) (ho : c ∉ opn) : MI a (i + 1) r ws ((xs.set w (.int i)).set i (.int w)) := by
  have e1 : ht a (i + 1) = ht a i - 1 := by rw [ht_succ hc]; unfold sg; rw [if_neg ho]; omega
  have e2 := ht_of m.rn
  have e3 := m.wk.len
  have hn : i < a.length := (List.getElem?_eq_some_iff.mp hc).1
  have h := m.wk
  cases h with
  | cons h1 h2 h3 h4 h5 h6 =>
    simp only [List.length_cons] at e2 e3
    have hp : Pr a w i := ⟨h1, hn, by omega, h5⟩
    have hlen := m.len
    refine ⟨?_, h6.ext (by omega), by simp [m.len], fun k hk => ?_⟩
    · rw [run_next m.rn hc]
      exact stp_close ho r
    · by_cases ek : k = i
      · subst ek
        exact .inr ⟨w, by simp [hlen, hn], .inr hp⟩
      · by_cases ew : k = w
        · subst ew
          refine .inr ⟨i, ?_, .inl hp⟩
          rw [List.getElem?_set_ne (by omega), List.getElem?_set_self (by omega)]
        · rcases m.don k (by omega) with z | ⟨p, z, q⟩
          · rcases List.mem_cons.mp z with z | z
            · exact absurd z ew
            · exact .inl z
          · exact .inr ⟨p, by rw [List.getElem?_set_ne (by omega), List.getElem?_set_ne (by omega)]; exact z, q⟩
theorem MI.fin {a : List Nat} {ws : List Nat} {xs : List V} (m : MI a a.length [] ws xs) : IsPart a xs := by
  have h := m.wk
  cases h
  refine ⟨m.len, fun k hk => ?_⟩
  rcases m.don k hk with z | z
  · cases z
  · exact z
theorem part_ex {a : List Nat} (h : Rt a) : ∃ xs, IsPart a xs := by
  have go : ∀ i, i ≤ a.length → ∃ st ws xs, MI a i st ws xs := by
    intro i
    induction i with
    | zero => intro _; exact ⟨[], [], List.replicate a.length .non, MI.start a (by simp)⟩
    | succ i ih =>
      intro hi
      obtain ⟨st, ws, xs, m⟩ := ih (by omega)
      have hc : a[i]? = some a[i] := by simp
      by_cases ho : a[i] ∈ opn
      · exact ⟨_, _, _, m.opens hc ho⟩
      · obtain ⟨s', e⟩ := run_take h (i + 1)
        rw [run_next m.rn hc] at e
        unfold stp at e
        rw [if_neg ho] at e
        cases st with
        | nil => cases e
        | cons d r =>
          simp only at e
          split at e
          · rename_i hd
            cases ws with
            | nil => have := m.wk.len; simp at this
            | cons w ws => exact ⟨_, _, _, MI.closes (c := a[i]) (by rw [hd]; exact m) hc ho⟩
          · cases e
  obtain ⟨st, ws, xs, m⟩ := go a.length (Nat.le_refl _)
  have e : st = [] := by
    have := m.rn
    rw [List.take_length] at this
    have h' : run [] a = some [] := h
    rw [h'] at this
    exact (Option.some.inj this).symm
  subst e
  exact ⟨xs, m.fin⟩
theorem eqVs_refl : ∀ {xs : List V}, xs.all flatV = true → eqVs xs xs = true
  | [], _ => rfl
  | x :: xs, h => by
    rw [List.all_cons, Bool.and_eq_true] at h
    show (eqV x x && eqVs xs xs) = true
    rw [eqVs_refl h.2, Bool.and_true]
    cases x <;> first | rfl | (exact absurd h.1 Bool.false_ne_true) | exact beq_self_eq_true _
end BrM

namespace BrM
open L2 PySem

def plainTy : List String := ["NoneType", "bool", "int", "str", "list", "tuple", "dict"]
def spWhole (K : PySem.W.Frag) : Sp := fun vs H Q _ => ∃ x T, vs = [x] ∧ TyOf K H x (.type T) ∧ T ∈ plainTy ∧ Q (.bl (decide (T = "int"))) H
theorem whole_int {K : PySem.W.Frag} {H : Hp} {i : Int} {Q : VK} {E : XK} (q : Q (.bl true) H) : spWhole K ([.int i] ++ []) H Q E := ⟨.int i, "int", rfl, .int i, by decide, q⟩
def spKinds : Sp := fun vs H Q _ => ∃ k, vs = [.int k] ∧ 1 ≤ k ∧ k ≤ 4 ∧ Q .non H
theorem kinds_use {H : Hp} {k : Int} {Q : VK} {E : XK} (h1 : 1 ≤ k) (h2 : k ≤ 4) (q : Q .non H) : spKinds ([.int k] ++ []) H Q E := ⟨k, rfl, h1, h2, q⟩
def sgn (k : Int) : List Nat := opn.take k.toNat ++ cls.take k.toNat ++ [63]
def isRow (k : Int) (a : List Nat) : Bool := decide (a.length ≤ 40) && a.all fun c => decide (c ∈ sgn k)
def spLine (K : PySem.W.Frag) : Sp := fun vs H Q _ => ∃ k x, vs = [.int k, x] ∧ 1 ≤ k ∧ k ≤ 4 ∧
  ((∃ a, x = tx a ∧ a.length ≤ 1000 ∧ ∀ H', Same H H' → Q (.bl (isRow k a)) H') ∨ (∃ T, TyOf K H x (.type T) ∧ T ∈ plainTy ∧ T ≠ "str" ∧ Q (.bl false) H))
theorem line_use {K : PySem.W.Frag} {H : Hp} {k : Int} {a : List Nat} {Q : VK} {E : XK} (h1 : 1 ≤ k) (h2 : k ≤ 4) (ha : a.length ≤ 1000) (q : ∀ H', Same H H' → Q (.bl (isRow k a)) H') : spLine K ([.int k, tx a] ++ []) H Q E := ⟨k, _, rfl, h1, h2, .inl ⟨a, rfl, ha, q⟩⟩
def spCheckLine : Sp := fun vs H Q _ => ∃ k a, vs = [.int k, tx a] ∧ 1 ≤ k ∧ k ≤ 4 ∧ isRow k a = true ∧ ∀ H', Same H H' → Q .non H'
theorem checkLine_use {H : Hp} {k : Int} {a : List Nat} {Q : VK} {E : XK} (h1 : 1 ≤ k) (h2 : k ≤ 4) (ha : isRow k a = true) (q : ∀ H', Same H H' → Q .non H') : spCheckLine ([.int k, tx a] ++ []) H Q E := ⟨k, a, rfl, h1, h2, ha, q⟩
instance (a : List Nat) : Decidable (Rt a) := by unfold Rt; infer_instance
def spMatched : Sp := fun vs H Q _ => ∃ a, vs = [tx a] ∧ a.length ≤ 40 ∧ (Rt a → ∀ r xs H', H r = none → Same H H' → H' r = some (.lst xs) → IsPart a xs → Q (.ref r) H') ∧ (¬ Rt a → ∀ H', Same H H' → Q .non H')
theorem matched_use {H : Hp} {a : List Nat} {Q : VK} {E : XK} (ha : a.length ≤ 40) (q : Rt a → ∀ r xs H', H r = none → Same H H' → H' r = some (.lst xs) → IsPart a xs → Q (.ref r) H') (q' : ¬ Rt a → ∀ H', Same H H' → Q .non H') : spMatched ([tx a] ++ []) H Q E := ⟨a, rfl, ha, q, q'⟩
def spPartners : Sp := fun vs H Q _ => ∃ k a, vs = [.int k, tx a] ∧ 1 ≤ k ∧ k ≤ 4 ∧ isRow k a = true ∧ Rt a ∧ ∀ r xs H', H r = none → Same H H' → H' r = some (.lst xs) → IsPart a xs → Q (.ref r) H'
theorem partners_use {H : Hp} {k : Int} {a : List Nat} {Q : VK} {E : XK} (h1 : 1 ≤ k) (h2 : k ≤ 4) (ha : isRow k a = true) (hr : Rt a) (q : ∀ r xs H', H r = none → Same H H' → H' r = some (.lst xs) → IsPart a xs → Q (.ref r) H') : spPartners ([.int k, tx a] ++ []) H Q E := ⟨k, a, rfl, h1, h2, ha, hr, q⟩
def spLaw (K : PySem.W.Frag) : Sp := fun vs H Q _ => ∃ (a : Addr) (ns : List Int), vs = [.ref a] ∧ SqL K H a (ns.map V.int) ∧ ns.length ≤ 63 ∧ ∀ H', Q (.bl true) H'
theorem isRow_len {k : Int} {a : List Nat} (h : isRow k a = true) : a.length ≤ 40 := by
  unfold isRow at h
  simp only [Bool.and_eq_true, decide_eq_true_eq] at h
  exact h.1
theorem cut_to {α : Type} (xs : List α) {k : Int} (h : 0 ≤ k) : cutL xs none (some k) = xs.take k.toNat := by
  unfold cutL
  obtain ⟨n, rfl⟩ : ∃ n : Nat, k = n := ⟨k.toNat, by omega⟩
  rw [HT.sIx_nat, HT.sIx_none, List.drop_zero, Nat.sub_zero, Int.toNat_natCast]
  rcases Nat.le_total n xs.length with z | z
  · rw [Nat.min_eq_left z]
  · rw [Nat.min_eq_right z, List.take_length, List.take_of_length_le z]
theorem kinds_in {c d : Nat} (ho : c ∈ opn) : inV (tx [c, d]) [tx [40, 41], tx [91, 93], tx [123, 125], tx [60, 62]] = decide (d = clo c) := by
  have e : inV (tx [c, d]) [tx [40, 41], tx [91, 93], tx [123, 125], tx [60, 62]] = (decide ([40, 41] = [c, d]) || (decide ([91, 93] = [c, d]) || (decide ([123, 125] = [c, d]) || (decide ([60, 62] = [c, d]) || false)))) := by
    unfold inV
    simp only [List.any_cons, List.any_nil, eqV_tx]
  rw [e]
  have ho' : c = 40 ∨ c = 91 ∨ c = 123 ∨ c = 60 := by simpa [opn] using ho
  rcases ho' with rfl | rfl | rfl | rfl <;> simp [clo, eq_comm]

theorem flat1 {α : Type} (x : α) (n : Nat) : (List.replicate n [x]).flatten = List.replicate n x := by
  induction n with
  | zero => rfl
  | succ n ih => rw [List.replicate_succ, List.flatten_cons, ih]; rfl

theorem Same.but {H H1 H2 : Hp} {p : Addr} (a : Same H H1) (b : SameBut1 p H1 H2) (h : H p = none) : Same H H2 := fun c o z => b c o (a c o z) (ne_of_none z h)
theorem SameBut1.at {H H1 : Hp} {p b : Addr} {o : HO} (s : SameBut1 p H H1) (h : H b = some o) (n : b ≠ p) : H1 b = some o := s b o h n
end BrM

namespace BrM
open L2 PySem

def mx (a : List Nat) : Nat → Int
  | 0 => 0
  | i + 1 => if ht a (i + 1) > mx a i then ht a (i + 1) else mx a i
def deep (a : List Nat) : Int := mx a a.length

def piece (a : List Nat) (b e : Nat) : List Nat := cutL a (some (b : Int)) (some (e : Int))
def ct (a : List Nat) : Nat → List (List Nat) × Nat
  | 0 => ([], 0)
  | i + 1 => if ht a (i + 1) = 0 then ((ct a i).1 ++ [piece a (ct a i).2 (i + 1)], i + 1) else ct a i
def pts (a : List Nat) : List (List Nat) := (ct a a.length).1
end BrM

namespace BrM
open L2 PySem

theorem stp_ext {s u : List Nat} {c : Nat} (v : List Nat) (h : stp s c = some u) : stp (s ++ v) c = some (u ++ v) := by
  unfold stp at h ⊢
  by_cases hc : c ∈ opn
  · rw [if_pos hc] at h ⊢
    cases h; rfl
  · rw [if_neg hc] at h ⊢
    cases s with
    | nil => cases h
    | cons d r =>
      simp only [List.cons_append] at h ⊢
      split at h
      · rename_i hd; rw [if_pos hd]; cases h; rfl
      · cases h
theorem run_ext {s t : List Nat} (v : List Nat) : ∀ {M : List Nat}, run s M = some t → run (s ++ v) M = some (t ++ v) := by
  intro M
  induction M generalizing s with
  | nil => intro h; cases h; rfl
  | cons c r ih =>
    intro h
    have h' : (stp s c).bind (fun s => run s r) = some t := h
    show (stp (s ++ v) c).bind (fun s => run s r) = some (t ++ v)
    cases e : stp s c with
    | none => rw [e] at h'; cases h'
    | some u =>
      rw [e] at h'
      rw [stp_ext v e]
      exact ih h'
theorem run_right {M : List Nat} (h : Rt M) (st : List Nat) : run st M = some st := run_ext st h
theorem rt_cat {a b : List Nat} (h1 : Rt a) (h2 : Rt b) : Rt (a ++ b) := by
  unfold Rt; rw [run_append, h1]; exact h2
theorem rt_mid {A O B : List Nat} (h : Rt (A ++ B)) (ho : Rt O) : Rt (A ++ O ++ B) := by
  unfold Rt at h ⊢
  rw [run_append] at h
  rw [run_append, run_append]
  cases e : run [] A with
  | none => rw [e] at h; cases h
  | some st =>
    rw [e] at h
    show ((run st O).bind fun s => run s B) = some []
    rw [run_right ho]
    exact h
theorem rt_pair {o : Nat} {M : List Nat} (ho : o ∈ opn) (hcl : clo o ∉ opn) (h : Rt M) : Rt ([o] ++ M ++ [clo o]) := by
  have : Rt ([o] ++ [clo o]) := by
    unfold Rt
    show (stp [] o).bind _ = _
    rw [stp_open ho]
    show (stp [clo o] (clo o)).bind _ = _
    rw [stp_close hcl]; rfl
  exact rt_mid this h
theorem run_frame {u : List Nat} : ∀ {M p s' : List Nat}, run (p ++ u) M = some s' → (∀ i, i ≤ M.length → 0 ≤ (p.length : Int) + hg (M.take i)) → ∃ t, run p M = some t ∧ s' = t ++ u
  | [], p, s', h, _ => by cases h; exact ⟨p, rfl, rfl⟩
  | c :: r, p, s', h, hh => by
    have h' : (stp (p ++ u) c).bind (fun s => run s r) = some s' := h
    by_cases hc : c ∈ opn
    · rw [stp_open hc] at h'
      have h2 : run ((clo c :: p) ++ u) r = some s' := h'
      obtain ⟨t, e1, e2⟩ := run_frame h2 fun i hi => by
        have := hh (i + 1) (by simp; omega)
        rw [List.take_succ_cons, hg] at this
        unfold sg at this
        rw [if_pos hc] at this
        simp only [List.length_cons]; omega
      refine ⟨t, ?_, e2⟩
      show (stp p c).bind _ = _
      rw [stp_open hc]; exact e1
    · have h0 := hh 1 (by simp)
      rw [List.take_succ_cons, hg] at h0
      unfold sg at h0
      rw [if_neg hc] at h0
      simp only [List.take_zero, hg] at h0
      cases p with
      | nil => simp at h0
      | cons d p =>
        unfold stp at h'
        rw [if_neg hc] at h'
        simp only [List.cons_append] at h'
        split at h'
        · rename_i hd
          have h2 : run (p ++ u) r = some s' := h'
          obtain ⟨t, e1, e2⟩ := run_frame h2 fun i hi => by
            have := hh (i + 1) (by simp; omega)
            rw [List.take_succ_cons, hg] at this
            unfold sg at this
            rw [if_neg hc] at this
            simp only [List.length_cons] at this; omega
          refine ⟨t, ?_, e2⟩
          show (stp (d :: p) c).bind _ = _
          rw [hd, stp_close (by rw [← hd]; exact hc)]; exact e1
        · cases h'
theorem pr_split {a : List Nat} (hR : Rt a) {x y : Nat} (h : Pr a x y) : ∃ A M B o, a = A ++ ([o] ++ M ++ [clo o]) ++ B ∧ A.length = x ∧ M.length = y - x - 1 ∧ o ∈ opn ∧ Rt M ∧ Rt (A ++ B) := by
  obtain ⟨h1, h2, h3, h4⟩ := id h
  have hox : a[x]? = some (a[x]'(by omega)) := by simp
  have hoy : a[y]? = some a[y] := by simp
  have ho := pr_open h hox
  have hc := pr_close h hoy
  obtain ⟨st, e0⟩ := run_take hR x
  have e1 := run_next e0 hox
  rw [stp_open ho] at e1
  -- the stretch within
  have eM : a.take y = a.take (x + 1) ++ (a.drop (x + 1)).take (y - x - 1) := by
    rw [show y = (x + 1) + (y - x - 1) by omega, List.take_add]
    congr 2; omega
  obtain ⟨sy, e2⟩ := run_take hR y
  have e3 := e2
  rw [eM, run_append, e1] at e3
  have e4 : run ([clo (a[x]'(by omega))] ++ st) ((a.drop (x + 1)).take (y - x - 1)) = some sy := e3
  have hM : ((a.drop (x + 1)).take (y - x - 1)).length = y - x - 1 := by rw [List.length_take, List.length_drop]; omega
  have htk : ∀ i, i ≤ y - x - 1 → ht a (x + 1 + i) = ht a (x + 1) + hg (((a.drop (x + 1)).take (y - x - 1)).take i) := fun i hi => by
    unfold ht
    rw [List.take_take, Nat.min_eq_left hi, List.take_add, hg_append]
  have hx1 : ht a (x + 1) = ht a x + 1 := by rw [ht_succ hox]; unfold sg; rw [if_pos ho]
  have e5 : run ([] ++ (clo (a[x]'(by omega)) :: st)) ((a.drop (x + 1)).take (y - x - 1)) = some sy := e4
  obtain ⟨t, f1, f2⟩ := run_frame (p := []) e5 fun i hi => by
    rw [hM] at hi
    have := htk i hi
    have := h4 (x + 1 + i) (by omega) (by omega)
    simp; omega
  have hy1 : ht a (y + 1) = ht a y - 1 := by rw [ht_succ hoy]; unfold sg; rw [if_neg hc]; omega
  have e6 := htk (y - x - 1) (Nat.le_refl _)
  rw [show x + 1 + (y - x - 1) = y by omega, List.take_of_length_le (by omega)] at e6
  have ht0 : t = [] := by
    have := run_len f1
    have : (t.length : Int) = 0 := by simp at this; omega
    exact List.length_eq_zero_iff.mp (by omega)
  subst ht0
  have e7 := run_next e2 hoy
  rw [f2] at e7
  obtain ⟨s9, e9⟩ := run_take hR (y + 1)
  rw [e7] at e9
  have hcy : a[y] = clo (a[x]'(by omega)) ∧ s9 = st := by
    unfold stp at e9
    rw [if_neg hc] at e9
    simp only [List.nil_append] at e9
    split at e9
    · rename_i hd; cases e9; exact ⟨hd, rfl⟩
    · cases e9
  refine ⟨a.take x, (a.drop (x + 1)).take (y - x - 1), a.drop (y + 1), a[x]'(by omega), ?_, by rw [List.length_take]; omega, hM, ho, f1, ?_⟩
  · have q1 : a.take (y + 1) = a.take x ++ ([a[x]'(by omega)] ++ (a.drop (x + 1)).take (y - x - 1) ++ [clo (a[x]'(by omega))]) := by
      have q0 : a.take (x + 1) = a.take x ++ [a[x]'(by omega)] := by rw [List.take_add_one, hox]; rfl
      rw [List.take_add_one, hoy, eM, q0, ← hcy.1]
      simp only [Option.toList_some, List.append_assoc, List.cons_append, List.nil_append]
    rw [← q1, List.take_append_drop]
  · unfold Rt
    rw [run_append, e0]
    show run st (a.drop (y + 1)) = some []
    have hR' : run [] a = some [] := hR
    rw [← List.take_append_drop (y + 1) a, run_append, e7] at hR'
    have e10 : stp ([] ++ clo (a[x]'(by omega)) :: st) a[y] = some st := by rw [e9, hcy.2]
    rw [e10] at hR'
    exact hR'
end BrM

namespace BrR
open PySem PySem.Spec PyProof.Rows
open PySem.Builtin
end BrR

namespace BrR
open PySem PySem.Spec PyProof.Rows L2
open PySem.Builtin

section
variable {prog : Program} {w : World} {A : Around} {E : Value → Shared → Prop} {s : Shared}
end

end BrR

namespace L2
open PySem PySem.Spec PyProof.Rows BrR
section
variable {X : Cx}

theorem rev_run (n : Nat) : sliceRange ((n : Int) - 1) (-1) (-1) = (List.range n).map fun k => n - 1 - k := by
  unfold sliceRange
  have e : (if (-1 : Int) > 0 then (if ((n : Int) - 1) < (-1) then ((-1) - ((n : Int) - 1) + (-1) - 1) / (-1) else 0) else (if ((n : Int) - 1) > (-1) then (((n : Int) - 1) - (-1) - (-1) - 1) / (-(-1)) else 0)).toNat = n := by
    rw [if_neg (by decide)]
    simp only [Int.neg_neg, Int.ediv_one]
    split <;> omega
  simp only [e]
  refine List.map_congr_left fun k hk => ?_
  have := List.mem_range.mp hk
  omega
theorem rev_pickN {α : Type} (a : List α) : ∀ n, n ≤ a.length → ((List.range n).map fun k => n - 1 - k).filterMap (fun j => a[j]?) = (a.take n).reverse := by
  intro n
  induction n with
  | zero => intro _; simp
  | succ n ih =>
    intro hn
    rw [List.range_succ_eq_map, List.map_cons, List.filterMap_cons]
    have e1 : a[n + 1 - 1 - 0]? = some (a[n]'(by omega)) := by simp
    rw [e1]
    simp only [List.map_map]
    have e2 : ((fun k => n + 1 - 1 - k) ∘ Nat.succ) = fun k => n - 1 - k := by
      funext k; simp only [Function.comp]; omega
    rw [e2, ih (by omega), List.take_succ_eq_append_getElem (by omega), List.reverse_append]
    rfl
theorem rev_pick {α : Type} (a : List α) : ((List.range a.length).map fun k => a.length - 1 - k).filterMap (fun j => a[j]?) = a.reverse := by
  rw [rev_pickN a a.length (Nat.le_refl _), List.take_length]
def rRevA (K : PySem.W.Frag) : V → Hp → VK → Prop := fun x H Q => (∃ a, x = tx a ∧ a.length ≤ sizeLine ∧ Q (tx a.reverse) H) ∨ ∃ p xs, x = .ref p ∧ SqL K H p xs ∧ ∀ r, H r = none → Q (.ref r) (upd H r (.lst xs.reverse))
def tRev (K : PySem.W.Frag) (te ts : TE) : TE := fun σ H Q => te σ H fun x H1 => ts σ H1 fun y H2 => y = .int (-1) ∧ rRevA K x H2 Q
theorem Vals.rev : ∀ {xs : List V} {us : List Value}, Vals xs us → Vals xs.reverse us.reverse
  | _, _, .nil => .nil
  | _, _, .cons r rr => by
    rw [List.reverse_cons, List.reverse_cons]
    exact (Vals.rev rr).append (.cons r .nil)
theorem pe_rev (K : PySem.W.Frag) {e st : Expr} {te ts : TE} {p2 pos : Pos} (he : PE X e te) (hs : PE X st ts) (hK : X.K = K := by rfl) : PE X (.Subscript e (.Slice none none (some st) p2) pos) (tRev K te ts) := by
  subst hK
  intro pins s σ H Q I h
  refine Subscript_ (thn (he pins s σ H _ I h) fun v s1 ⟨x, H1, I1, r1, q1⟩ => ?_)
  refine wpAny_Slice ?_
  rw [evalPart_none]
  refine wpAny_pure (wpAny_pure ?_)
  rw [evalPart_some]
  refine thn (hs pins s1 σ H1 _ I1 q1) fun u s2 ⟨y, H2, I2, r2, q2⟩ => ?_
  obtain ⟨rfl, q⟩ := q2
  obtain ⟨tk, rfl⟩ := r2
  have I4 : Inv X pins σ H2 { s2 with heap := s2.heap.push { cls := .type "slice", data := .fields #[.none, .none, .int (-1) tk] } } := I2.kept (t' := s2.toks) fun b ob q => Heap.get?_push_of_some _ q
  show wpAny (model X.prog X.w) X.A (subscriptTail e (.Slice none none (some st) p2) v (.ref s2.heap.objs.size)) (EP X pins σ Q) X.xe { s2 with heap := s2.heap.push { cls := .type "slice", data := .fields #[.none, .none, .int (-1) tk] } }
  have key : ∃ T id, typeLookup (.type T) "__getitem__" = pure (some (.builtin id)) ∧ ({ s2 with heap := s2.heap.push { cls := .type "slice", data := .fields #[.none, .none, .int (-1) tk] } } : Shared).TypeIs v T ∧ wpAny (model X.prog X.w) X.A (getItem v (.ref s2.heap.objs.size)) (EP X pins σ Q) X.xe { s2 with heap := s2.heap.push { cls := .type "slice", data := .fields #[.none, .none, .int (-1) tk] } } := by
    rcases q with ⟨a, rfl, hz, q⟩ | ⟨p, xs, rfl, hx, q⟩
    · obtain ⟨t, rfl⟩ := r1
      refine ⟨"str", _, F.slot_str_getitem.lookup, typeIs_str _ _ _, ?_⟩
      refine wpAny_getItem_str_slice (l := none) (u := none) (st := some (-1, tk)) ⟨_, Heap.get?_push_size _ rfl, rfl, rfl⟩ rfl ?_
      have ep : slicePicked ⟨a.toArray⟩ none none (some (-1, tk)) = (List.range a.length).map fun k => a.length - 1 - k := by
        unfold slicePicked
        rw [tx_len]
        exact rev_run a.length
      have ec : ((slicePicked ⟨a.toArray⟩ none none (some (-1, tk))).filterMap (a.toArray[·]?)) = a.reverse := by
        rw [ep]
        simp only [List.getElem?_toArray]
        exact rev_pick a
      unfold sliceMade
      rw [if_neg (by simp)]
      rw [ec]
      exact ⟨by rw [tx_len, List.length_reverse]; exact hz, ⟨tx a.reverse, H2, I4.tok _, ⟨_, rfl⟩, q⟩⟩
    · cases r1
      obtain ⟨its, r, ht, hz⟩ := I4.list hx
      have hlen := r.length
      refine ⟨"list", _, slot_list_getitem.lookup, ht.isList.typeIs, ?_⟩
      refine wpAny_getItem_list_slice ht.isList (Heap.IsSliceOf.new ..) .none .none (.int (-1) tk) (by simp) ?_ (by rw [List.size_toArray] <;> omega)
      have ep : slicePick its.toArray none none (some (-1)) = its.reverse.toArray := by
        unfold slicePick
        have e : sliceBounds none none (some (-1)) its.toArray.size = ((its.length : Int) - 1, -1, -1) := by rw [List.size_toArray]; rfl
        rw [e]
        show ((sliceRange ((its.length : Int) - 1) (-1) (-1)).filterMap _).toArray = _
        rw [rev_run]
        simp only [List.getElem?_toArray]
        rw [rev_pick]
      rw [ep]
      refine ⟨.ref _, _, I4.laid (o := .lst xs.reverse) (fun b ob q => Heap.get?_push_of_some _ q) (Nat.le_refl _) ?_, rfl, q _ (I4.hok.fresh (Nat.le_refl _))⟩
      exact ⟨by rw [List.length_reverse]; exact hz, _, 0, r.rev, Heap.get?_push_size _ rfl⟩
  obtain ⟨T, id, hT, ht, hg⟩ := key
  exact tail_any (ops := [v, .ref s2.heap.objs.size]) ht hT hg (by with_unfolding_all rfl)


theorem strs_of {xss : List (List Nat)} : ∀ {us : List Value}, Vals (xss.map tx) us → StrsAre us (xss.map fun a => ⟨a.toArray⟩) := by
  induction xss with
  | nil => intro us r; cases r; exact .nil
  | cons a r ih =>
    intro us h
    cases h with
    | cons h1 h2 =>
      obtain ⟨t, rfl⟩ := h1
      exact .cons _ t (ih h2)
theorem join_flat : ∀ (xss : List (List Nat)), Str.join ⟨([] : List Nat).toArray⟩ (xss.map fun a => ⟨a.toArray⟩) = ⟨xss.flatten.toArray⟩
  | [] => rfl
  | [a] => by simp [Str.join]
  | a :: b :: r => by
    have ih := join_flat (b :: r)
    rw [List.map_cons, List.map_cons] at *
    show (⟨a.toArray⟩ : Str) ++ ⟨([] : List Nat).toArray⟩ ++ Str.join ⟨([] : List Nat).toArray⟩ (⟨b.toArray⟩ :: r.map fun a => ⟨a.toArray⟩) = _
    rw [ih]
    show (⟨a.toArray ++ ([] : List Nat).toArray ++ (b :: r).flatten.toArray⟩ : Str) = _
    simp
def rJoin (K : PySem.W.Frag) : V → List V → Hp → VK → Prop := fun x vs H Q => ∃ (p : Addr) (xss : List (List Nat)), x = tx [] ∧ vs = [.ref p] ∧ SqL K H p (xss.map tx) ∧ xss.flatten.length + xss.length ≤ 1000000 ∧ Q (tx xss.flatten) H
theorem mt_join (K : PySem.W.Frag) (hK : X.K = K := by rfl) : MtR X "str.join" (rJoin K) := by
  subst hK
  intro pins s σ H x vs v us Q I rx rv h
  obtain ⟨p, xss, rfl, rfl, hq, hw, q⟩ := h
  obtain ⟨t, rfl⟩ := rx
  obtain ⟨u, rfl, ru⟩ := rv.one
  cases ru
  obtain ⟨its, r, ht, hz⟩ := I.list hq
  have hs : ((xss.map fun a => (⟨a.toArray⟩ : Str)).map (·.length)).sum = xss.flatten.length := by
    rw [List.map_map, List.length_flatten]
    congr 1
  refine join_listW ht.isList (strs_of r) (by rw [tx_len]; decide) (by rw [hs, List.length_map]; omega) fun t' k => ?_
  have e : Txt.join ⟨([] : List Nat).toArray⟩ (xss.map fun a => ⟨a.toArray⟩) = ⟨xss.flatten.toArray⟩ := by
    show Builtin.Str.glued _ _ = _
    rw [StrLaws.glued_eq_join, join_flat]
  rw [e]
  exact ⟨tx xss.flatten, H, I.tok k, ⟨t', rfl⟩, q⟩
def occ1 (l : List Nat) (c : Nat) : Option Nat := (Builtin.Str.occurrences ⟨l.toArray⟩ ⟨#[c]⟩ 0 (⟨l.toArray⟩ : Str).length 1).head?
def rIdx : V → List V → Hp → VK → Prop := fun x vs H Q => ∃ l c i, x = tx l ∧ vs = [tx [c]] ∧ occ1 l c = some i ∧ Q (.int (i : Nat)) H
theorem mt_index : MtR X "str.index" rIdx := by
  intro pins s σ H x vs v us Q I rx rv h
  obtain ⟨l, c, i, rfl, rfl, ho, q⟩ := h
  obtain ⟨t, rfl⟩ := rx
  obtain ⟨u, rfl, t2, rfl⟩ := rv.one
  unfold occ1 at ho
  cases e : Builtin.Str.occurrences ⟨l.toArray⟩ ⟨#[c]⟩ 0 (⟨l.toArray⟩ : Str).length 1 with
  | nil => rw [e] at ho; cases ho
  | cons j rest =>
    rw [e] at ho
    cases ho
    exact SC.index e ⟨.int (i : Nat), H, I.tok _, ⟨_, rfl⟩, q⟩
end
section
variable {σ : St} {H : Hp} {Q : VK} {K : PySem.W.Frag}
theorem s_rev {te ts : TE} (h : te σ H fun x H1 => ts σ H1 fun y H2 => y = .int (-1) ∧ rRevA K x H2 Q) : tRev K te ts σ H Q := h
theorem s_revI {P : Prop} (h : P) : V.int (-1) = V.int (-1) ∧ P := ⟨rfl, h⟩
theorem s_tyT {a : List Nat} {P : Prop} (h : P) : tyV K "str" (tx a) H ∧ P := ⟨rfl, h⟩
theorem s_join {p : Addr} {xss : List (List Nat)} (hq : SqL K H p (xss.map tx)) (hw : xss.flatten.length + xss.length ≤ 1000000) (h : Q (tx xss.flatten) H) : rJoin K (tx []) [.ref p] H Q := ⟨p, xss, rfl, rfl, hq, hw, h⟩
theorem s_idx {l : List Nat} {c i : Nat} (he : occ1 l c = some i) (h : Q (.int (i : Nat)) H) : rIdx (tx l) [tx [c]] H Q := ⟨l, c, i, rfl, rfl, he, h⟩
end
end L2

namespace BrM
open L2 PySem BrR

def oth (c : Nat) : Nat := if c = 40 then 41 else if c = 91 then 93 else if c = 123 then 125 else if c = 60 then 62 else if c = 41 then 40 else if c = 93 then 91 else if c = 125 then 123 else if c = 62 then 60 else c
def trn (a : List Nat) : List Nat := a.reverse.map oth
end BrM

namespace L2
open PySem PySem.Spec PyProof.Rows BrR
section
variable {X : Cx}
end
section
variable {σ : St} {H : Hp} {Q : VK} {K : PySem.W.Frag}
end
end L2
namespace BrM
open L2 PySem

theorem rt_cases {a : List Nat} (h : Rt a) : a = [] ∨ ∃ o M B, a = ([o] ++ M ++ [clo o]) ++ B ∧ o ∈ opn ∧ Rt M ∧ Rt B := by
  by_cases ha : a = []
  · exact .inl ha
  · obtain ⟨xs, hx⟩ := part_ex h
    have h0 : 0 < a.length := by
      cases a with
      | nil => exact absurd rfl ha
      | cons c r => simp
    obtain ⟨p, ep, rr⟩ := hx.2 0 h0
    have hp : Pr a 0 p := by
      rcases rr with z | z
      · exact z
      · exact absurd z.1 (by omega)
    obtain ⟨A, M, B, o, e, hA, hM, ho, hRM, hRAB⟩ := pr_split h hp
    have eA : A = [] := List.length_eq_zero_iff.mp hA
    subst eA
    exact .inr ⟨o, M, B, by simpa using e, ho, hRM, by simpa using hRAB⟩

structure PtsOk (a : List Nat) : Prop where
  flat : (pts a).flatten = a
  form : ∀ p ∈ pts a, ∃ o M, p = [o] ++ M ++ [clo o] ∧ o ∈ opn ∧ Rt M
  le : ∀ p ∈ pts a, deep p ≤ deep a
  top : deep a = 0 ∨ ∃ p ∈ pts a, deep p = deep a
  back : pts (trn a) = ((pts a).map trn).reverse
theorem len_mem_flat {p : List Nat} : ∀ {l : List (List Nat)}, p ∈ l → p.length ≤ l.flatten.length
  | q :: r, h => by
    rw [List.flatten_cons, List.length_append]
    rcases List.mem_cons.mp h with z | z
    · subst z; omega
    · have := len_mem_flat z; omega
theorem PtsOk.len {a : List Nat} (h : PtsOk a) {p : List Nat} (hp : p ∈ pts a) : p.length ≤ a.length := by
  have := len_mem_flat hp
  rwa [h.flat] at this
end BrM
namespace L2
open PySem PySem.Spec PyProof.Rows BrR
section
variable {σ : St} {H : Hp} {Q : VK} {K : PySem.W.Frag}

end
end L2
namespace BrM
open L2 PySem
end BrM

namespace L2
open PySem PySem.Spec PyProof.Rows


section
variable {X : Cx}
end
end L2

namespace L2
open PySem PySem.Spec PyProof.Rows

section
variable {X : Cx} {tg : Expr}

end
section
variable {X : Cx}
end
section
variable {σ : St} {H : Hp} {Q : VK} {D : Ends} {K : PySem.W.Frag}
end
end L2

namespace L2
open PySem PySem.Spec PyProof.Rows

section
variable {X : Cx}
end
section
variable {σ : St} {H : Hp} {Q : VK} {K : PySem.W.Frag}
end


section
variable {σ : St} {H : Hp} {Q : VK} {K : PySem.W.Frag}
theorem comp_yes {J : It} {n : Nat} {own : List Str} {sel : List Nat} {g : TG} {te : TE} (f : Nat → V) (hn : n ≤ sizeLine) (Iv : Addr → Nat → List V → Hp → Prop)
    (hgo : ∀ i H', i < n → Same H H' → J.go i H') (hsp : ∀ H', Same H H' → J.stop n H') (hy : ∀ i H1 x H', i < n → Same H H1 → J.yld i H1 x H' → H' = H1 ∧ x = f i)
    (h0 : ∀ D, H D = none → Iv D 0 [] (upd H D (.lst []))) (mono : ∀ D i ys H1 H2, H D = none → Iv D i ys H1 → SameBut1 D H1 H2 → Iv D i ys H2)
    (hst : ∀ D ys H', H D = none → H' D = some (.lst ys) → ys.length = n → Same H H' → Iv D n ys H' → Q (.ref D) H')
    (hs : ∀ (D : Addr) (i : Nat) (ys : List V) (H' : Hp) (R : V → Hp → Prop), H D = none → i < n → H' D = some (.lst ys) → ys.length = i → Same H H' → Iv D i ys H' → (∀ v H6, Same H' H6 → Iv D (i + 1) (ys ++ [v]) H6 → R v H6) →
      g (f i) (inSt own sel σ) H' fun σ4 H4 => te σ4 H4 R) : CompW J own sel σ g tYes te Q H := by
  refine comp_of (n := n) (fun D i ys H' => ys.length = i ∧ Same H H' ∧ Iv D i ys H') (fun D hD => ⟨rfl, same_new hD _, h0 D hD⟩) (fun D i ys H' hD hi _ ⟨_, sH, _⟩ => hgo i H' hi sH)
    (fun D ys H' hD hy' hl ⟨e, sH, iv⟩ => ⟨hsp H' sH, hst D ys H' hD hy' e sH iv⟩) ?_
  rintro D i ys H1 x H3 hD hi hyD hl ⟨el, sH, iv⟩ yl
  obtain ⟨rfl, rfl⟩ := hy i H1 x H3 hi sH yl
  have key := hs D i ys H3 (fun v H6 => ∃ ys, H6 D = some (.lst ys) ∧ ys.length < sizeLine ∧ ∃ m', m' < n - i ∧ CW D n (fun i ys H' => ys.length = i ∧ Same H H' ∧ Iv D i ys H') (i + 1) m' (upd H6 D (.lst (ys ++ [v])))) hD hi hyD el sH iv (fun v H6 s6 iv6 => ?_)
  · have ef : (fun (σ4 : St) (H4 : Hp) => tYes σ4 H4 fun b H5 => if b = true then te σ4 H5 fun v H6 => ∃ ys, H6 D = some (.lst ys) ∧ ys.length < sizeLine ∧ ∃ m', m' < n - i ∧ CW D n (fun i ys H' => ys.length = i ∧ Same H H' ∧ Iv D i ys H') (i + 1) m' (upd H6 D (.lst (ys ++ [v])))
        else ∃ m', m' < n - i ∧ CW D n (fun i ys H' => ys.length = i ∧ Same H H' ∧ Iv D i ys H') (i + 1) m' H5) = fun σ4 H4 => te σ4 H4 fun v H6 => ∃ ys, H6 D = some (.lst ys) ∧ ys.length < sizeLine ∧ ∃ m', m' < n - i ∧ CW D n (fun i ys H' => ys.length = i ∧ Same H H' ∧ Iv D i ys H') (i + 1) m' (upd H6 D (.lst (ys ++ [v]))) := by
      funext σ4 H4
      exact propext ⟨fun z => by have z' := z; simp only [tYes] at z'; simpa using z', fun z => by show tYes _ _ _; simp only [tYes]; simpa using z⟩
    rw [ef]
    exact key
  · refine comp_next hi hn (s6 _ _ hyD) hl ⟨by simp [el], fun b o z => ?_, mono D _ _ _ _ hD iv6 SameBut1.upd⟩
    rw [upd_ne (ne_of_none z hD)]
    exact s6 b o (sH b o z)
end
end L2

namespace BrC

def sm : Nat → (Nat → Int) → Int
  | 0, _ => 0
  | n + 1, f => sm n f + f n
theorem sm_congr {f g : Nat → Int} : ∀ n, (∀ i, i < n → f i = g i) → sm n f = sm n g
  | 0, _ => rfl
  | n + 1, h => by unfold sm; rw [sm_congr n fun i hi => h i (Nat.lt_succ_of_lt hi), h n (Nat.lt_succ_self n)]
theorem sm_add (f g : Nat → Int) : ∀ n, sm n (fun i => f i + g i) = sm n f + sm n g
  | 0 => rfl
  | n + 1 => by unfold sm; rw [sm_add f g n]; show sm n f + sm n g + (f n + g n) = _; omega
theorem sm_zero {f : Nat → Int} : ∀ n, (∀ i, i < n → f i = 0) → sm n f = 0
  | 0, _ => rfl
  | n + 1, h => by unfold sm; rw [sm_zero n fun i hi => h i (Nat.lt_succ_of_lt hi), h n (Nat.lt_succ_self n)]; rfl
theorem sm_nonneg {f : Nat → Int} : ∀ n, (∀ i, i < n → 0 ≤ f i) → 0 ≤ sm n f
  | 0, _ => Int.le_refl _
  | n + 1, h => by unfold sm; have := sm_nonneg n fun i hi => h i (Nat.lt_succ_of_lt hi); have := h n (Nat.lt_succ_self n); omega
theorem sm_mono {f g : Nat → Int} : ∀ n, (∀ i, i < n → f i ≤ g i) → sm n f ≤ sm n g
  | 0, _ => Int.le_refl _
  | n + 1, h => by unfold sm; have := sm_mono n fun i hi => h i (Nat.lt_succ_of_lt hi); have := h n (Nat.lt_succ_self n); omega
theorem sm_const (c : Int) : ∀ n, sm n (fun _ => c) = n * c
  | 0 => by simp [sm]
  | n + 1 => by rw [sm, sm_const c n]; rw [Int.natCast_add, Int.add_mul]; simp
theorem sm_one {f : Nat → Int} {n i : Nat} (hi : i < n) (h : ∀ j, j < n → j ≠ i → f j = 0) : sm n f = f i := by
  induction n with
  | zero => omega
  | succ n ih =>
    unfold sm
    by_cases e : i = n
    · subst e; rw [sm_zero i fun j hj => h j (by omega) (by omega)]; omega
    · rw [ih (by omega) fun j hj => h j (by omega), h n (by omega) (by omega)]; omega
def cv (P : Nat → Nat → Int) (k : Nat) : Nat → Nat → List Nat → Int
  | 0, _, [] => 1
  | 0, _, _ :: _ => 0
  | n + 1, i, st => sm k (fun p => P i (2 * p) * cv P k n (i + 1) (p :: st)) + (match st with | [] => 0 | o :: r => P i (2 * o + 1) * cv P k n (i + 1) r)
variable {P : Nat → Nat → Int} {k : Nat}
theorem cv_nil (n i : Nat) : cv P k (n + 1) i [] = sm k (fun p => P i (2 * p) * cv P k n (i + 1) [p]) := by
  rw [cv]; simp
theorem cv_cons (n i o : Nat) (st : List Nat) : cv P k (n + 1) i (o :: st) = sm k (fun p => P i (2 * p) * cv P k n (i + 1) (p :: o :: st)) + P i (2 * o + 1) * cv P k n (i + 1) st := by
  rw [cv]

def pr (P : Nat → Nat → Int) (k i j : Nat) : Int := sm k fun p => P i (2 * p) * P j (2 * p + 1)
theorem cv_bound {c : Int} (hc : 0 ≤ c) (h0 : ∀ i b, 0 ≤ P i b) (h1 : ∀ i b, P i b ≤ c) : ∀ (n i : Nat) (st : List Nat), 0 ≤ cv P k n i st ∧ cv P k n i st ≤ (((k : Int) + 1) * c) ^ n
  | 0, i, [] => ⟨by simp [cv], by simp [cv]⟩
  | 0, i, _ :: _ => ⟨by simp [cv], by simp [cv]⟩
  | n + 1, i, st => by
    have ih := cv_bound hc h0 h1 n (i + 1)
    have hB : 0 ≤ (((k : Int) + 1) * c) ^ n := Int.le_trans (ih []).1 (ih []).2
    have tm : ∀ b s', 0 ≤ P i b * cv P k n (i + 1) s' ∧ P i b * cv P k n (i + 1) s' ≤ c * (((k : Int) + 1) * c) ^ n := fun b s' =>
      ⟨Int.mul_nonneg (h0 i b) (ih s').1, Int.mul_le_mul (h1 i b) (ih s').2 (ih s').1 hc⟩
    have s1 : 0 ≤ sm k (fun p => P i (2 * p) * cv P k n (i + 1) (p :: st)) := sm_nonneg k fun p _ => (tm _ _).1
    have s2 : sm k (fun p => P i (2 * p) * cv P k n (i + 1) (p :: st)) ≤ k * (c * (((k : Int) + 1) * c) ^ n) := by
      rw [← sm_const]; exact sm_mono k fun p _ => (tm _ _).2
    have e : (((k : Int) + 1) * c) ^ (n + 1) = k * (c * (((k : Int) + 1) * c) ^ n) + c * (((k : Int) + 1) * c) ^ n := by
      rw [Int.pow_succ, Int.mul_comm, Int.mul_assoc, Int.add_mul, Int.one_mul]
    have s3 : 0 ≤ c * (((k : Int) + 1) * c) ^ n := Int.mul_nonneg hc hB
    cases st with
    | nil => rw [cv_nil, e]; exact ⟨s1, by omega⟩
    | cons o r =>
      have := tm (2 * o + 1) r
      rw [cv_cons, e]; constructor <;> omega

end BrC
namespace BrC
end BrC
namespace BrC
variable {P : Nat → Nat → Int} {k : Nat}

end BrC

namespace BrS
open L2 PySem BrM BrC

abbrev iL (l : List Int) : HO := .lst (l.map V.int)

def Pls (H : Hp) (r : Addr) (ps : List (List Int)) : Prop := ∃ ad : Nat → Addr, H r = some (.lst ((List.range ps.length).map fun i => V.ref (ad i))) ∧ ∀ i, i < ps.length → H (ad i) = some (iL (ps.getD i []))
def rwl (n : Nat) (f : Nat → Int) : List V := (List.range (n + 1)).map fun j => V.int (f j)
theorem rwl_set {n j : Nat} {f : Nat → Int} {v : Int} : (rwl n f).set j (.int v) = rwl n (fun x => if x = j then v else f x) := by
  apply List.ext_getElem?
  intro i
  unfold rwl
  rw [List.getElem?_set, List.getElem?_map, List.getElem?_map]
  by_cases e : j = i
  · subst e
    by_cases hj : j < n + 1
    · rw [List.getElem?_range hj]; simp [hj]
    · rw [if_pos rfl, if_neg (by simpa using hj)]
      rw [List.getElem?_eq_none (by simpa using hj)]; rfl
  · rw [if_neg e]
    by_cases hi : i < n + 1
    · rw [List.getElem?_range hi]; simp [Ne.symm e]
    · rw [List.getElem?_eq_none (by simpa using hi)]; rfl
theorem rwl_congr {n : Nat} {f g : Nat → Int} (h : ∀ j, j ≤ n → f j = g j) : rwl n f = rwl n g := by
  unfold rwl
  refine List.map_congr_left fun j hj => ?_
  rw [h j (by have := List.mem_range.mp hj; omega)]

structure Tb (H0 H : Hp) (s : Addr) (ad : Nat → Addr) (n : Nat) (T : Nat → Nat → Int) : Prop where
  fs : H0 s = none
  fa : ∀ i, i ≤ n → H0 (ad i) = none
  ns : ∀ i, i ≤ n → ad i ≠ s
  inj : ∀ i j, i ≤ n → j ≤ n → ad i = ad j → i = j
  top : H s = some (.lst ((List.range (n + 1)).map fun i => V.ref (ad i)))
  row : ∀ i, i ≤ n → H (ad i) = some (.lst (rwl n (T i)))
  sm : Same H0 H
section
variable {H0 H H' : Hp} {s : Addr} {ad : Nat → Addr} {n : Nat} {T T' : Nat → Nat → Int}
theorem Tb.congr (t : Tb H0 H s ad n T) (h : ∀ i j, i ≤ n → j ≤ n → T i j = T' i j) : Tb H0 H s ad n T' := ⟨t.fs, t.fa, t.ns, t.inj, t.top, fun i hi => by rw [t.row i hi, rwl_congr fun j hj => h i j hi hj], t.sm⟩
theorem Tb.at (t : Tb H0 H s ad n T) {i : Nat} (hi : i ≤ n) : ((List.range (n + 1)).map fun i => V.ref (ad i))[i]? = some (.ref (ad i)) := by
  rw [List.getElem?_map, List.getElem?_range (by omega)]; rfl
theorem Tb.set (t : Tb H0 H s ad n T) {i j : Nat} {v : Int} (hi : i ≤ n) : Tb H0 (upd H (ad i) (.lst ((rwl n (T i)).set j (.int v)))) s ad n (fun a b => if a = i ∧ b = j then v else T a b) := by
  refine ⟨t.fs, t.fa, t.ns, t.inj, by rw [upd_ne (Ne.symm (t.ns i hi))]; exact t.top, fun a ha => ?_, fun b o z => ?_⟩
  · by_cases e : a = i
    · subst e
      rw [upd_same, rwl_set]
      congr 2
      refine rwl_congr fun x _ => ?_
      by_cases q : x = j <;> simp [q]
    · rw [upd_ne (fun z => e (t.inj a i ha hi z)), t.row a ha]
      congr 2
      refine rwl_congr fun x _ => ?_
      simp [e]
  · rw [upd_ne (ne_of_none z (t.fa i hi))]; exact t.sm b o z
end

def brs : List Nat := [40, 41, 91, 93, 123, 125, 60, 62]
def plw (w : List Int) (c : Nat) : List Int := if c = 63 then w else (brs.take w.length).map fun b => if c = b then 1 else 0
theorem plw_len {w : List Int} {c : Nat} (h : w.length ≤ 8) : (plw w c).length = w.length := by
  unfold plw
  split
  · rfl
  · rw [List.length_map, List.length_take]; exact Nat.min_eq_left h
abbrev PP (ps : List (List Int)) : Nat → Nat → Int := fun i b => (ps.getD i []).getD b 0
abbrev ones (k : Nat) : List Int := List.replicate (2 * k) 1

def top30 : Int := 10 ^ 31
def Sm (l : List Int) : Prop := ∀ v ∈ l, 0 ≤ v ∧ v ≤ top30
theorem Sm.at {l : List Int} (h : Sm l) (b : Nat) : 0 ≤ l.getD b 0 ∧ l.getD b 0 ≤ top30 := by
  rw [List.getD_eq_getElem?_getD]
  cases e : l[b]? with
  | none => exact ⟨by simp, by simp [top30]⟩
  | some v => exact h v (List.mem_of_getElem? e)
def tbl (P : Nat → Nat → Int) (k : Nat) (i j : Nat) : Int := if i ≤ j then cv P k (j - i) i [] else 0
theorem ones_sm (k : Nat) : Sm (ones k) := fun v hv => by
  obtain rfl := List.eq_of_mem_replicate hv
  exact ⟨by decide, by decide⟩
theorem plw_sm {w : List Int} (h : Sm w) (c : Nat) : Sm (plw w c) := by
  unfold plw
  split
  · exact h
  · intro v hv
    obtain ⟨b, _, rfl⟩ := List.mem_map.mp hv
    split <;> exact ⟨by decide, by decide⟩

theorem PP_bound {ps : List (List Int)} (h : ∀ l ∈ ps, Sm l) (i b : Nat) : 0 ≤ PP ps i b ∧ PP ps i b ≤ top30 := by
  show 0 ≤ (ps.getD i []).getD b 0 ∧ (ps.getD i []).getD b 0 ≤ top30
  cases e : ps[i]? with
  | none =>
    have q : ps.getD i [] = [] := by rw [List.getD_eq_getElem?_getD, e]; rfl
    rw [q]; exact ⟨by simp, by simp [top30]⟩
  | some l =>
    have q : ps.getD i [] = l := by rw [List.getD_eq_getElem?_getD, e]; rfl
    rw [q]; exact (h l (List.mem_of_getElem? e)).at b
theorem pow_mono {x y : Int} (h0 : 0 ≤ x) (h : x ≤ y) : ∀ n : Nat, 0 ≤ x ^ n ∧ x ^ n ≤ y ^ n
  | 0 => by simp
  | n + 1 => by
    obtain ⟨a, b⟩ := pow_mono h0 h n
    rw [Int.pow_succ, Int.pow_succ]
    exact ⟨Int.mul_nonneg a h0, Int.mul_le_mul b h h0 (Int.le_trans a b)⟩
theorem pow_up {x : Int} (h1 : 1 ≤ x) {m n : Nat} (h : m ≤ n) : x ^ m ≤ x ^ n := by
  induction n with
  | zero => obtain rfl : m = 0 := by omega
            exact Int.le_refl _
  | succ n ih =>
    by_cases e : m = n + 1
    · subst e; exact Int.le_refl _
    · have h2 := ih (by omega)
      have h3 := (pow_mono (x := x) (y := x) (by omega) (Int.le_refl _) n).1
      rw [Int.pow_succ]
      have := Int.mul_le_mul (Int.le_refl (x ^ n)) h1 (by decide) h3
      omega
def cap : Int := (5 * top30) ^ 40
theorem cv_cap {ps : List (List Int)} {k : Nat} (hk : k ≤ 4) (h : ∀ l ∈ ps, Sm l) {n : Nat} (hn : n ≤ 40) (i : Nat) (st : List Nat) : 0 ≤ cv (PP ps) k n i st ∧ cv (PP ps) k n i st ≤ cap := by
  obtain ⟨a, b⟩ := cv_bound (P := PP ps) (k := k) (c := top30) (by decide) (fun i b => (PP_bound h i b).1) (fun i b => (PP_bound h i b).2) n i st
  refine ⟨a, Int.le_trans b ?_⟩
  have h1 : (0 : Int) ≤ ((k : Int) + 1) * top30 := Int.mul_nonneg (by omega) (by decide)
  have h2 : ((k : Int) + 1) * top30 ≤ 5 * top30 := Int.mul_le_mul_of_nonneg_right (by omega) (by decide)
  refine Int.le_trans (pow_mono h1 h2 n).2 (pow_up (by decide) hn)
end BrS
namespace BrS
open L2 PySem BrM BrC
theorem atI_end {α : Type} {xs : List α} {v : α} (h : 0 < xs.length) (e : xs[xs.length - 1]? = some v) : atI xs (-1) = some v := by
  unfold atI ixN
  rw [if_neg (by omega), if_pos (by omega)]
  have : ((-1 : Int) + xs.length).toNat = xs.length - 1 := by omega
  simp only [this, Option.bind]
  exact e
end BrS
namespace BrS
open L2 PySem BrM BrC
end BrS
namespace BrS
open L2 PySem BrM BrC

section
variable {P : Nat → Nat → Int} {k i q j n : Nat}
end
end BrS
namespace BrS
open L2 PySem BrM BrC
theorem many_places {k : Nat} {a : List Nat} (hk : k ≤ 4) : ∀ l ∈ a.map (plw (ones k)), l.length = 2 * k ∧ Sm l := fun l hl => by
  obtain ⟨c, _, rfl⟩ := List.mem_map.mp hl
  exact ⟨by rw [plw_len (by rw [List.length_replicate]; omega), List.length_replicate], plw_sm (ones_sm k) c⟩
end BrS

namespace BrS
open L2 PySem BrM BrC

def Deck (H : Hp) (p : Addr) : Prop := ∃ ds : List Int, H p = some (.lst (ds.map V.int)) ∧ ∀ d ∈ ds, 0 ≤ d ∧ d < 2147483648
theorem Deck.keep {H H' : Hp} {p r : Addr} (h : Deck H p) (s : SameBut1 r H H') (n : p ≠ r) : Deck H' p := by
  obtain ⟨ds, e, b⟩ := h
  exact ⟨ds, s _ _ e n, b⟩
theorem Deck.ne {H : Hp} {p q : Addr} (h : Deck H p) (hq : H q = none) : q ≠ p := by
  obtain ⟨ds, e, _⟩ := h
  exact (ne_of_none e hq).symm
theorem plw_unk (w : List Int) : plw w 63 = w := by unfold plw; rw [if_pos rfl]
end BrS
namespace BrS
open L2 PySem BrM BrC
section
variable {σ : St} {H : Hp} {Q : VK} {K : PySem.W.Frag}

end

end BrS
namespace BrS
open L2 PySem BrM BrC
end BrS
namespace BrS
open L2 PySem BrM BrC
end BrS

namespace BrS
open L2 PySem BrM BrC

def pw (k c b : Nat) : Int := (plw (ones k) c).getD b 0
def ws (k : Nat) : List Nat → List Nat → Int
  | [], [] => 1
  | [], _ :: _ => 0
  | c :: r, st => sm k (fun p => pw k c (2 * p) * ws k r (p :: st)) + (match st with | [] => 0 | o :: s' => pw k c (2 * o + 1) * ws k r s')
variable {k : Nat}
theorem pw_unk {b : Nat} (h : b < 2 * k) : pw k 63 b = 1 := by
  unfold pw
  rw [plw_unk]
  unfold ones
  rw [List.getD_eq_getElem?_getD, List.getElem?_replicate, if_pos h]; rfl
theorem brs_at {b c : Nat} (h : brs[b]? = some c) : b < 8 := by
  have := (List.getElem?_eq_some_iff.mp h).1
  exact this
theorem pw_at {b d c : Nat} (hb : b < 2 * k) (hb8 : b < 8) (hd : brs[d]? = some c) : pw k c b = if b = d then 1 else 0 := by
  have hd8 := brs_at hd
  have hn : c ≠ 63 := by
    rintro rfl
    revert hd
    have : d = 0 ∨ d = 1 ∨ d = 2 ∨ d = 3 ∨ d = 4 ∨ d = 5 ∨ d = 6 ∨ d = 7 := by omega
    rcases this with rfl | rfl | rfl | rfl | rfl | rfl | rfl | rfl <;> decide
  unfold pw plw
  rw [if_neg hn, List.getD_eq_getElem?_getD, List.getElem?_map, List.getElem?_take]
  rw [if_pos (show b < (ones k).length by unfold ones; rw [List.length_replicate]; exact hb)]
  have hb' : b = 0 ∨ b = 1 ∨ b = 2 ∨ b = 3 ∨ b = 4 ∨ b = 5 ∨ b = 6 ∨ b = 7 := by omega
  have hd' : d = 0 ∨ d = 1 ∨ d = 2 ∨ d = 3 ∨ d = 4 ∨ d = 5 ∨ d = 6 ∨ d = 7 := by omega
  rcases hd' with rfl | rfl | rfl | rfl | rfl | rfl | rfl | rfl <;> (cases hd; rcases hb' with rfl | rfl | rfl | rfl | rfl | rfl | rfl | rfl <;> decide)

theorem sm_pairs (f : Nat → Int) : ∀ k, sm (2 * k) f = sm k fun p => f (2 * p) + f (2 * p + 1)
  | 0 => rfl
  | k + 1 => by rw [show 2 * (k + 1) = 2 * k + 1 + 1 by omega, sm, sm, sm_pairs f k, sm]; omega

end BrS
namespace BrS
open L2 PySem BrM BrC

def clc (p : Nat) : Nat := cls.getD p 0
section
variable {k : Int}
end
end BrS
namespace BrS
open L2 PySem BrM BrC
section
variable {k : Int}
end
end BrS

namespace BrS
open L2 PySem BrM BrC

abbrev En := List Nat × List Nat
def exB (n at' c : Nat) (e : En) (b : Nat) : List En :=
  if c = 63 ∨ c = brs.getD b 0 then
    (if b % 2 = 0 then (if e.2.length + at' + 1 < n then [(e.1 ++ [brs.getD b 0], b / 2 :: e.2)] else [])
     else match e.2 with
       | [] => []
       | p :: r => if p = b / 2 then [(e.1 ++ [brs.getD b 0], r)] else [])
  else []
def exs (k n at' c : Nat) (e : En) : List En := (List.range (2 * k)).flatMap (exB n at' c e)
def fls (k : Nat) (a : List Nat) : Nat → List En
  | 0 => [([], [])]
  | i + 1 => (fls k a i).flatMap (exs k a.length i (a.getD i 0))
def res (k : Nat) (a : List Nat) : List (List Nat) := ((fls k a a.length).filter fun e => decide (e.2 = [])).map (·.1)
def sts (t : List Nat) : List Nat := (t.map clc).reverse
inductive Ens (H : Hp) : List Addr → List En → Prop
  | nil : Ens H [] []
  | cons {a : Addr} {e : En} {as : List Addr} {es : List En} (h : H a = some (.tup [tx e.1, tx (sts e.2)])) (r : Ens H as es) : Ens H (a :: as) (e :: es)
theorem Ens.len {H : Hp} {as : List Addr} {es : List En} (h : Ens H as es) : as.length = es.length := by
  induction h with
  | nil => rfl
  | cons _ _ ih => rw [List.length_cons, List.length_cons, ih]
theorem Ens.get {H : Hp} {as : List Addr} {es : List En} (h : Ens H as es) : ∀ {i : Nat} {a : Addr}, as[i]? = some a → ∃ e, es[i]? = some e ∧ H a = some (.tup [tx e.1, tx (sts e.2)]) := by
  induction h with
  | nil => intro i a z; simp at z
  | cons h r ih =>
    intro i a z
    cases i with
    | zero => simp at z; subst z; exact ⟨_, rfl, h⟩
    | succ i => simpa using ih (by simpa using z)
theorem Ens.there {H : Hp} {as : List Addr} {es : List En} (h : Ens H as es) : ∀ a ∈ as, ∃ o, H a = some o := by
  induction h with
  | nil => intro a z; cases z
  | cons h r ih =>
    intro a z
    rcases List.mem_cons.mp z with rfl | z
    · exact ⟨_, h⟩
    · exact ih a z
end BrS
namespace BrS
open L2 PySem BrM BrC

structure Gr (H1 H' : Hp) (lo : Addr) (as : List Addr) (L : List En) : Prop where
  fl : H1 lo = none
  sm : Same H1 H'
  at' : H' lo = some (.lst (as.map V.ref))
  en : Ens H' as L
  ni : lo ∉ as
theorem Gr.len {H1 H' : Hp} {lo : Addr} {as : List Addr} {L : List En} (g : Gr H1 H' lo as L) : as.length = L.length := g.en.len
end BrS

namespace L2
open PySem PySem.Spec PyProof.Rows


section
variable {κ : Type} [DecidableEq κ]
def valV (kvs : List (κ × V)) (k : κ) : Option V := (kvs.find? fun kv => decide (kv.1 = k)).map (·.2)

def putK (kvs : List (κ × V)) (k : κ) (v : V) : List (κ × V) :=
  if (kvs.any fun kv => decide (kv.1 = k)) = true then kvs.map (fun kv => if kv.1 = k then (kv.1, v) else kv) else kvs ++ [(k, v)]
def dropK (kvs : List (κ × V)) (k : κ) : List (κ × V) := kvs.filter fun kv => decide (kv.1 ≠ k)

theorem valV_nil {k : κ} : valV ([] : List (κ × V)) k = none := rfl
theorem RelO.getD {o : Option V} {u : Option Value} {d : V} {d' : Value} (r : RelO o u) (rd : RelV d d') : RelV (o.getD d) (u.getD d') := by
  cases o with
  | none => cases u with
    | none => exact rd
    | some _ => exact (show False from r).elim
  | some _ => cases u with
    | none => exact (show False from r).elim
    | some _ => exact r


theorem KV.any {kvs : List (κ × V)} {vs : List (κ × Value)} (r : KV kvs vs) (k : κ) : (kvs.any fun kv => decide (kv.1 = k)) = vs.any fun kv => decide (kv.1 = k) := by
  unfold KV at r
  induction r with
  | nil => rfl
  | cons h t ih => rw [List.any_cons, List.any_cons, ih, h.1]
theorem KV.drop {kvs : List (κ × V)} {vs : List (κ × Value)} (r : KV kvs vs) (k : κ) : KV (dropK kvs k) (without vs k) := by
  unfold KV at r ⊢
  unfold dropK without
  induction r with
  | nil => exact .nil
  | @cons p q ps qs h t ih =>
    obtain ⟨h1, h2⟩ := h
    rw [List.filter_cons, List.filter_cons]
    by_cases e : p.1 = k
    · have a : ¬ decide (p.1 ≠ k) = true := by simp [e]
      have b : ¬ decide (q.1 ≠ k) = true := by simp [h1.symm.trans e]
      rw [if_neg a, if_neg b]; exact ih
    · have e' : ¬ q.1 = k := fun z => e (h1.trans z)
      have a : decide (p.1 ≠ k) = true := by simp [e]
      have b : decide (q.1 ≠ k) = true := by simp [e']
      rw [if_pos a, if_pos b]; exact .cons ⟨h1, h2⟩ ih
theorem KV.length {kvs : List (κ × V)} {vs : List (κ × Value)} (r : KV kvs vs) : kvs.length = vs.length := Paired.length r
end



section
variable {P : Program} {w : World} {H : Hp} {h : Heap} {a : Addr}
end


def DGet (H : Hp) (a : Addr) (y : V) (r : Option V) : Prop :=
  (∃ kvs k, Rd H a (.dK kvs) ∧ y = kV k ∧ r = valV kvs k) ∨ ∃ kvs k b, Rd H a (.dT kvs) ∧ y = .ref b ∧ H b = some (.tup (k.map kV)) ∧ r = valV kvs k

def DPut (H : Hp) (a : Addr) (y v : V) (H' : Hp) : Prop :=
  (∃ kvs k, H a = some (.dK kvs) ∧ y = kV k ∧ kvs.length < sizeLine ∧ H' = upd H a (.dK (putK kvs k v))) ∨
  ∃ kvs k b, H a = some (.dT kvs) ∧ y = .ref b ∧ H b = some (.tup (k.map kV)) ∧ kvs.length < sizeLine ∧ H' = upd H a (.dT (putK kvs k v))
theorem DGet.k {H : Hp} {a : Addr} {kvs : List (Key × V)} {k : Key} (e : H a = some (.dK kvs)) : DGet H a (kV k) (valV kvs k) := .inl ⟨kvs, k, .inl e, rfl, rfl⟩
theorem DGet.t {H : Hp} {a b : Addr} {kvs : List (List Key × V)} {k : List Key} (e : H a = some (.dT kvs)) (eb : H b = some (.tup (k.map kV))) : DGet H a (.ref b) (valV kvs k) := .inr ⟨kvs, k, b, .inl e, rfl, eb, rfl⟩
theorem DPut.k {H : Hp} {a : Addr} {kvs : List (Key × V)} {k : Key} {v : V} (e : H a = some (.dK kvs)) (hl : kvs.length < sizeLine) : DPut H a (kV k) v (upd H a (.dK (putK kvs k v))) := .inl ⟨kvs, k, e, rfl, hl, rfl⟩
theorem DPut.t {H : Hp} {a b : Addr} {kvs : List (List Key × V)} {k : List Key} {v : V} (e : H a = some (.dT kvs)) (eb : H b = some (.tup (k.map kV))) (hl : kvs.length < sizeLine) :
    DPut H a (.ref b) v (upd H a (.dT (putK kvs k v))) := .inr ⟨kvs, k, b, e, rfl, eb, hl, rfl⟩


section
variable {X : Cx} {pins : List (Addr × Obj)} {σ : St} {H : Hp} {s : Shared} {a : Addr} {y v : V} {u r : Value} {o : Option V} {A : Around} {E : Value → Shared → Prop}

end

section
variable {X : Cx} {pins : List (Addr × Obj)} {σ : St} {H : Hp} {s : Shared} {a : Addr} {kvs : List (Key × V)} {k : Key} {u : Value} {A : Around} {E : Value → Shared → Prop}

end




section
variable {X : Cx} {o i e value : Expr} {pos pos' tpos : Pos} {td ty tv : TE}
end



section
variable {X : Cx} {pos : Pos}
end


section
variable {X : Cx} {pins : List (Addr × Obj)} {σ : St} {H : Hp} {s : Shared} {a : Addr} {y d : V} {u r : Value} {o : Option V} {A : Around} {E : Value → Shared → Prop}

end

section
variable {X : Cx} {o e f : Expr} {apos cpos : Pos} {td ty tx : TE}
end


section
variable {X : Cx} {pins : List (Addr × Obj)} {σ : St} {H : Hp} {s : Shared} {a : Addr} {kvs : List (Key × V)} {A : Around} {E : Value → Shared → Prop}
end


section
variable {X : Cx} {pins : List (Addr × Obj)} {σ : St} {H : Hp} {s : Shared} {a : Addr} {y : V} {u : Value} {A : Around} {E : Value → Shared → Prop}

end
end L2
namespace L2
open PySem PySem.Spec PyProof.Rows

section
variable {κ : Type} [DecidableEq κ]
end
end L2

namespace L2
open PySem PySem.Spec PyProof.Rows

inductive Sc : V → PyData → Prop
  | non : Sc .non .none
  | bl (b : Bool) : Sc (.bl b) (.bool b)
  | int (i : Int) : Sc (.int i) (.int i)
  | str (x : Str) : Sc (.str x) (.str x)
def Sck (p : Key × V) (q : PyData × PyData) : Prop := Sc (kV p.1) q.1 ∧ Sc p.2 q.2
theorem Sc.reads {x : V} {d : PyData} {u : Value} {h : Heap} (c : Sc x d) (r : RelV x u) : Reads h u d [] := by
  cases c with
  | non => obtain rfl : u = Value.none := r; exact .none
  | bl b => obtain rfl : u = Value.bool b := r; exact .bool b
  | int i => obtain ⟨t, rfl⟩ := r; exact .int i t
  | str x => obtain ⟨t, rfl⟩ := r; exact .str x t
theorem key_rel {P : Program} {w : World} {k : Key} {u : Value} (h : (mixKind P w).is k u = true) : RelV (kV k) u := by
  rcases keyIs_shape h with ⟨i, t, rfl, rfl⟩ | ⟨x, t, rfl, rfl⟩ <;> exact ⟨t, rfl⟩
section
variable {X : Cx} {pins : List (Addr × Obj)} {σ : St} {H : Hp} {s : Shared}
theorem pairs_reads {P : Program} {w : World} {h : Heap} : ∀ {es : List DictEntry} {vs : List (Key × Value)} {kvs : List (Key × V)} {ds : List (PyData × PyData)}, Pairs (mixKind P w) es vs → KV kvs vs → Paired Sck kvs ds →
    ReadsAll h (es.map (·.key)) (ds.map (·.1)) [] ∧ ReadsAll h (es.map (·.val)) (ds.map (·.2)) []
  | [], _, _, _, .nil, .nil, .nil => ⟨.nil, .nil⟩
  | _ :: _, _ :: _, _ :: _, _ :: _, .cons hk hv pr, .cons r rr, .cons c cr => by
    obtain ⟨i1, i2⟩ := pairs_reads (h := h) pr rr cr
    obtain ⟨rk, rv⟩ := r
    rw [← rk] at hk
    constructor
    · have := ReadsAll.cons (c.1.reads (h := h) (key_rel hk)) i1
      simpa using this
    · have := ReadsAll.cons (c.2.reads (h := h) (hv ▸ rv)) i2
      simpa using this
end
def ShOk (d : PyData) : Prop := d.showable = true ∧ d.shown.length ≤ sizeLine ∧ d.depth ≤ 20
def Low (a : List Nat) : Prop := ∀ c ∈ a, c < 16 ^ 8
end L2

namespace L2
open PySem PySem.Spec PyProof.Rows
theorem paired_of {α β : Type} {F : α → β → Prop} : ∀ {l : List α} {m : List β}, l.length = m.length → (∀ (i : Nat) x u, l[i]? = some x → m[i]? = some u → F x u) → Paired F l m
  | [], [], _, _ => .nil
  | [], _ :: _, h, _ => by simp at h
  | _ :: _, [], h, _ => by simp at h
  | a :: l, b :: m, h, hf => .cons (hf 0 a b rfl rfl) (paired_of (by simpa using h) fun i x u h1 h2 => hf (i + 1) x u (by simpa using h1) (by simpa using h2))

section
variable {X : Cx}
end
inductive PSb (X : Cx) (st : Stmt) (t : TS) : Prop
  | mk (h : PS X st t) : PSb X st t
theorem PSb.ps {X : Cx} {st : Stmt} {t : TS} (h : PSb X st t) : PS X st t := h.casesOn fun h => h
end L2
namespace BrM
open L2 PySem
def Fine (a : List Nat) : Prop := Low a ∧ a.length ≤ 1000
inductive Th (p : Addr) (H : Hp) : V → Prop
  | txt (a : List Nat) (h : Fine a) : Th p H (tx a)
  | non : Th p H .non
  | int (i : Int) (h : i = 0 ∨ i = 7) : Th p H (.int i)
  | bl (b : Bool) : Th p H (.bl b)
  | lst {q : Addr} {l : List (List Nat)} (h : H q = some (.lst (l.map tx))) (n : q ≠ p) (f : ∀ a ∈ l, Fine a) (z : l.length ≤ 1100) : Th p H (.ref q)
  | tup {q : Addr} {l : List (List Nat)} (h : H q = some (.tup (l.map tx))) (n : q ≠ p) (f : ∀ a ∈ l, Fine a) (z : l.length ≤ 1) : Th p H (.ref q)
  | dc0 {q : Addr} (h : H q = some (.dK [])) (n : q ≠ p) : Th p H (.ref q)
  | dc1 {q : Addr} {a : List Nat} (h : H q = some (.dK [(.inr ⟨a.toArray⟩, .int 1)])) (n : q ≠ p) (f : Fine a) : Th p H (.ref q)
theorem Th.keep {p : Addr} {H H' : Hp} {v : V} (t : Th p H v) (s : SameBut1 p H H') : Th p H' v := by
  cases t with
  | txt a h => exact .txt a h
  | non => exact .non
  | int i h => exact .int i h
  | bl b => exact .bl b
  | lst h n f z => exact .lst (s _ _ h n) n f z
  | tup h n f z => exact .tup (s _ _ h n) n f z
  | dc0 h n => exact .dc0 (s _ _ h n) n
  | dc1 h n f => exact .dc1 (s _ _ h n) n f
theorem Th.kind {K : PySem.W.Frag} {p : Addr} {H : Hp} {v : V} (t : Th p H v) : (∃ a, v = tx a ∧ Fine a) ∨ ∃ T, TyOf K H v (.type T) ∧ T ∈ plainTy ∧ T ≠ "str" := by
  cases t with
  | txt a h => exact .inl ⟨a, rfl, h⟩
  | non => exact .inr ⟨_, .non, by decide, by decide⟩
  | int i h => exact .inr ⟨_, .int i, by decide, by decide⟩
  | bl b => exact .inr ⟨_, .bl b, by decide, by decide⟩
  | lst h n f z => exact .inr ⟨_, .lst h, by decide, by decide⟩
  | tup h n f z => exact .inr ⟨_, .tup h, by decide, by decide⟩
  | dc0 h n => exact .inr ⟨_, .dK h, by decide, by decide⟩
  | dc1 h n f => exact .inr ⟨_, .dK h, by decide, by decide⟩
def Nw (H : Hp) (v : V) : Prop := ∀ q, v = .ref q → H q = none
theorem Th.upd {p D : Addr} {H : Hp} {v : V} {o : HO} (t : Th p H v) (n : v ≠ .ref D) : Th p (upd H D o) v := by
  cases t with
  | txt a h => exact .txt a h
  | non => exact .non
  | int i h => exact .int i h
  | bl b => exact .bl b
  | lst h m f z => exact .lst (by rw [upd_ne (fun e => n (by rw [e]))]; exact h) m f z
  | tup h m f z => exact .tup (by rw [upd_ne (fun e => n (by rw [e]))]; exact h) m f z
  | dc0 h m => exact .dc0 (by rw [upd_ne (fun e => n (by rw [e]))]; exact h) m
  | dc1 h m f => exact .dc1 (by rw [upd_ne (fun e => n (by rw [e]))]; exact h) m f
end BrM
namespace BrM
open L2 PySem
theorem all_cons {p : Addr} {H : Hp} {x : V} {l : List V} (h1 : Th p H x) (h2 : ∀ v ∈ l, Th p H v) : ∀ v ∈ x :: l, Th p H v := fun v hv => (List.mem_cons.mp hv).elim (fun e => e ▸ h1) (h2 v)
end BrM

namespace L2
open PySem PySem.Spec PyProof.Rows

def ExcAt (x C : Addr) (h : Heap) : Prop := ∃ o vs, h.get? x = some o ∧ o.cls = .ref C ∧ o.data = .fields vs
theorem ExcAt.type {x C : Addr} {h : Heap} {M : Model} (e : ExcAt x C h) : PySem.W.Looks M h (typeOf (.ref x)) (.ref C) := by
  obtain ⟨o, vs, h1, h2, _⟩ := e
  exact h2 ▸ (PySem.W.Looks.ld h1).andThen .now
section
variable {prog : Program} {w : World} {A : Around} {E : Value → Shared → Prop} {s : Shared} {K : PySem.W.Frag} {x C : Addr}
end

theorem ObjOk.here {P : Program} {w : World} {H : Hp} {h : Heap} {a : Addr} {o : HO} (x : ObjOk P w H h a o) : ∃ ob, h.get? a = some ob := by
  cases o with
  | lst xs => obtain ⟨_, _, _, _, e⟩ := x; exact ⟨_, e⟩
  | tup xs => obtain ⟨_, _, _, _, e, _⟩ := x; exact ⟨_, e⟩
  | dK kvs => obtain ⟨_, _, _, _, _, _, _, e, _⟩ := x; exact ⟨_, e⟩
  | dT kvs => obtain ⟨_, _, _, _, _, _, _, e, _⟩ := x; exact ⟨_, e⟩
  | set S n => obtain ⟨_, _, _, _, e, _⟩ := x; exact ⟨_, e⟩
  | ins C dx fs => obtain ⟨_, _, _, e, _⟩ := x; exact ⟨_, e⟩
  | own y => exact x
  | xd fs => obtain ⟨_, ⟨_, _, _, e, _⟩, _⟩ := x; exact ⟨_, e⟩
  | rng lo hi => obtain ⟨_, _, _, e⟩ := x; exact ⟨_, e⟩
  | frz ob u => obtain ⟨e, _⟩ := x; exact ⟨_, e⟩
  | tbl ps => exact ⟨_, (show h.get? a = some _ from x)⟩
  | met f y => exact ⟨_, (show h.get? a = some _ from x)⟩
  | ext φ => obtain ⟨_, e, _⟩ := x; exact e
end L2

namespace L2
open PySem PySem.Spec PyProof.Rows

structure Aloft (P : Program) (w : World) (l : List Env) (H : Hp) (h : Heap) (x C : Addr) (a0 : Value) (H' : Hp) (B h' : Heap) : Prop where
  un : Un (frs l) [] H H' h h'
  ok : HOk P w H' B
  stay : ∀ b o, h.get? b = some o → H b = none → b ∉ frs l → B.get? b = some o
  here : ∀ b o, h.get? b = some o → b ∉ frs l → ∃ o', B.get? b = some o'
  fl : Heap.FlyingW B l x (.ref C) a0 h'
def CXE (P : Program) (w : World) : CXT := fun outer H s E e s' => ∃ (x C : Addr) (a0 : Value) (H' : Hp) (B : Heap), e = .ref x ∧ s'.os = s.os ∧ AllBare s'.gens ∧ Aloft P w outer H s.heap x C a0 H' B s'.heap ∧ E (.ref C) (some x) H'

section
variable {P : Program} {w : World} {l : List Env} {H H' : Hp} {h h' h2 B : Heap} {x C : Addr} {a0 : Value}
end
section
variable {X : Cx} {R : XR} {e : Value} {s' : Shared}

theorem Inv.old {pins : List (Addr × Obj)} {σ : St} {H : Hp} {s : Shared} (I : Inv X pins σ H s) {b : Addr} {o : Obj} (e : X.s₀.heap.get? b = some o) (hb : b ∉ X.fs) : b ∉ frs X.stack := fun z => by
  rcases List.mem_cons.mp (I.stkSub b z) with q | q
  · exact absurd (Heap.lt_size e) (by rw [q]; exact Nat.not_lt.mpr I.ok.above)
  · exact hb q
end
end L2

namespace L2
open PySem PySem.Spec PyProof.Rows

section
variable {X : Cx} {R : XR} {C : Addr} {x : Str} {e : Expr} {es : List Expr} {t : TA} {np cpos pos p : Pos}
structure FnUE (P : Program) (w : World) (K : PySem.W.Frag) (mg : Str → Option Value) (base : Heap) (k : Nat) (x : Str) (ps : List Str) (sp : Sp) : Prop where
  ex : ∃ f fd, FnOk P w K mg base (CXE P w) k f fd ps sp ∧ mg x = some (.ref f) ∧ PySem.W.keepIn K (.ref f) = true ∧ Binds K fd ps []
end
section
variable {P : Program} {w : World} {K : PySem.W.Frag} {mg : Str → Option Value} {base : Heap}

theorem FnU.e {k : Nat} {x : Str} {ps : List Str} {sp : Sp} (U : FnU P w K mg base k x ps sp) : FnUE P w K mg base k x ps sp := by
  obtain ⟨f, fd, F, r⟩ := U.ex
  exact ⟨f, fd, ⟨F.len, fun A outer s H args us vs Q E h1 h2 h3 h4 h5 => codeAny_mono (F.run A outer s H args us vs Q E h1 h2 h3 h4 h5) fun res s' q => by
    cases res with
    | error ev => exact False.elim q
    | ok fl => cases fl <;> exact q⟩, r⟩
end
end L2

namespace L2
open PySem PySem.Spec PyProof.Rows

section
variable {M : Model} {A : Around} {E : Value → Shared → Prop} {K : PySem.W.Frag} {x C CR : Addr}
end

section
variable {X : Cx} {pins : List (Addr × Obj)} {σ : St} {H : Hp} {s : Shared}
end
section
variable {X : Cx} {cn en : Str} {CR : Addr} {i : Nat} {body suite : List Stmt} {b₀ : Stmt} {np hpos pos : Pos} {tb : XR → TS} {ts : TS}
end
end L2

namespace L2
open PySem PySem.Spec PyProof.Rows PySem.SeqAt

section
variable {X : Cx}
end

structure RoomH (k : Nat) (A : Around) : Prop where
  dp : A.depth + 3 * k + 5 < recursionLimit
  un : A.units + 16 * k + 200 < cLine
  gd : A.guards = some []
theorem Room.h {k : Nat} {A : Around} (r : Room k A) (e : Value) : RoomH k (A.mark (some e)) := ⟨r.dp, r.un, r.gd⟩
section
variable {P : Program} {w : World} {K : PySem.W.Frag} {mg : Str → Option Value} {base : Heap}

end
end L2

namespace L2
open PySem PySem.Spec PyProof.Rows

mutual
inductive Sd (p : Addr) (H : Hp) : V → PyData → Prop
  | sc {x : V} {d : PyData} (h : Sc x d) : Sd p H x d
  | lst {a : Addr} {xs : List V} {ds : List PyData} (h : H a = some (.lst xs)) (n : a ≠ p) (r : Sds p H xs ds) : Sd p H (.ref a) (.list ds)
  | tup {a : Addr} {xs : List V} {ds : List PyData} (h : H a = some (.tup xs)) (n : a ≠ p) (r : Sds p H xs ds) : Sd p H (.ref a) (.tuple ds)
  | dct {a : Addr} {kvs : List (Key × V)} {ds : List (PyData × PyData)} (h : H a = some (.dK kvs)) (n : a ≠ p) (r : Paired Sck kvs ds) : Sd p H (.ref a) (.dict ds)
inductive Sds (p : Addr) (H : Hp) : List V → List PyData → Prop
  | nil : Sds p H [] []
  | cons {x : V} {d : PyData} {xs : List V} {ds : List PyData} (h : Sd p H x d) (t : Sds p H xs ds) : Sds p H (x :: xs) (d :: ds)
end
mutual
theorem Sd.keep {p : Addr} {H H' : Hp} (s : SameBut1 p H H') : ∀ {x : V} {d : PyData}, Sd p H x d → Sd p H' x d
  | _, _, .sc h => .sc h
  | _, _, .lst h n r => .lst (s _ _ h n) n (Sds.keep s r)
  | _, _, .tup h n r => .tup (s _ _ h n) n (Sds.keep s r)
  | _, _, .dct h n r => .dct (s _ _ h n) n r
theorem Sds.keep {p : Addr} {H H' : Hp} (s : SameBut1 p H H') : ∀ {xs : List V} {ds : List PyData}, Sds p H xs ds → Sds p H' xs ds
  | _, _, .nil => .nil
  | _, _, .cons h t => .cons (Sd.keep s h) (Sds.keep s t)
end
theorem Sd.same {p : Addr} {H H' : Hp} {x : V} {d : PyData} (h : Sd p H x d) (s : Same H H') : Sd p H' x d := h.keep (SameBut1.of s)
section
variable {X : Cx} {pins : List (Addr × Obj)} {σ : St} {H : Hp} {s : Shared}
theorem sm_ne (I : Inv X pins σ H s) {a : Addr} {o : HO} (h : H a = some o) (hf : ∀ ob u, o ≠ .frz ob u) : a ≠ sysModules := fun z => by
  subst z
  obtain ⟨ob, u, e⟩ := I.hok.sm o h
  exact hf ob u e
mutual
theorem Sd.reads (I : Inv X pins σ H s) {p : Addr} : ∀ {x : V} {d : PyData} {u : Value}, Sd p H x d → RelV x u → ∃ as, Reads s.heap u d as ∧ sysModules ∉ as
  | _, _, _, .sc c, r => ⟨[], c.reads r, fun z => nomatch z⟩
  | _, _, u, .lst (a := a) (xs := xs) h n c, r => by
    obtain rfl : u = Value.ref a := r
    obtain ⟨_, its, n, rv, e⟩ := (show ObjOk X.prog X.w H s.heap a (.lst xs) from I.hok a _ h)
    obtain ⟨as, rd, hs⟩ := Sds.reads I c rv
    refine ⟨_, .list e rfl rfl (by simpa using rd), fun z => ?_⟩
    rcases List.mem_cons.mp z with z | z
    · exact sm_ne I h (fun _ _ q => nomatch q) z.symm
    · exact hs z
  | _, _, u, .tup (a := a) (xs := xs) h n c, r => by
    obtain rfl : u = Value.ref a := r
    obtain ⟨_, its, rv, o, e1, e2, n, e3⟩ := (show ObjOk X.prog X.w H s.heap a (.tup xs) from I.hok a _ h)
    obtain ⟨as, rd, hs⟩ := Sds.reads I c rv
    exact ⟨as, .tuple e1 e2 e3 (by simpa using rd), hs⟩
  | _, _, u, .dct (a := a) (kvs := kvs) h n c, r => by
    obtain rfl : u = Value.ref a := r
    obtain ⟨_, ns, vs, rv, o, es, ep, e1, e2, e3, _, pr, _⟩ := (show ObjOk X.prog X.w H s.heap a (.dK kvs) from I.hok a _ h)
    obtain ⟨k1, k2⟩ := pairs_reads (h := s.heap) pr rv c
    refine ⟨_, .dict e1 e2.1 e3 k1 k2, fun z => ?_⟩
    have z' : sysModules ∈ [a] := by simpa using z
    rw [List.mem_singleton.mp z'] at ns
    simp at ns
theorem Sds.reads (I : Inv X pins σ H s) {p : Addr} : ∀ {xs : List V} {ds : List PyData} {us : List Value}, Sds p H xs ds → Vals xs us → ∃ as, ReadsAll s.heap us ds as ∧ sysModules ∉ as
  | _, _, _, .nil, .nil => ⟨[], .nil, fun z => nomatch z⟩
  | _, _, _, .cons h t, .cons r rs => by
    obtain ⟨as, r1, h1⟩ := Sd.reads I h r
    obtain ⟨bs, r2, h2⟩ := Sds.reads I t rs
    exact ⟨as ++ bs, .cons r1 r2, fun z => (List.mem_append.mp z).elim h1 h2⟩
end
end

end L2

namespace L2
open PySem PySem.Spec PyProof.Rows

def Fit (n m : Nat) (d : PyData) : Prop := d.showable = true ∧ d.shown.length ≤ n ∧ d.depth ≤ m
theorem Fit.ok {n m : Nat} {d : PyData} (h : Fit n m d) (hn : n ≤ 16777216) (hm : m ≤ 20) : ShOk d := ⟨h.1, Nat.le_trans h.2.1 (by rw [sizeLine_eq]; omega), Nat.le_trans h.2.2 hm⟩
def Dt (p : Addr) (n m : Nat) (H : Hp) (v : V) : Prop := ∃ d, Sd p H v d ∧ Fit n m d
theorem Dt.keep {p : Addr} {n m : Nat} {H H' : Hp} {v : V} (h : Dt p n m H v) (s : SameBut1 p H H') : Dt p n m H' v := let ⟨d, a, b⟩ := h; ⟨d, a.keep s, b⟩
end L2

namespace L2
open PySem PySem.Spec PyProof.Rows BrM BrR BrS BrC

section
variable {σ : St} {H : Hp} {Q : VK} {D : Ends}
end

def NoN (K : PySem.W.Frag) (lo hi : Int) (H : Hp) (v : V) : Prop := ∃ ty, TyOf K H v (.type ty) ∧ ty ∈ plainTy ∧ ∀ i, v = .int i → i < lo ∨ hi < i
def NoL (K : PySem.W.Frag) (k : Int) (H : Hp) (v : V) : Prop := (∃ a, v = tx a ∧ a.length ≤ 1000 ∧ isRow k a = false) ∨ ∃ ty, TyOf K H v (.type ty) ∧ ty ∈ plainTy ∧ ty ≠ "str"
theorem TyOf.keep {K : PySem.W.Frag} {p : Addr} {H H' : Hp} {v : V} {t : Value} (h : TyOf K H v t) (n : ∀ a, v = .ref a → a ≠ p) (s : SameBut1 p H H') : TyOf K H' v t := by
  cases h with
  | non => exact .non
  | bl x => exact .bl x
  | int i => exact .int i
  | str x => exact .str x
  | flt x => exact .flt x
  | lst e => exact .lst (s _ _ e (n _ rfl))
  | frz e => exact .frz (s _ _ e (n _ rfl))
  | tup e => exact .tup (s _ _ e (n _ rfl))
  | dK e => exact .dK (s _ _ e (n _ rfl))
  | dT e => exact .dT (s _ _ e (n _ rfl))
  | ins e cl ha hn htk hm => exact .ins (s _ _ e (n _ rfl)) cl ha hn htk hm
theorem Dt.ne {p : Addr} {n m : Nat} {H : Hp} {v : V} (h : Dt p n m H v) (a : Addr) (e : v = .ref a) : a ≠ p := by
  obtain ⟨d, h, _⟩ := h
  subst e
  cases h with
  | sc c => cases c
  | lst _ n _ => exact n
  | tup _ n _ => exact n
  | dct _ n _ => exact n
theorem NoN.keep {K : PySem.W.Frag} {lo hi : Int} {p : Addr} {n m : Nat} {H H' : Hp} {v : V} (h : NoN K lo hi H v) (d : Dt p n m H v) (s : SameBut1 p H H') : NoN K lo hi H' v := let ⟨ty, a, b⟩ := h; ⟨ty, a.keep d.ne s, b⟩
theorem NoL.keep {K : PySem.W.Frag} {k : Int} {p : Addr} {n m : Nat} {H H' : Hp} {v : V} (h : NoL K k H v) (d : Dt p n m H v) (s : SameBut1 p H H') : NoL K k H' v := h.elim .inl fun ⟨ty, a, b⟩ => .inr ⟨ty, a.keep d.ne s, b⟩

end L2

namespace L2
open PySem PySem.Spec PyProof.Rows

theorem SqL.ty {K : PySem.W.Frag} {H : Hp} {p : Addr} {xs : List V} (h : SqL K H p xs) : tyV K "list" (.ref p) H := .inl ⟨rfl, _, h⟩
end L2
namespace BrS
open L2 PySem BrM BrC BrR

def Po (H : Hp) (p : Addr) : Prop := ∃ a b c : Int, H p = some (.lst [.int a, .int b, .int c])
theorem Po.keep {H H' : Hp} {p q : Addr} (h : Po H p) (s : SameBut1 q H H') (n : p ≠ q) : Po H' p := let ⟨a, b, c, e⟩ := h; ⟨a, b, c, s _ _ e n⟩
theorem Po.ne {H : Hp} {p q : Addr} (h : Po H p) (hq : H q = none) : q ≠ p := let ⟨_, _, _, e⟩ := h; (ne_of_none e hq).symm
end BrS

namespace BrS
open L2 PySem BrM BrC BrR

end BrS

namespace BrS
open L2 PySem BrM BrC BrR

def gd : V → Bool
  | .int i => decide (0 ≤ i)
  | _ => false
def Pln (K : PySem.W.Frag) (H : Hp) (v : V) : Prop := ∃ ty, TyOf K H v (.type ty) ∧ ty ∈ plainTy
def NoW (K : PySem.W.Frag) (k : Int) (H : Hp) (v : V) : Prop := (∃ ty, TyOf K H v (.type ty) ∧ ty ∈ plainTy ∧ ty ≠ "list") ∨
  ∃ q xs, v = .ref q ∧ H q = some (.lst xs) ∧ xs.length ≤ 1000 ∧ ((xs.length : Int) ≠ 2 * k ∨ ((∀ x ∈ xs, Pln K H x) ∧ ∃ x ∈ xs, gd x = false))
def NoB (K : PySem.W.Frag) (k : Int) (H : Hp) (v : V) : Prop := (∃ a, v = tx a ∧ a.length ≤ 1000 ∧ ∀ c, a = [c] → c ∉ brs.take (2 * k).toNat) ∨ ∃ ty, TyOf K H v (.type ty) ∧ ty ∈ plainTy ∧ ty ≠ "str"
theorem sm_zero (k : Nat) : sm k (fun _ => 0) = 0 := by
  induction k with
  | zero => rfl
  | succ k ih => rw [sm, ih]; rfl
theorem sd_ne {p : Addr} {H : Hp} {v : V} {d : PyData} (h : Sd p H v d) (a : Addr) (e : v = .ref a) : a ≠ p := by
  subst e
  cases h with
  | sc c => cases c
  | lst _ n _ => exact n
  | tup _ n _ => exact n
  | dct _ n _ => exact n
theorem sds_ne {p : Addr} {H : Hp} : ∀ {xs : List V} {ds : List PyData}, Sds p H xs ds → ∀ x ∈ xs, ∀ a, x = .ref a → a ≠ p
  | _, _, .nil, _, h => nomatch h
  | _, _, .cons h t, x, hx => by
    rcases List.mem_cons.mp hx with rfl | z
    · exact sd_ne h
    · exact sds_ne t x z
theorem dt_nes {p q : Addr} {n m : Nat} {H : Hp} {xs : List V} (h : Dt p n m H (.ref q)) (e : H q = some (.lst xs)) : ∀ x ∈ xs, ∀ a, x = .ref a → a ≠ p := by
  obtain ⟨d, h, _⟩ := h
  cases h with
  | sc c => cases c
  | lst h n r => rw [e] at h; cases h; exact sds_ne r
  | tup h n r => rw [e] at h; cases h
  | dct h n r => rw [e] at h; cases h
theorem Pln.keep {K : PySem.W.Frag} {p : Addr} {H H' : Hp} {v : V} (h : Pln K H v) (n : ∀ a, v = .ref a → a ≠ p) (s : SameBut1 p H H') : Pln K H' v := let ⟨ty, a, b⟩ := h; ⟨ty, a.keep n s, b⟩
theorem NoW.keep {K : PySem.W.Frag} {k : Int} {p : Addr} {n m : Nat} {H H' : Hp} {v : V} (h : NoW K k H v) (d : Dt p n m H v) (s : SameBut1 p H H') : NoW K k H' v := by
  rcases h with ⟨ty, a, b⟩ | ⟨q, xs, rfl, h, l, c⟩
  · exact .inl ⟨ty, a.keep d.ne s, b⟩
  · exact .inr ⟨q, xs, rfl, s _ _ h (d.ne q rfl), l, c.elim .inl fun ⟨a, b⟩ => .inr ⟨fun x hx => (a x hx).keep (dt_nes d h x hx) s, b⟩⟩
theorem NoB.keep {K : PySem.W.Frag} {k : Int} {p : Addr} {n m : Nat} {H H' : Hp} {v : V} (h : NoB K k H v) (d : Dt p n m H v) (s : SameBut1 p H H') : NoB K k H' v := h.elim .inl fun ⟨ty, a, b⟩ => .inr ⟨ty, a.keep d.ne s, b⟩
end BrS

namespace L2
open PySem PySem.Spec PyProof.Rows


def ExcOne (x C t0 : Addr) (m : Str) (tk : Tok) (h : Heap) : Prop := (∃ o vs, h.get? x = some o ∧ o.cls = .ref C ∧ o.data = .fields vs ∧ vs[0]? = some (.ref t0)) ∧ ∃ o k, h.get? t0 = some o ∧ o.data = .seq (#[.str m tk]) k
theorem ExcOne.at {x C t0 : Addr} {m : Str} {tk : Tok} {h : Heap} (e : ExcOne x C t0 m tk h) : ExcAt x C h := let ⟨⟨o, vs, a, b, c, _⟩, _⟩ := e; ⟨o, vs, a, b, c⟩
section
variable {prog : Program} {w : World} {A : Around} {E : Value → Shared → Prop} {s : Shared} {K : PySem.W.Frag} {x C t0 : Addr} {m : Str} {tk : Tok}
end
section
variable {X : Cx} {C : Addr} {x : Str} {e : Expr} {te : TE} {np cpos sp pos : Pos}
end
end L2

namespace L2
open PySem PySem.Spec PyProof.Rows
section
variable {X : Cx}

end
end L2
namespace L2
open PySem PySem.Spec PyProof.Rows BrR
section
variable {σ : St} {H : Hp} {Q : VK} {K : PySem.W.Frag}

end
end L2
namespace BrS
open L2 PySem BrM BrC BrR

end BrS

namespace BrS
open L2 PySem BrM BrC BrR

end BrS

namespace L2
open PySem PySem.Spec PyProof.Rows

section
variable {X : Cx} {pins : List (Addr × Obj)} {σ : St} {H : Hp} {s : Shared} {a : Addr}
end
section
variable {K : PySem.W.Frag} {g : TG} {tb : TS} {D : Ends} {σ : St} {H : Hp} {Q : VK}
end
end L2

namespace L2
open PySem PySem.Spec PyProof.Rows

section
variable {K : PySem.W.Frag} {σ : St} {H : Hp} {Q : VK} {D : Ends}
end
end L2
namespace BrS
open L2 PySem BrM BrC BrR

def Ok4 (st : List Nat) : Prop := ∀ p ∈ st, p < 4
abbrev Es := List (List Nat × Int)
structure Wf (es : Es) : Prop where
  nd : (es.map (·.1)).Nodup
  ok : ∀ e ∈ es, Ok4 e.1
  pos : ∀ e ∈ es, 1 ≤ e.2
theorem Wf.nil : Wf [] := ⟨by simp, (fun _ h => nomatch h), (fun _ h => nomatch h)⟩
theorem Wf.tail {e : List Nat × Int} {r : Es} (w : Wf (e :: r)) : Wf r := ⟨(List.nodup_cons.mp w.nd).2, fun x h => w.ok x (List.mem_cons_of_mem _ h), fun x h => w.pos x (List.mem_cons_of_mem _ h)⟩
def stp (k s : Nat) (f : List Nat → Int) (st : List Nat) : Int := sm k (fun p => pw k s (2 * p) * f (p :: st)) + (match st with | [] => 0 | o :: s' => pw k s (2 * o + 1) * f s')
end BrS

namespace BrT
open PySem

def Rise (a : Array Nat) : Prop := a.toList.Pairwise (· < ·)
theorem Rise.lt {a : Array Nat} (r : Rise a) {i j x y : Nat} (hij : i < j) (hx : a[i]? = some x) (hy : a[j]? = some y) : x < y := by
  have hx' : a.toList[i]? = some x := by simpa using hx
  have hy' : a.toList[j]? = some y := by simpa using hy
  obtain ⟨hi, rfl⟩ := List.getElem?_eq_some_iff.mp hx'
  obtain ⟨hj, rfl⟩ := List.getElem?_eq_some_iff.mp hy'
  exact (List.pairwise_iff_getElem.mp r) i j hi hj hij
def Tb (l : Bool) (t : SetTable) : Prop := Rise t.place ∧ t.led = l
theorem Tb.plain {l : Bool} {t : SetTable} (h : Tb l t) : Tb l { t with plain := false } := h
end BrT

namespace BrT
open PySem PySem.Spec PyProof.Rows

def keyOf (e : Int × Value) : Int := match e.2 with | .int k _ => k | _ => 0
section
variable {prog : Program} {w : World} {A : Around} {E : Value → Shared → Prop} {s : Shared}
def SO (prog : Program) (w : World) (l : Bool) (es : Array (Int × Value)) (t : SetTable) (ms : List Int) : Prop :=
  ElemsOf (intKind prog w) es.toList ∧ (es.toList.map keyOf).Nodup ∧ (∀ k, k ∈ es.toList.map keyOf ↔ k ∈ ms) ∧ es.size ≤ ms.length ∧ t.fits es.size = true ∧ Tb l t
def SI (prog : Program) (w : World) (l : Bool) (h : Heap) (a : Addr) (ms : List Int) : Prop :=
  ∃ o es ep t, h.get? a = some o ∧ o.ExactSet ∧ o.data = .set es ep t ∧ SO prog w l es t ms
theorem SI.at {l : Bool} {h h' : Heap} {a : Addr} {ms : List Int} (i : SI prog w l h a ms) (k : ∀ o, h.get? a = some o → h'.get? a = some o) : SI prog w l h' a ms :=
  let ⟨o, es, ep, t, ho, r⟩ := i; ⟨o, es, ep, t, k o ho, r⟩
end
end BrT

namespace BrT
open PySem PySem.Spec PyProof.Rows
section
variable {prog : Program} {w : World} {A : Around} {E : Value → Shared → Prop} {s : Shared}

def byT (w : World) : Bool := w.params.followText "set-order"
end
end BrT

namespace BrT
open PySem PySem.Spec PyProof.Rows
section
variable {prog : Program} {w : World} {A : Around} {E : Value → Shared → Prop} {s : Shared}

structure It (h : Heap) (I : Addr) (f : Value) (i : Nat) (S : Addr) (n ep : Nat) : Prop where
  at_ : ∃ o, h.get? I = some o ∧ o.cls = .type "set_iterator" ∧ o.data = .fields #[f, .int i 0, .ref S, .int n 0, .int ep 0]
theorem It.ty {I : Addr} {f : Value} {i : Nat} {S : Addr} {n ep : Nat} (x : It s.heap I f i S n ep) : s.TypeIs (.ref I) "set_iterator" := let ⟨o, ho, hc, _⟩ := x.at_; ⟨o, ho, hc⟩
theorem It.keep {h h' : Heap} {I : Addr} {f : Value} {i : Nat} {S : Addr} {n ep : Nat} (x : It h I f i S n ep) (k : ∀ o, h.get? I = some o → h'.get? I = some o) : It h' I f i S n ep := let ⟨o, ho, r⟩ := x.at_; ⟨o, k o ho, r⟩
def Seto (h : Heap) (S : Addr) (es : Array (Int × Value)) (ep : Nat) (t : SetTable) : Prop := ∃ o, h.get? S = some o ∧ o.ExactSet ∧ o.data = .set es ep t ∧ t.fits es.size = true
theorem Seto.keep {h h' : Heap} {S : Addr} {es : Array (Int × Value)} {ep : Nat} {t : SetTable} (x : Seto h S es ep t) (k : ∀ o, h.get? S = some o → h'.get? S = some o) : Seto h' S es ep t := let ⟨o, ho, r⟩ := x; ⟨o, k o ho, r⟩
def slotP (t : SetTable) (i : Nat) : Nat := if i = 0 then 0 else t.place.getD (i - 1) 0 + 1
inductive Way (w : World) (S : Addr) (h : Heap) (es : Array (Int × Value)) (ep : Nat) (t : SetTable) : (Nat → Value) → List Value → Prop
  | places (hb : byT w = false) (hp : t.plain = true ∨ es.size ≤ 1) (hl : t.led = true) (r : Rise t.place) : Way w S h es ep t (fun i => rawInt (slotP t i : Nat)) (es.toList.map (·.2))
  | text (hb : byT w = true) : Way w S h es ep t (fun _ => rawInt (0 : Nat)) ((pickOrder (w.params.setOrder S ep) es).toList.map (·.2))
  | draws (T : Addr) (ps : List Nat) (o : Obj) (hT : h.get? T = some o) (hd : ∃ n, o.data = .seq (ps.map fun (i : Nat) => rawInt i).toArray n) (hp : ps.Perm (List.range es.size)) : Way w S h es ep t (fun _ => .ref T) (ps.map fun i => (es.getD i (0, .none)).2)
end
end BrT

namespace BrT
open PySem PySem.Spec PyProof.Rows
section
variable {prog : Program} {w : World} {A : Around} {E : Value → Shared → Prop} {s : Shared}

theorem Way.at {S : Addr} {h h' : Heap} {es : Array (Int × Value)} {ep : Nat} {t : SetTable} {f : Nat → Value} {ys : List Value} (x : Way w S h es ep t f ys) (k : ∀ T, f 0 = .ref T → ∀ o, h.get? T = some o → h'.get? T = some o) : Way w S h' es ep t f ys := by
  cases x with
  | places hb hp hl r => exact .places hb hp hl r
  | text hb => exact .text hb
  | draws T ps o hT hd hp => exact .draws T ps o (k T rfl o hT) hd hp

end
end BrT

namespace BrT
open PySem PySem.Spec PyProof.Rows
section
variable {prog : Program} {w : World} {A : Around} {E : Value → Shared → Prop} {s : Shared}
end
end BrT

namespace L2
open PySem PySem.Spec PyProof.Rows
section
variable {X : Cx} {e : Expr} {te : TE} {np cpos sp pos : Pos}

end
end L2

namespace BrT
open PySem PySem.Spec PyProof.Rows
section
variable {prog : Program} {w : World} {A : Around} {E : Value → Shared → Prop} {s : Shared}

end
end BrT
namespace L2
open PySem PySem.Spec PyProof.Rows
section
variable {X : Cx} {e : Expr} {te : TE} {np cpos sp pos : Pos}

end
end L2

namespace BrC
variable {P : Nat → Nat → Int} {k : Nat}

end BrC
namespace L2
open PySem PySem.Spec PyProof.Rows BrR
section
variable {σ : St} {H : Hp} {Q : VK} {K : PySem.W.Frag}

end
end L2
namespace BrS
open L2 PySem BrM BrC BrR

def F14 (k : Nat) (a : List Nat) (b e : Nat) : Int := cv (PP (a.map (plw (ones k)))) k (e - b) b []
def ky (b e : Nat) : List Key := [.inl (b : Int), .inl (e : Int)]
def DW (k : Nat) (a : List Nat) (kvs : List (List Key × V)) (E q : Nat) : Prop :=
  (∀ b e : Nat, valV kvs (ky b e) = if b ≤ e ∧ (e - b) % 2 = 0 ∧ (e < E ∨ (e = E ∧ E < b + 2 * q)) then some (.int (F14 k a b e)) else none) ∧ kvs.length ≤ E * 41 + q
theorem DW.get {k : Nat} {a : List Nat} {kvs : List (List Key × V)} {E q b e : Nat} (h : DW k a kvs E q) (h1 : b ≤ e) (h2 : (e - b) % 2 = 0) (h3 : e < E ∨ (e = E ∧ E < b + 2 * q)) : valV kvs (ky b e) = some (.int (F14 k a b e)) := by
  rw [h.1, if_pos ⟨h1, h2, h3⟩]
theorem DW.at {k : Nat} {a : List Nat} {kvs : List (List Key × V)} {E q b e : Nat} {H : Hp} {d T : Addr} (h : DW k a kvs E q) (gd : H d = some (.dT kvs)) (hT : H T = none) (h1 : b ≤ e) (h2 : (e - b) % 2 = 0) (h3 : e < E) : DGet (upd H T (.tup [.int (b : Int), .int (e : Int)])) d (.ref T) (some (.int (F14 k a b e))) := by
  rw [← h.get h1 h2 (.inl h3)]
  exact DGet.t (k := ky b e) (by rw [upd_ne (ne_of_none gd hT)]; exact gd) upd_same
theorem DW.zero {k : Nat} {a : List Nat} : DW k a [] 0 0 := ⟨fun b e => by rw [valV_nil, if_neg (by omega)], by simp⟩

end BrS

namespace L2
open PySem PySem.Spec PyProof.Rows BrR
section
variable {X : Cx}

def tLR (te : TE) : TE := fun σ H Q => te σ H fun v H1 => ∃ j : Int, v = .int j ∧ 0 ≤ j ∧ j ≤ 5000 ∧ ∀ p, H1 p = none → Q (.ref p) (upd H1 p (.lst ((List.range j.toNat).map fun i : Nat => V.int (i : Int))))
theorem s_LR {σ : St} {H : Hp} {Q : VK} {te : TE} (h : te σ H fun v H1 => ∃ j : Int, v = .int j ∧ 0 ≤ j ∧ j ≤ 5000 ∧ ∀ p, H1 p = none → Q (.ref p) (upd H1 p (.lst ((List.range j.toNat).map fun i : Nat => V.int (i : Int))))) : tLR te σ H Q := h
theorem small_one {b : Int} (hb : 0 ≤ b) (hb' : b ≤ 5000) : Builtin.Range.small 0 b 1 = true := by
  unfold Builtin.Range.small Builtin.Range.rangeSize
  simp only [Builtin.Range.rangeFitsLong, Bool.and_eq_true, Bool.or_eq_true, decide_eq_true_eq, beq_iff_eq, show (1 : Int) > 0 by decide, if_true]
  split <;> omega
theorem pe_listRng {e : Expr} {te : TE} {np cpos sp pos : Pos} (hml : X.mg "list" = none) (hmr : X.mg "range" = none) (hc : X.calm = true) (he : PE X e te) (hgl : Gl X "list" := by rfl) (hgr : Gl X "range" := by rfl)
    (h1 : starEach [e] X.env = [(false, eval e X.env)] := by rfl) (h2 : starEach [.Call (.Name "range" np) [e] [] cpos] X.env = [(false, eval (.Call (.Name "range" np) [e] [] cpos) X.env)] := by rfl) :
    PE X (.Call (.Name "list" sp) [.Call (.Name "range" np) [e] [] cpos] [] pos) (tLR te) := by
  intro pins s σ H Q I h
  refine wpAny_Call_Name_kw (ld_blt I hgl hml PyProof.Rows.boot_list ?_)
  refine PyProof.Rows.callWith_type1 ?_ h2 rfl
  rw [h2]
  show wpAny _ _ (spliced [(false, eval (.Call (.Name "range" np) [e] [] cpos) X.env)]) _ _ _
  refine Calls.spliced_cons ?_
  refine wpAny_Call_Name_kw (ld_blt I hgr hmr PyProof.Rows.boot_range ?_)
  refine PyProof.Rows.callWith_type1 ?_ h1 rfl
  rw [h1]
  show wpAny _ _ (spliced [(false, eval e X.env)]) _ _ _
  refine Calls.spliced_cons (thn (he pins s σ H _ I h) fun u s1 ⟨v, H1, I1, r1, q1⟩ => Calls.spliced_nil ?_)
  obtain ⟨j, rfl, j0, j1, q⟩ := q1
  obtain ⟨t, rfl⟩ := r1
  refine call_range_1 ?_
  refine Calls.spliced_nil ?_
  have hsm : Builtin.Range.small 0 j 1 = true := by
    exact small_one j0 j1
  have hsz : Builtin.Range.rangeSize 0 j 1 = (j.toNat : Int) := by unfold Builtin.Range.rangeSize; simp; omega
  refine call_list_range (I1.ok.hd hc) (IsRange.new ..) hsm hsz (by have : (5000 : Nat) ≤ 2 ^ 24 := by decide
                                                                    omega) fun h' tk acc' c' kp gL it => ?_
  obtain ⟨hs, hi⟩ := it
  have kp1 : ∀ b o, s1.heap.get? b = some o → h'.get? b = some o := fun b o z => kp b o (Heap.get?_push_of_some _ z)
  have hL : s1.heap.objs.size ≤ (s1.heap.push { cls := .type "range", data := .fields #[.int 0 s1.toks, .int j t, .int 1 (s1.toks + 1)] }).objs.size := by rw [Heap.size_push]; exact Nat.le_succ _
  refine ⟨.ref _, _, I1.laid (t' := tk) (o := .lst ((List.range j.toNat).map fun i : Nat => V.int (i : Int))) kp1 hL ⟨by rw [List.length_map, List.length_range, sizeLine_eq]; omega, acc'.toList, c', ?_, by rw [Array.toArray_toList]; exact gL⟩, rfl, q _ (I1.hok.fresh hL)⟩
  refine paired_of (by simp [hs]) fun i x u hx hu => ?_
  have hi' : i < j.toNat := by have := (List.getElem?_eq_some_iff.mp hx).1; simpa using this
  rw [List.getElem?_map, List.getElem?_range hi'] at hx
  cases hx
  obtain ⟨t', e⟩ := hi i u (by simpa using hu)
  refine ⟨t', ?_⟩
  rw [e]
  congr 1
  omega
end
end L2

namespace L2
open PySem PySem.Spec PyProof.Rows

section
variable {X : Cx} {k : Nat} {C : Addr} {m x : Str} {ps : List Str} {sp : Sp} {e o value : Expr} {es : List Expr} {ta tv : TE} {t : TA} {p pos apos pos' tpos : Pos} {f : Str}
end
section
variable {σ : St} {H : Hp} {Q : VK} {K : PySem.W.Frag} {D : Ends} {C : Addr} {m f : Str} {sp : Sp} {E : XK} {ta tv : TE} {t : TA} {rd : V → V → Hp → VK → Prop}
end

section
variable {X : Cx}
end
end L2

namespace BrS
open L2 PySem BrM BrC BrR

abbrev pa_ (k : Nat) (a : List Nat) : Nat → Nat → Int := PP (a.map (plw (ones k)))

def W (k : Nat) (a : List Nat) (i : Nat) (st : List Nat) : Int := cv (pa_ k a) k (a.length - i) i st
def rowW (k : Nat) (a : List Nat) (st : List Nat) : List Int := (List.range (a.length + 1)).map fun i => W k a i st
theorem W_cap {k : Nat} {a : List Nat} (hk : k ≤ 4) (ha : a.length ≤ 40) (i : Nat) (st : List Nat) : 0 ≤ W k a i st ∧ W k a i st ≤ cap := cv_cap hk (fun l hl => (many_places hk l hl).2) (by omega) i st
def clsV (st : List Nat) : List V := st.reverse.map fun p : Nat => V.int (2 * (p : Int) + 1)
def cf (pl sm cl rs : Addr) (at' : Int) : List (Str × V) := [("places", .ref pl), ("sums", .ref sm), ("at", .int at'), ("closings", .ref cl), ("rests", .ref rs)]
structure CoS (C : Addr) (H0 H : Hp) (co : Addr) (k : Nat) (a : List Nat) (at' : Nat) (st : List Nat) (dx pl sm cl rs : Addr) (Hz Hb : Hp) (ad : Nat → Addr) (ra : List Addr) : Prop where
  ob : H co = some (.ins C dx (cf pl sm cl rs at'))
  pls : Pls Hb pl (a.map (plw (ones k)))
  tb : Tb Hz Hb sm ad a.length (tbl (pa_ k a) k)
  keep : SameBut1 co Hb H
  nco : ∀ xs, Hb co ≠ some (.lst xs)
  ncl : Hb cl = none
  nrs : Hb rs = none
  ne : cl ≠ rs
  clo : H cl = some (.lst (clsV st))
  res : H rs = some (.lst (ra.map V.ref))
  ral : ra.length = st.length + 1
  rows : ∀ (j : Nat) x, ra[j]? = some x → H x = some (iL (rowW k a (st.drop (st.length - j)))) ∧ x ≠ cl ∧ x ≠ rs
  h0 : Same H0 H
  h0co : H0 co = none
  h0cl : H0 cl = none
  h0rs : H0 rs = none
  len : a.length ≤ 40
  hk : k ≤ 4
section
variable {C : Addr} {H0 H : Hp} {co : Addr} {k : Nat} {a : List Nat} {at' : Nat} {st : List Nat} {dx pl sm cl rs : Addr} {Hz Hb : Hp} {ad : Nat → Addr} {ra : List Addr}
theorem CoS.lst (c : CoS C H0 H co k a at' st dx pl sm cl rs Hz Hb ad ra) {b : Addr} {xs : List V} (h : Hb b = some (.lst xs)) : H b = some (.lst xs) := c.keep _ _ h fun z => c.nco xs (by rw [← z]; exact h)
theorem CoS.top (c : CoS C H0 H co k a at' st dx pl sm cl rs Hz Hb ad ra) : ∃ x, atI (ra.map V.ref) (-1) = some (.ref x) ∧ H x = some (iL (rowW k a st)) := by
  obtain ⟨x, hx⟩ : ∃ x, ra[st.length]? = some x := ⟨_, List.getElem?_eq_getElem (by rw [c.ral]; omega)⟩
  refine ⟨x, atI_end (by rw [List.length_map, c.ral]; omega) (by rw [List.length_map, c.ral, List.getElem?_map, Nat.add_sub_cancel, hx]; rfl), ?_⟩
  have := (c.rows _ x hx).1
  rwa [Nat.sub_self, List.drop_zero] at this
end
def mw (k : Nat) (a : List Nat) (i : Nat) (st : List Nat) (b : Nat) : Int := if b % 2 = 0 then pa_ k a i b * W k a (i + 1) (b / 2 :: st) else match st with | [] => 0 | o :: s' => if 2 * o + 1 = b then pa_ k a i b * W k a (i + 1) s' else 0
def stb (st : List Nat) (b : Nat) : List Nat := if b % 2 = 0 then b / 2 :: st else st.tail
end BrS
namespace L2
open PySem PySem.Spec PyProof.Rows
end L2
namespace BrS
open L2 PySem BrM BrC BrR
theorem pa_top {k : Nat} {a : List Nat} (hk : k ≤ 4) (i b : Nat) : 0 ≤ pa_ k a i b ∧ pa_ k a i b ≤ top30 := PP_bound (fun l hl => (many_places hk l hl).2) i b
end BrS
namespace BrS
open L2 PySem BrM BrC BrR
theorem pa_01 {k : Nat} {a : List Nat} (hk : k ≤ 4) {i b : Nat} (hi : i < a.length) : pa_ k a i b = 0 ∨ pa_ k a i b = 1 := by
  show ((a.map (plw (ones k))).getD i []).getD b 0 = 0 ∨ ((a.map (plw (ones k))).getD i []).getD b 0 = 1
  rw [List.getD_eq_getElem?_getD (l := a.map (plw (ones k))), List.getElem?_map, List.getElem?_eq_getElem hi]
  show (plw (ones k) a[i]).getD b 0 = 0 ∨ (plw (ones k) a[i]).getD b 0 = 1
  unfold plw
  rw [List.getD_eq_getElem?_getD]
  split
  · cases e : (ones k)[b]? with
    | none => exact .inl rfl
    | some v =>
      have := List.mem_of_getElem? e
      rw [List.eq_of_mem_replicate this]
      exact .inr rfl
  · rw [List.getElem?_map]
    cases e : (brs.take (ones k).length)[b]? with
    | none => exact .inl rfl
    | some v =>
      show (if a[i] = v then (1 : Int) else 0) = 0 ∨ (if a[i] = v then (1 : Int) else 0) = 1
      split
      · exact .inr rfl
      · exact .inl rfl
end BrS
namespace BrS
open L2 PySem BrM BrC BrR
section
variable {C : Addr} {H0 H : Hp} {co : Addr} {k : Nat} {a : List Nat} {i : Nat} {st : List Nat} {dx pl sm cl rs : Addr} {Hz Hb : Hp} {ad : Nat → Addr} {ra : List Addr}
theorem CoS.nl (c : CoS C H0 H co k a i st dx pl sm cl rs Hz Hb ad ra) {b : Addr} {xs : List V} (h : H b = some (.lst xs)) : b ≠ co := fun z => by rw [z, c.ob] at h; cases h
theorem CoS.at (c : CoS C H0 H co k a i st dx pl sm cl rs Hz Hb ad ra) (j : Nat) : CoS C H0 (upd H co (.ins C dx (cf pl sm cl rs j))) co k a j st dx pl sm cl rs Hz Hb ad ra :=
  { ob := upd_same, pls := c.pls, tb := c.tb, keep := c.keep.trans SameBut1.upd, nco := c.nco, ncl := c.ncl, nrs := c.nrs, ne := c.ne
    clo := by rw [upd_ne (c.nl c.clo)]; exact c.clo
    res := by rw [upd_ne (c.nl c.res)]; exact c.res
    ral := c.ral
    rows := fun n x hx => ⟨by rw [upd_ne (c.nl (c.rows n x hx).1)]; exact (c.rows n x hx).1, (c.rows n x hx).2⟩
    h0 := fun b o z => by rw [upd_ne (ne_of_none z c.h0co)]; exact c.h0 _ _ z
    h0co := c.h0co, h0cl := c.h0cl, h0rs := c.h0rs, len := c.len, hk := c.hk }

end
end BrS
namespace BrS
open L2 PySem BrM BrC BrR
theorem mw_nonneg {k : Nat} {a : List Nat} (hk : k ≤ 4) (ha : a.length ≤ 40) (i : Nat) (st : List Nat) (b : Nat) : 0 ≤ mw k a i st b := by
  unfold mw
  split
  · exact Int.mul_nonneg (pa_top hk _ _).1 (W_cap hk ha _ _).1
  · cases st with
    | nil => exact Int.le_refl _
    | cons o s' =>
      show 0 ≤ (if 2 * o + 1 = b then pa_ k a i b * W k a (i + 1) s' else 0)
      split
      · exact Int.mul_nonneg (pa_top hk _ _).1 (W_cap hk ha _ _).1
      · exact Int.le_refl _
def cwq (k : Nat) (a : List Nat) (i : Nat) : List Nat → Nat → Int
  | [], _ => 0
  | o :: s', p => if o = p then pa_ k a i (2 * p + 1) * W k a (i + 1) s' else 0
theorem mw_all {k : Nat} {a : List Nat} {i : Nat} {st : List Nat} (hi : i < a.length) (hst : ∀ o ∈ st, o < k) : sm (2 * k) (mw k a i st) = W k a i st := by
  rw [sm_pairs]
  have e1 : ∀ p, mw k a i st (2 * p) = pa_ k a i (2 * p) * W k a (i + 1) (p :: st) := fun p => by
    unfold mw
    rw [if_pos (by omega), show 2 * p / 2 = p by omega]
  have e2 : ∀ p, mw k a i st (2 * p + 1) = cwq k a i st p := fun p => by
    unfold mw
    rw [if_neg (by omega)]
    cases st with
    | nil => rfl
    | cons o s' =>
      show (if 2 * o + 1 = 2 * p + 1 then _ else _) = (if o = p then _ else _)
      by_cases h : o = p
      · rw [if_pos h, if_pos (by omega)]
      · rw [if_neg h, if_neg (by omega)]
  obtain ⟨m, hm⟩ : ∃ m, a.length - i = m + 1 := ⟨a.length - i - 1, by omega⟩
  have hm2 : a.length - (i + 1) = m := by omega
  rw [sm_congr k fun p _ => by rw [e1, e2], sm_add]
  unfold W
  rw [hm, hm2]
  cases st with
  | nil => rw [cv_nil, BrC.sm_zero (f := fun i_1 => cwq k a i [] i_1) k (fun _ _ => rfl), Int.add_zero]
  | cons o s' =>
    rw [cv_cons]
    congr 1
    have ho := hst o List.mem_cons_self
    rw [sm_one (f := fun i_1 => cwq k a i (o :: s') i_1) ho]
    · show (if o = o then pa_ k a i (2 * o + 1) * W k a (i + 1) s' else 0) = _
      rw [if_pos rfl]
      unfold W
      rw [hm2]
    · intro j hj hne
      show (if o = j then _ else _) = (0 : Int)
      rw [if_neg (fun z => hne z.symm)]

def NF (k : Nat) (a : List Nat) : Nat → List Nat → Int → List Nat → Prop
  | i, _, l, [] => i = a.length ∧ l = 0
  | i, st, l, b :: bs => b < 2 * k ∧ sm b (mw k a i st) ≤ l ∧ l < sm (b + 1) (mw k a i st) ∧ NF k a (i + 1) (stb st b) (l - sm b (mw k a i st)) bs
def brt (bs : List Nat) : List Nat := bs.map fun b => brs.getD b 0
end BrS
namespace BrS
open L2 PySem BrM BrC BrR
theorem cum_mono {k : Nat} {a : List Nat} (hk : k ≤ 4) (ha : a.length ≤ 40) (i : Nat) (st : List Nat) {b c : Nat} (h : b ≤ c) : sm b (mw k a i st) ≤ sm c (mw k a i st) := by
  induction c with
  | zero => rw [show b = 0 by omega]; exact Int.le_refl _
  | succ c ih =>
    by_cases e : b = c + 1
    · rw [e]; exact Int.le_refl _
    · have h1 := ih (by omega)
      have h2 := mw_nonneg hk ha i st c
      show _ ≤ sm c (mw k a i st) + mw k a i st c
      omega
theorem mw_pos {k : Nat} {a : List Nat} (hk : k ≤ 4) (ha : a.length ≤ 40) {i : Nat} (hi : i < a.length) {st : List Nat} {b : Nat} (hst : ∀ o ∈ st, o < k) (hb : b < 2 * k) (h : 0 < mw k a i st b) : mw k a i st b = W k a (i + 1) (stb st b) ∧ (b % 2 = 1 → st ≠ []) ∧ (∀ o ∈ stb st b, o < k) ∧ (stb st b).length ≤ st.length + 1 := by
  have h01 : pa_ k a i b ≠ 0 → pa_ k a i b = 1 := fun z => (pa_01 hk hi).resolve_left z
  by_cases hev : b % 2 = 0
  · have e : mw k a i st b = pa_ k a i b * W k a (i + 1) (b / 2 :: st) := by unfold mw; rw [if_pos hev]
    have es : stb st b = b / 2 :: st := by unfold stb; rw [if_pos hev]
    rw [e] at h ⊢
    have h1 := h01 fun z => by rw [z, Int.zero_mul] at h; exact absurd h (Int.lt_irrefl _)
    rw [es, h1, Int.one_mul]
    refine ⟨rfl, by omega, fun o ho => ?_, by simp⟩
    rcases List.mem_cons.mp ho with z | z
    · omega
    · exact hst o z
  · have es : stb st b = st.tail := by unfold stb; rw [if_neg hev]
    rw [es]
    cases st with
    | nil =>
      unfold mw at h
      rw [if_neg hev] at h
      exact absurd h (Int.lt_irrefl _)
    | cons o s' =>
      have e : mw k a i (o :: s') b = if 2 * o + 1 = b then pa_ k a i b * W k a (i + 1) s' else 0 := by unfold mw; rw [if_neg hev]
      rw [e] at h ⊢
      by_cases ho : 2 * o + 1 = b
      · rw [if_pos ho] at h ⊢
        have h1 := h01 fun z => by rw [z, Int.zero_mul] at h; exact absurd h (Int.lt_irrefl _)
        rw [h1, Int.one_mul]
        exact ⟨rfl, fun _ => by simp, fun x hx => hst x (List.mem_cons_of_mem _ hx), by simp; omega⟩
      · rw [if_neg ho] at h
        exact absurd h (Int.lt_irrefl _)
theorem W_end (k : Nat) (a : List Nat) (st : List Nat) : W k a a.length st = if st = [] then 1 else 0 := by
  unfold W
  rw [Nat.sub_self]
  cases st <;> rfl
end BrS

namespace BrS
open L2 PySem BrM BrC BrR

def num (k : Nat) (a : List Nat) : Nat → List Nat → List Nat → Int
  | _, _, [] => 0
  | i, st, b :: bs => sm b (mw k a i st) + num k a (i + 1) (stb st b) bs
theorem NF.num {k : Nat} {a : List Nat} : ∀ {bs : List Nat} {i : Nat} {st : List Nat} {l : Int}, NF k a i st l bs → num k a i st bs = l
  | [], _, _, _, h => h.2.symm
  | b :: bs, i, st, l, h => by
    have := NF.num h.2.2.2
    show sm b (mw k a i st) + BrS.num k a (i + 1) (stb st b) bs = l
    omega
def Fi (k : Nat) (a : List Nat) : Nat → List Nat → List Nat → Prop
  | i, st, [] => i = a.length ∧ st = []
  | i, st, b :: bs => b < 2 * k ∧ pa_ k a i b = 1 ∧ (b % 2 = 1 → ∃ s', st = b / 2 :: s') ∧ Fi k a (i + 1) (stb st b) bs
theorem Fi.len {k : Nat} {a : List Nat} : ∀ {bs : List Nat} {i : Nat} {st : List Nat}, Fi k a i st bs → i + bs.length = a.length
  | [], _, _, h => h.1
  | b :: bs, i, st, h => by
    have := Fi.len h.2.2.2
    rw [List.length_cons]
    omega
theorem Fi.pos {k : Nat} {a : List Nat} (hk : k ≤ 4) (ha : a.length ≤ 40) : ∀ {bs : List Nat} {i : Nat} {st : List Nat}, (∀ o ∈ st, o < k) → Fi k a i st bs → NF k a i st (BrS.num k a i st bs) bs ∧ 0 ≤ BrS.num k a i st bs ∧ BrS.num k a i st bs < W k a i st
  | [], i, st, hst, h => by
    obtain ⟨h1, h2⟩ := h
    subst h1 h2
    refine ⟨⟨rfl, rfl⟩, Int.le_refl _, ?_⟩
    rw [W_end, if_pos rfl]
    exact Int.zero_lt_one
  | b :: bs, i, st, hst, h => by
    obtain ⟨h1, h2, h3, h4⟩ := h
    have hi : i < a.length := by have := Fi.len h4; omega
    have hst' : ∀ o ∈ stb st b, o < k := by
      unfold stb
      split
      · intro o ho
        rcases List.mem_cons.mp ho with z | z
        · omega
        · exact hst o z
      · intro o ho
        exact hst o (List.mem_of_mem_tail ho)
    obtain ⟨g1, g2, g3⟩ := Fi.pos hk ha hst' h4
    have ew : mw k a i st b = W k a (i + 1) (stb st b) := by
      unfold mw stb
      by_cases hev : b % 2 = 0
      · rw [if_pos hev, if_pos hev, h2, Int.one_mul]
      · obtain ⟨s', rfl⟩ := h3 (by omega)
        rw [if_neg hev, if_neg hev]
        show (if 2 * (b / 2) + 1 = b then pa_ k a i b * W k a (i + 1) s' else 0) = _
        rw [if_pos (by omega), h2, Int.one_mul]
        rfl
    have hs : sm (b + 1) (mw k a i st) = sm b (mw k a i st) + mw k a i st b := rfl
    have h0 : 0 ≤ sm b (mw k a i st) := sm_nonneg b fun j _ => mw_nonneg hk ha i st j
    have en : BrS.num k a i st (b :: bs) = sm b (mw k a i st) + BrS.num k a (i + 1) (stb st b) bs := rfl
    have hm := cum_mono hk ha i st (show b + 1 ≤ 2 * k by omega)
    rw [mw_all hi hst] at hm
    rw [en]
    refine ⟨⟨h1, by omega, by omega, ?_⟩, by omega, by omega⟩
    rw [show sm b (mw k a i st) + BrS.num k a (i + 1) (stb st b) bs - sm b (mw k a i st) = BrS.num k a (i + 1) (stb st b) bs by omega]
    exact g1

theorem NF.fl {k : Nat} {a : List Nat} (hk : k ≤ 4) (ha : a.length ≤ 40) : ∀ {bs : List Nat} {i : Nat} {st : List Nat} {l : Int}, i + bs.length = a.length → (∀ o ∈ st, o < k) → 0 ≤ l → l < W k a i st → NF k a i st l bs → Fi k a i st bs
  | [], i, st, l, hn, hst, l0, l1, h => by
    have e : i = a.length := h.1
    subst e
    rw [W_end] at l1
    refine ⟨rfl, ?_⟩
    by_cases z : st = []
    · exact z
    · rw [if_neg z] at l1; omega
  | b :: bs, i, st, l, hn, hst, l0, l1, h => by
    obtain ⟨h1, h2, h3, h4⟩ := h
    rw [List.length_cons] at hn
    have hi : i < a.length := by omega
    have hs : sm (b + 1) (mw k a i st) = sm b (mw k a i st) + mw k a i st b := rfl
    obtain ⟨ew, hodd, hst', _⟩ := mw_pos hk ha hi hst h1 (by omega)
    have hp : 0 < mw k a i st b := by omega
    refine ⟨h1, (pa_01 hk hi).resolve_left fun z => ?_, fun ho => ?_, NF.fl hk ha (by omega) hst' (by omega) (by omega) h4⟩
    · unfold mw at hp
      rw [z] at hp
      split at hp
      · rw [Int.zero_mul] at hp; omega
      · cases st with
        | nil => exact absurd hp (Int.lt_irrefl _)
        | cons o s' =>
          have hp : 0 < (if 2 * o + 1 = b then 0 * W k a (i + 1) s' else 0) := hp
          split at hp
          · rw [Int.zero_mul] at hp; omega
          · omega
    · cases st with
      | nil => exact absurd rfl (hodd ho)
      | cons o s' =>
        unfold mw at hp
        rw [if_neg (by omega)] at hp
        have hp : 0 < (if 2 * o + 1 = b then pa_ k a i b * W k a (i + 1) s' else 0) := hp
        split at hp
        · rename_i e
          exact ⟨s', by rw [show b / 2 = o by omega]⟩
        · omega
end BrS
namespace BrS
open L2 PySem BrM BrC BrR
end BrS
namespace L2
open PySem PySem.Spec PyProof.Rows

def fnd (l : List Nat) (c : Nat) : Int := Txt.find ⟨l.toArray⟩ ⟨#[c]⟩
end L2
namespace BrS
open L2 PySem BrM BrC BrR
theorem fnd_brs : ∀ b, b < 8 → fnd brs (brs.getD b 0) = b := by decide +kernel
end BrS

namespace PySem.SeqAt
open AutoSeq1 (wpAny_loadPart')
open MeetsSeq MeetsSeq2 MeetsSeq3 SeqRoads2
section
variable {prog : Program} {w : World} {A : Around} {E : Value → Shared → Prop} {s : Shared}
end
end PySem.SeqAt
namespace L2
open PySem PySem.Spec PyProof.Rows BrS
end L2

namespace PySem
open Sem (wp)
structure ZAp (z TI TO i1 i2 : Addr) (fp1 fp2 : List Addr) : Prop where
  TIz : TI ≠ z
  TOz : TO ≠ z
  TITO : TI ≠ TO
  TIi1 : TI ≠ i1
  TIi2 : TI ≠ i2
  z1 : z ∉ fp1
  z2 : z ∉ fp2
  o1 : TO ∉ fp1
  o2 : TO ∉ fp2
  a12 : i1 ∉ fp2
  a21 : i2 ∉ fp1
  m1 : i1 ∈ fp1
  m2 : i2 ∈ fp2
section
variable {prog : Program} {w : World} {A : Around} {E : Value → Shared → Prop} {s : Shared}
variable {z TI TO i1 i2 : Addr} {fp1 fp2 : List Addr} {n1 n2 i : Nat} {P1 P2 : Nat → Value → Prop} {S1 S2 : Nat → Heap → Prop} {a b : Value}
theorem ZAp.i1z (D : ZAp z TI TO i1 i2 fp1 fp2) : i1 ≠ z := fun e => D.z1 (e ▸ D.m1)
theorem ZAp.i2z (D : ZAp z TI TO i1 i2 fp1 fp2) : i2 ≠ z := fun e => D.z2 (e ▸ D.m2)
theorem ZAp.i1o (D : ZAp z TI TO i1 i2 fp1 fp2) : i1 ≠ TO := fun e => D.o1 (e ▸ D.m1)
theorem ZAp.i2o (D : ZAp z TI TO i1 i2 fp1 fp2) : i2 ≠ TO := fun e => D.o2 (e ▸ D.m2)
theorem Draws.but {it c : Addr} {fp : List Addr} {n : Nat} {P : Nat → Value → Prop} {S : Nat → Heap → Prop} {h h' : Heap} (D : Draws prog w A it fp n P S) (st : S i h) (k : Heap.ExtBut c h h') (hc : c ∉ fp) : S i h' := D.frame _ _ _ st fun x hx o e => k x o (fun q => hc (q ▸ hx)) e
theorem zipD_next_item {Q : Value → Shared → Prop} (D : ZAp z TI TO i1 i2 fp1 fp2) (D1 : Draws prog w A i1 fp1 n1 P1 S1) (D2 : Draws prog w A i2 fp2 n2 P2 S2)
    (hz : IsZip s.heap z TI TO .none) (hTI : IsPair s.heap TI (.ref i1) (.ref i2)) (hTO : IsPair s.heap TO a b) (h1 : S1 i s.heap) (h2 : S2 i s.heap) (l1 : i < n1) (l2 : i < n2)
    (hQ : ∀ x y h' tk, P1 i x → P2 i y → IsZip h' z TI TO (rawInt s.heap.objs.size) → IsPair h' TO x y → S1 (i + 1) h' → S2 (i + 1) h' → IsPair h' s.heap.objs.size x y → h'.objs.size = s.heap.objs.size + 1 →
      (∀ c o, c ≠ z → c ≠ TO → c ≠ i1 → c ≠ i2 → s.heap.get? c = some o → h'.get? c = some o) → Q (.ref s.heap.objs.size) { s with heap := h', toks := tk }) :
    wpAny (model prog w) A (Builtin.«zip.__next__» ⟨[.ref z], []⟩) (fun fin s' => ∃ v, fin = .done (.ret v) ∧ Q v s') E s := by
  obtain ⟨hp, g, d, tk₀, os⟩ := s
  show wpAny _ _ (field (.ref z) 2 >>= _) _ _ _
  refine wpAny_bind (wpAny_field hz rfl (x := .bool false) rfl ?_)
  show wpAny _ _ (field (.ref z) 3 >>= _) _ _ _
  refine wpAny_bind (wpAny_field hz rfl (x := .ref TI) rfl ?_)
  refine wpAny_bind (wpAny_seqItems hTI rfl ?_)
  show wpAny _ _ (Builtin.SmallTypes.ownedTupleIsFree (.ref z) >>= _) _ _ _
  refine wpAny_bind ?_
  unfold Builtin.SmallTypes.ownedTupleIsFree
  refine wpAny_bind (wpAny_field hz rfl (x := .none) rfl (wpAny_pure ?_))
  simp only [if_true]
  refine wpAny_bind (wpAny_rule ?_)
  refine wpAny_bind (wpAny_field hz rfl (x := .ref TO) rfl ?_)
  refine wpAny_bind (wpAny_setField_rec hz (by simp) fun h₁ hz₁ hs₁ => ?_)
  replace hz₁ : IsZip h₁ z TI TO .ellipsis := hz₁
  replace hs₁ : Heap.SameBut z hp h₁ := hs₁
  refine wpAny_bind ?_
  simp only [List.zipIdx_cons, List.zipIdx_nil, List.forIn_cons, List.forIn_nil]
  refine wpAny_bind (wpAny_bind (wpAny_onRaise ?_))
  show wpAny _ _ (Builtin.SmallTypes.nextOf (.ref i1) >>= _) _ _ _
  refine wpAny_bind (D1.item i _ _ _ l1 (D1.but h1 hs₁.extBut D.z1) fun x h₂ tk₂ hx h1₂ hs₂ => wpAny_pure ?_)
  replace hs₂ : Heap.SameBut i1 h₁ h₂ := hs₂
  have hTO₂ : IsPair h₂ TO a b := hs₂.extBut _ _ D.i1o.symm (hs₁.extBut _ _ D.TOz hTO)
  refine wpAny_bind (wpAny_seqItems hTO₂ rfl ?_)
  refine wpAny_bind (wpAny_updateSeq_pair hTO₂ fun h₃ hTO₃ hs₃ => ?_)
  replace hTO₃ : IsPair h₃ TO x b := hTO₃
  replace hs₃ : Heap.SameBut TO h₂ h₃ := hs₃
  refine wpAny_bind (wpAny_letGo (wpAny_pure ?_))
  refine wpAny_bind (wpAny_bind (wpAny_onRaise ?_))
  show wpAny _ _ (Builtin.SmallTypes.nextOf (.ref i2) >>= _) _ _ _
  refine wpAny_bind (D2.item i _ _ _ l2 (D2.but (D2.but (D2.but h2 hs₁.extBut D.z2) hs₂.extBut D.a12) hs₃.extBut D.o2) fun y h₄ tk₄ hy h2₄ hs₄ => wpAny_pure ?_)
  replace hs₄ : Heap.SameBut i2 h₃ h₄ := hs₄
  have hTO₄ : IsPair h₄ TO x b := hs₄.extBut _ _ D.i2o.symm hTO₃
  refine wpAny_bind (wpAny_seqItems hTO₄ rfl ?_)
  refine wpAny_bind (wpAny_updateSeq_pair hTO₄ fun h₅ hTO₅ hs₅ => ?_)
  replace hTO₅ : IsPair h₅ TO x y := hTO₅
  replace hs₅ : Heap.SameBut TO h₄ h₅ := hs₅
  refine wpAny_bind (wpAny_letGo (wpAny_pure (wpAny_pure ?_)))
  refine wpAny_bind (wpAny_seqItems hTO₅ rfl ?_)
  refine wpAny_bind (wpAny_newTuple ?_)
  have hsz : h₅.objs.size = hp.objs.size := by rw [hs₅.1, hs₄.1, hs₃.1, hs₂.1, hs₁.1]
  have hz₅ : IsZip h₅ z TI TO .ellipsis := hs₅.extBut _ _ D.TOz.symm (hs₄.extBut _ _ D.i2z.symm (hs₃.extBut _ _ D.TOz.symm (hs₂.extBut _ _ D.i1z.symm hz₁)))
  have hk₅ : ∀ c o, c ≠ z → c ≠ TO → c ≠ i1 → c ≠ i2 → hp.get? c = some o → h₅.get? c = some o := fun c o c1 c2 c3 c4 e =>
    hs₅.extBut _ _ c2 (hs₄.extBut _ _ c4 (hs₃.extBut _ _ c2 (hs₂.extBut _ _ c3 (hs₁.extBut _ _ c1 e))))
  have h1₅ : S1 (i + 1) h₅ := D1.but (D1.but (D1.but h1₂ hs₃.extBut D.o1) hs₄.extBut D.a21) hs₅.extBut D.o1
  have h2₅ : S2 (i + 1) h₅ := D2.but h2₄ hs₅.extBut D.o2
  have hzlt : z < h₅.objs.size := Heap.lt_size hz₅
  show wpAny _ _ (Builtin.SmallTypes.ownedTupleHandOut (.ref z) (.ref h₅.objs.size) >>= _) _ _ _
  refine wpAny_bind ?_
  unfold Builtin.SmallTypes.ownedTupleHandOut
  have hz₆ : IsZip (h₅.push { cls := .type "tuple", data := .seq #[x, y] }) z TI TO .ellipsis := Heap.get?_push_of_some _ hz₅
  refine wpAny_bind (wpAny_setField_rec hz₆ (by simp) fun h₇ hz₇ hs₇ => ?_)
  replace hz₇ : IsZip h₇ z TI TO (rawInt h₅.objs.size) := hz₇
  replace hs₇ : Heap.SameBut z (h₅.push { cls := .type "tuple", data := .seq #[x, y] }) h₇ := hs₇
  refine wpAny_setField_rec hz₇ (by simp) fun h₈ hz₈ hs₈ => ?_
  replace hz₈ : IsZip h₈ z TI TO (rawInt h₅.objs.size) := hz₈
  replace hs₈ : Heap.SameBut z h₇ h₈ := hs₈
  have up : ∀ c o, c ≠ z → h₅.get? c = some o → h₈.get? c = some o := fun c o c1 e => hs₈.extBut _ _ c1 (hs₇.extBut _ _ c1 (Heap.get?_push_of_some _ e))
  have hT₈ : IsPair h₈ h₅.objs.size x y := hs₈.extBut _ _ (Nat.ne_of_gt hzlt) (hs₇.extBut _ _ (Nat.ne_of_gt hzlt) (Heap.get?_push_size _ rfl))
  have hz8 : h₈.objs.size = h₅.objs.size + 1 := by rw [hs₈.1, hs₇.1, Heap.size_push]
  rw [hsz] at hz₈ hT₈ hz8
  refine wpAny_pure ⟨_, rfl, ?_⟩
  show Q (.ref h₅.objs.size) _
  rw [hsz]
  exact hQ x y h₈ _ hx hy hz₈ (up _ _ D.TOz hTO₅) (D1.frame _ _ _ h1₅ fun c hc o e => up c o (fun q => D.z1 (q ▸ hc)) e) (D2.frame _ _ _ h2₅ fun c hc o e => up c o (fun q => D.z2 (q ▸ hc)) e) hT₈ hz8 fun c o c1 c2 c3 c4 e => up c o c1 (hk₅ c o c1 c2 c3 c4 e)
theorem zipD_next_end {Q : Fin → Shared → Prop} (D : ZAp z TI TO i1 i2 fp1 fp2) (D1 : Draws prog w A i1 fp1 n1 P1 S1) (D2 : Draws prog w A i2 fp2 n2 P2 S2)
    (hz : IsZip s.heap z TI TO .none) (hTI : IsPair s.heap TI (.ref i1) (.ref i2)) (hTO : IsPair s.heap TO a b) (h1 : S1 i s.heap) (h2 : S2 i s.heap) (hend : i = n1 ∨ (i < n1 ∧ i = n2))
    (hE : ∀ h' tk e, (∀ c o, c ≠ z → c ≠ TO → c ≠ i1 → c ≠ i2 → s.heap.get? c = some o → h'.get? c = some o) → (∃ o, h'.get? e = some o ∧ o.cls = .type "StopIteration") → E (.ref e) { s with heap := h', toks := tk }) :
    wpAny (model prog w) A (Builtin.«zip.__next__» ⟨[.ref z], []⟩) Q E s := by
  obtain ⟨hp, g, d, tk₀, os⟩ := s
  show wpAny _ _ (field (.ref z) 2 >>= _) _ _ _
  refine wpAny_bind (wpAny_field hz rfl (x := .bool false) rfl ?_)
  show wpAny _ _ (field (.ref z) 3 >>= _) _ _ _
  refine wpAny_bind (wpAny_field hz rfl (x := .ref TI) rfl ?_)
  refine wpAny_bind (wpAny_seqItems hTI rfl ?_)
  show wpAny _ _ (Builtin.SmallTypes.ownedTupleIsFree (.ref z) >>= _) _ _ _
  refine wpAny_bind ?_
  unfold Builtin.SmallTypes.ownedTupleIsFree
  refine wpAny_bind (wpAny_field hz rfl (x := .none) rfl (wpAny_pure ?_))
  simp only [if_true]
  refine wpAny_bind (wpAny_rule ?_)
  refine wpAny_bind (wpAny_field hz rfl (x := .ref TO) rfl ?_)
  refine wpAny_bind (wpAny_setField_rec hz (by simp) fun h₁ hz₁ hs₁ => ?_)
  replace hz₁ : IsZip h₁ z TI TO .ellipsis := hz₁
  replace hs₁ : Heap.SameBut z hp h₁ := hs₁
  refine wpAny_bind ?_
  simp only [List.zipIdx_cons, List.zipIdx_nil, List.forIn_cons, List.forIn_nil]
  refine wpAny_bind (wpAny_bind (wpAny_onRaise ?_))
  show wpAny _ _ (Builtin.SmallTypes.nextOf (.ref i1) >>= _) _ _ _
  rcases hend with rfl | ⟨l1, rfl⟩
  · refine wpAny_bind (D1.done _ _ _ (D1.but h1 hs₁.extBut D.z1) fun h₂ e hs₂ he => ?_)
    replace hs₂ : Heap.ExtBut i1 h₁ h₂ := hs₂
    obtain ⟨oe, hoe, hce⟩ := he
    have hz₂ : IsZip h₂ z TI TO .ellipsis := hs₂ _ _ D.i1z.symm hz₁
    have hez : e ≠ z := fun x => by subst x; rw [hz₂] at hoe; cases hoe; simp at hce
    refine wpAny_setField_rec hz₂ (by simp) fun h₃ _ hs₃ => ?_
    replace hs₃ : Heap.SameBut z h₂ h₃ := hs₃
    exact hE h₃ _ e (fun c o c1 _ c3 _ x => hs₃.extBut _ _ c1 (hs₂ _ _ c3 (hs₁.extBut _ _ c1 x))) ⟨oe, hs₃.extBut _ _ hez hoe, hce⟩
  · refine wpAny_bind (D1.item i _ _ _ l1 (D1.but h1 hs₁.extBut D.z1) fun x h₂ tk₂ hx h1₂ hs₂ => wpAny_pure ?_)
    replace hs₂ : Heap.SameBut i1 h₁ h₂ := hs₂
    have hTO₂ : IsPair h₂ TO a b := hs₂.extBut _ _ D.i1o.symm (hs₁.extBut _ _ D.TOz hTO)
    refine wpAny_bind (wpAny_seqItems hTO₂ rfl ?_)
    refine wpAny_bind (wpAny_updateSeq_pair hTO₂ fun h₃ hTO₃ hs₃ => ?_)
    replace hs₃ : Heap.SameBut TO h₂ h₃ := hs₃
    refine wpAny_bind (wpAny_letGo (wpAny_pure ?_))
    refine wpAny_bind (wpAny_bind (wpAny_onRaise ?_))
    show wpAny _ _ (Builtin.SmallTypes.nextOf (.ref i2) >>= _) _ _ _
    refine wpAny_bind (D2.done _ _ _ (D2.but (D2.but (D2.but h2 hs₁.extBut D.z2) hs₂.extBut D.a12) hs₃.extBut D.o2) fun h₄ e hs₄ he => ?_)
    replace hs₄ : Heap.ExtBut i2 h₃ h₄ := hs₄
    obtain ⟨oe, hoe, hce⟩ := he
    have hz₄ : IsZip h₄ z TI TO .ellipsis := hs₄ _ _ D.i2z.symm (hs₃.extBut _ _ D.TOz.symm (hs₂.extBut _ _ D.i1z.symm hz₁))
    have hez : e ≠ z := fun x => by subst x; rw [hz₄] at hoe; cases hoe; simp at hce
    refine wpAny_setField_rec hz₄ (by simp) fun h₅ _ hs₅ => ?_
    replace hs₅ : Heap.SameBut z h₄ h₅ := hs₅
    exact hE h₅ _ e (fun c o c1 c2 c3 c4 x => hs₅.extBut _ _ c1 (hs₄ _ _ c4 (hs₃.extBut _ _ c2 (hs₂.extBut _ _ c3 (hs₁.extBut _ _ c1 x))))) ⟨oe, hs₅.extBut _ _ hez hoe, hce⟩
theorem pyNext_zipD {Q : Option Value → Shared → Prop} (D : ZAp z TI TO i1 i2 fp1 fp2) (D1 : Draws prog w A.in1 i1 fp1 n1 P1 S1) (D2 : Draws prog w A.in1 i2 fp2 n2 P2 S2)
    (hz : IsZip s.heap z TI TO .none) (hTI : IsPair s.heap TI (.ref i1) (.ref i2)) (hTO : IsPair s.heap TO a b) (h1 : S1 i s.heap) (h2 : S2 i s.heap) (l1 : i < n1) (l2 : i < n2)
    (hQ : ∀ x y h' tk, P1 i x → P2 i y → IsZip h' z TI TO (rawInt s.heap.objs.size) → IsPair h' TO x y → S1 (i + 1) h' → S2 (i + 1) h' → IsPair h' s.heap.objs.size x y → h'.objs.size = s.heap.objs.size + 1 →
      (∀ c o, c ≠ z → c ≠ TO → c ≠ i1 → c ≠ i2 → s.heap.get? c = some o → h'.get? c = some o) → Q (some (.ref s.heap.objs.size)) { s with heap := h', toks := tk }) :
    wpAny (model prog w) A (pyNext (.ref z)) Q E s := by
  have hT : s.TypeIs (.ref z) "zip" := ⟨_, hz, rfl⟩
  unfold pyNext
  exact wpAny_bind (wpAny_attempt (wpAny_callSpecial?_slot (name := Str.ofString "__next__") hT F.slot_zip_next
    (wpAny_call_entry F.slot_zip_next hT F.entry_zip_next
      (zipD_next_item D D1 D2 hz hTI hTO h1 h2 l1 l2 fun x y h' tk p1 p2 a1 a2 a3 a4 a5 a6 a7 => wpAny_pure (hQ x y h' tk p1 p2 a1 a2 a3 a4 a5 a6 a7)) (F.args_zip_next_1 _))))
theorem pyNext_zipD_end {Q : Option Value → Shared → Prop} (D : ZAp z TI TO i1 i2 fp1 fp2) (D1 : Draws prog w A.in1 i1 fp1 n1 P1 S1) (D2 : Draws prog w A.in1 i2 fp2 n2 P2 S2)
    (hz : IsZip s.heap z TI TO .none) (hTI : IsPair s.heap TI (.ref i1) (.ref i2)) (hTO : IsPair s.heap TO a b) (h1 : S1 i s.heap) (h2 : S2 i s.heap) (hend : i = n1 ∨ (i < n1 ∧ i = n2))
    (hQ : ∀ h' tk, (∀ c o, c ≠ z → c ≠ TO → c ≠ i1 → c ≠ i2 → s.heap.get? c = some o → h'.get? c = some o) → Q none { s with heap := h', toks := tk }) : wpAny (model prog w) A (pyNext (.ref z)) Q E s := by
  have hT : s.TypeIs (.ref z) "zip" := ⟨_, hz, rfl⟩
  unfold pyNext
  refine wpAny_bind (wpAny_attempt (wpAny_callSpecial?_slot (name := Str.ofString "__next__") hT F.slot_zip_next
    (wpAny_call_entry F.slot_zip_next hT F.entry_zip_next (zipD_next_end D D1 D2 hz hTI hTO h1 h2 hend fun h' tk e hk he => ?_) (F.args_zip_next_1 _))))
  obtain ⟨o, ho, hc⟩ := he
  refine wpAny_bind (wpAny_isInstance (T := "StopIteration") (b := true) ⟨o, ho, hc⟩ isSubtype_stop ?_)
  exact wpAny_pure (hQ _ _ hk)
end

end PySem

namespace L2
open PySem PySem.Spec PyProof.Rows

section
variable {P : Program} {w : World} {K : PySem.W.Frag} {elts : List Expr} {k : Nat} {tpos : Pos}
theorem zip_item {X : Cx} {pins : List (Addr × Obj)} {σ : St} {H : Hp} {s : Shared} {E : Value → Shared → Prop} {z TI TO i1 i2 : Addr} {fp1 fp2 : List Addr} {n1 n2 i : Nat} {P1 P2 : Nat → Value → Prop} {S1 S2 : Nat → Heap → Prop} {a b : Value} {Qx Qy : Value → V → Prop} {tn : Heap → Prop}
    (D : ZAp z TI TO i1 i2 fp1 fp2) (D1 : Draws X.prog X.w X.A.in1 i1 fp1 n1 P1 S1) (D2 : Draws X.prog X.w X.A.in1 i2 fp2 n2 P2 S2) (I : Inv X pins σ H s) (hf : ∀ b ∈ [z, TI, TO, i1, i2], FpOk X pins H b)
    (hz : IsZip s.heap z TI TO .none) (hTI : IsPair s.heap TI (.ref i1) (.ref i2)) (hTO : IsPair s.heap TO a b) (h1 : S1 i s.heap) (h2 : S2 i s.heap) (l1 : i < n1) (l2 : i < n2)
    (tnk : ∀ h' x y, IsZip h' z TI TO .none → IsPair h' TI (.ref i1) (.ref i2) → IsPair h' TO x y → S1 (i + 1) h' → S2 (i + 1) h' → tn h') (y1 : ∀ v, P1 i v → ∃ q, RelV q v ∧ Qx v q) (y2 : ∀ v, P2 i v → ∃ q, RelV q v ∧ Qy v q) :
    wpAny (model X.prog X.w) X.A (pyNext (.ref z)) (fun r s1 => ∃ u, r = some u ∧ wpAny (model X.prog X.w) X.A (letOwnedTupleGo (.Tuple elts k tpos) (.ref z) u) (fun _ s2 => ∃ x H', Inv X pins σ H' s2 ∧ RelV x u ∧
      (∃ T q1 q2 v1 v2, H T = none ∧ Qx v1 q1 ∧ Qy v2 q2 ∧ x = .ref T ∧ H' = upd H T (.tup [q1, q2])) ∧ tn s2.heap ∧ ∀ b ∈ [z, TI, TO, i1, i2], H' b = none) E s1) E s := by
  refine pyNext_zipD D D1 D2 hz hTI hTO h1 h2 l1 l2 fun x y h1' tk p1 p2 a1 a2 a3 a4 a5 a6 a7 => ⟨_, rfl, wpAny_letOwnedTupleGo_zip a1 fun h2' hz2 hs2 => ?_⟩
  replace hs2 : Heap.SameBut z h1' h2' := hs2
  obtain ⟨q1, r1, e1⟩ := y1 x p1
  obtain ⟨q2, r2, e2⟩ := y2 y p2
  have hzl : z < s.heap.objs.size := Heap.lt_size hz
  have hT2 : h2'.get? s.heap.objs.size = some { cls := .type "tuple", data := .seq #[x, y] } := (hs2.2 _ (Nat.ne_of_gt hzl)).trans a5
  have ob : ObjOk X.prog X.w (upd H s.heap.objs.size (.tup [q1, q2])) h2' s.heap.objs.size (.tup [q1, q2]) := ⟨(by show 2 ≤ sizeLine; decide), [x, y], .cons r1 (.cons r2 .nil), ⟨_, hT2, rfl, _, rfl⟩⟩
  have I2 : Inv X pins σ (upd H s.heap.objs.size (.tup [q1, q2])) { s with heap := h2', toks := tk } := I.turnedLaid hf (fun b u hb q => (hs2.2 b (fun z => hb (by simp [z]))).trans (a7 b u (fun z => hb (by simp [z])) (fun z => hb (by simp [z])) (fun z => hb (by simp [z])) (fun z => hb (by simp [z])) q)) (Nat.le_refl _) ob
  have up : ∀ c o, c ≠ z → h1'.get? c = some o → h2'.get? c = some o := fun c o hc e => (hs2.2 c hc).trans e
  refine ⟨.ref s.heap.objs.size, _, I2, rfl, ⟨s.heap.objs.size, q1, q2, x, y, I.hok.fresh (Nat.le_refl _), e1, e2, rfl, rfl⟩, tnk h2' x y hz2 (up _ _ D.TIz (a7 _ _ D.TIz D.TITO D.TIi1 D.TIi2 hTI)) (up _ _ D.TOz a2) (D1.frame _ _ _ a3 fun c hc o e => up c o (fun q => D.z1 (q ▸ hc)) e) (D2.frame _ _ _ a4 fun c hc o e => up c o (fun q => D.z2 (q ▸ hc)) e), fun b hb => ?_⟩
  have hlt : b < s.heap.objs.size := by
    simp only [List.mem_cons, List.not_mem_nil, or_false] at hb
    rcases hb with e | e | e | e | e
    · rw [e]; exact hzl
    · rw [e]; exact Heap.lt_size hTI
    · rw [e]; exact Heap.lt_size hTO
    · rw [e]; obtain ⟨_, q⟩ := D1.live _ _ h1; exact Heap.lt_size q
    · rw [e]; obtain ⟨_, q⟩ := D2.live _ _ h2; exact Heap.lt_size q
  rw [upd_ne (Nat.ne_of_lt hlt)]
  exact (hf b hb).1
end
section
variable {X : Cx} {a b : Expr} {ta : TA} {p pos : Pos} {elts : List Expr} {k : Nat} {tpos : Pos}
theorem fresh5 {pins : List (Addr × Obj)} {σ : St} {H : Hp} {s : Shared} (I : Inv X pins σ H s) : ∀ b ∈ [s.heap.objs.size + 4, s.heap.objs.size + 2, s.heap.objs.size + 3, s.heap.objs.size, s.heap.objs.size + 1], FpOk X pins H b := fun b hb => by
  have : s.heap.objs.size ≤ b := by
    simp only [List.mem_cons, List.not_mem_nil, or_false] at hb
    rcases hb with e | e | e | e | e <;> omega
  exact I.fpOk this (I.hok.fresh this)
theorem zap5 (n : Nat) : ZAp (n + 4) (n + 2) (n + 3) n (n + 1) [n] [n + 1] := by
  constructor <;> simp <;> omega
end
end L2

namespace L2
open PySem PySem.Spec PyProof.Rows
section
variable {σ : St} {H : Hp} {Q : VK} {K : PySem.W.Frag}
end
end L2
namespace BrS
open L2 PySem BrM BrC BrR

theorem brs_get {b : Nat} (h : b < 8) : brs[b]? = some (brs.getD b 0) := by
  match b, h with
  | 0, _ => rfl
  | 1, _ => rfl
  | 2, _ => rfl
  | 3, _ => rfl
  | 4, _ => rfl
  | 5, _ => rfl
  | 6, _ => rfl
  | 7, _ => rfl
theorem brs_evn : ∀ o, o < 4 → brs.getD (2 * o) 0 ∈ opn ∧ clo (brs.getD (2 * o) 0) = brs.getD (2 * o + 1) 0 ∧ brs.getD (2 * o + 1) 0 ∉ opn := by decide
theorem brs_ne : ∀ b, b < 8 → brs.getD b 0 ≠ 63 := by decide
theorem brs_sgn : ∀ k : Nat, k ≤ 4 → ∀ b, b < 2 * k → brs.getD b 0 ∈ sgn (k : Int) := by decide +kernel
def cl_ (st : List Nat) : List Nat := st.map fun o => brs.getD (2 * o + 1) 0
theorem Fi.run {k : Nat} {a : List Nat} (hk : k ≤ 4) : ∀ {bs : List Nat} {i : Nat} {st : List Nat}, (∀ o ∈ st, o < k) → Fi k a i st bs → run (cl_ st) (brt bs) = some []
  | [], i, st, hst, h => by
    obtain ⟨_, rfl⟩ := h
    rfl
  | b :: bs, i, st, hst, h => by
    obtain ⟨h1, h2, h3, h4⟩ := h
    have e : brt (b :: bs) = brs.getD b 0 :: brt bs := rfl
    rw [e]
    show (BrM.stp (cl_ st) (brs.getD b 0)).bind _ = _
    by_cases hev : b % 2 = 0
    · obtain ⟨q1, q2, q3⟩ := brs_evn (b / 2) (by omega)
      rw [show 2 * (b / 2) = b by omega] at q1 q2 q3
      rw [stp_open q1, q2]
      have es : stb st b = b / 2 :: st := by unfold stb; rw [if_pos hev]
      rw [es] at h4
      have := Fi.run hk (st := b / 2 :: st) (fun o ho => by
        rcases List.mem_cons.mp ho with z | z
        · omega
        · exact hst o z) h4
      have ec : cl_ (b / 2 :: st) = brs.getD (b + 1) 0 :: cl_ st := by
        show brs.getD (2 * (b / 2) + 1) 0 :: cl_ st = _
        rw [show 2 * (b / 2) = b by omega]
      rw [ec] at this
      exact this
    · obtain ⟨s', rfl⟩ := h3 (by omega)
      obtain ⟨q1, q2, q3⟩ := brs_evn (b / 2) (by omega)
      have eb : 2 * (b / 2) + 1 = b := by omega
      rw [eb] at q3
      have ec : cl_ (b / 2 :: s') = brs.getD b 0 :: cl_ s' := by
        show brs.getD (2 * (b / 2) + 1) 0 :: cl_ s' = _
        rw [eb]
      rw [ec, stp_close q3]
      have es : stb (b / 2 :: s') b = s' := by unfold stb; rw [if_neg hev]; rfl
      rw [es] at h4
      exact Fi.run hk (fun o ho => hst o (List.mem_cons_of_mem _ ho)) h4
theorem pw_one {k c b : Nat} (hk : k ≤ 4) (hb : b < 2 * k) (h : pw k c b = 1) : c = 63 ∨ c = brs.getD b 0 := by
  by_cases hc : c = 63
  · exact .inl hc
  · refine .inr ?_
    unfold pw plw at h
    rw [if_neg hc, List.getD_eq_getElem?_getD, List.getElem?_map, List.getElem?_take, if_pos (show b < (ones k).length by unfold ones; rw [List.length_replicate]; exact hb), brs_get (by omega)] at h
    have h : (if c = brs.getD b 0 then (1 : Int) else 0) = 1 := h
    split at h
    · assumption
    · cases h
theorem pa_pw {k : Nat} {a : List Nat} {i c : Nat} (h : a[i]? = some c) (b : Nat) : pa_ k a i b = pw k c b := by
  show ((a.map (plw (ones k))).getD i []).getD b 0 = _
  have e : (a.map (plw (ones k))).getD i [] = plw (ones k) c := by rw [List.getD_eq_getElem?_getD, List.getElem?_map, h]; rfl
  rw [e]; rfl

def Fll (k : Nat) : List Nat → List Nat → List Nat → Prop
  | [], st, [] => st = []
  | c :: r, st, b :: bs => b < 2 * k ∧ pw k c b = 1 ∧ (b % 2 = 1 → ∃ s', st = b / 2 :: s') ∧ Fll k r (stb st b) bs
  | _, _, _ => False
theorem Fi.l {k : Nat} {a : List Nat} : ∀ {bs : List Nat} {i : Nat} {st : List Nat}, Fi k a i st bs → Fll k (a.drop i) st bs
  | [], i, st, h => by
    obtain ⟨rfl, rfl⟩ := h
    rw [List.drop_length]
    rfl
  | b :: bs, i, st, h => by
    have hi : i < a.length := by have := h.len; rw [List.length_cons] at this; omega
    obtain ⟨h1, h2, h3, h4⟩ := h
    rw [List.drop_eq_getElem_cons hi]
    rw [pa_pw (List.getElem?_eq_getElem hi)] at h2
    exact ⟨h1, h2, h3, Fi.l h4⟩
theorem Fll.fl {k : Nat} {a : List Nat} : ∀ {bs : List Nat} {i : Nat} {st : List Nat}, i ≤ a.length → Fll k (a.drop i) st bs → Fi k a i st bs
  | [], i, st, hi, h => by
    cases e : a.drop i with
    | nil =>
      rw [e] at h
      have := List.drop_eq_nil_iff.mp e
      exact ⟨by omega, h⟩
    | cons c r => rw [e] at h; exact h.elim
  | b :: bs, i, st, hi, h => by
    by_cases hi' : i < a.length
    · rw [List.drop_eq_getElem_cons hi'] at h
      obtain ⟨h1, h2, h3, h4⟩ := h
      exact ⟨h1, by rw [pa_pw (List.getElem?_eq_getElem hi')]; exact h2, h3, Fll.fl hi' h4⟩
    · rw [List.drop_eq_nil_iff.mpr (by omega)] at h
      exact h.elim
theorem Fll.len {k : Nat} : ∀ {a st bs : List Nat}, Fll k a st bs → bs.length = a.length
  | [], _, [], _ => rfl
  | c :: r, st, b :: bs, h => by rw [List.length_cons, List.length_cons, Fll.len h.2.2.2]
  | [], _, _ :: _, h => h.elim
  | _ :: _, _, [], h => h.elim
theorem Fll.at {k : Nat} : ∀ {a st bs : List Nat}, Fll k a st bs → ∀ {i c b : Nat}, a[i]? = some c → bs[i]? = some b → b < 2 * k ∧ pw k c b = 1
  | c :: r, st, b :: bs, h, 0, c', b', h1, h2 => by
    obtain rfl : c = c' := Option.some.inj h1
    obtain rfl : b = b' := Option.some.inj h2
    exact ⟨h.1, h.2.1⟩
  | c :: r, st, b :: bs, h, i + 1, c', b', h1, h2 => Fll.at h.2.2.2 (i := i) h1 h2
  | [], _, _, _, i, _, _, h1, _ => by simp at h1
  | _ :: _, _, [], _, i, _, _, _, h2 => by simp at h2
def exk (p q o : Nat) : Nat := if o = p then q else if o = q then p else o
def exb (p q b : Nat) : Nat := 2 * exk p q (b / 2) + b % 2
def exc (p q c : Nat) : Nat := if c = 63 then 63 else brs.getD (exb p q (fnd brs c).toNat) 0
theorem exk_lt {p q o k : Nat} (hp : p < k) (hq : q < k) (ho : o < k) : exk p q o < k := by unfold exk; split; exact hq; split; exact hp; exact ho
theorem exb_lt {p q b k : Nat} (hp : p < k) (hq : q < k) (hb : b < 2 * k) : exb p q b < 2 * k := by
  have := exk_lt hp hq (show b / 2 < k by omega)
  unfold exb
  omega
theorem exb_half (p q b : Nat) : exb p q b / 2 = exk p q (b / 2) := by unfold exb; omega
theorem exb_mod (p q b : Nat) : exb p q b % 2 = b % 2 := by unfold exb; omega
theorem exc_brs {p q b : Nat} (h : b < 8) : exc p q (brs.getD b 0) = brs.getD (exb p q b) 0 := by
  unfold exc
  rw [if_neg (brs_ne b h), fnd_brs b h, Int.toNat_natCast]
theorem Fll.ex {p q k : Nat} (hk : k ≤ 4) (hp : p < k) (hq : q < k) : ∀ {a st bs : List Nat}, Fll k a st bs → Fll k (a.map (exc p q)) (st.map (exk p q)) (bs.map (exb p q))
  | [], st, [], h => by
    have h : st = [] := h
    subst h
    rfl
  | c :: r, st, b :: bs, h => by
    obtain ⟨h1, h2, h3, h4⟩ := h
    have hb' := exb_lt hp hq h1
    have es : stb (st.map (exk p q)) (exb p q b) = (stb st b).map (exk p q) := by
      unfold stb
      rw [exb_mod, exb_half]
      split
      · rfl
      · rw [List.map_tail]
    refine ⟨hb', ?_, fun ho => ?_, ?_⟩
    · rcases pw_one hk h1 h2 with rfl | rfl
      · exact pw_unk hb'
      · show pw k (exc p q (brs.getD b 0)) _ = 1
        rw [exc_brs (by omega), pw_at hb' (by omega) (brs_get (by omega)), if_pos rfl]
    · rw [exb_mod] at ho
      obtain ⟨s', rfl⟩ := h3 ho
      exact ⟨s'.map (exk p q), by rw [exb_half]; rfl⟩
    · rw [es]
      exact Fll.ex hk hp hq h4
  | [], _, _ :: _, h => h.elim
  | _ :: _, _, [], h => h.elim
end BrS
namespace BrS
open L2 PySem BrM BrC BrR
theorem Fll.lt {k : Nat} : ∀ {a st bs : List Nat}, Fll k a st bs → ∀ b ∈ bs, b < 2 * k
  | [], _, [], _, _, hb => nomatch hb
  | c :: r, st, b :: bs, h, x, hx => by
    rcases List.mem_cons.mp hx with z | z
    · rw [z]; exact h.1
    · exact Fll.lt h.2.2.2 x z
  | [], _, _ :: _, h, _, _ => h.elim
  | _ :: _, _, [], h, _, _ => h.elim
theorem isRow_brt {k : Nat} {bs : List Nat} (hk : k ≤ 4) (hl : bs.length ≤ 40) (h : ∀ b ∈ bs, b < 2 * k) : isRow (k : Int) (brt bs) = true := by
  unfold isRow brt
  rw [Bool.and_eq_true, List.length_map]
  refine ⟨decide_eq_true hl, ?_⟩
  rw [List.all_eq_true]
  intro c hc
  obtain ⟨b, hb, rfl⟩ := List.mem_map.mp hc
  exact decide_eq_true (brs_sgn k hk b (h b hb))
end BrS
namespace BrS
open L2 PySem BrM BrC BrR
end BrS
namespace BrS
open L2 PySem BrM BrC BrR
end BrS
namespace L2
open PySem PySem.Spec PyProof.Rows
section
variable {σ : St} {H : Hp} {Q : VK} {K : PySem.W.Frag}

theorem yes_lst {a : Addr} {xs : List V} {own : List Str} {sel : List Nat} {g : TG} {te : TE} (hn : xs.length ≤ sizeLine) (ha : H a = some (.lst xs)) (Iv : Nat → List V → Prop) (h0 : Iv 0 [])
    (hst : ∀ D ys H', H D = none → H' D = some (.lst ys) → ys.length = xs.length → Same H H' → Iv xs.length ys → Q (.ref D) H')
    (hs : ∀ (i : Nat) (x : V) (ys : List V) (H' : Hp) (R : V → Hp → Prop), xs[i]? = some x → ys.length = i → Same H H' → Iv i ys → (∀ v H6, Same H' H6 → Iv (i + 1) (ys ++ [v]) → R v H6) → g x (inSt own sel σ) H' fun σ4 H4 => te σ4 H4 R) : CompW (Itl K a) own sel σ g tYes te Q H := by
  refine comp_yes (fun i => xs.getD i .non) hn (fun _ i ys _ => Iv i ys) (fun i H' hi sH => ⟨_, xs[i], SqL.of (sH _ _ ha), List.getElem?_eq_getElem hi⟩) (fun H' sH => ⟨_, SqL.of (sH _ _ ha), Nat.le_refl _⟩) (fun i H1 x H' hi sH y => ?_)
    (fun _ _ => h0) (fun _ _ _ _ _ _ e _ => e) (fun D ys H' hD hy hl sH e => hst D ys H' hD hy hl sH e)
    (fun D i ys H' R hD hi hy hl sH e r => ?_)
  · obtain ⟨rfl, hx⟩ := y
    have := hx _ (SqL.of (sH _ _ ha))
    exact ⟨rfl, by rw [List.getD_eq_getElem?_getD, this]; rfl⟩
  · have ec : xs[i]? = some xs[i] := List.getElem?_eq_getElem hi
    have eg : xs.getD i .non = xs[i] := by rw [List.getD_eq_getElem?_getD, ec]; rfl
    rw [eg]
    exact hs i xs[i] ys H' R ec hl sH e r
end
end L2
namespace L2
open PySem
end L2

namespace BrS
open L2 PySem BrM BrC BrR

def filB (k : Int) (a b : List Nat) : Bool := isRow k b && decide (b.length = a.length) && decide (Rt b) && (List.range a.length).all fun i => decide (a.getD i 0 = 63) || decide (a.getD i 0 = b.getD i 0)
theorem Fi.filB {k : Nat} {a bs : List Nat} (hk : k ≤ 4) (hl : a.length ≤ 40) (hf : Fi k a 0 [] bs) : filB (k : Int) a (brt bs) = true := by
  have hbl := hf.len
  have hbt : (brt bs).length = bs.length := by unfold brt; rw [List.length_map]
  have hll := hf.l
  rw [List.drop_zero] at hll
  have hrt : Rt (brt bs) := hf.run hk (by simp)
  unfold BrS.filB
  rw [isRow_brt hk (by omega) hll.lt, decide_eq_true (show (brt bs).length = a.length by omega), decide_eq_true hrt, Bool.true_and, Bool.true_and, Bool.true_and, List.all_eq_true]
  intro i hi
  have hi := List.mem_range.mp hi
  have e1 : a[i]? = some (a.getD i 0) := by rw [List.getD_eq_getElem?_getD, List.getElem?_eq_getElem hi]; rfl
  have e2 : bs[i]? = some (bs.getD i 0) := by rw [List.getD_eq_getElem?_getD, List.getElem?_eq_getElem (show i < bs.length by omega)]; rfl
  have e3 : (brt bs).getD i 0 = brs.getD (bs.getD i 0) 0 := by unfold brt; rw [List.getD_eq_getElem?_getD, List.getElem?_map, e2]; rfl
  obtain ⟨q1, q2⟩ := hll.at e1 e2
  rw [e3, Bool.or_eq_true]
  rcases pw_one hk q1 q2 with z | z
  · exact .inl (decide_eq_true z)
  · exact .inr (decide_eq_true z)

def NoF (K : PySem.W.Frag) (k : Int) (a : List Nat) (H : Hp) (v : V) : Prop := (∃ b, v = tx b ∧ b.length ≤ 1000 ∧ filB k a b = false) ∨ ∃ ty, TyOf K H v (.type ty) ∧ ty ∈ plainTy ∧ ty ≠ "str"
theorem NoF.keep {K : PySem.W.Frag} {k : Int} {a : List Nat} {p : Addr} {n m : Nat} {H H' : Hp} {v : V} (h : NoF K k a H v) (d : Dt p n m H v) (s : SameBut1 p H H') : NoF K k a H' v := h.elim .inl fun ⟨ty, a, b⟩ => .inr ⟨ty, a.keep d.ne s, b⟩
end BrS

namespace BrB
open BrM BrC


def cl : List Nat → Nat → Option (List Nat)
  | [], _ => none
  | p :: s, q => if p = q then some s else none
theorem cl_cons (p : Nat) (s : List Nat) (q : Nat) : cl (p :: s) q = if p = q then some s else none := rfl
def nx (k : Nat) (st : List Nat) (b : Nat) : Option (List Nat) := if b < 2 * k then (if b % 2 = 0 then some (b / 2 :: st) else cl st (b / 2)) else none
def go (k : Nat) : List Nat → List Nat → Option (List Nat)
  | st, [] => some st
  | st, b :: r => (nx k st b).bind fun s => go k s r
theorem go_nil {k : Nat} (st : List Nat) : go k st [] = some st := by rw [go]
theorem go_cons {k : Nat} (st : List Nat) (b : Nat) (r : List Nat) : go k st (b :: r) = (nx k st b).bind fun s => go k s r := by rw [go]
theorem nx_some {k : Nat} {st s : List Nat} {b : Nat} (h : nx k st b = some s) : b < 2 * k ∧ ((b % 2 = 0 ∧ s = b / 2 :: st) ∨ (b % 2 = 1 ∧ st = b / 2 :: s)) := by
  unfold nx at h
  by_cases h1 : b < 2 * k
  · rw [if_pos h1] at h
    by_cases h2 : b % 2 = 0
    · rw [if_pos h2] at h; cases h; exact ⟨h1, .inl ⟨h2, rfl⟩⟩
    · rw [if_neg h2] at h
      cases st with
      | nil => cases h
      | cons p q =>
        rw [cl_cons] at h
        by_cases h3 : p = b / 2
        · rw [if_pos h3] at h; cases h; exact ⟨h1, .inr ⟨by omega, by rw [h3]⟩⟩
        · rw [if_neg h3] at h; cases h
  · rw [if_neg h1] at h; cases h
theorem nx_open {k p : Nat} (st : List Nat) (h : p < k) : nx k st (2 * p) = some (p :: st) := by
  unfold nx; rw [if_pos (by omega), if_pos (by omega), show 2 * p / 2 = p by omega]
theorem nx_close {k p : Nat} (st : List Nat) (h : p < k) : nx k (p :: st) (2 * p + 1) = some st := by
  unfold nx; rw [if_pos (by omega), if_neg (by omega), show (2 * p + 1) / 2 = p by omega]
  rw [cl_cons, if_pos rfl]
theorem nx_of {k : Nat} {st s : List Nat} {b : Nat} (h1 : b < 2 * k) (h : (b % 2 = 0 ∧ s = b / 2 :: st) ∨ (b % 2 = 1 ∧ st = b / 2 :: s)) : nx k st b = some s := by
  rcases h with ⟨h2, rfl⟩ | ⟨h2, rfl⟩
  · unfold nx; rw [if_pos h1, if_pos h2]
  · unfold nx; rw [if_pos h1, if_neg (by omega)]; rw [cl_cons, if_pos rfl]
def Rg (k : Nat) (l : List Nat) : Prop := go k [] l = some []
theorem go_open {k p : Nat} (st r : List Nat) (h : p < k) : go k st (2 * p :: r) = go k (p :: st) r := by rw [go_cons, nx_open st h]; rfl
theorem go_close {k p : Nat} (st r : List Nat) (h : p < k) : go k (p :: st) ((2 * p + 1) :: r) = go k st r := by rw [go_cons, nx_close st h]; rfl
theorem go_app {k : Nat} : ∀ (l r st : List Nat), go k st (l ++ r) = (go k st l).bind fun s => go k s r
  | [], r, st => by rw [List.nil_append, go_nil]; rfl
  | b :: l, r, st => by
    rw [List.cons_append, go_cons, go_cons]
    cases nx k st b with
    | none => rfl
    | some s => exact go_app l r s
theorem nx_up {k : Nat} {st s : List Nat} {b : Nat} (more : List Nat) (h : nx k st b = some s) : nx k (st ++ more) b = some (s ++ more) := by
  obtain ⟨h1, h2⟩ := nx_some h
  refine nx_of h1 (h2.imp (fun ⟨a, e⟩ => ⟨a, by rw [e]; rfl⟩) fun ⟨a, e⟩ => ⟨a, by rw [e]; rfl⟩)
theorem go_up {k : Nat} : ∀ (l st s more : List Nat), go k st l = some s → go k (st ++ more) l = some (s ++ more)
  | [], st, s, more, h => by rw [go_nil] at h ⊢; cases h; rfl
  | b :: l, st, s, more, h => by
    rw [go_cons] at h ⊢
    obtain ⟨s1, h1, h2⟩ := Option.bind_eq_some_iff.mp h
    rw [nx_up more h1]
    exact go_up l s1 s more h2
theorem go_len {k : Nat} : ∀ (l st s : List Nat), go k st l = some s → st.length ≤ s.length + l.length ∧ (st.length + s.length + l.length) % 2 = 0
  | [], st, s, h => by rw [go_nil] at h; cases h; simp; omega
  | b :: l, st, s, h => by
    rw [go_cons] at h
    obtain ⟨s1, h1, h2⟩ := Option.bind_eq_some_iff.mp h
    have := go_len l _ _ h2
    obtain ⟨hb, ⟨h3, rfl⟩ | ⟨h3, rfl⟩⟩ := nx_some h1
    · simp only [List.length_cons] at this ⊢; omega
    · simp only [List.length_cons] at this ⊢; omega
theorem lt_tri (a b : List Nat) : a < b ∨ a = b ∨ b < a := by
  by_cases h : a < b
  · exact .inl h
  · by_cases h2 : b < a
    · exact .inr (.inr h2)
    · exact .inr (.inl (List.le_antisymm (List.not_lt.mp h2) (List.not_lt.mp h)))
theorem nlt_trans {a b c : List Nat} (h1 : ¬ b < a) (h2 : ¬ c < b) : ¬ c < a := fun h => by
  rcases lt_tri b c with z | z | z
  · exact h1 (List.lt_trans z h)
  · exact h1 (z ▸ h)
  · exact h2 z

abbrev O := Option (Int × List Nat)
def lik : O → O → O
  | none, b => b
  | some a, none => some a
  | some (x, l), some (y, m) => if x = y then (if l < m then some (x, l) else some (y, m)) else if x > y then some (x, l) else some (y, m)
def Best (S : List Nat → Prop) (f : List Nat → Int) : O → Prop
  | none => ∀ l, S l → f l ≤ 0
  | some (w, l) => S l ∧ f l = w ∧ 0 < w ∧ ∀ m, S m → f m < w ∨ (f m = w ∧ ¬ m < l)
theorem Best.un {S S' : List Nat → Prop} {f : List Nat → Int} : ∀ {a b : O}, Best S f a → Best S' f b → Best (fun l => S l ∨ S' l) f (lik a b)
  | none, none, h, g => fun l hl => hl.elim (h l) (g l)
  | none, some (v, m), h, ⟨g1, g2, g3, g4⟩ => ⟨.inr g1, g2, g3, fun x hx => hx.elim (fun z => .inl (by have := h x z; omega)) (g4 x)⟩
  | some (w, l), none, ⟨h1, h2, h3, h4⟩, g => ⟨.inl h1, h2, h3, fun x hx => hx.elim (h4 x) (fun z => .inl (by have := g x z; omega))⟩
  | some (w, l), some (v, m), ⟨h1, h2, h3, h4⟩, ⟨g1, g2, g3, g4⟩ => by
    show Best _ f (if w = v then (if l < m then some (w, l) else some (v, m)) else if w > v then some (w, l) else some (v, m))
    by_cases e : w = v
    · subst e
      rw [if_pos rfl]
      by_cases e2 : l < m
      · rw [if_pos e2]
        refine ⟨.inl h1, h2, h3, fun x hx => hx.elim (h4 x) fun z => (g4 x z).imp id fun ⟨a, b⟩ => ⟨a, nlt_trans (fun t => List.lt_irrefl _ (List.lt_trans t e2)) b⟩⟩
      · rw [if_neg e2]
        refine ⟨.inr g1, g2, g3, fun x hx => hx.elim (fun z => (h4 x z).imp id fun ⟨a, b⟩ => ⟨a, nlt_trans e2 b⟩) (g4 x)⟩
    · rw [if_neg e]
      by_cases e2 : w > v
      · rw [if_pos e2]
        exact ⟨.inl h1, h2, h3, fun x hx => hx.elim (h4 x) fun z => .inl (by rcases g4 x z with y | ⟨y, _⟩ <;> omega)⟩
      · rw [if_neg e2]
        exact ⟨.inr g1, g2, g3, fun x hx => hx.elim (fun z => .inl (by rcases h4 x z with y | ⟨y, _⟩ <;> omega)) (g4 x)⟩
theorem Best.pos {S : List Nat → Prop} {f : List Nat → Int} {w : Int} {l : List Nat} (h : Best S f (some (w, l))) : 0 < w := h.2.2.1

def Dn (k s t : Nat) (l : List Nat) : Prop := Rg k l ∧ s + l.length = t

def Sq (k s q t : Nat) (l : List Nat) : Prop := ∃ j p u v, j < q ∧ p < k ∧ l = 2 * p :: (u ++ (2 * p + 1) :: v) ∧ Rg k u ∧ u.length = 2 * j ∧ Rg k v ∧ s + 2 + 2 * j + v.length = t
def Nw (k s q t : Nat) (l : List Nat) : Prop := ∃ p u v, p < k ∧ l = 2 * p :: (u ++ (2 * p + 1) :: v) ∧ Rg k u ∧ u.length = 2 * q ∧ Rg k v ∧ s + 2 + 2 * q + v.length = t
theorem Sq.zero (k s t : Nat) (l : List Nat) : ¬ Sq k s 0 t l := fun ⟨j, _, _, _, h, _⟩ => absurd h (Nat.not_lt_zero _)
theorem Sq.len {k s q t : Nat} {l : List Nat} (h : Sq k s q t l) : s + l.length = t := by
  obtain ⟨j, p, u, v, _, _, rfl, _, hu, _, e⟩ := h
  simp only [List.length_cons, List.length_append]; omega
theorem Nw.len {k s q t : Nat} {l : List Nat} (h : Nw k s q t l) : s + l.length = t := by
  obtain ⟨p, u, v, _, rfl, _, hu, _, e⟩ := h
  simp only [List.length_cons, List.length_append]; omega
theorem Dn.nil (k s : Nat) (l : List Nat) : Dn k s s l ↔ l = [] := by
  constructor
  · rintro ⟨_, e⟩; exact List.eq_nil_of_length_eq_zero (by omega)
  · rintro rfl; exact ⟨by unfold Rg; rw [go_nil], rfl⟩

end BrB

namespace PySem.SeqAt
open AutoSeq1 (wpAny_loadPart')
open MeetsSeq MeetsSeq2 MeetsSeq3 SeqRoads2
section
variable {prog : Program} {w : World} {A : Around} {E : Value → Shared → Prop} {s : Shared}
end
end PySem.SeqAt
namespace L2
open PySem PySem.Spec PyProof.Rows

abbrev nL (bs : List Nat) : List V := bs.map fun b : Nat => V.int (b : Int)

end L2

namespace L2
open PySem PySem.Spec PyProof.Rows
section
variable {X : Cx}

end
end L2
namespace BrS
open L2 PySem BrM BrC BrB

def Bt (F : Addr → Prop) (H : Hp) (v : V) : O → Prop
  | none => v = .non
  | some (w, l) => ∃ T a, v = .ref T ∧ F T ∧ F a ∧ H T = some (.tup [.int w, .ref a]) ∧ H a = some (.lst (nL l))
theorem Bt.keep {F : Addr → Prop} {H H' : Hp} {v : V} {o : O} (h : Bt F H v o) (k : ∀ b x, F b → H b = some x → H' b = some x) : Bt F H' v o := by
  match o, h with
  | none, h => exact h
  | some (w, l), ⟨T, a, e, f1, f2, g1, g2⟩ => exact ⟨T, a, e, f1, f2, k _ _ f1 g1, k _ _ f2 g2⟩
theorem Bt.imp {F G : Addr → Prop} {H : Hp} {v : V} {o : O} (h : Bt F H v o) (k : ∀ b x, F b → H b = some x → G b) : Bt G H v o := by
  match o, h with
  | none, h => exact h
  | some (w, l), ⟨T, a, e, f1, f2, g1, g2⟩ => exact ⟨T, a, e, k _ _ f1 g1, k _ _ f2 g2, g1, g2⟩
def rwv (n : Nat) (f : Nat → V) : List V := (List.range (n + 1)).map f
theorem rwv_set {n j : Nat} {f : Nat → V} {v : V} : (rwv n f).set j v = rwv n (fun x => if x = j then v else f x) := by
  apply List.ext_getElem?
  intro i
  unfold rwv
  rw [List.getElem?_set, List.getElem?_map, List.getElem?_map]
  by_cases e : j = i
  · subst e
    by_cases hj : j < n + 1
    · rw [List.getElem?_range hj]; simp [hj]
    · rw [if_pos rfl, if_neg (by simpa using hj)]
      rw [List.getElem?_eq_none (by simpa using hj)]; rfl
  · rw [if_neg e]
    by_cases hi : i < n + 1
    · rw [List.getElem?_range hi]; simp [Ne.symm e]
    · rw [List.getElem?_eq_none (by simpa using hi)]; rfl

structure Tv (H0 H1 H : Hp) (s : Addr) (ad : Nat → Addr) (n : Nat) (T : Nat → Nat → V) : Prop where
  fs : H0 s = none
  fa : ∀ i, i ≤ n → H0 (ad i) = none
  ns : ∀ i, i ≤ n → ad i ≠ s
  inj : ∀ i j, i ≤ n → j ≤ n → ad i = ad j → i = j
  old : ∀ i, i ≤ n → H1 (ad i) ≠ none
  top : H s = some (.lst ((List.range (n + 1)).map fun i => V.ref (ad i)))
  row : ∀ i, i ≤ n → H (ad i) = some (.lst (rwv n (T i)))
  sm : Same H0 H
  gr : ∀ b, H b = none → H1 b = none
section
variable {H0 H1 H H' : Hp} {s : Addr} {ad : Nat → Addr} {n : Nat} {T T' : Nat → Nat → V}
theorem Tv.at (t : Tv H0 H1 H s ad n T) {i : Nat} (hi : i ≤ n) : ((List.range (n + 1)).map fun i => V.ref (ad i))[i]? = some (.ref (ad i)) := by
  rw [List.getElem?_map, List.getElem?_range (by omega)]; rfl
theorem Tv.set (t : Tv H0 H1 H s ad n T) {i j : Nat} {v : V} (hi : i ≤ n) : Tv H0 H1 (upd H (ad i) (.lst ((rwv n (T i)).set j v))) s ad n (fun a b => if a = i then (if b = j then v else T a b) else T a b) := by
  refine ⟨t.fs, t.fa, t.ns, t.inj, t.old, by rw [upd_ne (Ne.symm (t.ns i hi))]; exact t.top, fun a ha => ?_, fun b o z => ?_, fun b z => ?_⟩
  · by_cases e : a = i
    · subst e
      rw [upd_same, rwv_set]
      simp
    · rw [upd_ne (fun z => e (t.inj a i ha hi z)), t.row a ha]
      simp [e]
  · rw [upd_ne (ne_of_none z (t.fa i hi))]; exact t.sm b o z
  · by_cases e : b = ad i
    · subst e; rw [upd_same] at z; cases z
    · rw [upd_ne e] at z; exact t.gr b z
theorem Tv.keep (t : Tv H0 H1 H s ad n T) {i : Nat} (hi : i ≤ n) {o : HO} (b : Addr) (x : HO) (f : H1 b = none) (z : H b = some x) : (upd H (ad i) o) b = some x := by
  have ne : b ≠ ad i := fun e => t.old i hi (by rw [← e]; exact f)
  rw [upd_ne ne]; exact z
end
end BrS

namespace PySem
open Sem (wp)
abbrev lit (l : Addr) : Obj := { cls := .type "list_iterator", data := .fields #[.ref l, .int 0 0] }
end PySem

namespace L2
open PySem PySem.Spec PyProof.Rows

section
variable {P : Program} {w : World} {K : PySem.W.Frag} {elts : List Expr} {k : Nat} {tpos : Pos}
end
section
variable {X : Cx} {a b : Expr} {ta : TA} {p pos : Pos} {elts : List Expr} {k : Nat} {tpos : Pos}
end
end L2

namespace BrB
open BrM BrC BrS

abbrev Fe := List Nat × List Nat
theorem go_take {k : Nat} {l : List Nat} (h : Rg k l) (j : Nat) : ∃ s, go k [] (l.take j) = some s ∧ go k s (l.drop j) = some [] := by
  unfold Rg at h
  rw [← List.take_append_drop j l, go_app] at h
  obtain ⟨s, h1, h2⟩ := Option.bind_eq_some_iff.mp h
  exact ⟨s, h1, h2⟩
end BrB

namespace BrS
open L2 PySem BrM BrC BrB BrR

def Fs (fu : Addr) (H : Hp) (vs : List V) (es : List Fe) : Prop := vs.length = es.length ∧ ∀ (i : Nat) (e : Fe), es[i]? = some e → ∃ T p s : Addr, vs[i]? = some (V.ref T) ∧ T ≠ fu ∧ p ≠ fu ∧ s ≠ fu ∧ H T = some (.tup [.ref p, .ref s]) ∧ H p = some (.lst (nL e.1)) ∧ H s = some (.lst (nL e.2.reverse))
theorem Fs.keep {fu : Addr} {H H' : Hp} {vs : List V} {es : List Fe} (h : Fs fu H vs es) (k : SameBut1 fu H H') : Fs fu H' vs es := ⟨h.1, fun i e he => by
  obtain ⟨T, p, s, a1, a2, a3, a4, a5, a6, a7⟩ := h.2 i e he
  exact ⟨T, p, s, a1, a2, a3, a4, k _ _ a5 a2, k _ _ a6 a3, k _ _ a7 a4⟩⟩
theorem Fs.nil (fu : Addr) (H : Hp) : Fs fu H [] [] := ⟨rfl, fun i e he => by simp at he⟩
end BrS
namespace L2
open PySem PySem.Spec PyProof.Rows
section
variable {σ : St} {H : Hp} {Q : VK} {K : PySem.W.Frag}

theorem compL {a : Addr} {xs : List V} {own : List Str} {sel : List Nat} {g : TG} {tt : TT} {te : TE} (Pv : Addr → Nat → List V → Hp → Prop) (ht : ∀ D i ys H', Pv D i ys H' → H' a = some (.lst xs)) (h0 : ∀ D, H D = none → Pv D 0 [] (upd H D (.lst [])))
    (hst : ∀ D ys H', H D = none → H' D = some (.lst ys) → Pv D xs.length ys H' → Q (.ref D) H')
    (hs : ∀ D i x ys H', H D = none → xs[i]? = some x → i < xs.length → H' D = some (.lst ys) → ys.length ≤ i → Pv D i ys H' → g x (inSt own sel σ) H' fun σ4 H4 => tt σ4 H4 fun b H5 =>
      if b = true then te σ4 H5 fun v H6 => ∃ ys, H6 D = some (.lst ys) ∧ ys.length < sizeLine ∧ ∃ m', m' < xs.length - i ∧ CW D xs.length (Pv D) (i + 1) m' (upd H6 D (.lst (ys ++ [v])))
      else ∃ m', m' < xs.length - i ∧ CW D xs.length (Pv D) (i + 1) m' H5) : CompW (Itl K a) own sel σ g tt te Q H := by
  refine comp_of (n := xs.length) Pv h0 (fun D i ys H' hD hi hy p => ⟨xs, xs[i], SqL.of (ht _ _ _ _ p), List.getElem?_eq_getElem hi⟩) (fun D ys H' hD hy hl p => ⟨⟨_, SqL.of (ht _ _ _ _ p), Nat.le_refl _⟩, hst D ys H' hD hy p⟩) ?_
  rintro D i ys H' x H3 hD hi hy hl p ⟨rfl, hx⟩
  exact hs D i x ys H3 hD (hx _ (SqL.of (ht _ _ _ _ p))) hi hy hl p
end
end L2
namespace BrS
open L2 PySem BrM BrC BrB BrR
end BrS
namespace BrS
open L2 PySem PyProof.Rows BrM BrC BrB BrR
end BrS

namespace BrB
open BrM BrC BrS

def sms (L : List Int) : Int := L.foldr (· + ·) 0
end BrB
namespace BrB
open BrM BrC BrS
theorem Best.ext {S S' : List Nat → Prop} {f : List Nat → Int} {o : O} (h : Best S f o) (h1 : ∀ l, S l → S' l) (h2 : ∀ l, S' l → S l ∨ f l ≤ 0) : Best S' f o := by
  match o, h with
  | none, h => exact fun l hl => (h2 l hl).elim (h l) id
  | some (w, l), ⟨a, b, c, d⟩ => exact ⟨h1 l a, b, c, fun m hm => (h2 m hm).elim (d m) fun z => .inl (by omega)⟩
end BrB
namespace BrS
open L2 PySem PySem.Spec PyProof.Rows BrM BrC BrB BrR

end BrS

namespace BrI
open BrM BrC BrS

section
variable {P : Nat → Nat → Int} {k n : Nat}
theorem tb_self (i : Nat) : tbl P k i i = 1 := by unfold tbl; rw [if_pos (Nat.le_refl _), Nat.sub_self]; rfl
theorem tb_gt {i j : Nat} (h : j < i) : tbl P k i j = 0 := by unfold tbl; rw [if_neg (by omega)]
def Of (P : Nat → Nat → Int) (k n : Nat) : Nat → Nat → Nat → Int
  | 0, _, _ => 0
  | f + 1, t, j => (if j = n then tbl P k 0 t else 0) + sm n (fun u => tbl P k (u + 1) t * (pr P k u j * sm (n + 1) (fun s => Of P k n f u s * tbl P k (j + 1) s)))
theorem Of_next : ∀ (f t j : Nat), t < f → Of P k n f t j = Of P k n (f + 1) t j
  | 0, t, j, h => absurd h (Nat.not_lt_zero _)
  | f + 1, t, j, h => by
    rw [Of, Of.eq_def (n := n) (P := P) (k := k) (f + 1 + 1)]
    simp only
    congr 1
    refine sm_congr n fun u hu => ?_
    by_cases e : u < t
    · congr 2
      exact sm_congr (n + 1) fun s _ => by rw [Of_next f u s (by omega)]
    · rw [tb_gt (i := u + 1) (j := t) (by omega)]; simp
def Oo (P : Nat → Nat → Int) (k n t j : Nat) : Int := Of P k n (n + 1) t j

def out (P : Nat → Nat → Int) (k n u j : Nat) : Int := sm (n + 1) (fun s => Oo P k n u s * tbl P k (j + 1) s)
theorem Oo_eq {t j : Nat} (h : t ≤ n) : Oo P k n t j = (if j = n then tbl P k 0 t else 0) + sm n (fun u => tbl P k (u + 1) t * (pr P k u j * out P k n u j)) := by
  unfold Oo out
  rw [Of]
  congr 1
  refine sm_congr n fun u hu => ?_
  by_cases e : u < t
  · congr 2
    refine sm_congr (n + 1) fun s _ => ?_
    unfold Oo
    rw [Of_next n u s (by omega)]
  · rw [tb_gt (i := u + 1) (j := t) (by omega)]; simp
theorem Oo_zero (j : Nat) : Oo P k n 0 j = if j = n then 1 else 0 := by
  rw [Oo_eq (Nat.zero_le _), tb_self, sm_zero n fun u _ => by rw [tb_gt (i := u + 1) (j := 0) (by omega)]; simp]
  omega

end

section
variable {P P' : Nat → Nat → Int} {k n i : Nat}
end
end BrI
namespace BrI
open BrM BrC BrS
section
variable {P : Nat → Nat → Int} {k n : Nat} {c : Int}
end
end BrI

namespace BrS
open L2 PySem BrM BrC BrB BrI BrR

def prs (n : Nat) : List (Nat × Nat) := (List.range n).flatMap fun s => (List.range ((n - s) / 2)).map fun q => (s, s + 1 + 2 * q)
def rst (P : Nat → Nat → Int) (k n s e : Nat) : Int := tbl P k (s + 1) e * out P k n s e

def Fp (P : Nat → Nat → Int) (k n : Nat) (H : Hp) (vs : List V) (L : List (Nat × Nat)) : Prop := vs.length = L.length ∧ ∀ (m : Nat) (x : Nat × Nat), L[m]? = some x → ∃ T : Addr, vs[m]? = some (V.ref T) ∧ H T = some (.tup [.int x.1, .int x.2, .int (rst P k n x.1 x.2)])
theorem Fp.lst {P : Nat → Nat → Int} {k n : Nat} {H : Hp} {vs : List V} {L : List (Nat × Nat)} {a : Addr} {xs : List V} {o : HO} (h : Fp P k n H vs L) (ha : H a = some (.lst xs)) : Fp P k n (upd H a o) vs L := ⟨h.1, fun m x hx => by
  obtain ⟨T, e, b⟩ := h.2 m x hx
  exact ⟨T, e, by rw [upd_ne (ne_of b ha (fun z => by cases z))]; exact b⟩⟩
def ot (P : Nat → Nat → Int) (k n s q r i j : Nat) : Int :=
  if i ≤ s then Oo P k n i j else
    sm s (fun u => Oo P k n u j * (pr P k u (i - 1) * tbl P k (u + 1) (i - 1))) +
    (if s < i - 1 ∧ (i - 1 < s + 1 + 2 * q ∨ (i - 1 = s + 1 + 2 * q ∧ j < r)) then Oo P k n s j * (pr P k s (i - 1) * tbl P k (s + 1) (i - 1)) else 0) +
    (if i = s + 1 ∧ j < s + 1 + 2 * q then pr P k s j * out P k n s j else 0)
def OkT (P : Nat → Nat → Int) (k n s q r : Nat) (T : Nat → Nat → Int) : Prop := ∀ i j, i ≤ j → j ≤ n → (j - i) % 2 = 0 → T i j = ot P k n s q r i j
theorem OkT.zero {P : Nat → Nat → Int} {k n : Nat} {T : Nat → Nat → Int} (h : ∀ i j, T i j = if i = 0 ∧ j = n then 1 else 0) : OkT P k n 0 0 0 T := by
  intro i j h1 h2 h3
  rw [h]
  unfold ot
  by_cases e : i = 0
  · subst e
    rw [if_pos (Nat.le_refl _), Oo_zero]
    by_cases z : j = n
    · rw [if_pos ⟨rfl, z⟩, if_pos z]
    · rw [if_neg (fun w => z w.2), if_neg z]
  · rw [if_neg (fun w => e w.1), if_neg (by omega), if_neg (by omega), if_neg (by omega)]; rfl
theorem OkT.row {P : Nat → Nat → Int} {k n s q r j : Nat} {T : Nat → Nat → Int} (h : OkT P k n s q r T) (h1 : s ≤ j) (h2 : j ≤ n) (h3 : (j - s) % 2 = 0) : T s j = Oo P k n s j := by
  rw [h s j h1 h2 h3]; unfold ot; rw [if_pos (Nat.le_refl _)]
section
variable {ps : List (List Int)} {k n : Nat}
end
def rw2 (m : Nat) (f : Nat → Int) : List V := (List.range m).map fun j => V.int (f j)
theorem rw2_set {m j : Nat} {f : Nat → Int} {v : Int} : (rw2 m f).set j (.int v) = rw2 m (fun x => if x = j then v else f x) := by
  apply List.ext_getElem?
  intro i
  unfold rw2
  rw [List.getElem?_set, List.getElem?_map, List.getElem?_map]
  by_cases e : j = i
  · subst e
    by_cases hj : j < m
    · rw [List.getElem?_range hj]; simp [hj]
    · rw [if_pos rfl, if_neg (by simpa using hj)]
      rw [List.getElem?_eq_none (by simpa using hj)]; rfl
  · rw [if_neg e]
    by_cases hi : i < m
    · rw [List.getElem?_range hi]; simp [Ne.symm e]
    · rw [List.getElem?_eq_none (by simpa using hi)]; rfl
theorem rw2_congr {m : Nat} {f g : Nat → Int} (h : ∀ j, j < m → f j = g j) : rw2 m f = rw2 m g := by
  unfold rw2
  refine List.map_congr_left fun j hj => ?_
  rw [h j (List.mem_range.mp hj)]
structure Tw (H0 H : Hp) (s : Addr) (ad : Nat → Addr) (n m : Nat) (T : Nat → Nat → Int) : Prop where
  fs : H0 s = none
  fa : ∀ i, i < n → H0 (ad i) = none
  ns : ∀ i, i < n → ad i ≠ s
  inj : ∀ i j, i < n → j < n → ad i = ad j → i = j
  top : H s = some (.lst ((List.range n).map fun i => V.ref (ad i)))
  row : ∀ i, i < n → H (ad i) = some (.lst (rw2 m (T i)))
  sm : Same H0 H
section
variable {H0 H H' : Hp} {s : Addr} {ad : Nat → Addr} {n m : Nat} {T T' : Nat → Nat → Int}
theorem Tw.congr (t : Tw H0 H s ad n m T) (h : ∀ i j, i < n → j < m → T i j = T' i j) : Tw H0 H s ad n m T' := ⟨t.fs, t.fa, t.ns, t.inj, t.top, fun i hi => by rw [t.row i hi, rw2_congr fun j hj => h i j hi hj], t.sm⟩
theorem Tw.at (t : Tw H0 H s ad n m T) {i : Nat} (hi : i < n) : ((List.range n).map fun i => V.ref (ad i))[i]? = some (.ref (ad i)) := by
  rw [List.getElem?_map, List.getElem?_range hi]; rfl
theorem Tw.set (t : Tw H0 H s ad n m T) {i j : Nat} {v : Int} (hi : i < n) : Tw H0 (upd H (ad i) (.lst ((rw2 m (T i)).set j (.int v)))) s ad n m (fun a b => if a = i ∧ b = j then v else T a b) := by
  refine ⟨t.fs, t.fa, t.ns, t.inj, by rw [upd_ne (Ne.symm (t.ns i hi))]; exact t.top, fun a ha => ?_, fun b o z => ?_⟩
  · by_cases e : a = i
    · subst e
      rw [upd_same, rw2_set]
      congr 2
      refine rw2_congr fun x _ => ?_
      by_cases q : x = j <;> simp [q]
    · rw [upd_ne (fun z => e (t.inj a i ha hi z)), t.row a ha]
      congr 2
      refine rw2_congr fun x _ => ?_
      simp [e]
  · rw [upd_ne (ne_of_none z (t.fa i hi))]; exact t.sm b o z
end

def ga (P : Nat → Nat → Int) (k n i b : Nat) (x : Nat × Nat) : Int :=
  if b % 2 = 0 then (if x.1 = i then P x.1 b * P x.2 (b + 1) * rst P k n x.1 x.2 else 0) else (if x.2 = i then P x.1 (b - 1) * P x.2 b * rst P k n x.1 x.2 else 0)
section
variable {K : PySem.W.Frag} {σ : St} {H : Hp} {Q : VK}
end
def gp (P : Nat → Nat → Int) (k n m o i b : Nat) (x : Nat × Nat) : Int := sms (((prs n).take m).map (ga P k n i b)) + (if b / 2 < o then ga P k n i b x else 0)
end BrS

namespace PySem
open Sem (wp)
abbrev zm2 (h : Heap) (x l : Addr) : Heap := (h.push (lit x)).push (lit l)
abbrev zm3 (h : Heap) (x l : Addr) : Heap := (zm2 h x l).push { cls := .type "tuple", data := .seq #[.ref h.objs.size, .ref (h.push (lit x)).objs.size] }
abbrev zm4 (h : Heap) (x l : Addr) : Heap := (zm3 h x l).push { cls := .type "tuple", data := .seq #[.none, .none] }
abbrev zm5 (h : Heap) (x l : Addr) : Heap := (zm4 h x l).push { cls := .type "zip", data := .fields #[.none, .bool false, .bool false, .ref (zm2 h x l).objs.size, .ref (zm3 h x l).objs.size] }
theorem meets_zip_newM (x l : Addr) {items items2 : Array Value} {n n2 : Nat} (lo lo2 : Obj) (hlo : lo = { cls := .type "list", data := .seq items n }) (hlo2 : lo2 = { cls := .type "list", data := .seq items2 n2 }) :
    Meets (Builtin.«zip.__new__» ⟨[.type "zip", .ref x, .ref l], []⟩) (fun _ R s => s.heap.get? x = some lo ∧ s.heap.get? l = some lo2 ∧ R (.ok (.ret (.ref (zm4 s.heap x l).objs.size))) { s with heap := zm5 s.heap x l }) :=
  .of_wp fun prog w A R s h => by
    obtain ⟨hp, g, d, tk, os⟩ := s
    obtain ⟨hx, hl, h⟩ := h
    subst hlo hlo2
    have hsub := sub_zip
    have hl1 : hp.IsList x items := ⟨_, hx, rfl, _, rfl⟩
    have hl2 : (hp.push (lit x)).IsList l items2 := ⟨_, Heap.get?_push_of_some _ hl, rfl, _, rfl⟩
    wp_walk using wpAny_pyIter_list hl1, wpAny_pyIter_list hl2
    exact ⟨_, rfl, h⟩
theorem call_zipM {prog : Program} {w : World} {A : Around} {E : Value → Shared → Prop} {s : Shared} {x l : Addr} {items items2 : Array Value} {n n2 : Nat} {Q : Value → Shared → Prop}
    (hx : s.heap.get? x = some { cls := .type "list", data := .seq items n }) (hl : s.heap.get? l = some { cls := .type "list", data := .seq items2 n2 }) (h : ∀ h', IsZip h' (s.heap.objs.size + 4) (s.heap.objs.size + 2) (s.heap.objs.size + 3) .none → IsPair h' (s.heap.objs.size + 2) (.ref s.heap.objs.size) (.ref (s.heap.objs.size + 1)) →
      IsPair h' (s.heap.objs.size + 3) .none .none → h'.IsListIter s.heap.objs.size x 0 → h'.IsListIter (s.heap.objs.size + 1) l 0 → h'.objs.size = s.heap.objs.size + 5 →
      (∀ c o, s.heap.get? c = some o → h'.get? c = some o) → Q (.ref (s.heap.objs.size + 4)) { s with heap := h' }) :
    wpAny (model prog w) A (call (.type "zip") [.ref x, .ref l]) Q E s := by
  refine callType_new F.called_zip (by decide) (F.typeCall_zip_2 _ _) (F.newCall_zip_2 _ _) (fun obj => F.args_object_init_3 obj _ _) F.entry_zip_new
    (meets_zip_newM x l (items := items) (n := n) (items2 := items2) (n2 := n2) _ _ rfl rfl) ?_
  have z1 : (s.heap.push (lit x)).objs.size = s.heap.objs.size + 1 := Heap.size_push ..
  have z2 : (zm2 s.heap x l).objs.size = s.heap.objs.size + 2 := by rw [Heap.size_push, z1]
  have z3 : (zm3 s.heap x l).objs.size = s.heap.objs.size + 3 := by rw [Heap.size_push, z2]
  have z4 : (zm4 s.heap x l).objs.size = s.heap.objs.size + 4 := by rw [Heap.size_push, z3]
  have z5 : (zm5 s.heap x l).objs.size = s.heap.objs.size + 5 := by rw [Heap.size_push, z4]
  have g5 : (zm5 s.heap x l).get? (zm4 s.heap x l).objs.size = some _ := Heap.get?_push_size _ rfl
  have g4 : (zm5 s.heap x l).get? (zm3 s.heap x l).objs.size = some _ := Heap.get?_push_of_some _ (Heap.get?_push_size _ rfl)
  have g3 : (zm5 s.heap x l).get? (zm2 s.heap x l).objs.size = some _ := Heap.get?_push_of_some _ (Heap.get?_push_of_some _ (Heap.get?_push_size _ rfl))
  have g2 : (zm5 s.heap x l).get? (s.heap.push (lit x)).objs.size = some _ := Heap.get?_push_of_some _ (Heap.get?_push_of_some _ (Heap.get?_push_of_some _ (Heap.get?_push_size _ rfl)))
  have g1 : (zm5 s.heap x l).get? s.heap.objs.size = some _ := Heap.get?_push_of_some _ (Heap.get?_push_of_some _ (Heap.get?_push_of_some _ (Heap.get?_push_of_some _ (Heap.get?_push_size _ rfl))))
  refine ⟨hx, hl, ?_⟩
  show _ ∧ _
  rw [z2, z3, z4] at g5
  rw [z1, z2] at g3
  rw [z3] at g4
  rw [z1] at g2
  rw [z4]
  exact ⟨⟨_, g5, rfl⟩, h _ g5 g3 g4 ⟨_, g1, rfl, rfl⟩ ⟨_, g2, rfl, rfl⟩ z5 fun c o x =>
    Heap.get?_push_of_some _ (Heap.get?_push_of_some _ (Heap.get?_push_of_some _ (Heap.get?_push_of_some _ (Heap.get?_push_of_some _ x))))⟩
end PySem

namespace L2
open PySem PySem.Spec PyProof.Rows

def IzM (x l : Addr) : It := ⟨fun i H => (∃ xs, H x = some (.lst xs) ∧ i < xs.length) ∧ ∃ xs, H l = some (.lst xs) ∧ i < xs.length, fun i H v H' => ∃ T zs c xs d, H T = none ∧ H x = some (.lst zs) ∧ zs[i]? = some c ∧ H l = some (.lst xs) ∧ xs[i]? = some d ∧ v = .ref T ∧ H' = upd H T (.tup [c, d]), fun i H => ∃ zs xs, H x = some (.lst zs) ∧ H l = some (.lst xs) ∧ (i = zs.length ∨ (i < zs.length ∧ i = xs.length))⟩
section
variable {P : Program} {w : World} {K : PySem.W.Frag} {elts : List Expr} {k : Nat} {tpos : Pos}
theorem zap_m {z TI TO i1 i2 x l : Addr} (D : ZAp z TI TO i1 i2 [i1] [i2]) (h1 : l ≠ z) (h2 : l ≠ TO) (h3 : l ≠ i1) (g1 : x ≠ z) (g2 : x ≠ TO) (g3 : x ≠ i2) : ZAp z TI TO i1 i2 [i1, x] [i2, l] :=
  ⟨D.TIz, D.TOz, D.TITO, D.TIi1, D.TIi2, by have := D.z1; simp at this ⊢; exact ⟨this, g1.symm⟩, by have := D.z2; simp at this ⊢; exact ⟨this, h1.symm⟩, by have := D.o1; simp at this ⊢; exact ⟨this, g2.symm⟩, by have := D.o2; simp at this ⊢; exact ⟨this, h2.symm⟩, by have := D.a12; simp at this ⊢; exact ⟨this, h3.symm⟩, by have := D.a21; simp at this ⊢; exact ⟨this, g3.symm⟩, by simp, by simp⟩
theorem turn_zipM {x l : Addr} {z TI TO i1 i2 : Addr} (D : ZAp z TI TO i1 i2 [i1] [i2]) :
    Turn P w K (.Tuple elts k tpos) (IzM x l) [z, TI, TO, i1, i2] z (fun i h => IsZip h z TI TO .none ∧ IsPair h TI (.ref i1) (.ref i2) ∧ (∃ a b, IsPair h TO a b) ∧ h.IsListIter i1 x i ∧ h.IsListIter i2 l i) where
  mem := by simp
  obj := fun i h st b hb => by
    obtain ⟨hz, hTI, ⟨a, b', hTO⟩, ⟨o1, ho1, _, hd1⟩, ⟨o2, ho2, _, hd2⟩⟩ := st
    simp only [List.mem_cons, List.not_mem_nil, or_false] at hb
    rcases hb with e | e | e | e | e
    · rw [e]; exact ⟨_, hz, fun v z => by cases z⟩
    · rw [e]; exact ⟨_, hTI, fun v z => by cases z⟩
    · rw [e]; exact ⟨_, hTO, fun v z => by cases z⟩
    · rw [e]; exact ⟨_, ho1, fun v z => by rw [hd1] at z; cases z⟩
    · rw [e]; exact ⟨_, ho2, fun v z => by rw [hd2] at z; cases z⟩
  keep := fun i h h' st k => by
    obtain ⟨hz, hTI, ⟨a, b', hTO⟩, ⟨o1, ho1, r1⟩, ⟨o2, ho2, r2⟩⟩ := st
    exact ⟨k z (by simp) _ hz, k TI (by simp) _ hTI, ⟨a, b', k TO (by simp) _ hTO⟩, ⟨o1, k i1 (by simp) _ ho1, r1⟩, ⟨o2, k i2 (by simp) _ ho2, r2⟩⟩
  item := by
    intro X hP hw hK hc i pins s σ H E I hf st hg
    subst hP hw hK
    obtain ⟨hz, hTI, ⟨a, b', hTO⟩, h1, h2⟩ := st
    obtain ⟨⟨zs, hzs, hg1⟩, xs, hxs, hg2⟩ := hg
    have ne : ∀ b ∈ [z, TI, TO, i1, i2], l ≠ b := fun b hb e => by have := (hf b hb).1; rw [← e, hxs] at this; cases this
    have nx : ∀ b ∈ [z, TI, TO, i1, i2], x ≠ b := fun b hb e => by have := (hf b hb).1; rw [← e, hzs] at this; cases this
    obtain ⟨zz, its, n, rv, hln, hlo⟩ := I.lstM hxs
    obtain ⟨zz', its', n', rv', hln', hlo'⟩ := I.lstM hzs
    have hL : s.heap.IsList l its.toArray := ⟨_, hlo, rfl, _, rfl⟩
    have hX : s.heap.IsList x its'.toArray := ⟨_, hlo', rfl, _, rfl⟩
    have D' := zap_m (x := x) (l := l) D (ne z (by simp)) (ne TO (by simp)) (ne i1 (by simp)) (nx z (by simp)) (nx TO (by simp)) (nx i2 (by simp))
    refine thn (zip_item (elts := elts) (k := k) (tpos := tpos) (Qx := fun v q => ∃ d, zs[i]? = some d ∧ q = d) (Qy := fun v q => ∃ d, xs[i]? = some d ∧ q = d)
      (tn := fun h => IsZip h z TI TO .none ∧ IsPair h TI (.ref i1) (.ref i2) ∧ (∃ a b, IsPair h TO a b) ∧ h.IsListIter i1 x (i + 1) ∧ h.IsListIter i2 l (i + 1)) D' (Draws.list (A := X.A.in1) (I.ok.hd hc) i1 x (nx i1 (by simp)) its'.toArray) (Draws.list (A := X.A.in1) (I.ok.hd hc) i2 l (ne i2 (by simp)) its.toArray) I hf hz hTI hTO ⟨h1, hX⟩ ⟨h2, hL⟩ (by rw [List.size_toArray]; omega) (by rw [List.size_toArray]; omega)
      (fun h' _ _ a1 a2 a3 a4 a5 => ⟨a1, a2, ⟨_, _, a3⟩, a4.1, a5.1⟩) ?_ ?_) ?_
    · intro v hv
      obtain ⟨u1, g1, ru⟩ := rv'.get (i := i) (x := zs[i]) (List.getElem?_eq_getElem hg1)
      have : u1 = v := by
        have hv : its'.toArray[i]? = some v := hv
        rw [List.getElem?_toArray, g1] at hv
        exact Option.some.inj hv
      subst this
      exact ⟨zs[i], ru, zs[i], List.getElem?_eq_getElem hg1, rfl⟩
    · intro v hv
      obtain ⟨u1, g1, ru⟩ := rv.get (i := i) (x := xs[i]) (List.getElem?_eq_getElem hg2)
      have : u1 = v := by
        have hv : its.toArray[i]? = some v := hv
        rw [List.getElem?_toArray, g1] at hv
        exact Option.some.inj hv
      subst this
      exact ⟨xs[i], ru, xs[i], List.getElem?_eq_getElem hg2, rfl⟩
    · rintro r s1 ⟨u, hr, h1⟩
      refine ⟨u, hr, thn h1 ?_⟩
      rintro _ s2 ⟨xv, H', I2, rx, ⟨Ta, q1, q2, v1, v2, hT, ⟨c, hx, rfl⟩, ⟨d, hy, rfl⟩, ex, eH⟩, tn2, fr⟩
      exact ⟨xv, H', I2, rx, ⟨Ta, zs, q1, xs, q2, hT, hzs, hx, hxs, hy, ex, eH⟩, tn2, fr⟩
  done := by
    intro X hP hw hK hc i pins s σ H E I hf st hg
    subst hP hw hK
    obtain ⟨hz, hTI, ⟨a, b', hTO⟩, h1, h2⟩ := st
    obtain ⟨zs, xs, hzs, hxs, hg⟩ := hg
    have ne : ∀ b ∈ [z, TI, TO, i1, i2], l ≠ b := fun b hb e => by have := (hf b hb).1; rw [← e, hxs] at this; cases this
    have nx : ∀ b ∈ [z, TI, TO, i1, i2], x ≠ b := fun b hb e => by have := (hf b hb).1; rw [← e, hzs] at this; cases this
    obtain ⟨zz, its, n, rv, hln, hlo⟩ := I.lstM hxs
    obtain ⟨zz', its', n', rv', hln', hlo'⟩ := I.lstM hzs
    have hL : s.heap.IsList l its.toArray := ⟨_, hlo, rfl, _, rfl⟩
    have hX : s.heap.IsList x its'.toArray := ⟨_, hlo', rfl, _, rfl⟩
    have D' := zap_m (x := x) (l := l) D (ne z (by simp)) (ne TO (by simp)) (ne i1 (by simp)) (nx z (by simp)) (nx TO (by simp)) (nx i2 (by simp))
    exact pyNext_zipD_end D' (Draws.list (A := X.A.in1) (I.ok.hd hc) i1 x (nx i1 (by simp)) its'.toArray) (Draws.list (A := X.A.in1) (I.ok.hd hc) i2 l (ne i2 (by simp)) its.toArray) hz hTI hTO ⟨h1, hX⟩ ⟨h2, hL⟩ (hg.imp (fun a => by rw [List.size_toArray]; omega) fun ⟨a, b⟩ => ⟨by rw [List.size_toArray]; omega, by rw [List.size_toArray]; omega⟩) fun h' tk hx => ⟨rfl, I.turnedAll (t' := tk) hf fun b o hb q => hx b o (fun z => hb (by simp [z])) (fun z => hb (by simp [z])) (fun z => hb (by simp [z])) (fun z => hb (by simp [z])) q⟩
  self := fun A i s Q E st h => wpAny_pyIter_zip st.1 h
end
def iZiM (ta : TA) : TI := fun σ H R => ta σ H fun vs H1 => ∃ x l zs xs, vs = [.ref x, .ref l] ∧ H1 x = some (.lst zs) ∧ H1 l = some (.lst xs) ∧ R (IzM x l) H1
section
variable {X : Cx} {a b : Expr} {ta : TA} {p pos : Pos} {elts : List Expr} {k : Nat} {tpos : Pos}
theorem pi_zipM (hg : Gl X "zip") (hm : X.mg "zip" = none) (ha : PA X [a, b] ta) (hs : starEach [a, b] X.env = [(false, eval a X.env), (false, eval b X.env)] := by rfl) (hs2 : starEach [b] X.env = [(false, eval b X.env)] := by rfl) : PI X (.Tuple elts k tpos) (.Call (.Name "zip" p) [a, b] [] pos) (iZiM ta) := by
  intro pins s σ H R I h
  refine Call_ (ld_blt I hg hm boot_zip (PyProof.Rows.callWith_type1 (thn (ha pos pins s σ H _ I h) fun us s1 ⟨vs, H1, I1, r1, q1⟩ => ?_) (by rw [hs, hs2]) (by rw [hs2]; rfl)))
  obtain ⟨x, l, zs, xs, e, hx, hl, q⟩ := q1
  subst e
  cases r1 with
  | cons r rr =>
    cases rr with
    | cons r2 rr =>
      cases rr
      cases r
      cases r2
      obtain ⟨zz, its, n, rv, hln, hlo⟩ := I1.lstM hl
      obtain ⟨zz', its', n', rv', hln', hlo'⟩ := I1.lstM hx
      refine call_zipM hlo' hlo fun h' hz hTI hTO h1 h2 hsz hk => wpAny_pyIter_zip hz ?_
      exact ⟨s1.heap.objs.size + 4, [s1.heap.objs.size + 4, s1.heap.objs.size + 2, s1.heap.objs.size + 3, s1.heap.objs.size, s1.heap.objs.size + 1], _, _, H1, rfl, I1.kept (t' := s1.toks) hk, turn_zipM (zap5 _), ⟨hz, hTI, ⟨_, _, hTO⟩, h1, h2⟩, fresh5 I1, q⟩
end
theorem s_iziM {σ : St} {H : Hp} {ta : TA} {R : It → Hp → Prop} (h : ta σ H fun vs H1 => ∃ x l zs xs, vs = [.ref x, .ref l] ∧ H1 x = some (.lst zs) ∧ H1 l = some (.lst xs) ∧ R (IzM x l) H1) : iZiM ta σ H R := h
end L2

namespace L2
open PySem PySem.Spec PyProof.Rows

end L2
namespace BrS
open L2 PySem PySem.Spec PyProof.Rows BrM BrC BrB BrI BrR
section
variable {σ : L2.St} {H : Hp} {Q : VK}

end
end BrS

namespace L2
open PySem PySem.Spec PyProof.Rows

section
variable {X : Cx} {pins : List (Addr × Obj)} {σ : St} {H : Hp} {s : Shared} {a : Addr} {kvs : List (Key × V)} {k : Key} {v : V} {u r : Value} {A : Around} {E : Value → Shared → Prop}
end
section
variable {prog : Program} {w : World} {A : Around} {R : Result → Shared → Prop} {s : Shared}
end
section
variable {X : Cx}
end

end L2

namespace L2
open PySem PySem.Spec PyProof.Rows PySem.SeqAt

end L2

namespace BrS
open L2 PySem PySem.Spec PyProof.Rows BrM BrC BrB BrI BrR

def Prl (H : Hp) (vs : List V) (L : List (Nat × Nat)) : Prop := vs.length = L.length ∧ ∀ (m : Nat) (x : Nat × Nat), L[m]? = some x → ∃ T : Addr, vs[m]? = some (V.ref T) ∧ H T = some (.tup [.int x.1, .int x.2])
theorem Prl.lst {H : Hp} {vs : List V} {L : List (Nat × Nat)} {a : Addr} {xs : List V} {o : HO} (h : Prl H vs L) (ha : H a = some (.lst xs)) : Prl (upd H a o) vs L := ⟨h.1, fun m x hx => by
  obtain ⟨T, e, b⟩ := h.2 m x hx
  exact ⟨T, e, by rw [upd_ne (ne_of b ha (fun z => by cases z))]; exact b⟩⟩
def Sll (H : Hp) (vs : List V) (L : List (Nat × Nat)) : Prop := vs.length = L.length ∧ ∀ (m : Nat) (x : Nat × Nat), L[m]? = some x → ∃ T : Addr, vs[m]? = some (V.ref T) ∧ H T = some (.tup [.int x.1, tx [brs.getD x.2 0]])
theorem Sll.lst {H : Hp} {vs : List V} {L : List (Nat × Nat)} {a : Addr} {xs : List V} {o : HO} (h : Sll H vs L) (ha : H a = some (.lst xs)) : Sll (upd H a o) vs L := ⟨h.1, fun m x hx => by
  obtain ⟨T, e, b⟩ := h.2 m x hx
  exact ⟨T, e, by rw [upd_ne (ne_of b ha (fun z => by cases z))]; exact b⟩⟩
end BrS

namespace BrI
open BrM BrC BrS BrB

section
variable {P : Nat → Nat → Int} {k : Nat}
end
theorem go_on {k : Nat} {v : List Nat} (h : Rg k v) (st : List Nat) : go k st v = some st := by
  have := go_up v [] [] st h
  simpa using this

section
variable {P : Nat → Nat → Int} {k n : Nat}
end
section
variable {P : Nat → Nat → Int} {k n : Nat}
end
end BrI

namespace BrI
open BrM BrC BrS BrB

def PairAt (k : Nat) (l : List Nat) (s e : Nat) : Prop := ∃ p u v w, p < k ∧ l = u ++ 2 * p :: (v ++ (2 * p + 1) :: w) ∧ u.length = s ∧ s + 1 + v.length = e ∧ Rg k v
theorem PairAt.lt {k : Nat} {l : List Nat} {s e : Nat} (h : PairAt k l s e) : s < e ∧ e < l.length ∧ (e - s) % 2 = 1 := by
  obtain ⟨p, u, v, w, _, rfl, hu, he, hv⟩ := h
  have := (go_len v [] [] hv).2
  simp at this ⊢
  omega
theorem sg_brs : ∀ b, b < 8 → sg (brs.getD b 0) = if b % 2 = 0 then 1 else -1 := by decide
theorem hg_go {k : Nat} (hk : k ≤ 4) : ∀ {l st s : List Nat}, go k st l = some s → hg (brt l) = (s.length : Int) - st.length
  | [], st, s, h => by rw [go_nil] at h; cases h; show (0 : Int) = _; omega
  | b :: l, st, s, h => by
    rw [go_cons] at h
    obtain ⟨s1, h1, h2⟩ := Option.bind_eq_some_iff.mp h
    have ih := hg_go hk h2
    show sg (brs.getD b 0) + hg (brt l) = _
    obtain ⟨hb, ⟨e1, rfl⟩ | ⟨e1, rfl⟩⟩ := nx_some h1
    · rw [sg_brs b (by omega), if_pos e1, ih, List.length_cons]; omega
    · rw [sg_brs b (by omega), if_neg (by omega), ih, List.length_cons]; omega
theorem brt_len (l : List Nat) : (brt l).length = l.length := by unfold brt; rw [List.length_map]
theorem brt_app (a b : List Nat) : brt (a ++ b) = brt a ++ brt b := by unfold brt; rw [List.map_append]
theorem ht_brt (a b : List Nat) : ht (brt (a ++ b)) a.length = hg (brt a) := by
  unfold ht
  rw [brt_app, List.take_left' (brt_len a)]
theorem PairAt.pr {k : Nat} (hk : k ≤ 4) {l : List Nat} {s e : Nat} (h : PairAt k l s e) : Pr (brt l) s e := by
  have hlt := h.lt
  obtain ⟨p, u, v, w, hp, rfl, hu, he, hv⟩ := h
  have h0 : ht (brt (u ++ 2 * p :: (v ++ (2 * p + 1) :: w))) s = hg (brt u) := by rw [← hu]; exact ht_brt _ _
  have key : ∀ j, j ≤ v.length → ht (brt (u ++ 2 * p :: (v ++ (2 * p + 1) :: w))) (s + 1 + j) = hg (brt u) + 1 + hg (brt (v.take j)) := fun j hj => by
    have e1 : u ++ 2 * p :: (v ++ (2 * p + 1) :: w) = (u ++ 2 * p :: v.take j) ++ (v.drop j ++ (2 * p + 1) :: w) := by
      have e0 : v.take j ++ (v.drop j ++ (2 * p + 1) :: w) = v ++ (2 * p + 1) :: w := by rw [← List.append_assoc, List.take_append_drop]
      rw [List.append_assoc, List.cons_append, e0]
    have e2 : (u ++ 2 * p :: v.take j).length = s + 1 + j := by rw [List.length_append, List.length_cons, List.length_take]; omega
    rw [e1, ← e2, ht_brt, brt_app, hg_append]
    show _ + (sg (brs.getD (2 * p) 0) + hg (brt (v.take j))) = _
    rw [sg_brs (2 * p) (by omega), if_pos (by omega)]; omega
  refine ⟨hlt.1, by rw [brt_len]; exact hlt.2.1, ?_, fun m h1 h2 => ?_⟩
  · have e1 : u ++ 2 * p :: (v ++ (2 * p + 1) :: w) = (u ++ 2 * p :: (v ++ [2 * p + 1])) ++ w := by simp
    have e2 : (u ++ 2 * p :: (v ++ [2 * p + 1])).length = e + 1 := by simp; omega
    rw [h0, e1, ← e2, ht_brt, brt_app, hg_append]
    show _ + (sg (brs.getD (2 * p) 0) + hg (brt (v ++ [2 * p + 1]))) = _
    rw [brt_app, hg_append]
    have e3 : hg (brt v) = 0 := by have := hg_go hk hv; simpa using this
    have e4 : hg (brt [2 * p + 1]) = -1 := by
      show sg (brs.getD (2 * p + 1) 0) + 0 = -1
      rw [sg_brs (2 * p + 1) (by omega), if_neg (by omega)]; rfl
    rw [e3, e4, sg_brs (2 * p) (by omega), if_pos (by omega)]; omega
  · have := key (m - (s + 1)) (by omega)
    rw [show s + 1 + (m - (s + 1)) = m by omega] at this
    rw [h0, this]
    obtain ⟨st, g1, _⟩ := go_take hv (m - (s + 1))
    have := hg_go hk g1
    simp at this
    omega

section
variable {P P' : Nat → Nat → Int} {k n n' i d : Nat}
end
end BrI

namespace L2
open PySem PySem.Spec PyProof.Rows

section
variable {X : Cx}
def DatOk (d : PyData) : Prop := d.canLay0 = true ∧ d.depth ≤ 150
def rEqDat (f : Bool → Bool) : R2 := fun x y H Q => ∃ (dx dy : PyData) (p q : Addr), Sd p H x dx ∧ Sd q H y dy ∧ DatOk dx ∧ dy.canLay0 = true ∧ Q (.bl (f (PyData.eqv dx dy))) H
theorem Room.deep {k : Nat} {A : Around} (hr : Room k A) {d e : PyData} (h : d.depth ≤ 150) : A.units + min d.depth e.depth < cLine := by
  have h1 := hr.un
  have h2 : min d.depth e.depth ≤ d.depth := Nat.min_le_left _ _
  omega
theorem op_eqDat {k : Nat} (hr : Room k X.A) : OpR X (compareOp .Eq) (rEqDat id) := by
  intro pins s σ H x y v u Q I rx ry ⟨dx, dy, p, q, h1, h2, o1, o2, h⟩
  obtain ⟨as, r1, _⟩ := h1.reads I rx
  obtain ⟨bs, r2, _⟩ := h2.reads I ry
  exact SeqAt.compareEq_reads r1 r2 o1.1 o2 (hr.deep o1.2) ⟨.bl _, H, I, rfl, h⟩
theorem op_neDat {k : Nat} (hr : Room k X.A) : OpR X (compareOp .NotEq) (rEqDat not) := by
  intro pins s σ H x y v u Q I rx ry ⟨dx, dy, p, q, h1, h2, o1, o2, h⟩
  obtain ⟨as, r1, _⟩ := h1.reads I rx
  obtain ⟨bs, r2, _⟩ := h2.reads I ry
  exact SeqAt.compareNe_reads r1 r2 o1.1 o2 (hr.deep o1.2) ⟨.bl _, H, I, rfl, h⟩
theorem s_neDat {H : Hp} {Q : VK} {x y : V} {d : PyData} {p q : Addr} (h1 : Sd p H x d) (h2 : Sd q H y d) (ok : DatOk d) (h : Q (.bl false) H) : rEqDat not x y H Q := ⟨d, d, p, q, h1, h2, ok, ok.1, by rw [SeqAt.eqv_refl d ok.1]; exact h⟩
end

mutual
def cln : PyData → Bool
  | .none => true | .bool _ => false | .int _ => true | .str _ => true
  | .list xs => clnAll xs | .tuple xs => clnAll xs
  | .dict _ => false
def clnAll : List PyData → Bool
  | [] => true
  | x :: xs => cln x && clnAll xs
end
mutual
theorem eqv_cln : ∀ (d e : PyData), cln d = true → cln e = true → PyData.eqv d e = true → d = e
  | .none, .none, _, _, _ => rfl
  | .int i, .int j, _, _, h => by rw [PyData.eqv] at h; rw [eq_of_beq h]
  | .str x, .str y, _, _, h => by rw [PyData.eqv] at h; rw [eq_of_beq h]
  | .list xs, .list ys, h1, h2, h => by rw [PyData.eqv] at h; rw [eqvAll_cln xs ys h1 h2 h]
  | .tuple xs, .tuple ys, h1, h2, h => by rw [PyData.eqv] at h; rw [eqvAll_cln xs ys h1 h2 h]
  | .bool _, _, h, _, _ => nomatch h
  | .dict _, _, h, _, _ => nomatch h
  | _, .bool _, _, h, _ => nomatch h
  | _, .dict _, _, h, _ => nomatch h
  | .none, .int _, _, _, h => by simp [PyData.eqv] at h
  | .none, .str _, _, _, h => by simp [PyData.eqv] at h
  | .none, .list _, _, _, h => by simp [PyData.eqv] at h
  | .none, .tuple _, _, _, h => by simp [PyData.eqv] at h
  | .int _, .none, _, _, h => by simp [PyData.eqv] at h
  | .int _, .str _, _, _, h => by simp [PyData.eqv] at h
  | .int _, .list _, _, _, h => by simp [PyData.eqv] at h
  | .int _, .tuple _, _, _, h => by simp [PyData.eqv] at h
  | .str _, .none, _, _, h => by simp [PyData.eqv] at h
  | .str _, .int _, _, _, h => by simp [PyData.eqv] at h
  | .str _, .list _, _, _, h => by simp [PyData.eqv] at h
  | .str _, .tuple _, _, _, h => by simp [PyData.eqv] at h
  | .list _, .none, _, _, h => by simp [PyData.eqv] at h
  | .list _, .int _, _, _, h => by simp [PyData.eqv] at h
  | .list _, .str _, _, _, h => by simp [PyData.eqv] at h
  | .list _, .tuple _, _, _, h => by simp [PyData.eqv] at h
  | .tuple _, .none, _, _, h => by simp [PyData.eqv] at h
  | .tuple _, .int _, _, _, h => by simp [PyData.eqv] at h
  | .tuple _, .str _, _, _, h => by simp [PyData.eqv] at h
  | .tuple _, .list _, _, _, h => by simp [PyData.eqv] at h
theorem eqvAll_cln : ∀ (xs ys : List PyData), clnAll xs = true → clnAll ys = true → PyData.eqvAll xs ys = true → xs = ys
  | [], [], _, _, _ => rfl
  | [], _ :: _, _, _, h => by simp [PyData.eqvAll] at h
  | _ :: _, [], _, _, h => by simp [PyData.eqvAll] at h
  | x :: xs, y :: ys, h1, h2, h => by
    rw [clnAll, Bool.and_eq_true] at h1 h2
    rw [PyData.eqvAll, Bool.and_eq_true] at h
    rw [eqv_cln x y h1.1 h2.1 h.1, eqvAll_cln xs ys h1.2 h2.2 h.2]
end
end L2

namespace BrTr
open L2 PySem PySem.Spec PyProof.Rows BrM BrC BrB BrI BrS

inductive Tr where
  | nil : Tr
  | cons (k : Nat) (s r : Tr) : Tr
deriving DecidableEq
namespace Tr
def sz : Tr → Nat
  | nil => 0
  | cons _ s r => 1 + s.sz + r.sz
def ht : Tr → Nat
  | nil => 0
  | cons _ s r => max (1 + s.ht) r.ht
def gr : Tr → Nat
  | nil => 0
  | cons k s r => max (max k s.gr) r.gr
def app : Tr → Tr → Tr
  | nil, u => u
  | cons k s r, u => cons k s (r.app u)
def kids : Tr → List (Nat × Tr)
  | nil => []
  | cons k s r => (k, s) :: r.kids
def bs : Tr → List Nat
  | nil => []
  | cons k s r => 2 * k :: (s.bs ++ (2 * k + 1) :: r.bs)
end Tr
open Tr
def trD : Tr → List PyData
  | .nil => []
  | .cons k s r => .tuple [.int k, .list (trD s)] :: trD r
theorem trD_kids : ∀ t : Tr, trD t = t.kids.map fun x => .tuple [.int x.1, .list (trD x.2)]
  | .nil => rfl
  | .cons k s r => by rw [trD, kids, List.map_cons, trD_kids r]
theorem kid_ht {t : Tr} : ∀ {x : Nat × Tr}, x ∈ t.kids → x.2.ht < t.ht ∧ x.2.sz < t.sz ∧ x.1 ≤ t.gr ∧ x.2.gr ≤ t.gr := by
  induction t with
  | nil => intro x h; cases h
  | cons k s r _ ih =>
    intro x h
    rcases List.mem_cons.mp h with z | z
    · subst z
      simp only [Tr.ht, Tr.sz, Tr.gr]
      omega
    · have := ih z
      simp only [Tr.ht, Tr.sz, Tr.gr]
      omega
theorem ht_sz : ∀ t : Tr, t.ht ≤ t.sz
  | .nil => Nat.le_refl _
  | .cons k s r => by
    have := ht_sz s
    have := ht_sz r
    simp only [Tr.ht, Tr.sz]; omega
theorem kids_len : ∀ t : Tr, t.kids.length ≤ t.sz
  | .nil => Nat.le_refl _
  | .cons k s r => by
    have := kids_len r
    simp only [kids, sz, List.length_cons]; omega
theorem trD_inj : ∀ {t u : Tr}, trD t = trD u → t = u
  | .nil, .nil, _ => rfl
  | .nil, .cons _ _ _, h => by simp [trD] at h
  | .cons _ _ _, .nil, h => by simp [trD] at h
  | .cons k s r, .cons k' s' r', h => by
    rw [trD, trD] at h
    injection h with h1 h2
    injection h1 with h1
    injection h1 with h3 h4
    injection h3 with h3
    injection h4 with h4
    injection h4 with h4
    have e1 : k = k' := by omega
    rw [e1, trD_inj h4, trD_inj h2]
theorem trD_ok : ∀ t : Tr, PyData.canLayAll0 (trD t) = true ∧ PyData.depthAll (trD t) ≤ 2 * t.ht ∧ clnAll (trD t) = true
  | .nil => by simp [trD, PyData.canLayAll0, PyData.depthAll, clnAll]
  | .cons k s r => by
    obtain ⟨a1, a2, a3⟩ := trD_ok s
    obtain ⟨b1, b2, b3⟩ := trD_ok r
    rw [trD]
    refine ⟨by simp [PyData.canLayAll0, PyData.canLay0, a1, b1], ?_, by simp [clnAll, cln, a3, b3]⟩
    rw [PyData.depthAll]
    have e : PyData.depth (.tuple [.int (k : Int), .list (trD s)]) = 2 + max (PyData.depthAll (trD s)) 0 ∨ PyData.depth (.tuple [.int (k : Int), .list (trD s)]) ≤ 2 + 2 * s.ht := by
      right
      simp only [PyData.depth, PyData.depthAll]
      omega
    simp only [Tr.ht]
    rcases e with e | e
    · simp only [PyData.depth, PyData.depthAll] at e ⊢; omega
    · omega
theorem tr_dat {t : Tr} (h : t.ht ≤ 70) : DatOk (.list (trD t)) := by
  obtain ⟨a1, a2, _⟩ := trD_ok t
  refine ⟨by rw [PyData.canLay0]; exact a1, ?_⟩
  rw [PyData.depth]; omega
theorem tr_eqv (t u : Tr) : PyData.eqv (.list (trD t)) (.list (trD u)) = decide (t = u) := by
  rw [Bool.eq_iff_iff, decide_eq_true_eq]
  constructor
  · intro h
    have := eqv_cln _ _ (by rw [cln]; exact (trD_ok t).2.2) (by rw [cln]; exact (trD_ok u).2.2) h
    injection this with this
    exact trD_inj this
  · rintro rfl
    exact SeqAt.eqv_refl _ (by rw [PyData.canLay0]; exact (trD_ok t).1)

def TrH (p : Addr) (H : Hp) (v : V) (t : Tr) : Prop := Sd p H v (.list (trD t))
theorem TrH.same {p : Addr} {H H' : Hp} {v : V} {t : Tr} (h : TrH p H v t) (s : Same H H') : TrH p H' v t := Sd.same h s
theorem TrH.keep {p : Addr} {H H' : Hp} {v : V} {t : Tr} (h : TrH p H v t) (s : SameBut1 p H H') : TrH p H' v t := Sd.keep s h
theorem sds_get {p : Addr} {H : Hp} : ∀ {vs : List V} {ds : List PyData}, Sds p H vs ds → vs.length = ds.length ∧ ∀ (i : Nat) (d : PyData), ds[i]? = some d → ∃ v, vs[i]? = some v ∧ Sd p H v d
  | _, _, .nil => ⟨rfl, fun i d h => by simp at h⟩
  | _, _, .cons h t => by
    obtain ⟨a, b⟩ := sds_get t
    refine ⟨by simp [a], fun i d hd => ?_⟩
    cases i with
    | zero => cases hd; exact ⟨_, rfl, h⟩
    | succ i => exact b i d hd

def Kd (p : Addr) (H : Hp) (vs : List V) (L : List (Nat × Tr)) : Prop := vs.length = L.length ∧ ∀ (i : Nat) (x : Nat × Tr), L[i]? = some x → ∃ T b : Addr, vs[i]? = some (.ref T) ∧ T ≠ p ∧ H T = some (.tup [.int x.1, .ref b]) ∧ TrH p H (.ref b) x.2
theorem Kd.same {p : Addr} {H H' : Hp} {vs : List V} {L : List (Nat × Tr)} (h : Kd p H vs L) (s : Same H H') : Kd p H' vs L := ⟨h.1, fun i x hx => let ⟨T, b, e, n, g, t⟩ := h.2 i x hx; ⟨T, b, e, n, s _ _ g, t.same s⟩⟩
theorem Kd.more {p : Addr} {H : Hp} {vs : List V} {L : List (Nat × Tr)} {k : Nat} {t : Tr} {T b : Addr} (h : Kd p H vs L) (n : T ≠ p) (g : H T = some (.tup [.int (k : Int), .ref b])) (ht : TrH p H (.ref b) t) : Kd p H (vs ++ [.ref T]) (L ++ [(k, t)]) := by
  refine ⟨by rw [List.length_append, List.length_append, h.1]; rfl, fun i x hx => ?_⟩
  by_cases c : i < L.length
  · rw [List.getElem?_append_left c] at hx
    obtain ⟨T', b', e, r⟩ := h.2 i x hx
    exact ⟨T', b', by rw [List.getElem?_append_left (by rw [h.1]; exact c)]; exact e, r⟩
  · rw [List.getElem?_append_right (by omega)] at hx
    have hi : i = L.length := by
      have := (List.getElem?_eq_some_iff.mp hx).1
      simp at this; omega
    subst hi
    rw [Nat.sub_self] at hx
    cases hx
    exact ⟨T, b, by rw [List.getElem?_append_right (by rw [h.1]; exact Nat.le_refl _), h.1, Nat.sub_self]; rfl, n, g, ht⟩
theorem TrH.open {p : Addr} {H : Hp} {v : V} {t : Tr} (h : TrH p H v t) : ∃ (a : Addr) (vs : List V), v = .ref a ∧ a ≠ p ∧ H a = some (.lst vs) ∧ Kd p H vs t.kids := by
  unfold TrH at h
  cases h with
  | sc c => cases c
  | lst g n r =>
    refine ⟨_, _, rfl, n, g, ?_⟩
    obtain ⟨a1, a2⟩ := sds_get r
    rw [trD_kids] at a1 a2
    refine ⟨by rw [a1, List.length_map], fun i x hx => ?_⟩
    obtain ⟨w, e, sd⟩ := a2 i _ (by rw [List.getElem?_map, hx]; rfl)
    cases sd with
    | sc c => cases c
    | tup g2 n2 r2 =>
      cases r2 with
      | cons h1 t1 =>
        cases t1 with
        | cons h2 t2 =>
          cases t2
          cases h1 with
          | sc c =>
            cases c
            cases h2 with
            | sc c => cases c
            | lst g3 n3 r3 => exact ⟨_, _, e, n2, g2, .lst g3 n3 r3⟩
theorem Kd.close {p a : Addr} {H : Hp} {vs : List V} {t : Tr} (g : H a = some (.lst vs)) (n : a ≠ p) (h : Kd p H vs t.kids) : TrH p H (.ref a) t := by
  refine .lst g n (sds_of (by rw [trD_kids, List.length_map]; exact h.1) fun m v d h1 h2 => ?_)
  rw [trD_kids, List.getElem?_map] at h2
  obtain ⟨x, hx, rfl⟩ := Option.map_eq_some_iff.mp h2
  obtain ⟨T, b, e, nT, gT, ht⟩ := h.2 m x hx
  rw [h1] at e
  cases e
  exact .tup gT nT (.cons (.sc (.int _)) (.cons ht .nil))
where
  sds_of {p : Addr} {H : Hp} : ∀ {vs : List V} {ds : List PyData}, vs.length = ds.length → (∀ (m : Nat) (v : V) (d : PyData), vs[m]? = some v → ds[m]? = some d → Sd p H v d) → Sds p H vs ds
    | [], [], _, _ => .nil
    | [], _ :: _, h, _ => by cases h
    | _ :: _, [], h, _ => by cases h
    | v :: vs, d :: ds, h, f => .cons (f 0 v d rfl rfl) (sds_of (by simpa using h) fun m v d h1 h2 => f (m + 1) v d h1 h2)
mutual
theorem sd_free {p D : Addr} {H : Hp} (hD : H D = none) : ∀ {x : V} {d : PyData}, Sd p H x d → Sd D H x d
  | _, _, .sc h => .sc h
  | _, _, .lst h n r => .lst h (ne_of_none h hD) (sds_free hD r)
  | _, _, .tup h n r => .tup h (ne_of_none h hD) (sds_free hD r)
  | _, _, .dct h n r => .dct h (ne_of_none h hD) r
theorem sds_free {p D : Addr} {H : Hp} (hD : H D = none) : ∀ {xs : List V} {ds : List PyData}, Sds p H xs ds → Sds D H xs ds
  | _, _, .nil => .nil
  | _, _, .cons h t => .cons (sd_free hD h) (sds_free hD t)
end
mutual
theorem sd_both {p D : Addr} {H H' : Hp} (s : SameBut1 D H H') : ∀ {x : V} {d : PyData}, Sd p H x d → Sd D H x d → Sd p H' x d
  | _, _, .sc h, _ => .sc h
  | _, _, .lst h n r, .sc c => nomatch c
  | _, _, .lst h n r, .lst h2 n2 r2 => by
    have e := h.symm.trans h2
    cases e
    exact .lst (s _ _ h n2) n (sds_both s r r2)
  | _, _, .tup h n r, .sc c => nomatch c
  | _, _, .tup h n r, .tup h2 n2 r2 => by
    have e := h.symm.trans h2
    cases e
    exact .tup (s _ _ h n2) n (sds_both s r r2)
  | _, _, .dct h n r, .sc c => nomatch c
  | _, _, .dct h n r, .dct h2 n2 r2 => .dct (s _ _ h n2) n r
theorem sds_both {p D : Addr} {H H' : Hp} (s : SameBut1 D H H') : ∀ {xs : List V} {ds : List PyData}, Sds p H xs ds → Sds D H xs ds → Sds p H' xs ds
  | _, _, .nil, _ => .nil
  | _, _, .cons h t, .cons h2 t2 => .cons (sd_both s h h2) (sds_both s t t2)
end
theorem TrH.free {p D : Addr} {H : Hp} {v : V} {t : Tr} (h : TrH p H v t) (hD : H D = none) : TrH D H v t := sd_free hD h
theorem TrH.both {p D : Addr} {H H' : Hp} {v : V} {t : Tr} (h : TrH p H v t) (h2 : TrH D H v t) (s : SameBut1 D H H') : TrH p H' v t := sd_both s h h2
theorem Kd.both {p D : Addr} {H H' : Hp} {vs : List V} {L : List (Nat × Tr)} (h : Kd p H vs L) (h2 : Kd D H vs L) (s : SameBut1 D H H') : Kd p H' vs L := by
  refine ⟨h.1, fun i x hx => ?_⟩
  obtain ⟨T, b, e, n, g, t⟩ := h.2 i x hx
  obtain ⟨T2, b2, e2, n2, g2, t2⟩ := h2.2 i x hx
  have q := e.symm.trans e2
  cases q
  have q := g.symm.trans g2
  cases q
  exact ⟨T, b, e, n, s _ _ g n2, t.both t2 s⟩
theorem free_of {H H' : Hp} {a : Addr} (s : Same H H') (h : H' a = none) : H a = none := by
  cases e : H a with
  | none => rfl
  | some o => rw [s _ _ e] at h; cases h

def Kn (H0 : Hp) (D : Addr) (H : Hp) (vs : List V) (L : List (Nat × Tr)) : Prop := Kd D H vs L ∧ ∀ p, (∃ o, H0 p = some o) → Kd p H vs L
theorem kn_nil (H0 : Hp) (D : Addr) (H : Hp) : Kn H0 D H [] [] := ⟨⟨rfl, fun i x h => by simp at h⟩, fun _ _ => ⟨rfl, fun i x h => by simp at h⟩⟩
theorem Kn.more {H0 H4 H6 H7 : Hp} {D T b : Addr} {vs : List V} {L : List (Nat × Tr)} {k : Nat} {t : Tr} (h : Kn H0 D H4 vs L) (s0 : Same H0 H4) (s : Same H4 H6) (s7 : SameBut1 D H6 H7) (hT : H4 T = none) (hDo : ∃ o, H4 D = some o) (g : H6 T = some (.tup [.int (k : Int), .ref b])) (ht : ∀ p, (∃ o, H4 p = some o) → TrH p H6 (.ref b) t) : Kn H0 D H7 (vs ++ [.ref T]) (L ++ [(k, t)]) := by
  have nT : ∀ {p}, (∃ o, H4 p = some o) → T ≠ p := fun ⟨o, ho⟩ z => by rw [z, ho] at hT; cases hT
  have hD := Kd.more (h.1.same s) (nT hDo) g (ht D hDo)
  refine ⟨hD.both hD s7, fun p ⟨o, hp⟩ => ?_⟩
  have hp4 : ∃ o, H4 p = some o := ⟨o, s0 _ _ hp⟩
  exact (Kd.more ((h.2 p ⟨o, hp⟩).same s) (nT hp4) g (ht p hp4)).both hD s7

def recSp (g : Nat → Sp) : Nat → Sp
  | 0 => fun _ _ _ _ => False
  | n + 1 => g n
end BrTr

namespace BrTr
open L2 PySem PySem.Spec PyProof.Rows BrM BrC BrB BrI BrS BrR
open Tr

def TIn (H : Hp) (v : V) (p : Addr) (t : Tr) (n : Nat) : Prop := (∃ o, H p = some o) ∧ TrH p H v t ∧ t.sz ≤ 20 ∧ t.ht ≤ n
def gCopy (n : Nat) : Sp := fun vs H Q _ => ∃ v p t, vs = [v] ∧ TIn H v p t n ∧ ∀ D H', H D = none → Same H H' → (∀ p, (∃ o, H p = some o) → TrH p H' (.ref D) t) → Q (.ref D) H'
def gWritten (n : Nat) : Sp := fun vs H Q _ => ∃ v p t, vs = [v] ∧ TIn H v p t n ∧ t.gr < 4 ∧ ∀ H', Same H H' → Q (tx (brt t.bs)) H'
def spBranch : Sp := fun vs H Q _ => ∃ (k : Int) (T : Addr) (x : Nat) (w : V), vs = [.int k, .ref T] ∧ H T = some (.tup [.int x, w]) ∧ ∀ H', Same H H' → Q (.bl (decide ((x : Int) < k))) H'
def spTree : Sp := fun vs H Q _ => ∃ (k : Int) (v : V) (p : Addr) (t : Tr), vs = [.int k, v] ∧ 1 ≤ k ∧ k ≤ 4 ∧ TrH p H v t ∧ t.sz ≤ 20 ∧ ∀ H', Same H H' → Q (.bl (decide ((t.gr : Int) < k))) H'
def szs (l : List Tr) : Nat := (l.map fun u => u.sz).sum
theorem szs_app (a b : List Tr) : szs (a ++ b) = szs a + szs b := by unfold szs; rw [List.map_append, List.sum_append]
theorem szs_one (u : Tr) : szs [u] = u.sz := by simp [szs]
theorem kids_szs : ∀ t : Tr, t.kids.length + szs (t.kids.map fun x => x.2) = t.sz
  | .nil => rfl
  | .cons k s r => by
    have ih := kids_szs r
    unfold szs at ih ⊢
    simp only [kids, sz, List.map_cons, List.sum_cons, List.length_cons]
    omega
theorem gr_lt_iff : ∀ {t : Tr} {k : Nat}, 1 ≤ k → (t.gr < k ↔ ∀ x ∈ t.kids, x.1 < k ∧ x.2.gr < k)
  | .nil, k, h => ⟨fun _ x hx => (nomatch hx), fun _ => h⟩
  | .cons c s r, k, h => by
    have ih := gr_lt_iff (t := r) h
    simp only [gr, kids, List.forall_mem_cons]
    rw [← ih]
    omega

def Wt (W : Addr) (H : Hp) (vs : List V) (L : List Tr) : Prop := vs.length = L.length ∧ ∀ (i : Nat) (u : Tr), L[i]? = some u → ∃ v, vs[i]? = some v ∧ TrH W H v u
theorem Wt.keep {W : Addr} {H H' : Hp} {vs : List V} {L : List Tr} (h : Wt W H vs L) (s : SameBut1 W H H') : Wt W H' vs L := ⟨h.1, fun i u hu => let ⟨v, e, t⟩ := h.2 i u hu; ⟨v, e, t.keep s⟩⟩
theorem wt_nil (W : Addr) (H : Hp) : Wt W H [] [] := ⟨rfl, fun i u h => by simp at h⟩
theorem Wt.more {W : Addr} {H : Hp} {vs : List V} {L : List Tr} {v : V} {u : Tr} (h : Wt W H vs L) (ht : TrH W H v u) : Wt W H (vs ++ [v]) (L ++ [u]) := by
  refine ⟨by rw [List.length_append, List.length_append, h.1]; rfl, fun i x hx => ?_⟩
  by_cases c : i < L.length
  · rw [List.getElem?_append_left c] at hx
    obtain ⟨v', e, r⟩ := h.2 i x hx
    exact ⟨v', by rw [List.getElem?_append_left (by rw [h.1]; exact c)]; exact e, r⟩
  · rw [List.getElem?_append_right (by omega)] at hx
    have hi : i = L.length := by
      have := (List.getElem?_eq_some_iff.mp hx).1
      simp at this; omega
    subst hi
    rw [Nat.sub_self] at hx
    cases hx
    exact ⟨v, by rw [List.getElem?_append_right (by rw [h.1]; exact Nat.le_refl _), h.1, Nat.sub_self]; rfl, ht⟩
theorem Wt.last {W : Addr} {H : Hp} {vs : List V} {L : List Tr} (h : Wt W H vs L) (hn : vs ≠ []) : ∃ vs' v L' u, vs = vs' ++ [v] ∧ L = L' ++ [u] ∧ Wt W H vs' L' ∧ TrH W H v u := by
  have hl : L ≠ [] := fun z => by rw [z] at h; exact hn (List.length_eq_zero_iff.mp h.1)
  have e1 := (List.dropLast_concat_getLast hn).symm
  have e2 := (List.dropLast_concat_getLast hl).symm
  have hp := List.length_pos_iff.mpr hl
  refine ⟨vs.dropLast, vs.getLast hn, L.dropLast, L.getLast hl, e1, e2, ⟨by rw [List.length_dropLast, List.length_dropLast, h.1], fun i u hu => ?_⟩, ?_⟩
  · have hi := (List.getElem?_eq_some_iff.mp hu).1
    rw [List.length_dropLast] at hi
    rw [List.getElem?_dropLast, if_pos (by omega)] at hu
    obtain ⟨v, e, r⟩ := h.2 i u hu
    exact ⟨v, by rw [List.getElem?_dropLast, if_pos (by rw [h.1]; omega)]; exact e, r⟩
  · obtain ⟨v, e, r⟩ := h.2 (L.length - 1) (L.getLast hl) (by rw [← List.getLast?_eq_getElem?, List.getLast?_eq_some_getLast hl])
    have : v = vs.getLast hn := by
      rw [← h.1, ← List.getLast?_eq_getElem?, List.getLast?_eq_some_getLast hn] at e
      cases e; rfl
    rw [← this]; exact r
theorem TIn.kid {H H' : Hp} {v w : V} {p : Addr} {t : Tr} {n : Nat} {x : Nat × Tr} (h : TIn H v p t (n + 1)) (hx : x ∈ t.kids) (s : Same H H') (hw : TrH p H' w x.2) : TIn H' w p x.2 n := by
  obtain ⟨⟨o, ho⟩, h2, h3, h4⟩ := h
  obtain ⟨a1, a2, _⟩ := kid_ht hx
  exact ⟨⟨o, s _ _ ho⟩, hw, by omega, by omega⟩
theorem TIn.pos {H : Hp} {v : V} {p : Addr} {t : Tr} {n : Nat} {x : Nat × Tr} (h : TIn H v p t n) (hx : x ∈ t.kids) : ∃ m, n = m + 1 := by
  obtain ⟨a1, _⟩ := kid_ht hx
  have := h.2.2.2
  exact ⟨n - 1, by omega⟩
theorem bs_kids : ∀ t : Tr, t.bs = (t.kids.map fun x => 2 * x.1 :: (x.2.bs ++ [2 * x.1 + 1])).flatten
  | .nil => rfl
  | .cons k s r => by rw [bs, kids, List.map_cons, List.flatten_cons, ← bs_kids r]; simp
theorem bs_len : ∀ t : Tr, t.bs.length = 2 * t.sz
  | .nil => rfl
  | .cons k s r => by simp only [bs, sz, List.length_cons, List.length_append, bs_len s, bs_len r]; omega
theorem bs_rg : ∀ {t : Tr} {k : Nat}, t.gr < k → Rg k t.bs
  | .nil, k, _ => go_nil _
  | .cons c s r, k, h => by
    simp only [gr] at h
    have h1 := bs_rg (t := s) (k := k) (by omega)
    have h2 := bs_rg (t := r) (k := k) (by omega)
    unfold Rg
    rw [bs, go_open _ _ (by omega), go_app, go_on h1 [c]]
    show go k [c] ((2 * c + 1) :: r.bs) = some []
    rw [go_close _ _ (by omega)]
    exact h2
theorem kids_app : ∀ t u : Tr, (t.app u).kids = t.kids ++ u.kids
  | .nil, u => rfl
  | .cons k s r, u => by rw [app, kids, kids, kids_app r u]; rfl
theorem op_at : ∀ {k : Nat}, k < 4 → atI [40, 91, 123, 60] (k : Int) = some (brs.getD (2 * k) 0)
  | 0, _ => rfl
  | 1, _ => rfl
  | 2, _ => rfl
  | 3, _ => rfl
  | n + 4, h => by omega
theorem cl_at : ∀ {k : Nat}, k < 4 → atI [41, 93, 125, 62] (k : Int) = some (brs.getD (2 * k + 1) 0)
  | 0, _ => rfl
  | 1, _ => rfl
  | 2, _ => rfl
  | 3, _ => rfl
  | n + 4, h => by omega
theorem brt_in (k : Nat) (l : List Nat) : [brs.getD (2 * k) 0] ++ brt l ++ [brs.getD (2 * k + 1) 0] = brt (2 * k :: (l ++ [2 * k + 1])) := by
  unfold brt
  rw [List.map_cons, List.map_append]
  rfl
theorem brt_kids (t : Tr) : (t.kids.map fun x => brt (2 * x.1 :: (x.2.bs ++ [2 * x.1 + 1]))).flatten = brt t.bs := by
  rw [bs_kids]
  unfold brt
  rw [List.map_flatten, List.map_map]
  rfl
theorem bs_app : ∀ t u : Tr, (t.app u).bs = t.bs ++ u.bs
  | .nil, u => rfl
  | .cons k s r, u => by rw [app, bs, bs_app r u, bs]; simp
theorem sz_app : ∀ t u : Tr, (t.app u).sz = t.sz + u.sz
  | .nil, u => by simp [app, sz]
  | .cons k s r, u => by rw [app, sz, sz_app r u, sz]; omega
theorem gr_app : ∀ t u : Tr, (t.app u).gr = max t.gr u.gr
  | .nil, u => by simp [app, gr]
  | .cons k s r, u => by rw [app, gr, gr_app r u, gr]; omega
theorem ht_app : ∀ t u : Tr, (t.app u).ht = max t.ht u.ht
  | .nil, u => by simp [app, Tr.ht]
  | .cons k s r, u => by rw [app, Tr.ht, ht_app r u, Tr.ht]; omega
theorem app_step (t : Tr) (k : Nat) (s r : Tr) : t.app (.cons k s r) = (t.app (.cons k s .nil)).app r := by
  induction t with
  | nil => rfl
  | cons k' s' r' _ ih => rw [app, app, app, ih]
theorem app_nil (t : Tr) : t.app .nil = t := by
  induction t with
  | nil => rfl
  | cons k' s' r' _ ih => rw [app, ih]
theorem op_idx : ∀ {k : Nat}, k < 4 → occ1 [40, 91, 123, 60] (brs.getD (2 * k) 0) = some k
  | 0, _ => by decide +kernel
  | 1, _ => by decide +kernel
  | 2, _ => by decide +kernel
  | 3, _ => by decide +kernel
  | n + 4, h => by omega
theorem part_at {bs u v w : List Nat} {k : Nat} {xs : List V} (h : IsPart (brt bs) xs) (hk : k < 4) (hb : bs = u ++ 2 * k :: (v ++ (2 * k + 1) :: w)) (hv : Rg 4 v) : xs[u.length]? = some (.int ((u.length + 1 + v.length : Nat) : Int)) := by
  have hp : Pr (brt bs) u.length (u.length + 1 + v.length) := PairAt.pr (Nat.le_refl 4) ⟨k, u, v, w, hk, hb, rfl, rfl, hv⟩
  obtain ⟨p, e, z⟩ := h.2 u.length (Nat.lt_trans hp.1 hp.2.1)
  rcases z with z | z
  · rw [e, pr_fun z hp]
  · exact (pr_not hp z).elim
end BrTr

namespace BrTr
open L2 PySem PySem.Spec PyProof.Rows BrM BrC BrB BrI BrS BrR
open Tr

theorem op_facts : ∀ {k : Nat}, k < 4 → brs.getD (2 * k) 0 ∈ opn ∧ clo (brs.getD (2 * k) 0) = brs.getD (2 * k + 1) 0 ∧ clo (brs.getD (2 * k) 0) ∉ opn
  | 0, _ => by decide +kernel
  | 1, _ => by decide +kernel
  | 2, _ => by decide +kernel
  | 3, _ => by decide +kernel
  | n + 4, h => by omega
def ptr (x : Nat × Tr) : List Nat := [brs.getD (2 * x.1) 0] ++ brt x.2.bs ++ [clo (brs.getD (2 * x.1) 0)]
theorem brt_cons {k : Nat} (h : k < 4) (s r : Tr) : brt (Tr.cons k s r).bs = ptr (k, s) ++ brt r.bs := by
  unfold ptr
  rw [(op_facts h).2.1]
  unfold brt
  rw [bs]
  simp
theorem tr_rt : ∀ {t : Tr}, t.gr < 4 → Rt (brt t.bs)
  | .nil, _ => rfl
  | .cons k s r, h => by
    simp only [gr] at h
    have hk : k < 4 := by omega
    have hs : s.gr < 4 := by omega
    rw [brt_cons hk]
    exact rt_cat (rt_pair (op_facts hk).1 (op_facts hk).2.2 (tr_rt hs)) (tr_rt (by omega))
theorem bs_all : ∀ {t : Tr} {m : Nat}, (∀ b ∈ t.bs, b < 2 * m) ↔ (t.sz = 0 ∨ t.gr < m)
  | .nil, m => by simp [bs, sz]
  | .cons k s r, m => by
    have i1 := bs_all (t := s) (m := m)
    have i2 := bs_all (t := r) (m := m)
    have z1 : s.sz = 0 → s.gr = 0 := fun z => by cases s with | nil => rfl | cons a b c => simp only [sz] at z; omega
    have z2 : r.sz = 0 → r.gr = 0 := fun z => by cases r with | nil => rfl | cons a b c => simp only [sz] at z; omega
    simp only [bs, List.forall_mem_cons, List.forall_mem_append, i1, i2, sz, gr]
    omega
theorem brs_back : ∀ k : Nat, k < 5 → ∀ b : Nat, b < 8 → brs.getD b 0 ∈ sgn (k : Int) → b < 2 * k := by decide +kernel
theorem tr_row {t : Tr} {kk : Int} (h1 : 1 ≤ kk) (h2 : kk ≤ 4) (hs : t.sz ≤ 20) (hg : t.gr < 4) : isRow kk (brt t.bs) = decide ((t.gr : Int) < kk) := by
  obtain ⟨k, rfl⟩ : ∃ k : Nat, kk = (k : Int) := ⟨kk.toNat, by omega⟩
  have hb8 : ∀ b ∈ t.bs, b < 2 * 4 := bs_all.mpr (.inr hg)
  by_cases c : t.gr < k
  · rw [decide_eq_true (by omega)]
    exact isRow_brt (by omega) (by rw [bs_len]; omega) (bs_all.mpr (.inr c))
  · rw [decide_eq_false (by omega)]
    rw [Bool.eq_false_iff]
    intro z
    unfold isRow at z
    rw [Bool.and_eq_true, List.all_eq_true] at z
    have : ∀ b ∈ t.bs, b < 2 * k := fun b hb => brs_back k (by omega) b (hb8 b hb) (of_decide_eq_true (z.2 _ (List.mem_map.mpr ⟨b, hb, rfl⟩)))
    rcases bs_all.mp this with y | y
    · cases t with
      | nil => simp only [gr] at c; omega
      | cons a b d => simp only [sz] at y; omega
    · exact c y
def spRowOf : Sp := fun vs H Q _ => ∃ (k : Int) (v : V) (p : Addr) (t : Tr), vs = [.int k, v] ∧ 1 ≤ k ∧ k ≤ 4 ∧ (∃ o, H p = some o) ∧ TrH p H v t ∧ t.sz ≤ 20 ∧ t.gr < k.toNat ∧ ∀ H', Same H H' → Q (tx (brt t.bs)) H'
theorem for_zM {x y : Addr} {xs ys : List V} {g : TG} {tb : TS} {D : Ends} {σ : L2.St} {H : Hp} (hl : ys.length = xs.length) (Pv : Nat → L2.St → Hp → Prop) (h0 : Pv 0 σ H) (ht : ∀ i σ H', Pv i σ H' → H' x = some (.lst xs) ∧ H' y = some (.lst ys))
    (hs : ∀ i c d T σ H1 H', xs[i]? = some c → ys[i]? = some d → Pv i σ H1 → Same H1 H' → H' T = some (.tup [c, d]) → g (.ref T) σ H' fun σ2 H2 => tb { D with nx := Pv (i + 1), ct := Pv (i + 1), bk := D.nx } σ2 H2) (hd : ∀ σ H, Pv xs.length σ H → D.nx σ H) : ForW (IzM x y) g tb D σ H := by
  refine for_of (n := xs.length) Pv h0 (fun i σ H hi p => ?_) (fun σ H p => ?_) (fun i v σ H1 H' hi p y' => ?_) hd
  · obtain ⟨a1, a2⟩ := ht _ _ _ p
    exact ⟨⟨_, a1, hi⟩, _, a2, by omega⟩
  · obtain ⟨a1, a2⟩ := ht _ _ _ p
    exact ⟨_, _, a1, a2, .inl rfl⟩
  · obtain ⟨a1, a2⟩ := ht _ _ _ p
    obtain ⟨T, z1, c, z2, d, hT, e1, hc, e2, hd, rfl, rfl⟩ := y'
    rw [a1] at e1; cases e1
    rw [a2] at e2; cases e2
    exact hs i c d T σ H1 _ hc hd p (same_new hT _) upd_same
end BrTr

namespace BrTr
open L2 PySem PySem.Spec PyProof.Rows BrM BrC BrB BrI BrS BrR
open Tr

def LayK (H0 H : Hp) : List Addr → List V → Tr → Prop
  | A, vs, .nil => vs = [] ∧ A = []
  | A, vs, .cons k s r => ∃ (T b : Addr) (As Ar : List Addr) (vs' ws : List V), vs = .ref T :: vs' ∧ H0 T = none ∧ H0 b = none ∧ H T = some (.tup [.int (k : Int), .ref b]) ∧ H b = some (.lst ws) ∧ LayK H0 H As ws s ∧ LayK H0 H Ar vs' r ∧ A = b :: (As ++ Ar)
theorem LayK.frame {H0 H H' : Hp} : ∀ {t : Tr} {A : List Addr} {vs : List V}, LayK H0 H A vs t → (∀ x ∈ A, H' x = H x) → (∀ x ws, H x = some (.tup ws) → H' x = some (.tup ws)) → LayK H0 H' A vs t
  | .nil, A, vs, h, _, _ => h
  | .cons k s r, A, vs, h, hA, hT => by
    obtain ⟨T, b, As, Ar, vs', ws, e1, n1, n2, g1, g2, l1, l2, e2⟩ := h
    subst e2
    exact ⟨T, b, As, Ar, vs', ws, e1, n1, n2, hT _ _ g1, by rw [hA b (by simp)]; exact g2, l1.frame (fun x hx => hA x (by simp [hx])) hT, l2.frame (fun x hx => hA x (by simp [hx])) hT, rfl⟩
theorem LayK.len {H0 H : Hp} : ∀ {t : Tr} {A : List Addr} {vs : List V}, LayK H0 H A vs t → A.length = t.sz ∧ vs.length = t.kids.length
  | .nil, A, vs, h => by obtain ⟨rfl, rfl⟩ := h; exact ⟨rfl, rfl⟩
  | .cons k s r, A, vs, h => by
    obtain ⟨T, b, As, Ar, vs', ws, e1, n1, n2, g1, g2, l1, l2, e2⟩ := h
    subst e2 e1
    have a1 := l1.len
    have a2 := l2.len
    simp only [List.length_cons, List.length_append, sz, kids, a1.1, a2.1, a2.2]
    exact ⟨by omega, trivial⟩
theorem LayK.lst {H0 H : Hp} : ∀ {t : Tr} {A : List Addr} {vs : List V}, LayK H0 H A vs t → ∀ x ∈ A, H0 x = none ∧ ∃ ws, H x = some (.lst ws) ∧ ws.length ≤ t.sz
  | .nil, A, vs, h, x, hx => by obtain ⟨_, rfl⟩ := h; cases hx
  | .cons k s r, A, vs, h, x, hx => by
    obtain ⟨T, b, As, Ar, vs', ws, e1, n1, n2, g1, g2, l1, l2, e2⟩ := h
    subst e2
    simp only [sz]
    rcases List.mem_cons.mp hx with rfl | hx
    · have := l1.len.2
      have := kids_len s
      exact ⟨n2, ws, g2, by omega⟩
    · rcases List.mem_append.mp hx with hx | hx
      · obtain ⟨a, w, g, l⟩ := l1.lst x hx
        exact ⟨a, w, g, by omega⟩
      · obtain ⟨a, w, g, l⟩ := l2.lst x hx
        exact ⟨a, w, g, by omega⟩

theorem LayK.end {H0 H' : Hp} {T w : Addr} {k : Nat} (n1 : H0 T = none) (n2 : H0 w = none) (g1 : H' T = some (.tup [.int (k : Int), .ref w])) (g2 : H' w = some (.lst [])) : ∀ {t : Tr} {A : List Addr} {vs : List V}, LayK H0 H' A vs t → LayK H0 H' (A ++ [w]) (vs ++ [.ref T]) (t.app (.cons k .nil .nil))
  | .nil, A, vs, h => by
    obtain ⟨rfl, rfl⟩ := h
    exact ⟨T, w, [], [], [], [], rfl, n1, n2, g1, g2, ⟨rfl, rfl⟩, ⟨rfl, rfl⟩, rfl⟩
  | .cons c s r, A, vs, h => by
    obtain ⟨T', b, As, Ar, vs', ws, e1, m1, m2, h1, h2, l1, l2, e2⟩ := h
    subst e2 e1
    exact ⟨T', b, As, Ar ++ [w], vs' ++ [.ref T], ws, rfl, m1, m2, h1, h2, l1, l2.end n1 n2 g1 g2, by simp⟩

theorem LayK.put {H0 H H' : Hp} {T w b : Addr} {k : Nat} {us : List V} (n1 : H0 T = none) (n2 : H0 w = none) (g1 : H' T = some (.tup [.int (k : Int), .ref w])) (g2 : H' w = some (.lst [])) (gb : H b = some (.lst us)) (gb' : H' b = some (.lst (us ++ [.ref T]))) (hs : ∀ x o, x ≠ b → H x = some o → H' x = some o) : ∀ {t : Tr} {A : List Addr} {vs : List V}, LayK H0 H A vs t → b ∈ A → A.Nodup → ∃ t' A', LayK H0 H' A' vs t' ∧ t'.sz = t.sz + 1 ∧ t'.gr ≤ max t.gr k ∧ A'.Perm (w :: A)
  | .nil, A, vs, h, hb, _ => by obtain ⟨_, rfl⟩ := h; cases hb
  | .cons c s r, A, vs, h, hb, hn => by
    have hT : ∀ x ws, H x = some (.tup ws) → H' x = some (.tup ws) := fun x ws hx => hs x _ (fun z => by rw [z, gb] at hx; cases hx) hx
    obtain ⟨T', b', As, Ar, vs', ws, e1, m1, m2, h1, h2, l1, l2, e2⟩ := h
    subst e2 e1
    obtain ⟨nb, nA⟩ := List.nodup_cons.mp hn
    obtain ⟨nS, nR, nSR⟩ := List.nodup_append.mp nA
    have fr : ∀ {t : Tr} {A : List Addr} {vs : List V}, LayK H0 H A vs t → b ∉ A → LayK H0 H' A vs t := fun l hnb => l.frame (fun x hx => by
      obtain ⟨_, ws, g, _⟩ := l.lst x hx
      rw [g]
      exact hs x _ (fun z => hnb (z ▸ hx)) g) hT
    rcases List.mem_cons.mp hb with e | hb
    · subst e
      rw [gb] at h2
      cases h2
      have q1 := fr l1 (fun z => nb (List.mem_append_left _ z))
      have q2 := fr l2 (fun z => nb (List.mem_append_right _ z))
      refine ⟨.cons c (s.app (.cons k .nil .nil)) r, _, ⟨T', b, _, _, _, _, rfl, m1, m2, hT _ _ h1, gb', q1.end n1 n2 g1 g2, q2, rfl⟩, ?_, ?_, ?_⟩
      · simp only [sz, sz_app]; omega
      · simp only [gr, gr_app]; omega
      · rw [List.append_assoc]
        exact List.perm_middle (l₁ := b :: As)
    · have hbb : b' ≠ b := fun z => nb (z ▸ hb)
      have h2' := hs b' _ hbb h2
      rcases List.mem_append.mp hb with hb1 | hb1
      · obtain ⟨s', A', q1, z1, z2, z3⟩ := LayK.put n1 n2 g1 g2 gb gb' hs l1 hb1 nS
        have q2 := fr l2 (fun z => nSR b hb1 b z rfl)
        refine ⟨.cons c s' r, _, ⟨T', b', _, _, _, _, rfl, m1, m2, hT _ _ h1, h2', q1, q2, rfl⟩, ?_, ?_, ?_⟩
        · simp only [sz]; omega
        · simp only [gr]; omega
        · exact ((z3.append_right Ar).cons b').trans (List.Perm.swap w b' (As ++ Ar))
      · obtain ⟨r', A', q2, z1, z2, z3⟩ := LayK.put n1 n2 g1 g2 gb gb' hs l2 hb1 nR
        have q1 := fr l1 (fun z => nSR b z b hb1 rfl)
        refine ⟨.cons c s r', _, ⟨T', b', _, _, _, _, rfl, m1, m2, hT _ _ h1, h2', q1, q2, rfl⟩, ?_, ?_, ?_⟩
        · simp only [sz]; omega
        · simp only [gr]; omega
        · exact ((z3.append_left As).cons b').trans (List.perm_middle (l₁ := b' :: As))
theorem LayK.kd {H0 H : Hp} {p : Addr} (hp : H0 p ≠ none) : ∀ {t : Tr} {A : List Addr} {vs : List V}, LayK H0 H A vs t → Kd p H vs t.kids
  | .nil, A, vs, h => by obtain ⟨rfl, _⟩ := h; exact ⟨rfl, fun i x h => by simp [kids] at h⟩
  | .cons k s r, A, vs, h => by
    obtain ⟨T, b, As, Ar, vs', ws, e1, n1, n2, g1, g2, l1, l2, e2⟩ := h
    subst e1
    have nT : T ≠ p := fun z => hp (z ▸ n1)
    have nb : b ≠ p := fun z => hp (z ▸ n2)
    have q1 := Kd.close g2 nb (l1.kd hp)
    have q2 := l2.kd hp
    refine ⟨by rw [List.length_cons, kids, List.length_cons, q2.1], fun i x hx => ?_⟩
    cases i with
    | zero => cases hx; exact ⟨T, b, rfl, nT, g1, q1⟩
    | succ i => exact q2.2 i x hx
theorem LayK.keep {H0 H H' : Hp} {p : Addr} {l : List V} (hp : H0 p ≠ none) (gp : H p = some (.lst l)) (s : SameBut1 p H H') {t : Tr} {A : List Addr} {vs : List V} (h : LayK H0 H A vs t) : LayK H0 H' A vs t :=
  h.frame (fun x hx => by
    obtain ⟨n, ws, g, _⟩ := h.lst x hx
    rw [g]
    exact s x _ g (fun z => hp (z ▸ n))) fun x ws g => s x _ g (fun z => by rw [z, gp] at g; cases g)
theorem LayK.upd {H0 H : Hp} {b : Addr} {us l : List V} (gb : H b = some (.lst l)) {t : Tr} {A : List Addr} {vs : List V} (h : LayK H0 H A vs t) (hb : b ∉ A) : LayK H0 (upd H b (.lst us)) A vs t :=
  h.frame (fun x hx => upd_ne (fun z => hb (z ▸ hx))) fun x ws g => by rw [upd_ne (fun z => by rw [z, gb] at g; cases g)]; exact g
theorem grow {H0 H4 H7 : Hp} {p a E w T x : Addr} {A L : List Addr} {vs us l : List V} {t : Tr} {k c : Nat} (hp : H0 p ≠ none) (gp : H4 p = some (.lst l)) (gE : H4 E = some (.lst (L.map V.ref))) (hL : ∀ y ∈ L, y ∈ a :: A) (ga : H4 a = some (.lst vs)) (lay : LayK H0 H4 A vs t) (nd : (a :: A).Nodup) (nE : E ∉ a :: A) (ha0 : H0 a = none) (hE0 : H0 E = none)
    (hw : H4 w = none) (hw0 : H0 w = none) (hT0 : H0 T = none) (s : SameBut1 p H4 H7) (gT : H7 T = some (.tup [.int (c : Int), .ref w])) (gw : H7 w = some (.lst [])) (hx : x ∈ L) (gx : H7 x = some (.lst us)) (hc : c < k) (hg : t.gr < k) :
    ∃ A' vs' t', (upd (upd H7 x (.lst (us ++ [.ref T]))) E (.lst (L.map V.ref ++ [.ref w]))) a = some (.lst vs') ∧ LayK H0 (upd (upd H7 x (.lst (us ++ [.ref T]))) E (.lst (L.map V.ref ++ [.ref w]))) A' vs' t' ∧ (a :: A').Nodup ∧ E ∉ a :: A' ∧ t'.sz = t.sz + 1 ∧ t'.gr < k ∧ ∀ y ∈ L ++ [w], y ∈ a :: A' := by
  have lay7 := lay.keep hp gp s
  have ga7 := s _ _ ga (fun z => hp (z ▸ ha0))
  have gE7 := s _ _ gE (fun z => hp (z ▸ hE0))
  obtain ⟨naA, ndA⟩ := List.nodup_cons.mp nd
  have hEa : a ≠ E := fun z => nE (by rw [z]; exact List.mem_cons_self)
  have hwa : w ≠ a := fun z => by rw [z, ga] at hw; cases hw
  have hwE : w ≠ E := fun z => by rw [z, gE] at hw; cases hw
  have hwA : w ∉ A := fun z => by
    obtain ⟨_, ws, g, _⟩ := lay.lst w z
    rw [g] at hw; cases hw
  have hxA := hL x hx
  have hxE : x ≠ E := fun z => nE (z ▸ hxA)
  have gE8 : (upd H7 x (.lst (us ++ [.ref T]))) E = some (.lst (L.map V.ref)) := by rw [upd_ne hxE.symm]; exact gE7
  have hTx : T ≠ x := fun z => by rw [z, gx] at gT; cases gT
  have hwx : w ≠ x := fun z => by
    rcases List.mem_cons.mp hxA with e | e
    · exact hwa (z.trans e)
    · exact hwA (z ▸ e)
  have gT8 : (upd H7 x (.lst (us ++ [.ref T]))) T = some (.tup [.int (c : Int), .ref w]) := by rw [upd_ne hTx]; exact gT
  have gw8 : (upd H7 x (.lst (us ++ [.ref T]))) w = some (.lst []) := by rw [upd_ne hwx]; exact gw
  rcases List.mem_cons.mp hxA with e | e
  · subst e
    rw [gx] at ga7
    injection ga7 with ga7
    injection ga7 with ga7
    subst ga7
    have q := (lay7.upd (us := us ++ [.ref T]) gx naA).end hT0 hw0 gT8 gw8
    refine ⟨A ++ [w], us ++ [.ref T], _, by rw [upd_ne hEa, upd_same], q.upd gE8 ?_, ?_, ?_, by rw [sz_app]; simp [sz], by rw [gr_app]; simp only [gr]; omega, fun y hy => ?_⟩
    · simp only [List.mem_append, List.mem_singleton]
      rintro (z | z)
      · exact nE (List.mem_cons_of_mem _ z)
      · exact hwE z.symm
    · rw [List.nodup_cons, List.nodup_append]
      refine ⟨by simp only [List.mem_append, List.mem_singleton]; rintro (z | z); exact naA z; exact hwa z.symm, ndA, by simp, fun y hy z hz => ?_⟩
      rw [List.mem_singleton] at hz
      subst hz
      exact fun e => hwA (e ▸ hy)
    · simp only [List.mem_cons, List.mem_append, List.not_mem_nil, or_false]
      rintro (z | z | z)
      · exact hEa z.symm
      · exact nE (List.mem_cons_of_mem _ z)
      · exact hwE z.symm
    · rcases List.mem_append.mp hy with z | z
      · rcases List.mem_cons.mp (hL y z) with e | e
        · exact e ▸ List.mem_cons_self
        · exact List.mem_cons_of_mem _ (List.mem_append_left _ e)
      · exact List.mem_cons_of_mem _ (List.mem_append_right _ z)
  · obtain ⟨t', A', q, z1, z2, z3⟩ := LayK.put hT0 hw0 gT8 gw8 gx upd_same (fun y o ny g => by rw [upd_ne ny]; exact g) lay7 e ndA
    have hax : a ≠ x := fun z => naA (z ▸ e)
    have hmem : ∀ y, y ∈ A' ↔ y = w ∨ y ∈ A := fun y => by rw [z3.mem_iff, List.mem_cons]
    refine ⟨A', vs, t', by rw [upd_ne hEa, upd_ne hax]; exact ga7, q.upd gE8 ?_, ?_, ?_, z1, by omega, fun y hy => ?_⟩
    · rw [hmem]
      rintro (z | z)
      · exact hwE z.symm
      · exact nE (List.mem_cons_of_mem _ z)
    · rw [List.nodup_cons, hmem]
      refine ⟨?_, z3.nodup_iff.mpr (List.nodup_cons.mpr ⟨hwA, ndA⟩)⟩
      rintro (z | z)
      · exact hwa z.symm
      · exact naA z
    · rw [List.mem_cons, hmem]
      rintro (z | z | z)
      · exact hEa z.symm
      · exact hwE z.symm
      · exact nE (List.mem_cons_of_mem _ z)
    · rw [List.mem_cons, hmem]
      rcases List.mem_append.mp hy with z | z
      · rcases List.mem_cons.mp (hL y z) with e | e
        · exact .inl e
        · exact .inr (.inr e)
      · exact .inr (.inl (List.mem_singleton.mp z))
theorem pick4 {a b c d m way : Int} (h0 : 0 ≤ way) (h4 : way < 4) (ha : 0 ≤ a ∧ a ≤ m) (hb : 0 ≤ b ∧ b ≤ m) (hc : 0 ≤ c ∧ c ≤ m) (hd : 0 ≤ d ∧ d ≤ m) : ∃ e : Nat, atI [V.int a, V.int b, V.int c, V.int d] way = some (.int (e : Int)) ∧ (e : Int) ≤ m := by
  obtain ⟨n, rfl⟩ : ∃ n : Nat, way = (n : Int) := ⟨way.toNat, by omega⟩
  match n, h4 with
  | 0, _ => exact ⟨a.toNat, by rw [atI_nat rfl, Int.toNat_of_nonneg ha.1], by omega⟩
  | 1, _ => exact ⟨b.toNat, by rw [atI_nat rfl, Int.toNat_of_nonneg hb.1], by omega⟩
  | 2, _ => exact ⟨c.toNat, by rw [atI_nat rfl, Int.toNat_of_nonneg hc.1], by omega⟩
  | 3, _ => exact ⟨d.toNat, by rw [atI_nat rfl, Int.toNat_of_nonneg hd.1], by omega⟩
  | n + 4, h => omega
theorem pick3 {a b c m way : Int} (h0 : 0 ≤ way) (h4 : way < 3) (ha : 0 ≤ a ∧ a ≤ m) (hb : 0 ≤ b ∧ b ≤ m) (hc : 0 ≤ c ∧ c ≤ m) : ∃ e : Nat, atI [V.int a, V.int b, V.int c] way = some (.int (e : Int)) ∧ (e : Int) ≤ m := by
  obtain ⟨n, rfl⟩ : ∃ n : Nat, way = (n : Int) := ⟨way.toNat, by omega⟩
  match n, h4 with
  | 0, _ => exact ⟨a.toNat, by rw [atI_nat rfl, Int.toNat_of_nonneg ha.1], by omega⟩
  | 1, _ => exact ⟨b.toNat, by rw [atI_nat rfl, Int.toNat_of_nonneg hb.1], by omega⟩
  | 2, _ => exact ⟨c.toNat, by rw [atI_nat rfl, Int.toNat_of_nonneg hc.1], by omega⟩
  | n + 3, h => omega
end BrTr

namespace BrTr
open L2 PySem PySem.Spec PyProof.Rows BrM BrC BrB BrI BrS BrR
open Tr

def But (A : List Addr) (H H' : Hp) : Prop := ∀ x o, x ∉ A → H x = some o → H' x = some o
theorem kin_op : ∀ k : Nat, k < 5 → ∀ c ∈ opn, (c ∈ opn.take k ∨ c ∈ cls.take k) → ∃ j, j < k ∧ c = brs.getD (2 * j) 0 := by decide +kernel
theorem rt_tree {k : Int} (h1 : 1 ≤ k) (h4 : k ≤ 4) : ∀ (n : Nat) (r : List Nat), r.length ≤ n → Rt r → (∀ c ∈ r, kin k c) → ∃ t : Tr, brt t.bs = r ∧ t.gr < k.toNat
  | n, r, hn, hr, hk => by
    rcases rt_cases hr with e | ⟨o, M, B, e, ho, hM, hB⟩
    · exact ⟨.nil, by rw [e]; rfl, by simp only [gr]; omega⟩
    · subst e
      simp only [List.length_append, List.length_singleton] at hn
      obtain ⟨m, rfl⟩ : ∃ m, n = m + 1 := ⟨n - 1, by omega⟩
      obtain ⟨tM, e1, g1⟩ := rt_tree h1 h4 m M (by omega) hM fun c hc => hk c (by simp [hc])
      obtain ⟨tB, e2, g2⟩ := rt_tree h1 h4 m B (by omega) hB fun c hc => hk c (by simp [hc])
      obtain ⟨j, hj, ej⟩ := kin_op k.toNat (by omega) o ho (hk o (by simp))
      refine ⟨.cons j tM tB, ?_, by simp only [gr]; omega⟩
      rw [brt_cons (by omega)]
      unfold ptr
      rw [← ej, e1, e2]

theorem LayK.anti {H0 H1 H : Hp} (h : ∀ x, H1 x = none → H0 x = none) : ∀ {t : Tr} {A : List Addr} {vs : List V}, LayK H1 H A vs t → LayK H0 H A vs t
  | .nil, A, vs, l => l
  | .cons k s r, A, vs, l => by
    obtain ⟨T, b, As, Ar, vs', ws, e1, n1, n2, g1, g2, l1, l2, e2⟩ := l
    exact ⟨T, b, As, Ar, vs', ws, e1, h _ n1, h _ n2, g1, g2, l1.anti h, l2.anti h, e2⟩
theorem LayK.same {H0 H H' : Hp} (s : Same H H') {t : Tr} {A : List Addr} {vs : List V} (l : LayK H0 H A vs t) : LayK H0 H' A vs t :=
  l.frame (fun x hx => by obtain ⟨_, ws, g, _⟩ := l.lst x hx; rw [g, s _ _ g]) fun x ws g => s _ _ g
theorem LayK.endU {H0 H : Hp} {T b : Addr} {As : List Addr} {ws : List V} {k : Nat} {s : Tr} (n1 : H0 T = none) (n2 : H0 b = none) (g1 : H T = some (.tup [.int (k : Int), .ref b])) (g2 : H b = some (.lst ws)) (l : LayK H0 H As ws s) : ∀ {t : Tr} {A : List Addr} {vs : List V}, LayK H0 H A vs t → LayK H0 H (A ++ b :: As) (vs ++ [.ref T]) (t.app (.cons k s .nil))
  | .nil, A, vs, h => by
    obtain ⟨rfl, rfl⟩ := h
    exact ⟨T, b, As, [], [], ws, rfl, n1, n2, g1, g2, l, ⟨rfl, rfl⟩, by simp⟩
  | .cons c s' r, A, vs, h => by
    obtain ⟨T', b', As', Ar, vs', ws', e1, m1, m2, h1, h2, l1, l2, e2⟩ := h
    subst e2 e1
    exact ⟨T', b', As', Ar ++ b :: As, vs' ++ [.ref T], ws', rfl, m1, m2, h1, h2, l1, LayK.endU n1 n2 g1 g2 l l2, by simp⟩
def gBetweenL (n : Nat) : Sp := fun vs H Q _ => ∃ (bs pre post : List Nat) (r : Addr) (xs : List V) (t : Tr), vs = [tx (brt bs), .ref r, .int (pre.length : Int), .int ((pre.length + 2 * t.sz : Nat) : Int)] ∧ H r = some (.lst xs) ∧ IsPart (brt bs) xs ∧ bs = pre ++ (t.bs ++ post) ∧ t.gr < 4 ∧ bs.length ≤ 40 ∧ t.ht ≤ n ∧
  ∀ D A us H', H D = none → Same H H' → H' D = some (.lst us) → LayK H H' A us t → (D :: A).Nodup → Q (.ref D) H'
def spTreeOfL : Sp := fun vs H Q _ => ∃ (k : Int) (t : Tr), vs = [.int k, tx (brt t.bs)] ∧ 1 ≤ k ∧ k ≤ 4 ∧ t.gr < k.toNat ∧ t.sz ≤ 20 ∧ ∀ D A us H', H D = none → Same H H' → H' D = some (.lst us) → LayK H H' A us t → (D :: A).Nodup → Q (.ref D) H'
theorem LayK.tr {H0 H : Hp} {D p : Addr} {t : Tr} {A : List Addr} {us : List V} (l : LayK H0 H A us t) (g : H D = some (.lst us)) (hD : H0 D = none) (hp : ∃ o, H0 p = some o) : TrH p H (.ref D) t := by
  obtain ⟨o, ho⟩ := hp
  exact Kd.close g (fun z => by rw [z, ho] at hD; cases hD) (l.kd (by rw [ho]; simp))
theorem LayK.nodup {H0 H4 H5 : Hp} {D D2 : Addr} {A A2 : List Addr} {us : List V} {t u : Tr} {us2 : List V} (l : LayK H0 H4 A us t) (nd : (D :: A).Nodup) (gD : ∃ o, H4 D = some o) (l2 : LayK H4 H5 A2 us2 u) (nd2 : (D2 :: A2).Nodup) (hD2 : H4 D2 = none) : (D :: (A ++ D2 :: A2)).Nodup := by
  have hn : ∀ x ∈ D2 :: A2, H4 x = none := fun x hx => by
    rcases List.mem_cons.mp hx with e | e
    · exact e ▸ hD2
    · exact (l2.lst x e).1
  have hs : ∀ x ∈ D :: A, ∃ o, H4 x = some o := fun x hx => by
    rcases List.mem_cons.mp hx with e | e
    · exact e ▸ gD
    · obtain ⟨_, ws, g, _⟩ := l.lst x e
      exact ⟨_, g⟩
  show ((D :: A) ++ (D2 :: A2)).Nodup
  refine List.nodup_append.mpr ⟨nd, nd2, fun a ha b hb e => ?_⟩
  obtain ⟨o, ho⟩ := hs a ha
  rw [e, hn b hb] at ho
  cases ho
theorem LayK.kd0 {H0 H : Hp} {p : Addr} (hp : H p = none) : ∀ {t : Tr} {A : List Addr} {vs : List V}, LayK H0 H A vs t → Kd p H vs t.kids
  | .nil, A, vs, h => by obtain ⟨rfl, _⟩ := h; exact ⟨rfl, fun i x h => by simp [kids] at h⟩
  | .cons k s r, A, vs, h => by
    obtain ⟨T, b, As, Ar, vs', ws, e1, n1, n2, g1, g2, l1, l2, e2⟩ := h
    subst e1
    have q1 := Kd.close g2 (fun z => by rw [z, hp] at g2; cases g2) (l1.kd0 hp)
    have q2 := l2.kd0 hp
    refine ⟨by rw [List.length_cons, kids, List.length_cons, q2.1], fun i x hx => ?_⟩
    cases i with
    | zero => cases hx; exact ⟨T, b, rfl, (fun z => by rw [z, hp] at g1; cases g1), g1, q1⟩
    | succ i => exact q2.2 i x hx
theorem LayK.tr0 {H0 H : Hp} {D p : Addr} {t : Tr} {A : List Addr} {us : List V} (l : LayK H0 H A us t) (g : H D = some (.lst us)) (hp : H p = none) : TrH p H (.ref D) t := Kd.close g (fun z => by rw [z, hp] at g; cases g) (l.kd0 hp)
theorem s_eqTr2 {H : Hp} {Q : VK} {x y : V} {t : Tr} {p q : Addr} (h1 : TrH p H x t) (h2 : TrH q H y t) (ht : t.ht ≤ 70) (h : Q (.bl true) H) : rEqDat id x y H Q := ⟨_, _, p, q, h1, h2, tr_dat ht, (tr_dat ht).1, by rw [tr_eqv, decide_eq_true rfl]; exact h⟩
theorem kd_nil (p : Addr) (H : Hp) : Kd p H [] Tr.nil.kids := ⟨rfl, fun i x h => by simp [kids] at h⟩
theorem LayK.old {H0 H H' : Hp} {D : Addr} {t : Tr} {A : List Addr} {us : List V} (l : LayK H0 H A us t) (hD : H0 D = none) (s : Same H0 H) (bt : But (D :: A) H H') : Same H0 H' := fun x o hx => bt x o (fun z => by
  rcases List.mem_cons.mp z with e | e
  · rw [e, hD] at hx; cases hx
  · rw [(l.lst x e).1] at hx; cases hx) (s _ _ hx)

def SpK (H : Hp) : Nat → List Addr → List V → Tr → Prop
  | _, A, vs, .nil => vs = [] ∧ A = []
  | m, A, vs, .cons k s r => ∃ (T b : Addr) (As Ar : List Addr) (vs' ws : List V), vs = .ref T :: vs' ∧ H T = some (.tup [.int (k : Int), .ref b]) ∧ H b = some (.lst (ws ++ [.int ((m + s.sz : Nat) : Int)])) ∧ SpK H m As ws s ∧ SpK H (m + s.sz + 1) Ar vs' r ∧ A = b :: (As ++ Ar)
theorem SpK.frame {H H' : Hp} : ∀ {t : Tr} {m : Nat} {A : List Addr} {vs : List V}, SpK H m A vs t → (∀ x ∈ A, ∀ o, H x = some o → H' x = some o) → (∀ x ws, H x = some (.tup ws) → H' x = some (.tup ws)) → SpK H' m A vs t
  | .nil, m, A, vs, h, _, _ => h
  | .cons k s r, m, A, vs, h, hA, hT => by
    obtain ⟨T, b, As, Ar, vs', ws, e1, g1, g2, l1, l2, e2⟩ := h
    subst e2
    exact ⟨T, b, As, Ar, vs', ws, e1, hT _ _ g1, hA b (by simp) _ g2, l1.frame (fun x hx => hA x (by simp [hx])) hT, l2.frame (fun x hx => hA x (by simp [hx])) hT, rfl⟩
theorem SpK.end {H : Hp} {T b : Addr} {As : List Addr} {ws : List V} {k : Nat} {s : Tr} : ∀ {t : Tr} {m : Nat} {A : List Addr} {vs : List V}, SpK H m A vs t → H T = some (.tup [.int (k : Int), .ref b]) → H b = some (.lst (ws ++ [.int ((m + t.sz + s.sz : Nat) : Int)])) → SpK H (m + t.sz) As ws s → SpK H m (A ++ b :: As) (vs ++ [.ref T]) (t.app (.cons k s .nil))
  | .nil, m, A, vs, h, g1, g2, l => by
    obtain ⟨rfl, rfl⟩ := h
    exact ⟨T, b, As, [], [], ws, rfl, g1, g2, l, ⟨rfl, rfl⟩, by simp⟩
  | .cons c s' r, m, A, vs, h, g1, g2, l => by
    obtain ⟨T', b', As', Ar, vs', ws', e1, h1, h2, l1, l2, e2⟩ := h
    subst e2 e1
    have e : m + (Tr.cons c s' r).sz = m + s'.sz + 1 + r.sz := by simp only [sz]; omega
    rw [e] at g2 l
    exact ⟨T', b', As', Ar ++ b :: As, vs' ++ [.ref T], ws', rfl, h1, h2, l1, SpK.end l2 g1 g2 l, by simp⟩
theorem SpK.len {H : Hp} : ∀ {t : Tr} {m : Nat} {A : List Addr} {vs : List V}, SpK H m A vs t → vs.length = t.kids.length
  | .nil, m, A, vs, h => by obtain ⟨rfl, _⟩ := h; rfl
  | .cons k s r, m, A, vs, h => by
    obtain ⟨T, b, As, Ar, vs', ws, e1, g1, g2, l1, l2, e2⟩ := h
    subst e1
    rw [List.length_cons, l2.len]; rfl
def gSpoil (n : Nat) : Sp := fun vs H Q _ => ∃ (D : Addr) (m : Nat) (H0 : Hp) (A : List Addr) (us : List V) (t : Tr), vs = [.ref D, .int (m : Int)] ∧ H D = some (.lst us) ∧ LayK H0 H A us t ∧ (D :: A).Nodup ∧ t.ht ≤ n ∧ t.sz ≤ 20 ∧ m + t.sz ≤ 1000 ∧
  ∀ H', But (D :: A) H H' → H' D = some (.lst (us ++ [.int ((m + t.sz : Nat) : Int)])) → SpK H' m A us t → Q (.int ((m + t.sz : Nat) + 1 : Int)) H'

def Half (H0 H H' : Hp) (D : Addr) (m : Nat) (A : List Addr) (us : List V) (t : Tr) (i j : Nat) : Prop := ∃ (ta tb : Tr) (A1 A2 : List Addr) (us1 us2 : List V), t = ta.app tb ∧ A = A1 ++ A2 ∧ us = us1 ++ us2 ∧ us1.length = i ∧ j = m + ta.sz ∧ SpK H' m A1 us1 ta ∧ LayK H0 H' A2 us2 tb ∧ H' D = some (.lst us) ∧ But A H H'
theorem half0 {H0 H : Hp} {D : Addr} {m : Nat} {A : List Addr} {us : List V} {t : Tr} (g : H D = some (.lst us)) (l : LayK H0 H A us t) : Half H0 H H D m A us t 0 m :=
  ⟨.nil, t, [], A, [], us, rfl, rfl, rfl, rfl, rfl, ⟨rfl, rfl⟩, l, g, fun _ _ _ h => h⟩
theorem Half.step {H0 H H' : Hp} {D : Addr} {m : Nat} {A : List Addr} {us : List V} {t : Tr} {i j : Nat} {x : V} (h : Half H0 H H' D m A us t i j) (nd : (D :: A).Nodup) (hx : us[i]? = some x) : ∃ (T b : Addr) (k : Nat) (As : List Addr) (ws : List V) (s : Tr), x = .ref T ∧ H' T = some (.tup [.int (k : Int), .ref b]) ∧ H' b = some (.lst ws) ∧ LayK H0 H' As ws s ∧ (b :: As).Nodup ∧ s.ht < t.ht ∧ s.sz < t.sz ∧ j + s.sz ≤ m + t.sz ∧
    ∀ H2, But (b :: As) H' H2 → H2 b = some (.lst (ws ++ [.int ((j + s.sz : Nat) : Int)])) → SpK H2 j As ws s → Half H0 H H2 D m A us t (i + 1) (j + s.sz + 1) := by
  obtain ⟨ta, tb, A1, A2, us1, us2, et, eA, eu, hi, hj, sp, la, gD, bt⟩ := h
  subst eA eu hi hj
  rw [List.getElem?_append_right (Nat.le_refl _), Nat.sub_self] at hx
  cases tb with
  | nil => obtain ⟨rfl, _⟩ := la; simp at hx
  | cons k s r =>
    have la0 := la
    obtain ⟨T, b, As, Ar, vs', ws, e1, n1, n2, g1, g2, l1, l2, e2⟩ := la
    subst e1 e2
    cases hx
    obtain ⟨nD, nA⟩ := List.nodup_cons.mp nd
    obtain ⟨nA1, nA2, dis⟩ := List.nodup_append.mp nA
    obtain ⟨nb, nAs⟩ := List.nodup_cons.mp nA2
    obtain ⟨nAs, nAr, dis2⟩ := List.nodup_append.mp nAs
    have ez : t.sz = ta.sz + (1 + s.sz + r.sz) := by rw [et, sz_app, sz]
    have eh : s.ht < t.ht := by rw [et, ht_app, Tr.ht]; omega
    refine ⟨T, b, k, As, ws, s, rfl, g1, g2, l1, List.nodup_cons.mpr ⟨fun z => nb (List.mem_append_left _ z), nAs⟩, eh, by omega, by omega, fun H2 bt2 gb2 sp2 => ?_⟩
    have isl : ∀ y ∈ b :: As, ∃ w, H' y = some (.lst w) := fun y hy => by
      rcases List.mem_cons.mp hy with e | e
      · exact ⟨ws, e ▸ g2⟩
      · obtain ⟨_, w, g, _⟩ := l1.lst y e
        exact ⟨w, g⟩
    have hT : ∀ y w, H' y = some (.tup w) → H2 y = some (.tup w) := fun y w g => bt2 y _ (fun z => by
      obtain ⟨w', g'⟩ := isl y z
      rw [g] at g'; cases g') g
    have inA : ∀ y ∈ b :: As, y ∈ b :: (As ++ Ar) := fun y hy => by
      rcases List.mem_cons.mp hy with e | e
      · exact e ▸ List.mem_cons_self
      · exact List.mem_cons_of_mem _ (List.mem_append_left _ e)
    have q1 : SpK H2 m A1 us1 ta := sp.frame (fun y hy o ho => bt2 y o (fun z => dis y hy y (inA y z) rfl) ho) hT
    have q2 : LayK H0 H2 Ar vs' r := l2.frame (fun y hy => by
      obtain ⟨_, w, g, _⟩ := l2.lst y hy
      rw [g]
      refine bt2 y _ (fun z => ?_) g
      rcases List.mem_cons.mp z with e | e
      · exact nb (e ▸ List.mem_append_right _ hy)
      · exact dis2 y e y hy rfl) hT
    refine ⟨ta.app (.cons k s .nil), r, A1 ++ b :: As, Ar, us1 ++ [.ref T], vs', by rw [et, app_step], by simp, by simp, by simp, by rw [sz_app]; simp only [sz]; omega, SpK.end q1 (hT _ _ g1) gb2 sp2, q2, bt2 D _ (fun z => nD (List.mem_append_right _ (inA D z))) gD, fun y o hy ho => ?_⟩
    exact bt2 y o (fun z => hy (List.mem_append_right _ (inA y z))) (bt y o hy ho)
theorem Half.done {H0 H H' : Hp} {D : Addr} {m : Nat} {A : List Addr} {us : List V} {t : Tr} {j : Nat} (h : Half H0 H H' D m A us t us.length j) : j = m + t.sz ∧ SpK H' m A us t ∧ H' D = some (.lst us) ∧ But A H H' := by
  obtain ⟨ta, tb, A1, A2, us1, us2, et, eA, eu, hi, hj, sp, la, gD, bt⟩ := h
  have : us2 = [] := by
    have := congrArg List.length eu
    rw [List.length_append] at this
    exact List.length_eq_zero_iff.mp (by omega)
  subst this
  cases tb with
  | cons k s r => obtain ⟨T, b, As, Ar, vs', ws, e1, _⟩ := la; cases e1
  | nil =>
    obtain ⟨_, rfl⟩ := la
    rw [app_nil] at et
    rw [List.append_nil] at eA eu
    subst et eA eu
    exact ⟨hj, sp, gD, bt⟩
theorem spoilt {H0 H H' : Hp} {D : Addr} {m : Nat} {A : List Addr} {us : List V} {t : Tr} {x : V} (nd : (D :: A).Nodup) (l0 : LayK H0 H A us t) (sp : SpK H' m A us t) (gD : H' D = some (.lst us)) (bt : But A H H') : But (D :: A) H (upd H' D (.lst (us ++ [x]))) ∧ SpK (upd H' D (.lst (us ++ [x]))) m A us t := by
  obtain ⟨nD, nA⟩ := List.nodup_cons.mp nd
  refine ⟨fun y o hy ho => ?_, sp.frame (fun y hy o ho => ?_) fun y w g => ?_⟩
  · rw [upd_ne (fun z => hy (by rw [z]; exact List.mem_cons_self))]
    exact bt y o (fun z => hy (List.mem_cons_of_mem _ z)) ho
  · rw [upd_ne (fun z => nD (by rw [← z]; exact hy))]
    exact ho
  · rw [upd_ne (fun z => by rw [z, gD] at g; cases g)]
    exact g

theorem cutV_i (xs : List V) (x : V) : cutV (xs ++ [x]) none (some (-1)) = xs := by
  unfold cutV
  have e1 : HT.sIx (xs ++ [x]).length (xs ++ [x]).length (some (-1)) = xs.length := by
    unfold HT.sIx
    simp
    omega
  rw [HT.sIx_none, e1]
  simp
theorem cutV_e (xs : List V) (x : V) : cutV (xs ++ [x]) (some (-1)) none = [x] := by
  unfold cutV
  have e1 : HT.sIx (xs ++ [x]).length 0 (some (-1)) = xs.length := by
    unfold HT.sIx
    simp
    omega
  rw [HT.sIx_none, e1]
  simp
def nums (m n : Nat) : List V := (List.range' m n).map fun i : Nat => V.int (i : Int)
theorem nums_len (m n : Nat) : (nums m n).length = n := by unfold nums; rw [List.length_map, List.length_range']
theorem nums_app (m a b : Nat) : nums m a ++ nums (m + a) b = nums m (a + b) := by
  unfold nums
  rw [← List.map_append, List.range'_append_1]
theorem nums_all (m n : Nat) : (nums m n).all flatV = true := by unfold nums; rw [List.all_map, List.all_eq_true]; intro x _; rfl
theorem nums_0 (n : Nat) : nums 0 n = (List.range n).map fun i : Nat => V.int (i : Int) := by unfold nums; rw [List.range_eq_range']
def gNumb (n : Nat) : Sp := fun vs H Q _ => ∃ (D : Addr) (m : Nat) (A : List Addr) (us : List V) (t : Tr), vs = [.ref D] ∧ H D = some (.lst (us ++ [.int ((m + t.sz : Nat) : Int)])) ∧ SpK H m A us t ∧ t.ht ≤ n ∧ t.sz ≤ 20 ∧ ∀ D' H', H D' = none → Same H H' → H' D' = some (.lst (nums m (t.sz + 1))) → Q (.ref D') H'
theorem SpK.at {H : Hp} : ∀ {t : Tr} {m : Nat} {A : List Addr} {us : List V} {i : Nat} {x : V}, SpK H m A us t → us[i]? = some x → ∃ (T b : Addr) (k : Nat) (As : List Addr) (ws : List V) (s ta tb : Tr), x = .ref T ∧ t = ta.app (.cons k s tb) ∧ ta.kids.length = i ∧ H T = some (.tup [.int (k : Int), .ref b]) ∧ H b = some (.lst (ws ++ [.int ((m + ta.sz + s.sz : Nat) : Int)])) ∧ SpK H (m + ta.sz) As ws s
  | .nil, m, A, us, i, x, h, hx => by obtain ⟨rfl, _⟩ := h; simp at hx
  | .cons k s r, m, A, us, i, x, h, hx => by
    obtain ⟨T, b, As, Ar, vs', ws, e1, g1, g2, l1, l2, e2⟩ := h
    subst e1
    cases i with
    | zero => cases hx; exact ⟨T, b, k, As, ws, s, .nil, r, rfl, rfl, rfl, g1, g2, l1⟩
    | succ i =>
      obtain ⟨T', b', k', As', ws', s', ta, tb, e1, e2, e3, h1, h2, h3⟩ := l2.at hx
      have e : m + s.sz + 1 + ta.sz = m + (Tr.cons k s ta).sz := by simp only [sz]; omega
      rw [e] at h2 h3
      exact ⟨T', b', k', As', ws', s', .cons k s ta, tb, e1, by rw [e2]; rfl, by rw [kids, List.length_cons, e3], h1, h2, h3⟩
def szt (t : Tr) (i : Nat) : Nat := ((t.kids.take i).map fun x => 1 + x.2.sz).sum
theorem szt_app : ∀ (ta u : Tr), szt (ta.app u) ta.kids.length = ta.sz
  | .nil, u => by simp [szt, kids, sz]
  | .cons k s r, u => by
    have ih := szt_app r u
    unfold szt at ih ⊢
    rw [app, kids, kids, List.length_cons, List.take_succ_cons, List.map_cons, List.sum_cons, ih, sz]
theorem szt_all (t : Tr) : szt t t.kids.length = t.sz := by
  have := szt_app t .nil
  rwa [app_nil] at this
theorem szt_step {ta tb s : Tr} {k : Nat} : szt (ta.app (.cons k s tb)) (ta.kids.length + 1) = ta.sz + (s.sz + 1) := by
  have := szt_app (ta.app (.cons k s .nil)) tb
  rw [← app_step, kids_app, List.length_append, sz_app] at this
  simp only [kids, List.length_cons, List.length_nil, sz] at this
  rw [this]; omega

def gIs (n : Nat) : Sp := fun vs H Q _ => ∃ v w p q t, vs = [v, w] ∧ TIn H v p t n ∧ TIn H w q t n ∧ ∀ H', Same H H' → Q (.bl true) H'
def spMkB : Sp := fun vs H Q _ => ∃ (p : Addr) (n : Nat) (k : Int), vs = [.ref p, .int k, .int 20] ∧ PoolAt H p n ∧ n ≤ 100000 ∧ 1 ≤ k ∧ k ≤ 4 ∧ ∀ D t H', t.sz ≤ 20 → t.gr < k.toNat → H D = none → PoolAt H' p (n + 70) → SameBut1 p H H' → (∀ q, (∃ o, H q = some o) → TrH q H' (.ref D) t) → Q (.ref D) H'

def kbs (L : List (Nat × Tr)) : List Nat := (L.map fun x => 2 * x.1 :: (x.2.bs ++ [2 * x.1 + 1])).flatten
theorem kbs_all (t : Tr) : kbs t.kids = t.bs := (bs_kids t).symm
theorem kbs_step {x : Nat × Tr} {L : List (Nat × Tr)} : [brs.getD (2 * x.1) 0] ++ brt x.2.bs ++ [brs.getD (2 * x.1 + 1) 0] ++ brt (kbs L) = brt (kbs (x :: L)) := by
  rw [brt_in]
  unfold kbs brt
  simp
theorem kbs_len : ∀ (L : List (Nat × Tr)), (kbs L).length = 2 * (L.map fun x => 1 + x.2.sz).sum
  | [] => rfl
  | x :: L => by
    have ih := kbs_len L
    unfold kbs at ih ⊢
    rw [List.map_cons, List.flatten_cons, List.length_append, ih, List.map_cons, List.sum_cons, List.length_cons, List.length_append, bs_len]
    simp; omega
theorem kbs_drop (t : Tr) (i : Nat) : (kbs (t.kids.drop i)).length ≤ 2 * t.sz := by
  rw [kbs_len]
  have e := szt_all t
  unfold szt at e
  rw [List.take_length] at e
  have : ((t.kids.drop i).map fun x => 1 + x.2.sz).sum ≤ (t.kids.map fun x => 1 + x.2.sz).sum := by
    conv => rhs; rw [← List.take_append_drop i t.kids, List.map_append, List.sum_append]
    omega
  omega
end BrTr


namespace Bk
open PySem L2 BrM BrR BrTr BrB BrC BrS BrI
def top (i : Nat) : Stmt := PySem.Challenge.pw_bracketrows_k09_trees_of_rows.main.body.getD i (.Pass ⟨0, 0, 0, 0⟩)
abbrev d_is_whole : Stmt := top 12
abbrev d_check_kinds : Stmt := top 13
abbrev d_is_line : Stmt := top 14
abbrev d_check_line : Stmt := top 15
abbrev d_matched : Stmt := top 16
abbrev d_partners : Stmt := top 17
abbrev d_is_branch : Stmt := top 20
abbrev d_is_tree : Stmt := top 21
abbrev d_tree_between : Stmt := top 22
abbrev d_tree_of : Stmt := top 23
abbrev d_written : Stmt := top 24
abbrev d_row_of_tree : Stmt := top 25
abbrev d_law_pool : Stmt := top 27
abbrev d_law_take : Stmt := top 28
abbrev d_law_right_row : Stmt := top 29
abbrev d_law_tree : Stmt := top 33
abbrev d_law_copy : Stmt := top 34
abbrev d_law_row : Stmt := top 35
abbrev d_law_is : Stmt := top 36
abbrev d_law_spoil : Stmt := top 37
abbrev d_law_numbers : Stmt := top 38
abbrev d_law : Stmt := top 39
structure Txt (K : PySem.W.Frag) (mg : Str → Option Value) (aK : Addr) : Prop where
  n_all : mg "all" = none
  n_bool : mg "bool" = none
  n_enumerate : mg "enumerate" = none
  n_int : mg "int" = none
  n_isinstance : mg "isinstance" = none
  n_len : mg "len" = none
  n_list : mg "list" = none
  n_max : mg "max" = none
  n_min : mg "min" = none
  n_range : mg "range" = none
  n_str : mg "str" = none
  n_tuple : mg "tuple" = none
  n_zip : mg "zip" = none
  g_OPENING : ∃ u, mg "OPENING" = some u ∧ RelV (tx [40, 91, 123, 60]) u
  g_CLOSING : ∃ u, mg "CLOSING" = some u ∧ RelV (tx [41, 93, 125, 62]) u
  g_KINDS : ∃ u, mg "KINDS" = some u ∧ RelV (.ref aK) u
  t_KINDS : ∀ H, SqT K H aK [tx [40, 41], tx [91, 93], tx [123, 125], tx [60, 62]]
  g_UNKNOWN : ∃ u, mg "UNKNOWN" = some u ∧ RelV (tx [63]) u
  g_MOST_SIGNS : ∃ u, mg "MOST_SIGNS" = some u ∧ RelV (.int 40) u
  g_MOST_TUPLES : ∃ u, mg "MOST_TUPLES" = some u ∧ RelV (.int 20) u
section
variable {P : Program} {w : World} {K : PySem.W.Frag} {mg : Str → Option Value} {base : Heap} {f aK aC : Addr} {fd : FuncData} {k : Nat}
local macro_rules | `(tactic| walk_at "st") => `(tactic| first
  | with_reducible refine s_seq ?_
  | with_reducible refine s_asg ?_
  | with_reducible refine s_name ?_
  | ((with_reducible refine s_var (v := ?v) ?e ?_); (case e => exact rfl))
  | with_reducible refine s_c ?_
  | with_reducible refine s_op ?_
  | with_reducible refine s_if ?_
  | with_reducible refine s_test ?_
  | with_reducible refine s_bl ?_
  | with_reducible refine s_call ?_
  | with_reducible refine s_cons ?_
  | with_reducible refine s_nil ?_
  | with_reducible refine s_cb ?_
  | with_reducible refine s_ret ?_
  | with_reducible refine s_lst ?_
  | with_reducible refine s_tup ?_
  | with_reducible refine s_drop ?_
  | with_reducible refine s_next ?_
  | with_reducible refine s_cont ?_
  | with_reducible refine s_break ?_
  | with_reducible refine s_gnil ?_
  | with_reducible refine s_gcons ?_
  | with_reducible refine s_gsub ?_
  | with_reducible refine s_un ?_
  | with_reducible refine s_neg ?_
  | with_reducible refine s_ifE ?_
  | with_reducible refine s_and ?_
  | with_reducible refine s_or ?_
  | with_reducible refine s_not ?_
  | with_reducible refine s_andV ?_
  | with_reducible refine s_orV ?_
  | with_reducible refine s_notV ?_
  | with_reducible refine s_tru ?_
  | with_reducible refine s_chain ?_
  | with_reducible refine s_truB ?_
  | with_reducible refine s_truN ?_
  | with_reducible refine s_addI ?_
  | with_reducible refine s_subI ?_
  | with_reducible refine s_eqI ?_
  | with_reducible refine s_eqT ?_
  | with_reducible refine s_eqB ?_
  | with_reducible refine s_neI ?_
  | with_reducible refine s_neT ?_
  | with_reducible refine s_neB ?_
  | with_reducible refine s_inT ?_
  | with_reducible refine s_notinT ?_
  | with_reducible refine s_sl ?_
  | with_reducible refine s_nopart ?_
  | with_reducible refine s_part ?_
  | with_reducible refine s_partI ?_
  | with_reducible refine s_max ?_
  | with_reducible refine s_min ?_
  | with_reducible refine s_intB ?_
  | with_reducible refine s_intI ?_
  | with_reducible refine s_bm ?_
  | with_reducible refine s_bm0 ?_
  | with_reducible refine s_for ?_
  | with_reducible refine s_irng1 ?_
  | with_reducible refine s_irng2 ?_
  | with_reducible refine s_irng3 ?_
  | with_reducible refine s_augS ?_
  | with_reducible refine s_ilist ?_
  | with_reducible refine s_istr ?_
  | with_reducible refine s_istrT ?_
  | with_reducible refine s_ienS ?_
  | with_reducible refine s_ienST ?_
  | with_reducible refine s_ienL ?_
  | with_reducible refine s_comp ?_
  | with_reducible refine s_rev ?_
  | with_reducible refine s_revI ?_
  | with_reducible refine s_irev ?_
  | with_reducible refine s_tyT ?_
  | ((with_reducible refine s_irevT ?e ?_); (case e => first | assumption | exact small (by omega)))
  | ((with_reducible refine s_revT ?e ?_); (case e => first | assumption | exact small (by omega)))
  | with_reducible refine s_yes ?_
  | ((with_reducible refine s_aug (x := ?x) ?e ?_); (case e => exact rfl))
  | with_reducible refine s_ipI ?_
  | ((with_reducible refine s_is ?e ?_); (case e => exact rfl))
  | ((with_reducible refine s_isnot ?e ?_); (case e => exact rfl))
  | ((with_reducible refine s_ixL (xs := ?xs) (v := ?v) ?h ?e ?_); (case h => assumption); (case e => exact rfl))
  | ((with_reducible refine s_rI ?e ?_); (case e => first | (exact (show (0 : Int) < _ by omega)) | (exact ⟨by omega, by omega⟩) | (exact ⟨by decide, by decide, by decide⟩)))
  | ((with_reducible refine s_mulI ?e ?_); (case e => first | exact .inl ⟨by omega, by omega⟩ | exact .inr ⟨by omega, by omega⟩))
  | ((with_reducible refine s_lenT ?e ?_); (case e => first | assumption | exact small (by omega)))
  | ((with_reducible refine s_addT ?e ?_); (case e => first | exact small (by omega) | exact small (by simp only [List.length_append, List.length_cons, List.length_nil]; omega)))
  | ((with_reducible refine s_slT ?e ?_); (case e => first | assumption | exact small (by omega) | exact small (by simp only [List.length_append, List.length_cons, List.length_nil]; omega)))
  )
local macro_rules | `(tactic| walk_at "go") => `(tactic| repeat (walk_at "st"))

theorem sc_is_whole : FnScope ["thing"] ["thing"] (defScope d_is_whole) := ⟨rfl, rfl, rfl, by decide +kernel, rfl, by decide +kernel, by decide +kernel⟩
theorem ok_is_whole (F : Fun K "is_whole" "is_whole" d_is_whole f fd) (T : Txt K mg aK)  : FnOk P w K mg base CX0 (k + 1) f fd ["thing"] (spWhole K) := by
  refine F.ok sc_is_whole (fun vs H Q E h => ?_) (fun cdv A outer s H vs Q E hr h => ?_)
  · obtain ⟨x, T', rfl, _⟩ := h; rfl
  obtain ⟨x, ty, rfl, hT, hp, q⟩ := h
  refine ⟨_, (pss_one (ps_ret (pe_and (pe_callB (call_isiA K) rfl T.n_isinstance PyProof.Rows.boot_isinstance (pa_cons (pv 0) (pa_cons (pe_ty T.n_int PyProof.Rows.boot_int) pa_nil))) (pe_one (pe_not (pe_callB (call_isiA K) rfl T.n_isinstance PyProof.Rows.boot_isinstance (pa_cons (pv 0) (pa_cons (pe_ty T.n_bool PyProof.Rows.boot_bool) pa_nil)))))))), ?_⟩
  walk_at "go"
  have hp' : ty = "NoneType" ∨ ty = "bool" ∨ ty = "int" ∨ ty = "str" ∨ ty = "list" ∨ ty = "tuple" ∨ ty = "dict" := by simpa [plainTy] using hp
  rcases hp' with rfl | rfl | rfl | rfl | rfl | rfl | rfl
  · refine s_isi (b := false) hT (by with_unfolding_all rfl) (s_bl (iteF ?_)); exact q
  · refine s_isi (b := true) hT (by with_unfolding_all rfl) (s_bl (iteT ?_))
    walk_at "go"
    refine s_isi (b := true) hT (by with_unfolding_all rfl) (s_bl ?_); exact q
  · refine s_isi (b := true) hT (by with_unfolding_all rfl) (s_bl (iteT ?_))
    walk_at "go"
    refine s_isi (b := false) hT (by with_unfolding_all rfl) (s_bl ?_); exact q
  · refine s_isi (b := false) hT (by with_unfolding_all rfl) (s_bl (iteF ?_)); exact q
  · refine s_isi (b := false) hT (by with_unfolding_all rfl) (s_bl (iteF ?_)); exact q
  · refine s_isi (b := false) hT (by with_unfolding_all rfl) (s_bl (iteF ?_)); exact q
  · refine s_isi (b := false) hT (by with_unfolding_all rfl) (s_bl (iteF ?_)); exact q

theorem sc_check_kinds : FnScope ["k"] ["k"] (defScope d_check_kinds) := ⟨rfl, rfl, rfl, by decide +kernel, rfl, by decide +kernel, by decide +kernel⟩
theorem ok_check_kinds (F : Fun K "check_kinds" "check_kinds" d_check_kinds f fd) (T : Txt K mg aK) (U_is_whole : FnU P w K mg base k "is_whole" ["thing"] (spWhole K)) : FnOk P w K mg base CX0 (k + 1) f fd ["k"] (spKinds) := by
  refine F.ok sc_check_kinds (fun vs H Q E h => ?_) (fun cdv A outer s H vs Q E hr h => ?_)
  · obtain ⟨x, rfl, _⟩ := h; rfl
  obtain ⟨x, rfl, h1, h2, q⟩ := h
  refine ⟨_, (pss_one (ps_if (PW.pt (pw_or (pt_not (pt_tru K (pe_fn U_is_whole hr (pa_cons (pv 0) pa_nil)))) (pw_or1 (pt_not (pt_chain op_le op_le pe_int (pv 0) (pe_callB (call_lenA K) rfl T.n_len PySem.boot_len (pa_cons (pe_gl T.g_KINDS) pa_nil)))))))   (pss_one ps_never)   pss_nil)), ?_⟩
  walk_at "go"
  refine whole_int ?_
  walk_at "go"
  refine ifq rfl ?_
  walk_at "go"
  refine ifp (decide_eq_true h1) ?_
  walk_at "go"
  refine s_lenL (.inr (T.t_KINDS H)) ?_
  walk_at "go"
  refine ifq (by simp; omega) ?_
  walk_at "go"
  exact q

theorem sc_is_line : FnScope ["k", "thing", "signs"] ["k", "thing"] (defScope d_is_line) := ⟨rfl, rfl, rfl, by decide +kernel, rfl, by decide +kernel, by decide +kernel⟩
theorem ok_is_line (F : Fun K "is_line" "is_line" d_is_line f fd) (T : Txt K mg aK) (U_check_kinds : FnU P w K mg base k "check_kinds" ["k"] (spKinds)) : FnOk P w K mg base CX0 (k + 1) f fd ["k", "thing"] (spLine K) := by
  refine F.ok sc_is_line (fun vs H Q E h => ?_) (fun cdv A outer s H vs Q E hr h => ?_)
  · obtain ⟨kk, x, rfl, _⟩ := h; rfl
  obtain ⟨kk, x, rfl, h1, h2, hx⟩ := h
  refine ⟨_, (pss_cons (ps_expr (pe_fn U_check_kinds hr (pa_cons (pv 0) pa_nil)))  (pss_cons (ps_if (PW.pt (pw_or (pt_not (pt_tru K (pe_callB (call_isiA K) rfl T.n_isinstance PyProof.Rows.boot_isinstance (pa_cons (pv 1) (pa_cons (pe_ty T.n_str PyProof.Rows.boot_str) pa_nil))))) (pw_or1 (pt_cmpR op_gt (pe_callB (call_lenA K) rfl T.n_len PySem.boot_len (pa_cons (pv 1) pa_nil)) (pe_gl T.g_MOST_SIGNS) (nomark _)))))   (pss_one (ps_ret pe_bl))   pss_nil)  (pss_cons (ps_set (i := 2) sc_is_line.nd rfl (Or.inr rfl) (pe_op op_plus (pe_op op_plus (pe_slice (sl_A K) (pe_gl T.g_OPENING) po_none (po_some (pv 0))) (pe_slice (sl_A K) (pe_gl T.g_CLOSING) po_none (po_some (pv 0)))) (pe_gl T.g_UNKNOWN)))  (pss_one (ps_ret (pe_callB (call_allA K rfl) rfl T.n_all PyProof.Rows.boot_all (pa_cons (pe_comp (own := ["sign"]) (sel := [2]) (compOk_of (osc := (defScope d_is_line)) (N := ["k", "thing", "signs"]) (by decide +kernel)) rfl (pi_str (pv 1)) (fun _ _ _ _ _ => (pg_name (i := 0) (show (["sign", "signs"] : List Str).Nodup from by decide +kernel) rfl (Or.inl rfl))) (gk_name (by decide)) (fun _ _ _ _ _ => pif_nil) (fun _ _ _ _ _ => (pe_cmpR (op_inA K) (pv 0) (pv 1) (by with_unfolding_all rfl)))) pa_nil))))))), ?_⟩
  walk_at "go"
  refine kinds_use h1 h2 ?_
  walk_at "go"
  rcases hx with ⟨a, rfl, ha, q⟩ | ⟨ty, hT, hp, hs, q⟩
  · refine s_isi (b := true) (TyOf.str _) (by with_unfolding_all rfl) ?_
    walk_at "go"
    refine ifq rfl ?_
    walk_at "go"
    refine ifd (fun hc => ?_) (fun hc => ?_)
    · walk_at "go"
      have e : isRow kk a = false := by unfold isRow; rw [decide_eq_false (by omega), Bool.false_and]
      have := q H (Same.refl H)
      rw [e] at this
      exact this
    · walk_at "go"
      rw [cut_to _ (by omega), cut_to _ (by omega)]
      have l1 : ((([40, 91, 123, 60] : List Nat)).take kk.toNat).length ≤ 4 := by rw [List.length_take]; exact Nat.min_le_right _ _
      have l2 : ((([41, 93, 125, 62] : List Nat)).take kk.toNat).length ≤ 4 := by rw [List.length_take]; exact Nat.min_le_right _ _
      first | refine s_addT (small (by omega)) ?_ | skip
      walk_at "go"
      first | refine s_addT (small (by rw [List.length_append, List.length_singleton]; omega)) ?_ | skip
      walk_at "go"
      refine comp_of (n := a.length) (fun D i ys H' => ys = ((a.take i).map fun c => V.bl (decide (c ∈ sgn kk))) ∧ SameBut1 D H H') (fun D hD => ⟨rfl, SameBut1.of (same_new hD _)⟩) (fun D i ys H' _ hi _ _ => by simpa [Its] using hi) (fun D ys H' hD hD' hl ⟨e, sH⟩ => ⟨by simp [Its], ?_⟩) ?_
      · rw [List.take_length] at e
        subst e
        have hS : SqL K H' D ((a.map fun c => decide (c ∈ sgn kk)).map V.bl) := by
          rw [List.map_map]; exact SqL.of hD'
        refine s_all hS ?_
        have e2 : ((a.map fun c => decide (c ∈ sgn kk)).all id) = isRow kk a := by
          unfold isRow
          rw [decide_eq_true (by omega), Bool.true_and, List.all_map]
          rfl
        rw [e2]
        exact q H' fun b o z => sH b o z (ne_of_none z hD)
      · rintro D i ys H' x H3 hD hi hD' hl ⟨e, sH⟩ ⟨rfl, c, ec, rfl⟩
        have ec' : a[i]? = some c := by simpa using ec
        show gName 0 (tx [c]) _ _ _
        walk_at "go"
        refine iteT ?_
        walk_at "go"
        refine comp_next hi (small (by omega)) hD' hl ⟨?_, sH.trans SameBut1.upd⟩
        rw [e, List.take_add_one, ec']
        simp only [Option.toList_some, List.map_append, List.map_cons, List.map_nil]
        rfl
  · have hp' : ty = "NoneType" ∨ ty = "bool" ∨ ty = "int" ∨ ty = "list" ∨ ty = "tuple" ∨ ty = "dict" := by
      have : ty = "NoneType" ∨ ty = "bool" ∨ ty = "int" ∨ ty = "str" ∨ ty = "list" ∨ ty = "tuple" ∨ ty = "dict" := by simpa [plainTy] using hp
      rcases this with z | z | z | z | z | z | z
      · exact .inl z
      · exact .inr (.inl z)
      · exact .inr (.inr (.inl z))
      · exact absurd z hs
      · exact .inr (.inr (.inr (.inl z)))
      · exact .inr (.inr (.inr (.inr (.inl z))))
      · exact .inr (.inr (.inr (.inr (.inr z))))
    have fin : PySem.W.kitOne K (.type ty) (.type "str") = some false := by
      rcases hp' with rfl | rfl | rfl | rfl | rfl | rfl <;> with_unfolding_all rfl
    refine s_isi (b := false) hT fin ?_
    walk_at "go"
    refine ifp rfl ?_
    walk_at "go"
    refine ifp rfl ?_
    walk_at "go"
    exact q

theorem sc_check_line : FnScope ["k", "row"] ["k", "row"] (defScope d_check_line) := ⟨rfl, rfl, rfl, by decide +kernel, rfl, by decide +kernel, by decide +kernel⟩
theorem ok_check_line (F : Fun K "check_line" "check_line" d_check_line f fd) (T : Txt K mg aK) (U_is_line : FnU P w K mg base k "is_line" ["k", "thing"] (spLine K)) : FnOk P w K mg base CX0 (k + 1) f fd ["k", "row"] (spCheckLine) := by
  refine F.ok sc_check_line (fun vs H Q E h => ?_) (fun cdv A outer s H vs Q E hr h => ?_)
  · obtain ⟨kk, a, rfl, _⟩ := h; rfl
  obtain ⟨kk, a, rfl, h1, h2, ha, q⟩ := h
  refine ⟨_, (pss_one (ps_if (pt_not (pt_tru K (pe_fn U_is_line hr (pa_cons (pv 0) (pa_cons (pv 1) pa_nil)))))   (pss_one ps_never)   pss_nil)), ?_⟩
  have hl := isRow_len ha
  walk_at "go"
  refine line_use h1 h2 (by omega) (fun H' sH => ?_)
  walk_at "go"
  refine ifq (by rw [ha]; rfl) ?_
  walk_at "go"
  exact q H' sH

theorem sc_matched : FnScope ["row", "found", "waiting", "at", "sign", "start"] ["row"] (defScope d_matched) := ⟨rfl, rfl, rfl, by decide +kernel, rfl, by decide +kernel, by decide +kernel⟩
theorem ok_matched (F : Fun K "matched" "matched" d_matched f fd) (T : Txt K mg aK)  : FnOk P w K mg base CX0 (k + 1) f fd ["row"] (spMatched) := by
  refine F.ok sc_matched (fun vs H Q E h => ?_) (fun cdv A outer s H vs Q E hr h => ?_)
  · obtain ⟨a, rfl, _⟩ := h; rfl
  obtain ⟨a, rfl, ha, q, q'⟩ := h
  have hu := hr.units0
  refine ⟨_, (pss_cons (ps_set (i := 1) sc_matched.nd rfl (Or.inl rfl) (pe_op op_times (pe_lst (pa_cons pe_int pa_nil)) (pe_callB (call_lenA K) rfl T.n_len PySem.boot_len (pa_cons (pv 0) pa_nil))))  (pss_cons (ps_set (i := 2) sc_matched.nd rfl (Or.inl rfl) (pe_lst pa_nil))  (pss_cons (ps_for PassesOwn.never rfl (pi_enumS rfl T.n_enumerate (pa_cons (pv 0) pa_nil)) (pg_tupK (n := 2) K rfl (pgs_cons (pg_name (i := 3) sc_matched.nd rfl (Or.inl rfl)) (pgs_cons (pg_name (i := 4) sc_matched.nd rfl (Or.inl rfl)) pgs_nil)))   (pss_cons (ps_if (pt_cmpR (op_inA K) (pv 4) (pe_gl T.g_OPENING) (by with_unfolding_all rfl))   (pss_cons (ps_expr (pe_bmK K PySem.F.plainAttrs_list PySem.F.slot_list_append PySem.F.type_list_append mt_append (pv 2) (pa_cons (pv 3) pa_nil)))  (pss_one ps_continue))   pss_nil)  (pss_cons (ps_if (PW.pt (pw_or (pt_not (pt_tru K (pv 2))) (pw_or1 (pt_cmpR (op_notinA K) (pe_op op_plus (pe_ix (ix_A K) (pv 0) (pe_ix (ix_A K) (pv 2) (pe_un un_neg pe_int) (fun _ _ => rfl)) (fun _ _ => rfl)) (pv 4)) (pe_gl T.g_KINDS) (by with_unfolding_all rfl)))))   (pss_one (ps_ret pe_non))   pss_nil)  (pss_cons (ps_set (i := 5) sc_matched.nd rfl (Or.inl rfl) (pe_bm0K K PySem.F.plainAttrs_list PySem.F.slot_list_pop PySem.F.type_list_pop mt_pop (pv 2)))  (pss_cons (ps_asg (pv 3) (pg_sub (pv 1) (pv 5) set_list))  (pss_one (ps_asg (pv 5) (pg_sub (pv 1) (pv 3) set_list))))))))  (pss_one (ps_ret (pe_ifExp (pt_tru K (pv 2)) pe_non (pv 1))))))), ?_⟩
  walk_at "go"
  refine ⟨small (show 1 ≤ 1000 by decide), fun p0 hp0 => ?_⟩
  walk_at "go"
  refine s_rep upd_same (by omega) (by omega) (small (by simp; omega)) (fun fo hfo => ?_)
  rw [Int.toNat_natCast, flat1]
  walk_at "go"
  refine ⟨small (show 0 ≤ 1000 by decide), fun wa hwa => ?_⟩
  walk_at "go"
  have sH : Same H (upd (upd (upd H p0 (.lst [.int 0])) fo (.lst (List.replicate a.length (V.int 0)))) wa (.lst [])) := (same_new hp0 _).trans ((same_new hfo _).trans (same_new hwa _))
  have hfw : fo ≠ wa := ne_of_none upd_same hwa
  have hHf : H fo = none := (same_new hp0 _).free hfo
  have hHw : H wa = none := (same_new hp0 _).free ((same_new hfo _).free hwa)
  refine for_enS (fun i σ H' => ∃ (st ws : List Nat) (xs : List V) (o3 o4 o5 : Option V), σ = [some (tx a), some (.ref fo), some (.ref wa), o3, o4, o5] ∧ MI a i st ws xs ∧ H' fo = some (.lst xs) ∧ H' wa = some (.lst (ws.reverse.map fun (w : Nat) => V.int w)) ∧ Same H H') ⟨[], [], List.replicate a.length (V.int 0), _, _, _, rfl, MI.start a (by simp), ?_, upd_same, sH⟩ ?_ ?_
  · rw [upd_ne hfw, upd_same]
  · rintro i c σ H1 tt hc ht ⟨st, ws, xs, o3, o4, o5, rfl, m, hf1, hw1, s1⟩
    have hi : i < a.length := (List.getElem?_eq_some_iff.mp hc).1
    have s2 : Same H1 (upd H1 tt (.tup [.int i, tx [c]])) := same_new ht _
    have hf2 := s2 _ _ hf1
    have hw2 := s2 _ _ hw1
    have hwl : ws.length ≤ 40 := by
      have e1 := m.wk.len
      have e2 := ht_of m.rn
      have : ∀ l : List Nat, hg l ≤ l.length := by
        intro l
        induction l with
        | nil => simp [hg]
        | cons d r ih => rw [hg, List.length_cons]; unfold sg; split <;> omega
      have e3 := this (a.take i)
      unfold BrM.ht at e2
      rw [List.length_take] at e3
      omega
    refine s_gtup (SqT.of upd_same) rfl ?_
    walk_at "go"
    refine ifd (fun ho => ?_) (fun ho => ?_)
    · walk_at "go"
      refine ⟨.inl ⟨rfl, _, SqL.of hw2⟩, ?_⟩
      walk_at "go"
      refine ⟨wa, _, .int i, rfl, rfl, hw2, small1000 (by simp; omega), ?_⟩
      walk_at "go"
      refine ⟨_, i :: ws, xs, _, _, _, rfl, m.opens hc ho, ?_, ?_, ?_⟩
      · rw [upd_ne hfw]; exact hf2
      · rw [upd_same]; simp
      · intro b o z
        rw [upd_ne (ne_of_none z hHw)]
        exact s2 b o (s1 b o z)
    · walk_at "go"
      refine s_truL (SqL.of hw2) ?_
      have ho : c ∉ opn := ho
      have hne : ∀ (hn : ¬ (∃ w wr r, ws = w :: wr ∧ st = c :: r)), ¬ Rt a := by
        intro hn hR
        obtain ⟨s', e⟩ := run_take hR (i + 1)
        rw [run_next m.rn hc] at e
        unfold BrM.stp at e
        rw [if_neg ho] at e
        cases st with
        | nil => cases e
        | cons d r =>
          simp only at e
          split at e
          · rename_i hd
            cases ws with
            | nil => have := m.wk.len; simp at this
            | cons w wr => exact hn ⟨w, wr, r, rfl, by rw [hd]⟩
          · cases e
      cases ws with
      | nil =>
        refine ifp rfl ?_
        walk_at "go"
        exact q' (hne (by rintro ⟨_, _, _, z, _⟩; cases z)) _ (s1.trans s2)
      | cons w wr =>
        refine ifq (by simp) ?_
        obtain ⟨cw, r, hcw, hcwo, rfl, hwi⟩ := m.top
        have hwa' : w < a.length := by omega
        have elast : ((w :: wr).reverse.map fun (w : Nat) => V.int w) = (wr.reverse.map fun (w : Nat) => V.int w) ++ [V.int w] := by simp
        have hl2 : atI ((w :: wr).reverse.map fun (w : Nat) => V.int w) (-1) = some (.int w) := by rw [elast]; exact atI_last _ _
        walk_at "st"
        walk_at "st"
        walk_at "st"
        walk_at "st"
        walk_at "st"
        walk_at "st"
        walk_at "go"
        refine s_ixL (SqL.of hw2) hl2 ?_
        refine s_ixT (small (by omega)) (atI_nat hcw) ?_
        walk_at "go"
        refine s_notinS (.inr (T.t_KINDS _)) rfl rfl ?_
        have ek : inV (tx ([cw] ++ [c])) [tx [40, 41], tx [91, 93], tx [123, 125], tx [60, 62]] = decide (c = clo cw) := kinds_in hcwo
        rw [ek]
        walk_at "go"
        refine ifn (fun hcc => ?_) (fun hcc => ?_)
        · walk_at "go"
          exact q' (hne (by rintro ⟨_, _, _, _, z⟩; injection z with z _; exact hcc z.symm)) _ (s1.trans s2)
        · walk_at "go"
          refine ⟨.inl ⟨rfl, _, SqL.of hw2⟩, ?_⟩
          refine ⟨wa, _, .int w, rfl, rfl, hw2, ?_, ?_⟩
          · rw [elast]; simp
          · walk_at "go"
            have hf3 : (upd (upd H1 tt (.tup [.int i, tx [c]])) wa (.lst ((w :: wr).reverse.map fun (w : Nat) => V.int w).dropLast)) fo = some (.lst xs) := by rw [upd_ne hfw]; exact hf2
            have hxl := m.len
            refine s_setL (j := w) hf3 (by simp [ixN]; omega) ?_
            walk_at "go"
            refine s_setL (j := i) upd_same (by simp [ixN]; omega) ?_
            walk_at "go"
            refine ⟨r, wr, _, _, _, _, rfl, MI.closes (c := c) (by rw [hcc]; exact m) hc ho, upd_same, ?_, ?_⟩
            · rw [upd_ne hfw.symm, upd_ne hfw.symm, upd_same, elast]; simp
            · intro b o z
              rw [upd_ne (ne_of_none z hHf), upd_ne (ne_of_none z hHf), upd_ne (ne_of_none z hHw)]
              exact s2 b o (s1 b o z)
  · rintro σ H1 ⟨st, ws, xs, o3, o4, o5, rfl, m, hf1, hw1, s1⟩
    have hrun := m.rn
    rw [List.take_length] at hrun
    walk_at "go"
    refine s_truL (SqL.of hw1) ?_
    have hl := m.wk.len
    cases ws with
    | nil =>
      refine ifq rfl ?_
      walk_at "go"
      cases st with
      | nil => exact q hrun fo xs H1 hHf s1 hf1 m.fin
      | cons d r => simp at hl
    | cons w wr =>
      refine ifp (by simp) ?_
      walk_at "go"
      refine q' (fun hR => ?_) H1 s1
      have hR' : run [] a = some [] := hR
      rw [hrun] at hR'
      cases hR'
      simp at hl

theorem sc_partners : FnScope ["k", "row", "found"] ["k", "row"] (defScope d_partners) := ⟨rfl, rfl, rfl, by decide +kernel, rfl, by decide +kernel, by decide +kernel⟩
theorem ok_partners (F : Fun K "partners" "partners" d_partners f fd) (T : Txt K mg aK) (U_check_line : FnU P w K mg base k "check_line" ["k", "row"] (spCheckLine)) (U_matched : FnU P w K mg base k "matched" ["row"] (spMatched)) : FnOk P w K mg base CX0 (k + 1) f fd ["k", "row"] (spPartners) := by
  refine F.ok sc_partners (fun vs H Q E h => ?_) (fun cdv A outer s H vs Q E hr h => ?_)
  · obtain ⟨kk, a, rfl, _⟩ := h; rfl
  obtain ⟨kk, a, rfl, h1, h2, ha, hR, q⟩ := h
  have hu := hr.units0
  refine ⟨_, (pss_cons (ps_expr (pe_fn U_check_line hr (pa_cons (pv 0) (pa_cons (pv 1) pa_nil))))  (pss_cons (ps_set (i := 2) sc_partners.nd rfl (Or.inl rfl) (pe_fn U_matched hr (pa_cons (pv 1) pa_nil)))  (pss_cons (ps_if (pt_cmpR op_isA (pv 2) pe_non (nomark _))   (pss_one ps_never)   pss_nil)  (pss_one (ps_ret (pv 2)))))), ?_⟩
  have hl := isRow_len ha
  walk_at "go"
  refine checkLine_use h1 h2 ha (fun H1 s1 => ?_)
  walk_at "go"
  refine matched_use hl (fun _ r xs H2 hr2 s2 hx hP => ?_) (fun hn => absurd hR hn)
  walk_at "go"
  refine ifq (by simp) ?_
  walk_at "go"
  exact q r xs H2 (s1.free hr2) (s1.trans s2) hx hP

theorem sc_is_branch : FnScope ["k", "thing"] ["k", "thing"] (defScope d_is_branch) := ⟨rfl, rfl, rfl, by decide +kernel, rfl, by decide +kernel, by decide +kernel⟩
theorem ok_is_branch (F : Fun K "is_branch" "is_branch" d_is_branch f fd) (T : Txt K mg aK) (U_is_whole : FnU P w K mg base k "is_whole" ["thing"] (spWhole K)) : FnOk P w K mg base CX0 (k + 1) f fd ["k", "thing"] (spBranch) := by
  refine F.ok sc_is_branch (fun vs H Q E h => ?_) (fun cdv A outer s H vs Q E hr h => ?_)
  · obtain ⟨kk, Tb, x, w, rfl, _⟩ := h; rfl
  obtain ⟨kk, Tb, x, w, rfl, g, q⟩ := h
  have hu := hr.units0
  refine ⟨_, (pss_cons (ps_if (PW.pt (pw_or (pt_not (pt_tru K (pe_callB (call_isiA K) rfl T.n_isinstance PyProof.Rows.boot_isinstance (pa_cons (pv 1) (pa_cons (pe_ty T.n_tuple PyProof.Rows.boot_tuple) pa_nil))))) (pw_or1 (pt_cmpR (op_neA K hu) (pe_callB (call_lenA K) rfl T.n_len PySem.boot_len (pa_cons (pv 1) pa_nil)) pe_int (nomark _)))))   (pss_one (ps_ret pe_bl))   pss_nil)  (pss_one (ps_ret (pe_and (pe_fn U_is_whole hr (pa_cons (pe_ix (ix_A K) (pv 1) pe_int (fun _ _ => rfl)) pa_nil)) (pe_one (pe_chain op_le op_lt pe_int (pe_ix (ix_A K) (pv 1) pe_int (fun _ _ => rfl)) (pv 0))))))), ?_⟩
  walk_at "go"
  refine s_isi (b := true) (.tup g) (by with_unfolding_all rfl) ?_
  walk_at "go"
  refine ifq rfl ?_
  walk_at "go"
  refine s_lenL (.inr (SqT.of g)) ?_
  walk_at "go"
  refine ifq rfl ?_
  walk_at "go"
  refine s_ixU (SqT.of g) (show atI _ (0 : Int) = some (.int (x : Int)) from rfl) ?_
  walk_at "go"
  refine whole_int ?_
  walk_at "go"
  refine ifp rfl ?_
  walk_at "go"
  refine s_ixU (SqT.of g) (show atI _ (0 : Int) = some (.int (x : Int)) from rfl) ?_
  walk_at "go"
  refine ifp (by rw [decide_eq_true_eq]; omega) ?_
  walk_at "go"
  exact q H (Same.refl _)

theorem sc_is_tree : FnScope ["k", "thing", "waiting", "many", "tree", "branch"] ["k", "thing"] (defScope d_is_tree) := ⟨rfl, rfl, rfl, by decide +kernel, rfl, by decide +kernel, by decide +kernel⟩
theorem ok_is_tree (F : Fun K "is_tree" "is_tree" d_is_tree f fd) (T : Txt K mg aK) (U_check_kinds : FnU P w K mg base k "check_kinds" ["k"] (spKinds)) (U_is_branch : FnU P w K mg base k "is_branch" ["k", "thing"] (spBranch)) : FnOk P w K mg base CX0 (k + 1) f fd ["k", "thing"] (spTree) := by
  refine F.ok sc_is_tree (fun vs H Q E h => ?_) (fun cdv A outer s H vs Q E hr h => ?_)
  · obtain ⟨kk, v, p, t, rfl, _⟩ := h; rfl
  obtain ⟨kk, v, p, t, rfl, k1, k4, ht, hsz, q⟩ := h
  have hu := hr.units0
  refine ⟨_, (pss_cons (ps_expr (pe_fn U_check_kinds hr (pa_cons (pv 0) pa_nil)))  (pss_cons (ps_set (i := 2) sc_is_tree.nd rfl (Or.inl rfl) (pe_lst (pa_cons (pv 1) pa_nil)))  (pss_cons (ps_set (i := 3) sc_is_tree.nd rfl (Or.inl rfl) pe_int)  (pss_cons (ps_while PassesOwn.never (pt_tru K (pv 2))   (pss_cons (ps_set (i := 4) sc_is_tree.nd rfl (Or.inl rfl) (pe_bm0K K PySem.F.plainAttrs_list PySem.F.slot_list_pop PySem.F.type_list_pop mt_pop (pv 2)))  (pss_cons (ps_if (pt_not (pt_tru K (pe_callB (call_isiA K) rfl T.n_isinstance PyProof.Rows.boot_isinstance (pa_cons (pv 4) (pa_cons (pe_ty T.n_list PyProof.Rows.boot_list) pa_nil)))))   (pss_one (ps_ret pe_bl))   pss_nil)  (pss_cons (ps_aug (i := 3) sc_is_tree.nd rfl (Or.inl rfl) (pe_callB (call_lenA K) rfl T.n_len PySem.boot_len (pa_cons (pv 4) pa_nil)) ip_add)  (pss_cons (ps_if (pt_cmpR op_gt (pv 3) (pe_gl T.g_MOST_TUPLES) (nomark _))   (pss_one (ps_ret pe_bl))   pss_nil)  (pss_one (ps_for PassesOwn.never rfl (pi_listK K (pv 4)) (pg_name (i := 5) sc_is_tree.nd rfl (Or.inl rfl))   (pss_cons (ps_if (pt_not (pt_tru K (pe_fn U_is_branch hr (pa_cons (pv 0) (pa_cons (pv 5) pa_nil)))))   (pss_one (ps_ret pe_bl))   pss_nil)  (pss_one (ps_expr (pe_bmK K PySem.F.plainAttrs_list PySem.F.slot_list_append PySem.F.type_list_append mt_append (pv 2) (pa_cons (pe_ix (ix_A K) (pv 5) pe_int (fun _ _ => rfl)) pa_nil))))))))))))  (pss_one (ps_ret pe_bl)))))), ?_⟩
  walk_at "go"
  refine kinds_use k1 k4 ?_
  walk_at "go"
  refine ⟨small (show 1 ≤ 1000 by decide), fun W hW => ?_⟩
  have t1 := same_new hW (.lst [v])
  have g1 : (upd H W (.lst [v])) W = some (.lst [v]) := upd_same
  have tW := (ht.free hW).same t1
  generalize upd H W _ = H1 at *
  walk_at "go"
  refine while_of (fun σ H' => ∃ (vs : List V) (L : List Tr) (n : Nat) (o4 o5 : Option V), σ = [some (.int kk), some v, some (.ref W), some (.int (n : Int)), o4, o5] ∧ H' W = some (.lst vs) ∧ Wt W H' vs L ∧ n + szs L = t.sz ∧ vs.length ≤ n + 1 ∧ (t.gr < kk.toNat ↔ ∀ u ∈ L, u.gr < kk.toNat) ∧ Same H H')
    (fun σ H' => match σ, H' W with | [_, _, _, some (.int n), _, _], some (.lst vs) => 2 * (t.sz - n.toNat) + vs.length | _, _ => 0)
    ⟨[v], [t], 0, _, _, rfl, g1, (wt_nil W H1).more tW, by rw [szs_one]; omega, by simp, by simp, t1⟩ ?_
  rintro σ H2 ⟨vs, L, n, o4, o5, rfl, g2, wt, hn, hvl, hiff, s2⟩
  walk_at "go"
  refine s_truL (SqL.of g2) ?_
  by_cases hv : vs = []
  · subst hv
    have hL : L = [] := List.length_eq_zero_iff.mp wt.1.symm
    subst hL
    have hg : t.gr < kk.toNat := hiff.mpr fun u hu => by cases hu
    have := q H2 s2
    rw [decide_eq_true (by omega)] at this
    refine ifq rfl ?_
    walk_at "go"
    exact this
  obtain ⟨vs', v1, L', u, rfl, rfl, wt', tu⟩ := wt.last hv
  refine ifp (by simp) (wh_body ?_)
  have hnL : n + (szs L' + u.sz) = t.sz := by rw [← szs_one u, ← szs_app]; exact hn
  have hku := kids_szs u
  have hvl' : vs'.length ≤ n := by simp at hvl; omega
  walk_at "go"
  refine ⟨.inl ⟨rfl, _, SqL.of g2⟩, ?_⟩
  walk_at "go"
  refine ⟨W, _, v1, rfl, rfl, g2, by simp, ?_⟩
  rw [List.dropLast_concat]
  have t3 : SameBut1 W H2 (upd H2 W (.lst vs')) := fun b o hb nb => by rw [upd_ne nb]; exact hb
  have g3 : (upd H2 W (.lst vs')) W = some (.lst vs') := upd_same
  have wt3 := wt'.keep t3
  obtain ⟨ta, tv, rfl, na, ga, kd⟩ := (tu.keep t3).open
  have s3 : Same H (upd H2 W (.lst vs')) := fun b o hb => t3 _ _ (s2 _ _ hb) (ne_of_none hb hW)
  generalize upd H2 W _ = H3 at *
  walk_at "go"
  refine s_isi (b := true) (.lst ga) (by with_unfolding_all rfl) ?_
  walk_at "go"
  refine ifq rfl ?_
  walk_at "go"
  refine s_lenL (.inl (SqL.of ga)) ?_
  walk_at "go"
  have hkl := kd.1
  refine ifq (by rw [decide_eq_false]; simp; omega) ?_
  walk_at "go"
  refine ⟨ta, rfl, ⟨_, SqL.of ga⟩, ?_⟩
  refine for_lst (xs := tv) (fun i σ H' => ∃ (ws : List V) (o5 : Option V), σ = [some (.int kk), some v, some (.ref W), some (.int ((n : Int) + (tv.length : Int))), some (.ref ta), o5] ∧ H' W = some (.lst ws) ∧ Wt W H' ws (L' ++ (u.kids.take i).map fun x => x.2) ∧ SameBut1 W H3 H' ∧ ∀ x ∈ u.kids.take i, x.1 < kk.toNat) ⟨vs', _, rfl, g3, by simpa using wt3, SameBut1.refl _ _, fun x hx => by simp at hx⟩ (fun i σ H' _ ⟨ws, o5, _, _, _, sb, _⟩ => SqL.of (sb _ _ ga na)) ?_ ?_
  rotate_left
  · rintro σ H4 ⟨ws, o5', rfl, g4, wt4, s4, h4⟩
    rw [hkl, List.take_length] at wt4 h4
    have hwl := wt4.1
    rw [List.length_append, List.length_map, ← wt'.1] at hwl
    refine ⟨⟨ws, _, n + tv.length, _, _, by rw [Int.natCast_add], g4, wt4, ?_, by omega, ?_, fun b o hb => s4 _ _ (s3 _ _ hb) (ne_of_none hb hW)⟩, ?_⟩
    · rw [szs_app]; omega
    · rw [hiff]
      have hk1 : 1 ≤ kk.toNat := by omega
      simp only [List.mem_append, List.mem_singleton, List.mem_map]
      constructor
      · rintro h w (z | ⟨x, hx, rfl⟩)
        · exact h w (.inl z)
        · exact ((gr_lt_iff hk1).mp (h u (.inr rfl)) x hx).2
      · rintro h w (z | rfl)
        · exact h w (.inl z)
        · exact (gr_lt_iff hk1).mpr fun x hx => ⟨h4 x hx, h x.2 (.inr ⟨x, hx, rfl⟩)⟩
    · simp only [g4, g2, List.length_append, List.length_singleton]
      omega
  rintro i x σ H4 hx ⟨ws, o5', rfl, g4, wt4, s4, h4⟩
  have hm : i < u.kids.length := by rw [← hkl]; exact (List.getElem?_eq_some_iff.mp hx).1
  obtain ⟨y, hy⟩ : ∃ y, u.kids[i]? = some y := ⟨_, List.getElem?_eq_getElem hm⟩
  obtain ⟨Tq, b, e1, nT, gT, tb⟩ := kd.2 i y hy
  rw [hx] at e1
  cases e1
  have hmem := List.mem_of_getElem? hy
  have gT4 := s4 _ _ gT nT
  walk_at "go"
  refine ⟨kk, Tq, y.1, _, rfl, gT4, fun H5 s5 => ?_⟩
  walk_at "go"
  have hwl := wt4.1
  rw [List.length_append, List.length_map, List.length_take, ← wt'.1] at hwl
  by_cases c : (y.1 : Int) < kk
  · refine ifq (by rw [decide_eq_true c]; rfl) ?_
    walk_at "go"
    have g5 := s5 _ _ g4
    refine ⟨.inl ⟨rfl, _, SqL.of g5⟩, ?_⟩
    walk_at "go"
    refine s_ixU (SqT.of (s5 _ _ gT4)) (show atI _ (1 : Int) = some (.ref b) from rfl) ?_
    walk_at "go"
    refine ⟨W, _, _, rfl, rfl, g5, small1000 (by omega), ?_⟩
    have t6 : SameBut1 W H5 (upd H5 W (.lst (ws ++ [.ref b]))) := fun b o hb nb => by rw [upd_ne nb]; exact hb
    have s46 : SameBut1 W H4 (upd H5 W (.lst (ws ++ [.ref b]))) := fun b o hb nb => t6 _ _ (s5 _ _ hb) nb
    refine ⟨_, _, rfl, upd_same, ?_, s4.trans s46, fun x hx => ?_⟩
    · rw [List.take_add_one, hy, List.map_append, ← List.append_assoc]
      exact (wt4.keep s46).more ((tb.keep s4).keep s46)
    · rw [List.take_add_one, hy, List.mem_append] at hx
      rcases hx with z | z
      · exact h4 x z
      · simp at z
        subst z
        omega
  · refine ifp (by rw [decide_eq_false c]; rfl) ?_
    walk_at "go"
    have := q H5 fun b o hb => s5 _ _ (s4 _ _ (s3 _ _ hb) (ne_of_none hb hW))
    have hkg := (kid_ht hmem).2.2.1
    have hno : ¬ t.gr < kk.toNat := fun z => by
      have := hiff.mp z u (by simp)
      omega
    rw [decide_eq_false (by omega)] at this
    exact this

theorem sc_tree_between : FnScope ["row", "ends", "start", "stop", "tree", "end"] ["row", "ends", "start", "stop"] (defScope d_tree_between) := ⟨rfl, rfl, rfl, by decide +kernel, rfl, by decide +kernel, by decide +kernel⟩
theorem ok_tree_between (n : Nat) (F : Fun K "tree_between" "tree_between" d_tree_between f fd) (T : Txt K mg aK)  (U_tree_between : FnU P w K mg base k "tree_between" ["row", "ends", "start", "stop"] (recSp gBetweenL n)) : FnOk P w K mg base CX0 (k + 1) f fd ["row", "ends", "start", "stop"] (gBetweenL n) := by
  refine F.ok sc_tree_between (fun vs H Q E h => ?_) (fun cdv A outer s H vs Q E hr h => ?_)
  · obtain ⟨bs, pre, post, r, xs, t, rfl, _⟩ := h; rfl
  obtain ⟨bs, pre, post, r, xs, t, rfl, gr, hP, hb, hg, hl, hht, q⟩ := h
  have hu := hr.units0
  refine ⟨_, (pss_cons (ps_set (i := 4) sc_tree_between.nd rfl (Or.inl rfl) (pe_lst pa_nil))  (pss_cons (ps_while PassesOwn.never (pt_cmpR op_lt (pv 2) (pv 3) (nomark _))   (pss_cons (ps_set (i := 5) sc_tree_between.nd rfl (Or.inl rfl) (pe_ix (ix_A K) (pv 1) (pv 2) (fun _ _ => rfl)))  (pss_cons (ps_expr (pe_bmK K PySem.F.plainAttrs_list PySem.F.slot_list_append PySem.F.type_list_append mt_append (pv 4) (pa_cons (pe_tup (pa_cons (pe_bmK K PySem.F.plainAttrs_str PySem.F.slot_str_index PySem.F.type_str_index mt_index (pe_gl T.g_OPENING) (pa_cons (pe_ix (ix_A K) (pv 0) (pv 2) (fun _ _ => rfl)) pa_nil)) (pa_cons (pe_fn U_tree_between hr (pa_cons (pv 0) (pa_cons (pv 1) (pa_cons (pe_op op_plus (pv 2) pe_int) (pa_cons (pv 5) pa_nil))))) pa_nil))) pa_nil)))  (pss_one (ps_set (i := 2) sc_tree_between.nd rfl (Or.inl rfl) (pe_op op_plus (pv 5) pe_int))))))  (pss_one (ps_ret (pv 4))))), ?_⟩
  walk_at "go"
  refine ⟨small (show 0 ≤ 1000 by decide), fun D hD => ?_⟩
  have t1 := same_new hD (.lst [])
  have g1 : (upd H D (.lst [])) D = some (.lst []) := upd_same
  have hbl : (brt bs).length ≤ 40 := by rw [brt_len]; exact hl
  generalize upd H D _ = H1 at *
  walk_at "go"
  refine while_of (fun σ H' => ∃ (t1 t2 : Tr) (A' : List Addr) (ys : List V) (o5 : Option V), σ = [some (tx (brt bs)), some (.ref r), some (.int ((pre.length + 2 * t1.sz : Nat) : Int)), some (.int ((pre.length + 2 * t.sz : Nat) : Int)), some (.ref D), o5] ∧ t = t1.app t2 ∧ H' D = some (.lst ys) ∧ LayK H H' A' ys t1 ∧ (D :: A').Nodup ∧ Same H H')
    (fun σ _ => match σ with | [_, _, some (.int st), _, _, _] => pre.length + 2 * t.sz - st.toNat | _ => 0)
    ⟨.nil, t, [], [], _, rfl, rfl, g1, ⟨rfl, rfl⟩, by simp, t1⟩ ?_
  rintro σ H2 ⟨ta, tb, B, ys, o5, rfl, ht, g2, kn, nd, s2⟩
  have hsz : t.sz = ta.sz + tb.sz := by rw [ht, sz_app]
  have hbl2 := bs_len t
  have hblen : pre.length + 2 * t.sz ≤ 40 := by rw [hb, List.length_append, List.length_append, hbl2] at hl; omega
  walk_at "go"
  refine ifd (fun hc => ?_) (fun hc => ?_)
  · refine wh_body ?_
    cases tb with
    | nil => simp only [Tr.sz] at hsz; omega
    | cons k u w =>
      have hgk : k < 4 ∧ u.gr < 4 := by rw [ht, gr_app] at hg; simp only [Tr.gr] at hg; omega
      have huh : u.ht < n := by rw [ht, ht_app] at hht; simp only [Tr.ht] at hht; omega
      obtain ⟨n', rfl⟩ : ∃ m, n = m + 1 := ⟨n - 1, by omega⟩
      have hul := bs_len u
      have hb1 : bs = (pre ++ ta.bs) ++ 2 * k :: (u.bs ++ (2 * k + 1) :: (w.bs ++ post)) := by rw [hb, ht, bs_app, Tr.bs]; simp
      have hpl : (pre ++ ta.bs).length = pre.length + 2 * ta.sz := by rw [List.length_append, bs_len]
      have hend := part_at hP hgk.1 hb1 (bs_rg hgk.2)
      rw [hpl, hul] at hend
      have hat : (brt bs)[pre.length + 2 * ta.sz]? = some (brs.getD (2 * k) 0) := by
        unfold brt
        rw [List.getElem?_map, hb1, ← hpl, List.getElem?_append_right (Nat.le_refl _), Nat.sub_self]; rfl
      simp only [Tr.sz] at hsz
      walk_at "go"
      refine s_ixL (SqL.of (s2 _ _ gr)) (atI_nat hend) ?_
      walk_at "go"
      refine ⟨.inl ⟨rfl, _, SqL.of g2⟩, ?_⟩
      walk_at "go"
      refine s_ixT (small (by omega)) (atI_nat hat) ?_
      walk_at "go"
      refine s_idx (op_idx hgk.1) ?_
      walk_at "go"
      refine ⟨bs, pre ++ ta.bs ++ [2 * k], (2 * k + 1) :: (w.bs ++ post), r, xs, u, ?_, s2 _ _ gr, hP, by rw [hb1]; simp, hgk.2, hl, by omega, fun D2 A2 us2 H5 hD2 s5 gD2 l2 nd2 => ?_⟩
      · rw [List.length_append, hpl, List.length_singleton]
        rfl
      walk_at "go"
      refine ⟨small (show 2 ≤ 1000 by decide), fun T2 hT2 => ?_⟩
      have t6 := same_new hT2 (.tup [.int (k : Int), .ref D2])
      have g6 : (upd H5 T2 (.tup [.int (k : Int), .ref D2])) T2 = _ := upd_same
      have s46 := s5.trans t6
      have hy6 := s46 _ _ g2
      have l26 := l2.same t6
      have gD26 := t6 _ _ gD2
      have hT4 : H2 T2 = none := free_of s5 hT2
      generalize upd H5 T2 _ = H6 at *
      walk_at "go"
      have hyl : ys.length = ta.kids.length := kn.len.2
      have hkl := kids_len ta
      refine ⟨D, _, _, rfl, rfl, hy6, small1000 (by omega), ?_⟩
      walk_at "go"
      have e7 : (((pre.length + 2 * ta.sz + 1 + 2 * u.sz : Nat) : Int) + 1) = ((pre.length + 2 * (ta.app (.cons k u .nil)).sz : Nat) : Int) := by
        rw [sz_app]; simp only [Tr.sz]; omega
      refine ⟨⟨ta.app (.cons k u .nil), w, B ++ D2 :: A2, ys ++ [.ref T2], some (.int ((pre.length + 2 * ta.sz + 1 + 2 * u.sz : Nat) : Int)), by rw [← e7]; rfl, by rw [ht, app_step], upd_same, ?_, LayK.nodup kn nd ⟨_, g2⟩ l2 nd2 hD2, fun b o hb => by rw [upd_ne (ne_of_none hb hD)]; exact s46 _ _ (s2 _ _ hb)⟩, ?_⟩
      · have hfr : ∀ x, H2 x = none → H x = none := fun x hx => free_of s2 hx
        have nD : D ∉ B ++ D2 :: A2 := (List.nodup_cons.mp (LayK.nodup kn nd ⟨_, g2⟩ l2 nd2 hD2)).1
        exact (LayK.endU (hfr _ hT4) (hfr _ hD2) g6 gD26 (l26.anti hfr) (kn.same s46)).upd hy6 nD
      · show pre.length + 2 * t.sz - ((((pre.length + 2 * ta.sz + 1 + 2 * u.sz : Nat)) : Int) + 1).toNat < pre.length + 2 * t.sz - (((pre.length + 2 * ta.sz : Nat)) : Int).toNat
        omega
  · have hz : tb.sz = 0 := by omega
    cases tb with
    | nil =>
      rw [app_nil] at ht
      subst ht
      walk_at "go"
      exact q D B ys H2 hD s2 g2 kn nd
    | cons k u w => simp only [Tr.sz] at hz; omega

theorem sc_tree_of : FnScope ["k", "row", "ends"] ["k", "row"] (defScope d_tree_of) := ⟨rfl, rfl, rfl, by decide +kernel, rfl, by decide +kernel, by decide +kernel⟩
theorem ok_tree_of (F : Fun K "tree_of" "tree_of" d_tree_of f fd) (T : Txt K mg aK) (U_partners : FnU P w K mg base k "partners" ["k", "row"] (spPartners)) (U_tree_between : FnU P w K mg base k "tree_between" ["row", "ends", "start", "stop"] (recSp gBetweenL 22)) : FnOk P w K mg base CX0 (k + 1) f fd ["k", "row"] (spTreeOfL) := by
  refine F.ok sc_tree_of (fun vs H Q E h => ?_) (fun cdv A outer s H vs Q E hr h => ?_)
  · obtain ⟨kk, t, rfl, _⟩ := h; rfl
  obtain ⟨kk, t, rfl, k1, k4, hg, hsz, q⟩ := h
  have hg4 : t.gr < 4 := by omega
  have hro : isRow kk (brt t.bs) = true := by rw [tr_row k1 k4 hsz hg4, decide_eq_true (by omega)]
  have hbl := bs_len t
  refine ⟨_, (pss_cons (ps_set (i := 2) sc_tree_of.nd rfl (Or.inl rfl) (pe_fn U_partners hr (pa_cons (pv 0) (pa_cons (pv 1) pa_nil))))  (pss_one (ps_ret (pe_fn U_tree_between hr (pa_cons (pv 1) (pa_cons (pv 2) (pa_cons pe_int (pa_cons (pe_callB (call_lenA K) rfl T.n_len PySem.boot_len (pa_cons (pv 1) pa_nil)) pa_nil)))))))), ?_⟩
  walk_at "go"
  refine partners_use k1 k4 hro (tr_rt hg4) (fun r xs H1 hr1 s1 hxs hP => ?_)
  walk_at "go"
  refine s_lenT (small (by rw [brt_len]; omega)) ?_
  walk_at "go"
  refine ⟨t.bs, [], [], r, xs, t, ?_, hxs, hP, by simp, hg4, by omega, Nat.le_trans (ht_sz t) (Nat.le_trans hsz (by decide)), fun D B us H2 hD s2 gD lay nd => ?_⟩
  · rw [brt_len, hbl, List.length_nil, Nat.zero_add]; rfl
  exact q D B us H2 (free_of s1 hD) (s1.trans s2) gD (lay.anti fun x hx => free_of s1 hx) nd

theorem sc_written : FnScope ["tree"] ["tree"] (defScope d_written) := ⟨rfl, rfl, rfl, by decide +kernel, rfl, by decide +kernel, by decide +kernel⟩
theorem ok_written (n : Nat) (F : Fun K "written" "written" d_written f fd) (T : Txt K mg aK)  (U_written : FnU P w K mg base k "written" ["tree"] (recSp gWritten n)) : FnOk P w K mg base CX0 (k + 1) f fd ["tree"] (gWritten n) := by
  refine F.ok sc_written (fun vs H Q E h => ?_) (fun cdv A outer s H vs Q E hr h => ?_)
  · obtain ⟨v, p, t, rfl, _⟩ := h; rfl
  obtain ⟨v, p, t, rfl, ti, hg, q⟩ := h
  obtain ⟨ta, tv, rfl, na, ga, kd⟩ := ti.2.1.open
  have hkl : t.kids.length ≤ 20 := Nat.le_trans (kids_len t) ti.2.2.1
  refine ⟨_, (pss_one (ps_ret (pe_bmK K PySem.F.plainAttrs_str PySem.F.slot_str_join PySem.F.type_str_join (mt_join K) (pe_tx (l := []) (by decide +kernel)) (pa_cons (pe_comp (own := ["kind", "within"]) (sel := []) (compOk_of (osc := (defScope d_written)) (N := ["tree"]) (by decide +kernel)) rfl (pi_listK K (pv 0)) (fun _ _ _ _ _ => (pg_tupK (n := 2) K rfl (pgs_cons (pg_name (i := 0) (show (["kind", "within"] : List Str).Nodup from by decide +kernel) rfl (Or.inl rfl)) (pgs_cons (pg_name (i := 1) (show (["kind", "within"] : List Str).Nodup from by decide +kernel) rfl (Or.inl rfl)) pgs_nil)))) (gk_tup (gk_cons gm_name (gm_cons gm_name gm_nil) (gk_name (by decide)) (gk_cons gm_name gm_nil (gk_name (by decide)) gk_nil))) (fun _ _ _ _ _ => pif_nil) (fun _ _ _ _ _ => (pe_op op_plus (pe_op op_plus (pe_ix (ix_A K) (pe_gl T.g_OPENING) (pv 0) (fun _ _ => rfl)) (pe_fn U_written hr (pa_cons (pv 1) pa_nil))) (pe_ix (ix_A K) (pe_gl T.g_CLOSING) (pv 0) (fun _ _ => rfl))))) pa_nil)))), ?_⟩
  walk_at "go"
  refine ⟨ta, rfl, ⟨_, SqL.of ga⟩, ?_⟩
  refine yes_lst (xs := tv) (by rw [kd.1, sizeLine_eq]; omega) ga (fun j ys => ys = ((t.kids.take j).map fun x => brt (2 * x.1 :: (x.2.bs ++ [2 * x.1 + 1]))).map tx) rfl ?_ ?_
  rotate_left
  · rintro m x ys H2 R hx hyl s2 e rr
    have hm : m < t.kids.length := by rw [← kd.1]; exact (List.getElem?_eq_some_iff.mp hx).1
    obtain ⟨y, hy⟩ : ∃ y, t.kids[m]? = some y := ⟨_, List.getElem?_eq_getElem hm⟩
    obtain ⟨T, b, e1, nT, gT, tb⟩ := kd.2 m y hy
    rw [hx] at e1
    cases e1
    have hmem := List.mem_of_getElem? hy
    obtain ⟨n', rfl⟩ := ti.pos hmem
    have hkh := kid_ht hmem
    have hbl := bs_len y.2
    have h20 := ti.2.2.1
    walk_at "go"
    refine ⟨T, _, rfl, SqT.of (s2 _ _ gT), rfl, ?_⟩
    walk_at "go"
    refine s_ixT (small (by decide)) (op_at (k := y.1) (by omega)) ?_
    walk_at "go"
    refine ⟨.ref b, p, y.2, rfl, ti.kid hmem s2 (tb.same s2), by omega, fun H3 s3 => ?_⟩
    walk_at "go"
    refine s_addT (small (by rw [brt_len, List.length_singleton]; omega)) ?_
    walk_at "go"
    refine s_ixT (small (by decide)) (cl_at (k := y.1) (by omega)) ?_
    walk_at "go"
    refine s_addT (small (by rw [List.length_append, brt_len, List.length_singleton, List.length_singleton]; omega)) ?_
    refine rr _ _ s3 ?_
    rw [e, List.take_add_one, hy, List.map_append, List.map_append, brt_in]
    rfl
  rintro D ys H2 hD gD hyl s2 e
  rw [kd.1, List.take_length] at e
  subst e
  walk_at "go"
  have hbl := bs_len t
  have h20 := ti.2.2.1
  refine s_join (SqL.of gD) (by rw [brt_kids, List.length_map, brt_len]; omega) ?_
  rw [brt_kids]
  exact q H2 s2

theorem sc_row_of_tree : FnScope ["k", "tree"] ["k", "tree"] (defScope d_row_of_tree) := ⟨rfl, rfl, rfl, by decide +kernel, rfl, by decide +kernel, by decide +kernel⟩
theorem ok_row_of_tree (F : Fun K "row_of_tree" "row_of_tree" d_row_of_tree f fd) (T : Txt K mg aK) (U_written : FnU P w K mg base k "written" ["tree"] (recSp gWritten 22)) (U_is_tree : FnU P w K mg base k "is_tree" ["k", "thing"] (spTree)) : FnOk P w K mg base CX0 (k + 1) f fd ["k", "tree"] (spRowOf) := by
  refine F.ok sc_row_of_tree (fun vs H Q E h => ?_) (fun cdv A outer s H vs Q E hr h => ?_)
  · obtain ⟨kk, v, p, t, rfl, _⟩ := h; rfl
  obtain ⟨kk, v, p, t, rfl, k1, k4, hp, ht, hsz, hg, q⟩ := h
  refine ⟨_, (pss_cons (ps_if (pt_not (pt_tru K (pe_fn U_is_tree hr (pa_cons (pv 0) (pa_cons (pv 1) pa_nil)))))   (pss_one ps_never)   pss_nil)  (pss_one (ps_ret (pe_fn U_written hr (pa_cons (pv 1) pa_nil))))), ?_⟩
  walk_at "go"
  refine ⟨kk, v, p, t, rfl, k1, k4, ht, hsz, fun H1 s1 => ?_⟩
  rw [decide_eq_true (by omega)]
  walk_at "go"
  refine ifq rfl ?_
  walk_at "go"
  obtain ⟨o, ho⟩ := hp
  refine ⟨v, p, t, rfl, ⟨⟨o, s1 _ _ ho⟩, ht.same s1, hsz, Nat.le_trans (ht_sz t) (Nat.le_trans hsz (by decide))⟩, by omega, fun H2 s2 => ?_⟩
  exact q H2 (s1.trans s2)

theorem sc_law_pool : FnScope ["script", "k", "cell"] ["script", "k"] (defScope d_law_pool) := ⟨rfl, rfl, rfl, by decide +kernel, rfl, by decide +kernel, by decide +kernel⟩
theorem ok_law_pool (F : Fun K "_law_pool" "_law_pool" d_law_pool f fd) (T : Txt K mg aK)  : FnOk P w K mg base CX0 (k + 1) f fd ["script", "k"] (spPool K) := by
  refine F.ok sc_law_pool (fun vs H Q E h => ?_) (fun cdv A outer s H vs Q E hr h => ?_)
  · obtain ⟨a, ns, k, rfl, _⟩ := h; rfl
  obtain ⟨a, ns, k, rfl, hS, h63, h0, hk, q⟩ := h
  have hu := hr.units0
  have fin : ∀ cell : Int, (tSeq (tIfS (tTest (tOp (rI0 fun i j => V.bl (decide (j ≤ i))) (tVar 2) (tOp (rI CPow fun i j => V.int (i ^ j.toNat)) (tC (V.int 10)) (tC (V.int 18)))))
      (tRet (tLst (tCons (tOp (rI0 fun i j => V.int (i - j)) (tVar 2) (tOp (rI CPow fun i j => V.int (i ^ j.toNat)) (tC (V.int 10)) (tC (V.int 18)))) (tCons (tC (V.int 1)) (tCons (tC (V.int 0)) tNil))))) tNext)
      (tRet (tLst (tCons (tVar 2) (tCons (tC (V.int 0)) (tCons (tOp rTimes (tC (V.int 73)) (tVar 1)) tNil)))))) { nx := fun _ H' => Q .non H', rt := Q } [some (.ref a), some (.int k), some (.int cell)] H := by
    intro cell
    walk_at "go"
    refine ifd (fun c => ?_) (fun c => ?_)
    · walk_at "go"
      refine ⟨small (show 3 ≤ 1000 by decide), fun p hp => ?_⟩
      exact q p _ hp (same_new hp _) (pool_new (by decide) (by decide))
    · walk_at "go"
      refine ⟨small (show 3 ≤ 1000 by decide), fun p hp => ?_⟩
      exact q p _ hp (same_new hp _) (pool_new (by omega) (by omega))
  refine ⟨_, (pss_cons (ps_set (i := 2) sc_law_pool.nd rfl (Or.inl rfl) pe_int)  (pss_cons (ps_if (pt_cmpR op_lt (pv 1) (pe_callB (call_lenA K) rfl T.n_len PySem.boot_len (pa_cons (pv 0) pa_nil)) (nomark _))   (pss_one (ps_set (i := 2) sc_law_pool.nd rfl (Or.inl rfl) (pe_ix (ix_A K) (pv 0) (pv 1) (fun _ _ => rfl))))   pss_nil)  (pss_cons (ps_if (pt_cmpR op_ge (pv 2) (pe_op op_pow pe_int pe_int) (nomark _))   (pss_one (ps_ret (pe_lst (pa_cons (pe_op op_sub (pv 2) (pe_op op_pow pe_int pe_int)) (pa_cons pe_int (pa_cons pe_int pa_nil))))))   pss_nil)  (pss_one (ps_ret (pe_lst (pa_cons (pv 2) (pa_cons pe_int (pa_cons (pe_op op_times pe_int (pv 1)) pa_nil))))))))), ?_⟩
  walk_at "go"
  refine s_lenL (.inl hS) ?_
  walk_at "go"
  refine ifd (fun c => ?_) (fun c => ?_)
  · rw [List.length_map] at c
    obtain ⟨v, hv⟩ := atI_ints (ns := ns) h0 c
    walk_at "go"
    refine s_ixL hS hv ?_
    walk_at "st"
    exact fin v
  · walk_at "st"
    exact fin 0

theorem sc_law_take : FnScope ["pool", "many", "found", "step", "mark"] ["pool", "many"] (defScope d_law_take) := ⟨rfl, rfl, rfl, by decide +kernel, rfl, by decide +kernel, by decide +kernel⟩
theorem ok_law_take (F : Fun K "_law_take" "_law_take" d_law_take f fd) (T : Txt K mg aK)  : FnOk P w K mg base CX0 (k + 1) f fd ["pool", "many"] (spTake) := by
  refine F.ok sc_law_take (fun vs H Q E h => ?_) (fun cdv A outer s H vs Q E hr h => ?_)
  · obtain ⟨p, n, m, rfl, _⟩ := h; rfl
  obtain ⟨p, n, m, rfl, ⟨a, b, c, hp, h0, hc⟩, hn, hm0, hm1, q⟩ := h
  have hu := hr.units0
  have hS : SqL K H p [.int a, .int b, .int c] := SqL.of hp
  refine ⟨_, (pss_cons (ps_if (pt_cmpR (op_eqA K hu) (pe_ix (ix_A K) (pv 0) pe_int (fun _ _ => rfl)) pe_int (nomark _))   (pss_cons (ps_set (i := 2) sc_law_take.nd rfl (Or.inl rfl) (pe_op op_mod (pe_ix (ix_A K) (pv 0) pe_int (fun _ _ => rfl)) (pv 1)))  (pss_cons (ps_asg (pe_op op_fdiv (pe_ix (ix_A K) (pv 0) pe_int (fun _ _ => rfl)) (pv 1)) (pg_sub (pv 0) pe_int set_list))  (pss_one (ps_ret (pv 2)))))   pss_nil)  (pss_cons (ps_asg (pe_op op_plus (pe_ix (ix_A K) (pv 0) pe_int (fun _ _ => rfl)) pe_int) (pg_sub (pv 0) pe_int set_list))  (pss_cons (ps_set (i := 3) sc_law_take.nd rfl (Or.inl rfl) (pe_ix (ix_A K) (pv 0) pe_int (fun _ _ => rfl)))  (pss_cons (ps_set (i := 4) sc_law_take.nd rfl (Or.inl rfl) (pe_op op_times (pe_op op_plus (pe_op op_mod (pe_ix (ix_A K) (pv 0) pe_int (fun _ _ => rfl)) pe_int) pe_int) (pe_op op_plus (pe_op op_times pe_int (pv 3)) pe_int)))  (pss_cons (ps_set (i := 4) sc_law_take.nd rfl (Or.inl rfl) (pe_op op_plus (pv 4) (pe_op op_times (pe_op op_times pe_int (pv 3)) (pv 3))))  (pss_cons (ps_set (i := 4) sc_law_take.nd rfl (Or.inl rfl) (pe_op op_mod (pe_op op_times (pv 4) (pv 4)) pe_int))  (pss_one (ps_ret (pe_op op_mod (pe_op op_fdiv (pe_op op_mod (pe_op op_times (pv 4) (pe_op op_plus (pv 4) pe_int)) pe_int) pe_int) (pv 1)))))))))), ?_⟩
  walk_at "go"
  refine ifd (fun hb => ?_) (fun hb => ?_)
  · walk_at "go"
    refine s_setL hp (j := 0) rfl ?_
    walk_at "go"
    exact q _ _ (Int.emod_nonneg _ (by omega)) (Int.emod_lt_of_pos _ hm0) ⟨_, _, c, upd_same, h0, by omega⟩ SameBut1.upd
  · walk_at "go"
    refine s_setL hp (j := 2) rfl ?_
    have hS2 : SqL K (upd H p (.lst [.int a, .int b, .int (c + 1)])) p [.int a, .int b, .int (c + 1)] := SqL.of upd_same
    have hx := Int.emod_nonneg a (show (9999999379 : Int) ≠ 0 by decide)
    have hx' := Int.emod_lt_of_pos a (show (0 : Int) < 9999999379 by decide)
    walk_at "go"
    have hxy : 0 ≤ (a % 9999999379 + 1049) * (67 * (c + 1) + 101) := Int.mul_nonneg (by omega) (by omega)
    have hxy' : (a % 9999999379 + 1049) * (67 * (c + 1) + 101) ≤ 10000000428 * 67000168 := Int.mul_le_mul (by omega) (by omega) (by omega) (by omega)
    have hss : 0 ≤ 3623 * (c + 1) * (c + 1) := Int.mul_nonneg (by omega) (by omega)
    have hss' : 3623 * (c + 1) * (c + 1) ≤ 3623003623 * 1000001 := Int.mul_le_mul (by omega) (by omega) (by omega) (by omega)
    generalize (a % 9999999379 + 1049) * (67 * (c + 1) + 101) = x1 at *
    generalize 3623 * (c + 1) * (c + 1) = x2 at *
    refine s_mulI (.inl ⟨by omega, by omega⟩) ?_
    have hy := Int.emod_nonneg ((x1 + x2) * (x1 + x2)) (show (99999999529 : Int) ≠ 0 by decide)
    have hy' := Int.emod_lt_of_pos ((x1 + x2) * (x1 + x2)) (show (0 : Int) < 99999999529 by decide)
    walk_at "go"
    refine q _ _ (Int.emod_nonneg _ (by omega)) (Int.emod_lt_of_pos _ hm0) ⟨_, _, c + 1, upd_same, by omega, by omega⟩ SameBut1.upd

theorem sc_law_right_row : FnScope ["pool", "k", "most", "left", "way", "row", "waiting", "more", "kind"] ["pool", "k", "most"] (defScope d_law_right_row) := ⟨rfl, rfl, rfl, by decide +kernel, rfl, by decide +kernel, by decide +kernel⟩
theorem ok_law_right_row (F : Fun K "_law_right_row" "_law_right_row" d_law_right_row f fd) (T : Txt K mg aK) (U_law_take : FnU P w K mg base k "_law_take" ["pool", "many"] (spTake)) : FnOk P w K mg base CX0 (k + 1) f fd ["pool", "k", "most"] (spRightRow) := by
  refine F.ok sc_law_right_row (fun vs H Q E h => ?_) (fun cdv A outer s H vs Q E hr h => ?_)
  · obtain ⟨p, n, k, most, rfl, _⟩ := h; rfl
  obtain ⟨p, n, kk, most, rfl, hp, hn, hk1, hk4, hm0, hm1, q⟩ := h
  have hu := hr.units0
  refine ⟨_, (pss_cons (ps_set (i := 3) sc_law_right_row.nd rfl (Or.inl rfl) (pe_ix (ix_A K) (pe_lst (pa_cons (pe_fn U_law_take hr (pa_cons (pv 0) (pa_cons (pe_op op_plus (pe_op op_fdiv (pv 2) pe_int) pe_int) pa_nil))) (pa_cons (pe_fn U_law_take hr (pa_cons (pv 0) (pa_cons (pe_op op_plus (pe_callB (call_minA rfl) rfl T.n_min PyProof.Rows.boot_min (pa_cons (pe_op op_fdiv (pv 2) pe_int) (pa_cons pe_int pa_nil))) pe_int) pa_nil))) (pa_cons (pe_op op_fdiv (pv 2) pe_int) pa_nil)))) (pe_fn U_law_take hr (pa_cons (pv 0) (pa_cons pe_int pa_nil))) (fun _ _ => rfl)))  (pss_cons (ps_set (i := 4) sc_law_right_row.nd rfl (Or.inl rfl) (pe_fn U_law_take hr (pa_cons (pv 0) (pa_cons pe_int pa_nil))))  (pss_cons (ps_set (i := 5) sc_law_right_row.nd rfl (Or.inl rfl) (pe_tx (l := []) (by decide +kernel)))  (pss_cons (ps_set (i := 6) sc_law_right_row.nd rfl (Or.inl rfl) (pe_tx (l := []) (by decide +kernel)))  (pss_cons (ps_while PassesOwn.never (PW.pt (pw_or (pt_cmpR op_gt (pv 3) pe_int (nomark _)) (pw_or1 (pt_cmpR (op_neA K hu) (pv 6) (pe_tx (l := []) (by decide +kernel)) (nomark _)))))   (pss_cons (ps_set (i := 7) sc_law_right_row.nd rfl (Or.inl rfl) (pe_ix (ix_A K) (pe_lst (pa_cons (pe_cmpR op_gt (pe_fn U_law_take hr (pa_cons (pv 0) (pa_cons pe_int pa_nil))) pe_int (nomark _)) (pa_cons (pe_cmpR (op_eqA K hu) (pe_fn U_law_take hr (pa_cons (pv 0) (pa_cons pe_int pa_nil))) pe_int (nomark _)) (pa_cons (pe_cmpR op_gt (pe_fn U_law_take hr (pa_cons (pv 0) (pa_cons pe_int pa_nil))) pe_int (nomark _)) (pa_cons (pe_cmpR op_gt (pv 3) pe_int (nomark _)) pa_nil))))) (pv 4) (fun _ _ => rfl)))  (pss_one (ps_if (PW.pt (pw_and (pt_cmpR op_gt (pv 3) pe_int (nomark _)) (pw_and1 (PW.pt (pw_or (pt_cmpR (op_eqA K hu) (pv 6) (pe_tx (l := []) (by decide +kernel)) (nomark _)) (pw_or1 (pt_tru K (pv 7))))))))   (pss_cons (ps_set (i := 8) sc_law_right_row.nd rfl (Or.inl rfl) (pe_fn U_law_take hr (pa_cons (pv 0) (pa_cons (pv 1) pa_nil))))  (pss_cons (ps_set (i := 5) sc_law_right_row.nd rfl (Or.inl rfl) (pe_op op_plus (pv 5) (pe_ix (ix_A K) (pe_tx (l := [40, 91, 123, 60]) (by decide +kernel)) (pv 8) (fun _ _ => rfl))))  (pss_cons (ps_set (i := 6) sc_law_right_row.nd rfl (Or.inl rfl) (pe_op op_plus (pe_ix (ix_A K) (pe_tx (l := [41, 93, 125, 62]) (by decide +kernel)) (pv 8) (fun _ _ => rfl)) (pv 6)))  (pss_one (ps_set (i := 3) sc_law_right_row.nd rfl (Or.inl rfl) (pe_op op_sub (pv 3) pe_int))))))   (pss_cons (ps_set (i := 5) sc_law_right_row.nd rfl (Or.inl rfl) (pe_op op_plus (pv 5) (pe_ix (ix_A K) (pv 6) pe_int (fun _ _ => rfl))))  (pss_one (ps_set (i := 6) sc_law_right_row.nd rfl (Or.inl rfl) (pe_slice (sl_A K) (pv 6) (po_some pe_int) po_none))))))))  (pss_one (ps_ret (pv 5)))))))), ?_⟩
  walk_at "go"
  refine take_use hp (by omega) (by omega) (by omega) (fun r1 H1 r10 r11 hp1 s1 => ?_)
  walk_at "go"
  refine take_use hp1 (by omega) (by split <;> omega) (by split <;> omega) (fun r2 H2 r20 r21 hp2 s2 => ?_)
  walk_at "go"
  refine ⟨small (show 3 ≤ 1000 by decide), fun a1 ha1 => ?_⟩
  have hp2' := hp2.same (same_new ha1 (.lst [.int r1, .int r2, .int (most / 2)]))
  walk_at "go"
  refine take_use hp2' (by omega) (by omega) (by omega) (fun r3 H3 r30 r31 hp3 s3 => ?_)
  have hl1 : H3 a1 = some (.lst [.int r1, .int r2, .int (most / 2)]) := s3 a1 _ upd_same (hp2.ne ha1)
  have sH3 : SameBut1 p H H3 := (s1.trans s2).trans ((SameBut1.of (same_new ha1 _)).trans s3)
  obtain ⟨lv, hlv, hlv'⟩ := at3 (V.int r1) (.int r2) (.int (most / 2)) r30 r31
  obtain ⟨left, rfl, hl0, hl⟩ : ∃ left : Int, lv = .int left ∧ 0 ≤ left ∧ left ≤ most / 2 := by
    rcases hlv' with rfl | rfl | rfl
    · exact ⟨_, rfl, by omega, by omega⟩
    · exact ⟨_, rfl, by omega, by revert r21; split <;> omega⟩
    · exact ⟨_, rfl, by omega, by omega⟩
  refine s_ixL (SqL.of hl1) hlv ?_
  walk_at "go"
  refine take_use hp3 (by omega) (by omega) (by omega) (fun way H4 w0 w1 hp4 s4 => ?_)
  walk_at "go"
  refine while_of (fun σ H' => ∃ (lf : Int) (row wt : List Nat) (mo ki : Option V), σ = [some (.ref p), some (.int kk), some (.int most), some (.int lf), some (.int way), some (tx row), some (tx wt), mo, ki] ∧
      0 ≤ lf ∧ run [] row = some wt ∧ (∀ c ∈ row, kin kk c) ∧ (∀ c ∈ wt, c ∈ cls.take kk.toNat ∧ c ∉ opn) ∧ (row.length : Int) + wt.length + 2 * lf ≤ most ∧ PoolAt H' p (n + 4 + 4 * (40 - (2 * lf.toNat + wt.length))) ∧ SameBut1 p H H')
    (fun σ _ => match σ with | [_, _, _, some (.int lf), _, _, some (.str wt), _, _] => 2 * lf.toNat + wt.length | _ => 0) ⟨left, [], [], none, none, rfl, hl0, rfl, (fun _ z => nomatch z), (fun _ z => nomatch z), by simp; omega, hp4.mono (by simp), sH3.trans s4⟩ ?_
  · rintro σ H5 ⟨lf, row, wt, mo, ki, rfl, lf0, hrun, hkin, hwt, hsum, hp5, s5⟩
    have hrow : row.length ≤ 40 := by omega
    have hwl : wt.length ≤ 40 := by omega
    refine or_tests (c := decide (0 < lf)) (d := !decide (wt = [])) (fun R h => by walk_at "go"; exact h) (fun R h => by walk_at "go"; exact h) ?_
    refine ite2 (fun hc => ?_) (fun hc => ?_)
    · have hwl2 : wt.length = 0 → wt = [] := List.length_eq_zero_iff.mp
      have hne : 0 < lf ∨ wt ≠ [] := by simpa using hc
      have hpos : 1 ≤ 2 * lf.toNat + wt.length := by
        rcases hne with z | z
        · omega
        · have : wt.length ≠ 0 := fun e => z (hwl2 e)
          omega
      refine wh_body ?_
      walk_at "go"
      refine take_use hp5 (by omega) (by omega) (by omega) (fun b1 G1 _ _ hq1 t1 => ?_)
      walk_at "go"
      refine take_use hq1 (by omega) (by omega) (by omega) (fun b2 G2 _ _ hq2 t2 => ?_)
      walk_at "go"
      refine take_use hq2 (by omega) (by omega) (by omega) (fun b3 G3 _ _ hq3 t3 => ?_)
      walk_at "go"
      refine ⟨small (show 4 ≤ 1000 by decide), fun a2 ha2 => ?_⟩
      obtain ⟨mb, hmb⟩ := at4b (decide (0 < b1)) (decide (b2 = 0)) (decide (0 < b3)) (decide (0 < lf)) w0 w1
      have hq3' := hq3.same (same_new ha2 (.lst [.bl (decide (0 < b1)), .bl (decide (b2 = 0)), .bl (decide (0 < b3)), .bl (decide (0 < lf))]))
      have tG : SameBut1 p H (upd G3 a2 (.lst [.bl (decide (0 < b1)), .bl (decide (b2 = 0)), .bl (decide (0 < b3)), .bl (decide (0 < lf))])) := s5.trans (((t1.trans t2).trans t3).trans (SameBut1.of (same_new ha2 _)))
      walk_at "st"
      refine s_ixL (SqL.of upd_same) hmb ?_
      walk_at "st"
      walk_at "st"
      refine and_tests (c := decide (0 < lf)) (d := decide (wt = []) || mb) (fun R h => by walk_at "go"; exact h) (fun R h => or_tests (c := decide (wt = [])) (d := mb) (fun R h => by walk_at "go"; exact h) (fun R h => by walk_at "go"; exact h) h) ?_
      refine ite2 (fun hd => ?_) (fun hd => ?_)
      · have hlf : 0 < lf := by simp at hd; exact hd.1
        walk_at "go"
        refine take_use hq3' (by omega) (by omega) (by omega) (fun ki' G4 ki0 ki1 hq4 t4 => ?_)
        obtain ⟨oc, ho1, ho2, ho3, ho4, ho5, ho6⟩ := opn_at ki0 ki1 hk4
        walk_at "go"
        refine s_ixT (small (show 4 ≤ 1000 by decide)) ho1 ?_
        walk_at "go"
        refine s_ixT (small (show 4 ≤ 1000 by decide)) ho4 ?_
        walk_at "go"
        refine ⟨⟨lf - 1, row ++ [oc], [clo oc] ++ wt, _, _, rfl, by omega, ?_, ?_, ?_, ?_, hq4.mono ?_, tG.trans t4⟩, ?_⟩
        · rw [run_snoc hrun, stp_open ho2]; rfl
        · intro c hc
          rcases List.mem_append.mp hc with z | z
          · exact hkin c z
          · rw [List.mem_singleton.mp z]; exact .inl ho3
        · intro c hc
          rcases List.mem_append.mp hc with z | z
          · rw [List.mem_singleton.mp z]; exact ⟨ho5, ho6⟩
          · exact hwt c z
        · simp only [List.length_append, List.length_singleton]; omega
        · simp only [List.length_append, List.length_singleton]; omega
        · show 2 * (lf - 1).toNat + ([clo oc] ++ wt).toArray.size < 2 * lf.toNat + wt.toArray.size
          simp only [List.size_toArray, List.length_append, List.length_singleton]; omega
      · have hne2 : wt ≠ [] := by
          intro e
          subst e
          rcases hne with z | z
          · apply hd; simp [z]
          · exact z rfl
        obtain ⟨d0, wr, rfl⟩ : ∃ d0 wr, wt = d0 :: wr := by
          cases wt with
          | nil => exact absurd rfl hne2
          | cons d0 wr => exact ⟨d0, wr, rfl⟩
        obtain ⟨hd1, hd2⟩ := hwt d0 List.mem_cons_self
        walk_at "go"
        refine s_ixT (small (by simp only [List.length_cons] at hwl ⊢; omega)) (atI_0 d0 wr) ?_
        walk_at "go"
        first | refine s_slT (small (by simp only [List.length_cons] at hwl ⊢; omega)) ?_ | skip
        rw [cut_tail]
        walk_at "go"
        simp only [List.length_cons] at hsum hq3' hwl
        refine ⟨⟨lf, row ++ [d0], wr, _, _, rfl, lf0, ?_, ?_, fun c hc => hwt c (List.mem_cons_of_mem _ hc), ?_, hq3'.mono ?_, tG⟩, ?_⟩
        · rw [run_snoc hrun, stp_close hd2]
        · intro c hc
          rcases List.mem_append.mp hc with z | z
          · exact hkin c z
          · rw [List.mem_singleton.mp z]; exact .inr hd1
        · simp only [List.length_append, List.length_singleton]; omega
        · omega
        · show 2 * lf.toNat + wr.toArray.size < 2 * lf.toNat + (d0 :: wr).toArray.size
          simp only [List.size_toArray, List.length_cons]; omega
    · have hc' : lf ≤ 0 ∧ wt = [] := by simpa using hc
      obtain ⟨e1, rfl⟩ := hc'
      walk_at "go"
      refine q row H5 hrun (by simp at hsum; omega) hkin (hp5.mono (by omega)) s5

theorem sc_law_tree : FnScope ["pool", "k", "most", "left", "way", "found", "every", "turn", "at", "within"] ["pool", "k", "most"] (defScope d_law_tree) := ⟨rfl, rfl, rfl, by decide +kernel, rfl, by decide +kernel, by decide +kernel⟩
theorem ok_law_tree (F : Fun K "_law_tree" "_law_tree" d_law_tree f fd) (T : Txt K mg aK) (U_law_take : FnU P w K mg base k "_law_take" ["pool", "many"] (spTake)) : FnOk P w K mg base CX0 (k + 1) f fd ["pool", "k", "most"] (spMkB) := by
  refine F.ok sc_law_tree (fun vs H Q E h => ?_) (fun cdv A outer s H vs Q E hr h => ?_)
  · obtain ⟨p, n, k, rfl, _⟩ := h; rfl
  obtain ⟨p, n, kk, rfl, hp, hn, k1, k4, q⟩ := h
  have hu := hr.units0
  have hp0 : H p ≠ none := by obtain ⟨a, b, c, e, _⟩ := hp; rw [e]; simp
  refine ⟨_, (pss_cons (ps_set (i := 3) sc_law_tree.nd rfl (Or.inl rfl) (pe_ix (ix_A K) (pe_lst (pa_cons (pe_fn U_law_take hr (pa_cons (pv 0) (pa_cons (pe_op op_plus (pv 2) pe_int) pa_nil))) (pa_cons (pe_fn U_law_take hr (pa_cons (pv 0) (pa_cons (pe_op op_plus (pe_callB (call_minA rfl) rfl T.n_min PyProof.Rows.boot_min (pa_cons (pv 2) (pa_cons pe_int pa_nil))) pe_int) pa_nil))) (pa_cons (pv 2) pa_nil)))) (pe_fn U_law_take hr (pa_cons (pv 0) (pa_cons pe_int pa_nil))) (fun _ _ => rfl)))  (pss_cons (ps_set (i := 4) sc_law_tree.nd rfl (Or.inl rfl) (pe_fn U_law_take hr (pa_cons (pv 0) (pa_cons pe_int pa_nil))))  (pss_cons (ps_set (i := 5) sc_law_tree.nd rfl (Or.inl rfl) (pe_lst pa_nil))  (pss_cons (ps_set (i := 6) sc_law_tree.nd rfl (Or.inl rfl) (pe_lst (pa_cons (pv 5) pa_nil)))  (pss_cons (ps_for PassesOwn.never rfl (pi_range1 rfl T.n_range (pa_cons (pv 3) pa_nil)) (pg_name (i := 7) sc_law_tree.nd rfl (Or.inl rfl))   (pss_cons (ps_set (i := 8) sc_law_tree.nd rfl (Or.inl rfl) (pe_ix (ix_A K) (pe_lst (pa_cons pe_int (pa_cons (pe_op op_sub (pe_callB (call_lenA K) rfl T.n_len PySem.boot_len (pa_cons (pv 6) pa_nil)) pe_int) (pa_cons (pe_fn U_law_take hr (pa_cons (pv 0) (pa_cons (pe_callB (call_lenA K) rfl T.n_len PySem.boot_len (pa_cons (pv 6) pa_nil)) pa_nil))) (pa_cons (pe_fn U_law_take hr (pa_cons (pv 0) (pa_cons (pe_callB (call_minA rfl) rfl T.n_min PyProof.Rows.boot_min (pa_cons pe_int (pa_cons (pe_callB (call_lenA K) rfl T.n_len PySem.boot_len (pa_cons (pv 6) pa_nil)) pa_nil))) pa_nil))) pa_nil))))) (pv 4) (fun _ _ => rfl)))  (pss_cons (ps_set (i := 9) sc_law_tree.nd rfl (Or.inl rfl) (pe_lst pa_nil))  (pss_cons (ps_expr (pe_bmK K PySem.F.plainAttrs_list PySem.F.slot_list_append PySem.F.type_list_append mt_append (pe_ix (ix_A K) (pv 6) (pv 8) (fun _ _ => rfl)) (pa_cons (pe_tup (pa_cons (pe_fn U_law_take hr (pa_cons (pv 0) (pa_cons (pv 1) pa_nil))) (pa_cons (pv 9) pa_nil))) pa_nil)))  (pss_one (ps_expr (pe_bmK K PySem.F.plainAttrs_list PySem.F.slot_list_append PySem.F.type_list_append mt_append (pv 6) (pa_cons (pv 9) pa_nil))))))))  (pss_one (ps_ret (pv 5)))))))), ?_⟩
  walk_at "go"
  refine take_use hp (by omega) (by omega) (by omega) (fun r1 H1 a1 b1 p1 s1 => ?_)
  walk_at "go"
  rw [show (if (4 : Int) < 20 then (4 : Int) else 20) = 4 from rfl]
  refine take_use p1 (by omega) (by omega) (by omega) (fun r2 H2 a2 b2 p2 s2 => ?_)
  walk_at "go"
  refine ⟨small (show 3 ≤ 1000 by decide), fun z1 hz1 => ?_⟩
  have t3 := same_new hz1 (.lst [.int r1, .int r2, .int 20])
  have g3 : (upd H2 z1 (.lst [.int r1, .int r2, .int 20])) z1 = _ := upd_same
  have nz1 : z1 ≠ p := fun z => by obtain ⟨a, b, c, e, _⟩ := p2; rw [z, e] at hz1; cases hz1
  have p3 := p2.same t3
  have s03 := (s1.trans s2).trans (SameBut1.of t3)
  generalize upd H2 z1 _ = H3 at *
  walk_at "go"
  refine take_use p3 (by omega) (by omega) (by omega) (fun r4 H4 a4 b4 p4 s4 => ?_)
  have s04 := s03.trans s4
  walk_at "go"
  obtain ⟨lf, elf, hlf⟩ := pick3 (a := r1) (b := r2) (c := 20) (m := 20) a4 b4 ⟨a1, by omega⟩ ⟨a2, by omega⟩ ⟨by omega, by omega⟩
  refine s_ixL (SqL.of (s4 _ _ g3 nz1)) elf ?_
  walk_at "go"
  refine take_use p4 (by omega) (by omega) (by omega) (fun way H5 a5 b5 p5 s5 => ?_)
  have s05 := s04.trans s5
  walk_at "go"
  refine ⟨small (show 0 ≤ 1000 by decide), fun a ha => ?_⟩
  have t6 := same_new ha (.lst [])
  have g6 : (upd H5 a (.lst [])) a = some (.lst []) := upd_same
  have na : a ≠ p := fun z => by obtain ⟨a, b, c, e, _⟩ := p5; rw [z, e] at ha; cases ha
  have fr : ∀ {G : Hp} {x : Addr}, SameBut1 p H G → x ≠ p → G x = none → H x = none := fun {G x} s nx hx => by
    cases e : H x with
    | none => rfl
    | some o => rw [s _ _ e nx] at hx; cases hx
  have ha0 := fr s05 na ha
  have p6 := p5.same t6
  have s06 := s05.trans (SameBut1.of t6)
  generalize upd H5 a _ = H6 at *
  walk_at "go"
  refine ⟨small (show 1 ≤ 1000 by decide), fun Ev hEv => ?_⟩
  have t7 := same_new hEv (.lst [.ref a])
  have g7 : (upd H6 Ev (.lst [.ref a])) Ev = some (.lst [.ref a]) := upd_same
  have nE : Ev ≠ p := fun z => by obtain ⟨a, b, c, e, _⟩ := p6; rw [z, e] at hEv; cases hEv
  have nEa : Ev ≠ a := fun z => by rw [z, g6] at hEv; cases hEv
  have hE0 := fr s06 nE hEv
  have p7 := p6.same t7
  have s07 := s06.trans (SameBut1.of t7)
  have g67 := t7 _ _ g6
  generalize upd H6 Ev _ = H7 at *
  clear t3 g3 t6 g6 t7 p3 p4 p5 p6 p1 p2 s1 s2 s4 s5 s03 s04 s05 s06 elf
  walk_at "go"
  refine ⟨_, rfl, by omega, by omega, ?_⟩
  rw [Int.toNat_natCast]
  refine for_rng (fun i σ H' => ∃ (A' L : List Addr) (vs : List V) (t : Tr) (o7 o8 o9 : Option V), σ = [some (.ref p), some (.int kk), some (.int 20), some (.int (lf : Int)), some (.int way), some (.ref a), some (.ref Ev), o7, o8, o9] ∧ PoolAt H' p (n + 4 + 3 * i) ∧ SameBut1 p H H' ∧ H' Ev = some (.lst (L.map V.ref)) ∧ L.length = i + 1 ∧ (∀ y ∈ L, y ∈ a :: A') ∧ H' a = some (.lst vs) ∧ LayK H H' A' vs t ∧ (a :: A').Nodup ∧ Ev ∉ a :: A' ∧ t.sz = i ∧ t.gr < kk.toNat)
    ⟨[], [a], [], .nil, _, _, _, rfl, p7, s07, g7, rfl, fun y hy => hy, g67, ⟨rfl, rfl⟩, by simp, by simpa using nEa, rfl, by simp only [Tr.gr]; omega⟩ ?_ ?_
  rotate_left
  · rintro σ H8 ⟨A', L, vs, t, o7, o8, o9, rfl, p8, s8, gE, hL, hm, gA, lay, nd, nEv, hsz, hgr⟩
    walk_at "go"
    exact q a t H8 (by omega) hgr ha0 (p8.mono (by omega)) s8 fun x ⟨o, hx⟩ => Kd.close gA (fun z => by rw [z, hx] at ha0; cases ha0) (lay.kd (by rw [hx]; simp))
  rintro i σ H8 hi ⟨A', L, vs, t, o7, o8, o9, rfl, p8, s8, gE, hL, hm, gA, lay, nd, nEv, hsz, hgr⟩
  have hLm : (L.map V.ref).length = i + 1 := by rw [List.length_map, hL]
  walk_at "go"
  refine s_lenL (.inl (SqL.of gE)) ?_
  rw [hLm]
  walk_at "go"
  refine s_lenL (.inl (SqL.of gE)) ?_
  rw [hLm]
  walk_at "go"
  refine take_use p8 (by omega) (by omega) (by omega) (fun r9 H9 a9 b9 p9 s9 => ?_)
  have gE9 := s9 _ _ gE nE
  walk_at "go"
  refine s_lenL (.inl (SqL.of gE9)) ?_
  rw [hLm]
  walk_at "go"
  refine take_use p9 (by omega) (by split <;> omega) (by split <;> omega) (fun r10 H10 a10 b10 p10 s10 => ?_)
  have b10' : r10 ≤ (i : Int) := by split at b10 <;> omega
  walk_at "go"
  refine ⟨small (show 4 ≤ 1000 by decide), fun z2 hz2 => ?_⟩
  have t11 := same_new hz2 (.lst [.int 0, .int (((i + 1 : Nat) : Int) - 1), .int r9, .int r10])
  have g11 : (upd H10 z2 (.lst [.int 0, .int (((i + 1 : Nat) : Int) - 1), .int r9, .int r10])) z2 = _ := upd_same
  have s11 : SameBut1 p H8 (upd H10 z2 (.lst [.int 0, .int (((i + 1 : Nat) : Int) - 1), .int r9, .int r10])) := (s9.trans s10).trans (SameBut1.of t11)
  have p11 := p10.same t11
  generalize upd H10 z2 _ = H11 at *
  obtain ⟨at', eat, hat⟩ := pick4 (a := 0) (b := ((i + 1 : Nat) : Int) - 1) (c := r9) (d := r10) (m := (i : Int)) a5 b5 ⟨by omega, by omega⟩ ⟨by omega, by omega⟩ ⟨a9, by omega⟩ ⟨a10, b10'⟩
  have s011 := s8.trans s11
  have gE11 := s11 _ _ gE nE
  have gA11 := s11 _ _ gA na
  obtain ⟨q1, q2, q3, gp8, _⟩ := p8
  have lay11 := lay.keep hp0 gp8 s11
  obtain ⟨x, hxL⟩ : ∃ x, L[at']? = some x := ⟨_, List.getElem?_eq_getElem (by omega)⟩
  have hx := List.mem_of_getElem? hxL
  obtain ⟨us, gx11, husl, nx⟩ : ∃ us, H11 x = some (.lst us) ∧ us.length ≤ 20 ∧ x ≠ p := by
    rcases List.mem_cons.mp (hm x hx) with e | e
    · have := lay.len.2
      have := kids_len t
      exact ⟨vs, e ▸ gA11, by omega, e ▸ na⟩
    · obtain ⟨n0, ws, g, l⟩ := lay11.lst x e
      exact ⟨ws, g, by omega, fun z => hp0 (z ▸ n0)⟩
  walk_at "go"
  refine s_ixL (SqL.of g11) eat ?_
  walk_at "go"
  refine ⟨small (show 0 ≤ 1000 by decide), fun w hw => ?_⟩
  have t12 := same_new hw (.lst [])
  have g12 : (upd H11 w (.lst [])) w = some (.lst []) := upd_same
  have nw : w ≠ p := fun z => by obtain ⟨a, b, c, e, _⟩ := p11; rw [z, e] at hw; cases hw
  have hw0 := fr s011 nw hw
  have p12 := p11.same t12
  generalize upd H11 w _ = H12 at *
  walk_at "go"
  refine s_ixL (SqL.of (t12 _ _ gE11)) (atI_nat (show (L.map V.ref)[at']? = some (.ref x) by rw [List.getElem?_map, hxL]; rfl)) ?_
  walk_at "go"
  refine ⟨.inl ⟨rfl, _, SqL.of (t12 _ _ gx11)⟩, ?_⟩
  walk_at "go"
  refine take_use p12 (by omega) (by omega) (by omega) (fun r13 H13 a13 b13 p13 s13 => ?_)
  obtain ⟨c, rfl⟩ : ∃ c : Nat, r13 = (c : Int) := ⟨r13.toNat, by omega⟩
  walk_at "go"
  refine ⟨small (show 2 ≤ 1000 by decide), fun Tq hTq => ?_⟩
  have t14 := same_new hTq (.tup [.int (c : Int), .ref w])
  have g14 : (upd H13 Tq (.tup [.int (c : Int), .ref w])) Tq = _ := upd_same
  have nTq : Tq ≠ p := fun z => by obtain ⟨a, b, c, e, _⟩ := p13; rw [z, e] at hTq; cases hTq
  have hT0 := fr (s011.trans ((SameBut1.of t12).trans s13)) nTq hTq
  have s14 : SameBut1 p H11 (upd H13 Tq (.tup [.int (c : Int), .ref w])) := ((SameBut1.of t12).trans s13).trans (SameBut1.of t14)
  have gw14 := t14 _ _ (s13 _ _ g12 nw)
  have p14 := p13.same t14
  generalize upd H13 Tq _ = H14 at *
  have gx14 := s14 _ _ gx11 nx
  have gE14 := s14 _ _ gE11 nE
  have hxE : Ev ≠ x := fun z => nEv (z ▸ hm x hx)
  obtain ⟨l1, l2, l3, gp11, hp11⟩ := p11
  obtain ⟨A2, vs2, t2, y1, y2, y3, y4, y5, y6, y7⟩ := grow hp0 gp11 gE11 hm gA11 lay11 nd nEv ha0 hE0 hw hw0 hT0 s14 g14 gw14 hx gx14 (show c < kk.toNat by omega) hgr
  walk_at "go"
  refine ⟨x, us, _, rfl, rfl, gx14, small1000 (by omega), ?_⟩
  have gE15 : (upd H14 x (.lst (us ++ [.ref Tq]))) Ev = some (.lst (L.map V.ref)) := by rw [upd_ne hxE]; exact gE14
  walk_at "go"
  refine ⟨.inl ⟨rfl, _, SqL.of gE15⟩, ?_⟩
  walk_at "go"
  refine ⟨Ev, _, _, rfl, rfl, gE15, small1000 (by omega), ?_⟩
  have sb : ∀ {G : Hp} {b : Addr} {o : HO}, b ≠ p → H b = none → SameBut1 p H G → SameBut1 p H (upd G b o) := fun {G b o} nb hb s y oy hy ny => by rw [upd_ne (ne_of_none hy hb)]; exact s _ _ hy ny
  have pk : ∀ {G : Hp} {b : Addr} {o : HO} {m : Nat}, b ≠ p → PoolAt G p m → PoolAt (upd G b o) p m := fun {G b o m} nb ⟨x1, x2, x3, e, h⟩ => ⟨x1, x2, x3, by rw [upd_ne nb.symm]; exact e, h⟩
  have hx0 : H x = none := by
    rcases List.mem_cons.mp (hm x hx) with e | e
    · rw [e]; exact ha0
    · exact (lay11.lst x e).1
  refine ⟨A2, L ++ [w], vs2, t2, _, _, _, rfl, (pk nE (pk nx p14)).mono (by omega), sb nE hE0 (sb nx hx0 (s011.trans s14)), by rw [upd_same, List.map_append]; rfl, by rw [List.length_append, hL]; rfl, y7, y1, y2, y3, y4, by omega, y6⟩

theorem sc_law_copy : FnScope ["tree"] ["tree"] (defScope d_law_copy) := ⟨rfl, rfl, rfl, by decide +kernel, rfl, by decide +kernel, by decide +kernel⟩
theorem ok_law_copy (n : Nat) (F : Fun K "_law_copy" "_law_copy" d_law_copy f fd) (T : Txt K mg aK)  (U_law_copy : FnU P w K mg base k "_law_copy" ["tree"] (recSp gCopy n)) : FnOk P w K mg base CX0 (k + 1) f fd ["tree"] (gCopy n) := by
  refine F.ok sc_law_copy (fun vs H Q E h => ?_) (fun cdv A outer s H vs Q E hr h => ?_)
  · obtain ⟨v, p, t, rfl, _⟩ := h; rfl
  obtain ⟨v, p, t, rfl, ti, q⟩ := h
  obtain ⟨ta, tv, rfl, na, ga, kd⟩ := ti.2.1.open
  have hkl : t.kids.length ≤ 20 := Nat.le_trans (kids_len t) ti.2.2.1
  refine ⟨_, (pss_one (ps_ret (pe_comp (own := ["kind", "within"]) (sel := []) (compOk_of (osc := (defScope d_law_copy)) (N := ["tree"]) (by decide +kernel)) rfl (pi_listK K (pv 0)) (fun _ _ _ _ _ => (pg_tupK (n := 2) K rfl (pgs_cons (pg_name (i := 0) (show (["kind", "within"] : List Str).Nodup from by decide +kernel) rfl (Or.inl rfl)) (pgs_cons (pg_name (i := 1) (show (["kind", "within"] : List Str).Nodup from by decide +kernel) rfl (Or.inl rfl)) pgs_nil)))) (gk_tup (gk_cons gm_name (gm_cons gm_name gm_nil) (gk_name (by decide)) (gk_cons gm_name gm_nil (gk_name (by decide)) gk_nil))) (fun _ _ _ _ _ => pif_nil) (fun _ _ _ _ _ => (pe_tup (pa_cons (pv 0) (pa_cons (pe_fn U_law_copy hr (pa_cons (pv 1) pa_nil)) pa_nil))))))), ?_⟩
  walk_at "go"
  refine ⟨ta, rfl, ⟨_, SqL.of ga⟩, ?_⟩
  refine compL (xs := tv) (fun D i ys H' => Same H H' ∧ Kn H D H' ys (t.kids.take i)) (fun D i ys H' h => h.1 _ _ ga) (fun D hD => ⟨same_new hD _, kn_nil _ _ _⟩) (fun D ys H6 hD hy ⟨s6, h1⟩ => ?_) ?_
  · rw [kd.1, List.take_length] at h1
    exact q D H6 hD s6 fun p ⟨o, hp⟩ => Kd.close hy (fun z => by rw [z, hp] at hD; cases hD) (h1.2 p ⟨o, hp⟩)
  rintro D i x ys H4 hD hx hi hy hyl ⟨s4, hkd⟩
  have hm : i < t.kids.length := by rw [← kd.1]; exact hi
  obtain ⟨y, hyk⟩ : ∃ y, t.kids[i]? = some y := ⟨_, List.getElem?_eq_getElem hm⟩
  obtain ⟨T, b, e1, nT, gT, tb⟩ := kd.2 i y hyk
  rw [hx] at e1
  cases e1
  have hmem := List.mem_of_getElem? hyk
  obtain ⟨n', rfl⟩ := ti.pos hmem
  walk_at "go"
  refine ⟨T, _, rfl, SqT.of (s4 _ _ gT), rfl, ?_⟩
  walk_at "go"
  refine ifp rfl ?_
  walk_at "go"
  refine ⟨.ref b, p, y.2, rfl, ti.kid hmem s4 (tb.same s4), fun D2 H5 hD2 s5 tD2 => ?_⟩
  walk_at "go"
  refine ⟨small (show 2 ≤ 1000 by decide), fun T2 hT2 => ?_⟩
  have t6 := same_new hT2 (.tup [.int (y.1 : Int), .ref D2])
  have g6 : (upd H5 T2 (.tup [.int (y.1 : Int), .ref D2])) T2 = _ := upd_same
  have s46 := s5.trans t6
  have hy6 := s46 _ _ hy
  have tD6 : ∀ p, (∃ o, H4 p = some o) → TrH p _ (.ref D2) y.2 := fun p hp => (tD2 p hp).same t6
  have hT4 : H4 T2 = none := free_of s5 hT2
  generalize upd H5 T2 _ = H6 at *
  refine ⟨ys, hy6, by rw [sizeLine_eq]; omega, tv.length - (i + 1), by omega, rfl, by omega, _, upd_same, by rw [List.length_append, List.length_singleton]; omega, fun z o hz => by rw [upd_ne (ne_of_none hz hD)]; exact s46 _ _ (s4 _ _ hz), ?_⟩
  rw [List.take_add_one, hyk]
  exact hkd.more s4 s46 (fun b o hb nb => by rw [upd_ne nb]; exact hb) hT4 ⟨_, hy⟩ g6 tD6

theorem sc_law_row : FnScope ["tree", "found", "kind", "within"] ["tree"] (defScope d_law_row) := ⟨rfl, rfl, rfl, by decide +kernel, rfl, by decide +kernel, by decide +kernel⟩
theorem ok_law_row (n : Nat) (F : Fun K "_law_row" "_law_row" d_law_row f fd) (T : Txt K mg aK)  (U_law_row : FnU P w K mg base k "_law_row" ["tree"] (recSp gWritten n)) : FnOk P w K mg base CX0 (k + 1) f fd ["tree"] (gWritten n) := by
  refine F.ok sc_law_row (fun vs H Q E h => ?_) (fun cdv A outer s H vs Q E hr h => ?_)
  · obtain ⟨v, p, t, rfl, _⟩ := h; rfl
  obtain ⟨v, p, t, rfl, ti, hg, q⟩ := h
  obtain ⟨ta, tv, rfl, na, ga, kd⟩ := ti.2.1.open
  have hkl : t.kids.length ≤ 20 := Nat.le_trans (kids_len t) ti.2.2.1
  refine ⟨_, (pss_cons (ps_set (i := 1) sc_law_row.nd rfl (Or.inl rfl) (pe_tx (l := []) (by decide +kernel)))  (pss_cons (ps_for PassesOwn.never rfl (pi_listK K (pe_rev K (pv 0) (pe_un un_neg pe_int))) (pg_tupK (n := 2) K rfl (pgs_cons (pg_name (i := 2) sc_law_row.nd rfl (Or.inl rfl)) (pgs_cons (pg_name (i := 3) sc_law_row.nd rfl (Or.inl rfl)) pgs_nil)))   (pss_one (ps_set (i := 1) sc_law_row.nd rfl (Or.inl rfl) (pe_op op_plus (pe_op op_plus (pe_op op_plus (pe_ix (ix_A K) (pe_tx (l := [40, 91, 123, 60]) (by decide +kernel)) (pv 2) (fun _ _ => rfl)) (pe_fn U_law_row hr (pa_cons (pv 3) pa_nil))) (pe_ix (ix_A K) (pe_tx (l := [41, 93, 125, 62]) (by decide +kernel)) (pv 2) (fun _ _ => rfl))) (pv 1)))))  (pss_one (ps_ret (pv 1))))), ?_⟩
  walk_at "go"
  refine .inr ⟨ta, tv, rfl, SqL.of ga, fun rv hrv => ?_⟩
  have t1 := same_new hrv (.lst tv.reverse)
  have g1 : (upd H rv (.lst tv.reverse)) rv = some (.lst tv.reverse) := upd_same
  generalize upd H rv _ = H1 at *
  refine ⟨rv, rfl, ⟨_, SqL.of g1⟩, ?_⟩
  have hrl : tv.reverse.length = t.kids.length := by rw [List.length_reverse, kd.1]
  refine for_lst (xs := tv.reverse) (fun i σ H' => ∃ (o2 o3 : Option V), σ = [some (.ref ta), some (tx (brt (kbs (t.kids.drop (t.kids.length - i))))), o2, o3] ∧ Same H1 H') ⟨_, _, by rw [Nat.sub_zero, List.drop_length]; rfl, Same.refl _⟩ (fun i σ H' _ ⟨_, _, _, sH⟩ => SqL.of (sH _ _ g1)) ?_ ?_
  rotate_left
  · rintro σ H2 ⟨o2, o3, rfl, s2⟩
    rw [hrl, Nat.sub_self, List.drop_zero, kbs_all]
    walk_at "go"
    exact q H2 (t1.trans s2)
  rintro i x σ H4 hx ⟨o2, o3, rfl, s4⟩
  have hi : i < t.kids.length := by rw [← hrl]; exact (List.getElem?_eq_some_iff.mp hx).1
  have hm : t.kids.length - 1 - i < t.kids.length := by omega
  obtain ⟨y, hyk⟩ : ∃ y, t.kids[t.kids.length - 1 - i]? = some y := ⟨_, List.getElem?_eq_getElem hm⟩
  obtain ⟨T, b, e1, nT, gT, tb⟩ := kd.2 _ y hyk
  rw [List.getElem?_reverse (by rw [kd.1]; exact hi), kd.1, e1] at hx
  cases hx
  have hmem := List.mem_of_getElem? hyk
  obtain ⟨n', rfl⟩ := ti.pos hmem
  have s04 := t1.trans s4
  have hkh := kid_ht hmem
  have hbl := bs_len y.2
  have h20 := ti.2.2.1
  have ed : t.kids.drop (t.kids.length - (i + 1)) = y :: t.kids.drop (t.kids.length - i) := by
    have e := List.drop_eq_getElem_cons hm
    rw [(List.getElem?_eq_some_iff.mp hyk).2, show t.kids.length - 1 - i + 1 = t.kids.length - i by omega] at e
    rw [← e, show t.kids.length - (i + 1) = t.kids.length - 1 - i by omega]
  have hdl := kbs_drop t (t.kids.length - i)
  refine s_gtup (SqT.of (s04 _ _ gT)) rfl ?_
  walk_at "go"
  refine s_ixT (small (by decide)) (op_at (k := y.1) (by omega)) ?_
  walk_at "go"
  refine ⟨.ref b, p, y.2, rfl, ti.kid hmem s04 (tb.same s04), by omega, fun H5 s5 => ?_⟩
  walk_at "go"
  refine s_addT (small (by rw [brt_len, List.length_singleton]; omega)) ?_
  walk_at "go"
  refine s_ixT (small (by decide)) (cl_at (k := y.1) (by omega)) ?_
  walk_at "go"
  refine s_addT (small (by rw [List.length_append, brt_len, List.length_singleton, List.length_singleton]; omega)) ?_
  walk_at "go"
  refine s_addT (small (by rw [List.length_append, List.length_append, brt_len, brt_len, List.length_singleton, List.length_singleton]; omega)) ?_
  rw [kbs_step, ← ed]
  walk_at "go"
  exact ⟨_, _, rfl, s4.trans s5⟩

theorem sc_law_is : FnScope ["found", "due", "one", "other"] ["found", "due"] (defScope d_law_is) := ⟨rfl, rfl, rfl, by decide +kernel, rfl, by decide +kernel, by decide +kernel⟩
theorem ok_law_is (n : Nat) (F : Fun K "_law_is" "_law_is" d_law_is f fd) (T : Txt K mg aK)  (U_law_is : FnU P w K mg base k "_law_is" ["found", "due"] (recSp gIs n)) : FnOk P w K mg base CX0 (k + 1) f fd ["found", "due"] (gIs n) := by
  refine F.ok sc_law_is (fun vs H Q E h => ?_) (fun cdv A outer s H vs Q E hr h => ?_)
  · obtain ⟨v, w, p, q, t, rfl, _⟩ := h; rfl
  obtain ⟨v, w, p, p2, t, rfl, ti, ti2, q⟩ := h
  have hu := hr.units0
  obtain ⟨ta, tv, rfl, na, ga, kd⟩ := ti.2.1.open
  obtain ⟨tb, tw, rfl, nb, gb, kd2⟩ := ti2.2.1.open
  refine ⟨_, (pss_cons (ps_if (PW.pt (pw_or (pt_not (pt_tru K (pe_callB (call_isiA K) rfl T.n_isinstance PyProof.Rows.boot_isinstance (pa_cons (pv 0) (pa_cons (pe_ty T.n_list PyProof.Rows.boot_list) pa_nil))))) (pw_or1 (pt_cmpR (op_neA K hu) (pe_callB (call_lenA K) rfl T.n_len PySem.boot_len (pa_cons (pv 0) pa_nil)) (pe_callB (call_lenA K) rfl T.n_len PySem.boot_len (pa_cons (pv 1) pa_nil)) (nomark _)))))   (pss_one (ps_ret pe_bl))   pss_nil)  (pss_cons (ps_for PassesOwn.never rfl (pi_zipM rfl T.n_zip (pa_cons (pv 0) (pa_cons (pv 1) pa_nil))) (pg_tupK (n := 2) K rfl (pgs_cons (pg_name (i := 2) sc_law_is.nd rfl (Or.inl rfl)) (pgs_cons (pg_name (i := 3) sc_law_is.nd rfl (Or.inl rfl)) pgs_nil)))   (pss_cons (ps_if (PW.pt (pw_or (pt_not (pt_tru K (pe_callB (call_isiA K) rfl T.n_isinstance PyProof.Rows.boot_isinstance (pa_cons (pv 2) (pa_cons (pe_ty T.n_tuple PyProof.Rows.boot_tuple) pa_nil))))) (pw_or (pt_cmpR (op_neA K hu) (pe_callB (call_lenA K) rfl T.n_len PySem.boot_len (pa_cons (pv 2) pa_nil)) pe_int (nomark _)) (pw_or (pt_tru K (pe_callB (call_isiA K) rfl T.n_isinstance PyProof.Rows.boot_isinstance (pa_cons (pe_ix (ix_A K) (pv 2) pe_int (fun _ _ => rfl)) (pa_cons (pe_ty T.n_bool PyProof.Rows.boot_bool) pa_nil)))) (pw_or1 (pt_cmpR (op_neA K hu) (pe_ix (ix_A K) (pv 2) pe_int (fun _ _ => rfl)) (pe_ix (ix_A K) (pv 3) pe_int (fun _ _ => rfl)) (nomark _)))))))   (pss_one (ps_ret pe_bl))   pss_nil)  (pss_one (ps_if (PW.pt (pw_or (pt_not (pt_tru K (pe_callB (call_isiA K) rfl T.n_isinstance PyProof.Rows.boot_isinstance (pa_cons (pe_ix (ix_A K) (pv 2) pe_int (fun _ _ => rfl)) (pa_cons (pe_ty T.n_int PyProof.Rows.boot_int) pa_nil))))) (pw_or1 (pt_not (pt_tru K (pe_fn U_law_is hr (pa_cons (pe_ix (ix_A K) (pv 2) pe_int (fun _ _ => rfl)) (pa_cons (pe_ix (ix_A K) (pv 3) pe_int (fun _ _ => rfl)) pa_nil))))))))   (pss_one (ps_ret pe_bl))   pss_nil))))  (pss_one (ps_ret pe_bl)))), ?_⟩
  walk_at "go"
  refine s_isi (b := true) (.lst ga) (by with_unfolding_all rfl) ?_
  walk_at "go"
  refine ifq rfl ?_
  walk_at "go"
  refine s_lenL (.inl (SqL.of ga)) ?_
  walk_at "go"
  refine s_lenL (.inl (SqL.of gb)) ?_
  walk_at "go"
  refine ifq (by rw [kd.1, kd2.1]; simp) ?_
  walk_at "go"
  refine s_iziM ?_
  walk_at "go"
  refine ⟨ta, tb, _, _, rfl, ga, gb, ?_⟩
  refine for_zM (xs := tv) (ys := tw) (by rw [kd.1, kd2.1]) (fun i σ H' => ∃ (o2 o3 : Option V), σ = [some (.ref ta), some (.ref tb), o2, o3] ∧ Same H H') ⟨_, _, rfl, Same.refl _⟩ (fun i σ H' ⟨_, _, _, sH⟩ => ⟨sH _ _ ga, sH _ _ gb⟩) ?_ ?_
  rotate_left
  · rintro σ H2 ⟨o2, o3, rfl, s2⟩
    walk_at "go"
    exact q H2 s2
  rintro i c d Tt σ H3 H4 hc hd ⟨o2, o3, rfl, s3⟩ s4 gTt
  have s04 := s3.trans s4
  have hm : i < t.kids.length := by rw [← kd.1]; exact (List.getElem?_eq_some_iff.mp hc).1
  obtain ⟨y, hy⟩ : ∃ y, t.kids[i]? = some y := ⟨_, List.getElem?_eq_getElem hm⟩
  obtain ⟨T1, b1, e1, nT1, gT1, tb1⟩ := kd.2 i y hy
  obtain ⟨T2, b2, e2, nT2, gT2, tb2⟩ := kd2.2 i y hy
  rw [hc] at e1
  cases e1
  rw [hd] at e2
  cases e2
  have hmem := List.mem_of_getElem? hy
  obtain ⟨n', rfl⟩ := ti.pos hmem
  have gT1' := s04 _ _ gT1
  have gT2' := s04 _ _ gT2
  refine s_gtup (SqT.of gTt) rfl ?_
  walk_at "go"
  refine s_isi (b := true) (.tup gT1') (by with_unfolding_all rfl) ?_
  walk_at "go"
  refine ifq rfl ?_
  walk_at "go"
  refine s_lenL (.inr (SqT.of gT1')) ?_
  walk_at "go"
  refine ifq rfl ?_
  walk_at "go"
  refine s_ixU (SqT.of gT1') (show atI _ (0 : Int) = some (.int (y.1 : Int)) from rfl) ?_
  walk_at "go"
  refine s_isi (b := false) (TyOf.int _) (by with_unfolding_all rfl) ?_
  walk_at "go"
  refine ifq rfl ?_
  walk_at "go"
  refine s_ixU (SqT.of gT1') (show atI _ (0 : Int) = some (.int (y.1 : Int)) from rfl) ?_
  walk_at "go"
  refine s_ixU (SqT.of gT2') (show atI _ (0 : Int) = some (.int (y.1 : Int)) from rfl) ?_
  walk_at "go"
  refine ifq (by simp) ?_
  walk_at "go"
  refine s_ixU (SqT.of gT1') (show atI _ (0 : Int) = some (.int (y.1 : Int)) from rfl) ?_
  walk_at "go"
  refine s_isi (b := true) (TyOf.int _) (by with_unfolding_all rfl) ?_
  walk_at "go"
  refine ifq rfl ?_
  walk_at "go"
  refine s_ixU (SqT.of gT1') (show atI _ (1 : Int) = some (.ref b1) from rfl) ?_
  walk_at "go"
  refine s_ixU (SqT.of gT2') (show atI _ (1 : Int) = some (.ref b2) from rfl) ?_
  walk_at "go"
  refine ⟨_, _, p, p2, y.2, rfl, ti.kid hmem s04 (tb1.same s04), ti2.kid hmem s04 (tb2.same s04), fun H5 s5 => ?_⟩
  walk_at "go"
  refine ifq rfl ?_
  walk_at "go"
  exact ⟨_, _, rfl, s04.trans s5⟩

theorem sc_law_spoil : FnScope ["tree", "number", "many", "kind", "within"] ["tree", "number"] (defScope d_law_spoil) := ⟨rfl, rfl, rfl, by decide +kernel, rfl, by decide +kernel, by decide +kernel⟩
theorem ok_law_spoil (n : Nat) (F : Fun K "_law_spoil" "_law_spoil" d_law_spoil f fd) (T : Txt K mg aK)  (U_law_spoil : FnU P w K mg base k "_law_spoil" ["tree", "number"] (recSp gSpoil n)) : FnOk P w K mg base CX0 (k + 1) f fd ["tree", "number"] (gSpoil n) := by
  refine F.ok sc_law_spoil (fun vs H Q E h => ?_) (fun cdv A outer s H vs Q E hr h => ?_)
  · obtain ⟨D, m, H0, B, us, t, rfl, _⟩ := h; rfl
  obtain ⟨D, m, H0, B, us, t, rfl, gD, lay, nd, hht, hsz, hm, q⟩ := h
  have hu := hr.units0
  have hul := lay.len.2
  have hkl := kids_len t
  refine ⟨_, (pss_cons (ps_set (i := 2) sc_law_spoil.nd rfl (Or.inl rfl) (pv 1))  (pss_cons (ps_for PassesOwn.never rfl (pi_listK K (pv 0)) (pg_tupK (n := 2) K rfl (pgs_cons (pg_name (i := 3) sc_law_spoil.nd rfl (Or.inl rfl)) (pgs_cons (pg_name (i := 4) sc_law_spoil.nd rfl (Or.inl rfl)) pgs_nil)))   (pss_one (ps_set (i := 2) sc_law_spoil.nd rfl (Or.inl rfl) (pe_fn U_law_spoil hr (pa_cons (pv 4) (pa_cons (pv 2) pa_nil))))))  (pss_cons (ps_expr (pe_bmK K PySem.F.plainAttrs_list PySem.F.slot_list_append PySem.F.type_list_append mt_append (pv 0) (pa_cons (pv 2) pa_nil)))  (pss_one (ps_ret (pe_op op_plus (pv 2) pe_int)))))), ?_⟩
  walk_at "go"
  refine ⟨D, rfl, ⟨_, SqL.of gD⟩, ?_⟩
  refine for_lst (xs := us) (fun i σ H' => ∃ (j : Nat) (o3 o4 : Option V), σ = [some (.ref D), some (.int (m : Int)), some (.int (j : Int)), o3, o4] ∧ Half H0 H H' D m B us t i j) ⟨m, _, _, rfl, half0 gD lay⟩ (fun i σ H' _ ⟨_, _, _, _, ta, tb, A1, A2, us1, us2, et, eA, eu, hi, hj, sp, la, g, bt⟩ => SqL.of g) ?_ ?_
  rotate_left
  · rintro σ H2 ⟨j, o3, o4, rfl, hf⟩
    obtain ⟨rfl, sp, g2, bt⟩ := hf.done
    walk_at "go"
    refine ⟨.inl ⟨rfl, _, SqL.of g2⟩, ?_⟩
    walk_at "go"
    refine ⟨D, _, _, rfl, rfl, g2, small1000 (by omega), ?_⟩
    obtain ⟨b1, b2⟩ := spoilt (x := .int ((m + t.sz : Nat) : Int)) nd lay sp g2 bt
    walk_at "go"
    exact q _ b1 upd_same b2
  rintro i x σ H2 hx ⟨j, o3, o4, rfl, hf⟩
  obtain ⟨T, b, k, As, ws, s, rfl, gT, gb, l1, nd1, h1, h2, hj, nx⟩ := hf.step nd hx
  obtain ⟨n', rfl⟩ : ∃ n', n = n' + 1 := ⟨n - 1, by omega⟩
  refine s_gtup (SqT.of gT) rfl ?_
  walk_at "go"
  refine ⟨b, j, H0, As, ws, s, rfl, gb, l1, nd1, by omega, by omega, by omega, fun H3 bt3 g3 sp3 => ?_⟩
  walk_at "go"
  exact ⟨j + s.sz + 1, _, _, rfl, nx H3 bt3 g3 sp3⟩

theorem sc_law_numbers : FnScope ["tree", "found", "one"] ["tree"] (defScope d_law_numbers) := ⟨rfl, rfl, rfl, by decide +kernel, rfl, by decide +kernel, by decide +kernel⟩
theorem ok_law_numbers (n : Nat) (F : Fun K "_law_numbers" "_law_numbers" d_law_numbers f fd) (T : Txt K mg aK)  (U_law_numbers : FnU P w K mg base k "_law_numbers" ["tree"] (recSp gNumb n)) : FnOk P w K mg base CX0 (k + 1) f fd ["tree"] (gNumb n) := by
  refine F.ok sc_law_numbers (fun vs H Q E h => ?_) (fun cdv A outer s H vs Q E hr h => ?_)
  · obtain ⟨D, m, B, us, t, rfl, _⟩ := h; rfl
  obtain ⟨D, m, B, us, t, rfl, gD, sp, hht, hsz, q⟩ := h
  have hu := hr.units0
  have hul := sp.len
  have hkl := kids_len t
  refine ⟨_, (pss_cons (ps_set (i := 1) sc_law_numbers.nd rfl (Or.inl rfl) (pe_lst pa_nil))  (pss_cons (ps_for PassesOwn.never rfl (pi_listK K (pe_slice (sl_A K) (pv 0) po_none (po_some (pe_un un_neg pe_int)))) (pg_name (i := 2) sc_law_numbers.nd rfl (Or.inl rfl))   (pss_one (ps_set (i := 1) sc_law_numbers.nd rfl (Or.inl rfl) (pe_op op_plus (pv 1) (pe_fn U_law_numbers hr (pa_cons (pe_ix (ix_A K) (pv 2) pe_int (fun _ _ => rfl)) pa_nil))))))  (pss_one (ps_ret (pe_op op_plus (pv 1) (pe_slice (sl_A K) (pv 0) (po_some (pe_un un_neg pe_int)) po_none)))))), ?_⟩
  walk_at "go"
  refine ⟨small (show 0 ≤ 1000 by decide), fun D1 hD1 => ?_⟩
  have t1 := same_new hD1 (.lst [])
  have g1 : (upd H D1 (.lst [])) D1 = some (.lst []) := upd_same
  generalize upd H D1 _ = H1 at *
  walk_at "go"
  refine s_slL (SqL.of (t1 _ _ gD)) (fun D2 hD2 => ?_)
  rw [cutV_i]
  have t2 := same_new hD2 (.lst us)
  have g2 : (upd H1 D2 (.lst us)) D2 = some (.lst us) := upd_same
  have g12 := t2 _ _ g1
  have s2 := t1.trans t2
  generalize upd H1 D2 _ = H2 at *
  refine ⟨D2, rfl, ⟨_, SqL.of g2⟩, ?_⟩
  refine for_lst (xs := us) (fun i σ H' => ∃ (D3 : Addr) (o2 : Option V), σ = [some (.ref D), some (.ref D3), o2] ∧ H' D3 = some (.lst (nums m (szt t i))) ∧ H D3 = none ∧ Same H2 H') ⟨D1, _, rfl, g12, hD1, Same.refl _⟩ (fun i σ H' _ ⟨_, _, _, _, _, sH⟩ => SqL.of (sH _ _ g2)) ?_ ?_
  rotate_left
  · rintro σ H3 ⟨D3, o2, rfl, g3, hD3, s3⟩
    rw [hul, szt_all] at g3
    have s03 := s2.trans s3
    walk_at "go"
    refine s_slL (SqL.of (s03 _ _ gD)) (fun D4 hD4 => ?_)
    rw [cutV_e, show [V.int ((m + t.sz : Nat) : Int)] = nums (m + t.sz) 1 from rfl]
    have t4 := same_new hD4 (.lst (nums (m + t.sz) 1))
    have g4 : (upd H3 D4 (.lst (nums (m + t.sz) 1))) D4 = some (.lst (nums (m + t.sz) 1)) := upd_same
    have s04 := s03.trans t4
    have g34 := t4 _ _ g3
    generalize upd H3 D4 _ = H4 at *
    walk_at "go"
    refine s_addL g34 g4 (by rw [nums_len, nums_len, sizeLine_eq]; omega) (fun D5 hD5 => ?_)
    exact q D5 _ (free_of s04 hD5) (s04.trans (same_new hD5 _)) (by rw [upd_same, nums_app])
  rintro i x σ H3 hx ⟨D3, o2, rfl, g3, hD3, s3⟩
  obtain ⟨T, b, k, As, ws, s, ta, tb, rfl, et, ei, gT, gb, sp1⟩ := sp.at hx
  have ez : t.sz = ta.sz + (1 + s.sz + tb.sz) := by rw [et, sz_app, Tr.sz]
  have eh : s.ht < t.ht := by rw [et, ht_app, Tr.ht]; omega
  obtain ⟨n', rfl⟩ : ∃ n', n = n' + 1 := ⟨n - 1, by omega⟩
  have s03 := s2.trans s3
  have e3 : szt t i = ta.sz := by rw [et, ← ei, szt_app]
  have e4 : szt t (i + 1) = ta.sz + (s.sz + 1) := by rw [et, ← ei, szt_step]
  rw [e3] at g3
  walk_at "go"
  refine s_ixU (SqT.of (s03 _ _ gT)) (show atI _ (1 : Int) = some (.ref b) from rfl) ?_
  walk_at "go"
  refine ⟨b, m + ta.sz, As, ws, s, rfl, s03 _ _ gb, sp1.frame (fun x _ o h => s03 _ _ h) (fun x ws h => s03 _ _ h), by omega, by omega, fun D4 H4 hD4 s4 g4 => ?_⟩
  walk_at "go"
  refine s_addL (s4 _ _ g3) g4 (by rw [nums_len, nums_len, sizeLine_eq]; omega) (fun D5 hD5 => ?_)
  have t5 := same_new hD5 (.lst (nums m ta.sz ++ nums (m + ta.sz) (s.sz + 1)))
  walk_at "go"
  refine ⟨D5, _, rfl, by rw [upd_same, nums_app, e4], free_of (s03.trans s4) hD5, (s3.trans s4).trans t5⟩

theorem sc_law : FnScope ["script", "turn", "pool", "k", "tree", "handed", "row", "kinds", "told", "found", "many", "other"] ["script"] (defScope d_law) := ⟨rfl, rfl, rfl, by decide +kernel, rfl, by decide +kernel, by decide +kernel⟩
theorem ok_law (F : Fun K "law" "law" d_law f fd) (T : Txt K mg aK) (U_law_pool : FnU P w K mg base k "_law_pool" ["script", "k"] (spPool K)) (U_law_tree : FnU P w K mg base k "_law_tree" ["pool", "k", "most"] (spMkB)) (U_law_copy : FnU P w K mg base k "_law_copy" ["tree"] (recSp gCopy 22)) (U_law_row : FnU P w K mg base k "_law_row" ["tree"] (recSp gWritten 22)) (U_law_right_row : FnU P w K mg base k "_law_right_row" ["pool", "k", "most"] (spRightRow)) (U_law_take : FnU P w K mg base k "_law_take" ["pool", "many"] (spTake)) (U_row_of_tree : FnU P w K mg base k "row_of_tree" ["k", "tree"] (spRowOf)) (U_tree_of : FnU P w K mg base k "tree_of" ["k", "row"] (spTreeOfL)) (U_law_spoil : FnU P w K mg base k "_law_spoil" ["tree", "number"] (recSp gSpoil 22)) (U_law_is : FnU P w K mg base k "_law_is" ["found", "due"] (recSp gIs 22)) (U_law_numbers : FnU P w K mg base k "_law_numbers" ["tree"] (recSp gNumb 22)) : FnOk P w K mg base CX0 (k + 1) f fd ["script"] (spLaw K) := by
  refine F.ok sc_law (fun vs H Q E h => ?_) (fun cdv A outer s H vs Q E hr h => ?_)
  · obtain ⟨a, ns, rfl, _⟩ := h; rfl
  obtain ⟨sa, ns, rfl, hS, h63, q⟩ := h
  have hu := hr.units0
  refine ⟨_, (pss_cons (ps_for PassesOwn.never rfl (pi_range1 rfl T.n_range (pa_cons (pe_callB (call_maxA rfl) rfl T.n_max PyProof.Rows.boot_max (pa_cons pe_int (pa_cons (pe_callB (call_minA rfl) rfl T.n_min PyProof.Rows.boot_min (pa_cons pe_int (pa_cons (pe_callB (call_lenA K) rfl T.n_len PySem.boot_len (pa_cons (pv 0) pa_nil)) pa_nil))) pa_nil))) pa_nil)) (pg_name (i := 1) sc_law.nd rfl (Or.inl rfl))   (pss_cons (ps_set (i := 2) sc_law.nd rfl (Or.inl rfl) (pe_fn U_law_pool hr (pa_cons (pv 0) (pa_cons (pv 1) pa_nil))))  (pss_cons (ps_set (i := 3) sc_law.nd rfl (Or.inl rfl) (pe_op op_plus pe_int (pe_fn U_law_take hr (pa_cons (pv 2) (pa_cons pe_int pa_nil)))))  (pss_cons (ps_set (i := 4) sc_law.nd rfl (Or.inl rfl) (pe_fn U_law_tree hr (pa_cons (pv 2) (pa_cons (pv 3) (pa_cons pe_int pa_nil)))))  (pss_cons (ps_set (i := 5) sc_law.nd rfl (Or.inl rfl) (pe_fn U_law_copy hr (pa_cons (pv 4) pa_nil)))  (pss_cons (ps_set (i := 6) sc_law.nd rfl (Or.inl rfl) (pe_fn U_law_row hr (pa_cons (pv 4) pa_nil)))  (pss_cons (ps_for PassesOwn.never rfl (pi_listK K (pe_lst (pa_cons (pv 3) (pa_cons pe_int (pa_cons (pv 3) pa_nil))))) (pg_name (i := 7) sc_law.nd rfl (Or.inl rfl))   (pss_cons (ps_set (i := 8) sc_law.nd rfl (Or.inl rfl) (pe_fn U_row_of_tree hr (pa_cons (pv 7) (pa_cons (pv 5) pa_nil))))  (pss_cons (ps_if (PW.pt (pw_or (pt_not (pt_tru K (pe_callB (call_isiA K) rfl T.n_isinstance PyProof.Rows.boot_isinstance (pa_cons (pv 8) (pa_cons (pe_ty T.n_str PyProof.Rows.boot_str) pa_nil))))) (pw_or (pt_cmpR (op_neA K hu) (pv 8) (pv 6) (nomark _)) (pw_or1 (pt_cmpR (op_neDat hr) (pv 5) (pv 4) (nomark _))))))   (pss_one (ps_ret pe_bl))   pss_nil)  (pss_cons (ps_set (i := 9) sc_law.nd rfl (Or.inl rfl) (pe_fn U_tree_of hr (pa_cons (pv 7) (pa_cons (pv 6) pa_nil))))  (pss_cons (ps_if (pt_not (pt_tru K (pe_fn U_law_is hr (pa_cons (pv 9) (pa_cons (pv 4) pa_nil)))))   (pss_one (ps_ret pe_bl))   pss_nil)  (pss_cons (ps_set (i := 10) sc_law.nd rfl (Or.inl rfl) (pe_fn U_law_spoil hr (pa_cons (pv 9) (pa_cons pe_int pa_nil))))  (pss_one (ps_if (PW.pt (pw_or (pt_cmpR (op_neA K hu) (pv 10) (pe_op op_plus (pe_op op_fdiv (pe_callB (call_lenA K) rfl T.n_len PySem.boot_len (pa_cons (pv 6) pa_nil)) pe_int) pe_int) (nomark _)) (pw_or1 (pt_cmpR (op_neA K hu) (pe_fn U_law_numbers hr (pa_cons (pv 9) pa_nil)) (pe_listRng T.n_list T.n_range rfl (pv 10)) (nomark _)))))   (pss_one (ps_ret pe_bl))   pss_nil))))))))  (pss_cons (ps_set (i := 11) sc_law.nd rfl (Or.inl rfl) (pe_fn U_law_right_row hr (pa_cons (pv 2) (pa_cons (pv 3) (pa_cons pe_int pa_nil)))))  (pss_one (ps_if (PW.pt (pw_or (pt_cmpR (op_neA K hu) (pe_fn U_law_row hr (pa_cons (pe_fn U_tree_of hr (pa_cons (pv 3) (pa_cons (pv 11) pa_nil))) pa_nil)) (pv 11) (nomark _)) (pw_or1 (pt_cmpR (op_neA K hu) (pe_fn U_row_of_tree hr (pa_cons pe_int (pa_cons (pe_fn U_tree_of hr (pa_cons pe_int (pa_cons (pv 11) pa_nil))) pa_nil))) (pv 11) (nomark _)))))   (pss_one (ps_ret pe_bl))   pss_nil))))))))))  (pss_one (ps_ret (pe_and (pe_cmpR (op_eqDat hr) (pe_fn U_tree_of hr (pa_cons pe_int (pa_cons (pe_tx (l := []) (by decide +kernel)) pa_nil))) (pe_lst pa_nil) (nomark _)) (pe_and (pe_cmpR (op_eqA K hu) (pe_fn U_row_of_tree hr (pa_cons pe_int (pa_cons (pe_lst pa_nil) pa_nil))) (pe_tx (l := []) (by decide +kernel)) (nomark _)) (pe_one (pe_cmpR (op_eqDat hr) (pe_fn U_tree_of hr (pa_cons pe_int (pa_cons (pe_tx (l := [40, 91, 93, 41, 60, 62]) (by decide +kernel)) pa_nil))) (pe_lst (pa_cons (pe_tup (pa_cons pe_int (pa_cons (pe_lst (pa_cons (pe_tup (pa_cons pe_int (pa_cons (pe_lst pa_nil) pa_nil))) pa_nil)) pa_nil))) (pa_cons (pe_tup (pa_cons pe_int (pa_cons (pe_lst pa_nil) pa_nil))) pa_nil))) (nomark _)))))))), ?_⟩
  walk_at "go"
  refine s_lenL (.inl hS) ?_
  walk_at "go"
  refine ⟨_, rfl, by split <;> omega, by rw [List.length_map]; split <;> (try split) <;> omega, ?_⟩
  refine for_rng (fun i σ H' => ∃ (o1 o2 o3 o4 o5 o6 o7 o8 o9 o10 o11 : Option V), σ = [some (.ref sa), o1, o2, o3, o4, o5, o6, o7, o8, o9, o10, o11] ∧ Same H H') ⟨_, _, _, _, _, _, _, _, _, _, _, rfl, Same.refl H⟩ ?_ ?_
  rotate_left
  · rintro σ H1 ⟨o1, o2, o3, o4, o5, o6, o7, o8, o9, o10, o11, rfl, s1⟩
    walk_at "go"
    refine ⟨1, .nil, rfl, by omega, by omega, by decide, by decide, fun D3 B us H2 hD3 s2 gD3 lay nd => ?_⟩
    walk_at "go"
    refine ⟨small (show 0 ≤ 1000 by decide), fun D4 hD4 => ?_⟩
    have t3 := same_new hD4 (.lst [])
    have g3 : (upd H2 D4 (.lst [])) D4 = some (.lst []) := upd_same
    have n3 : D4 ≠ D3 := fun z => by rw [z, gD3] at hD4; cases hD4
    have w3 := (lay.tr0 gD3 hD4).same t3
    have w3' : TrH D3 (upd H2 D4 (.lst [])) (.ref D4) .nil := Kd.close g3 n3 (kd_nil _ _)
    have g33 := t3 _ _ gD3
    generalize upd H2 D4 _ = H3 at *
    refine s_eqTr2 w3 w3' (by decide) ?_
    walk_at "go"
    refine ifp rfl ?_
    walk_at "go"
    refine ⟨small (show 0 ≤ 1000 by decide), fun D5 hD5 => ?_⟩
    have t4 := same_new hD5 (.lst [])
    have g4 : (upd H3 D5 (.lst [])) D5 = some (.lst []) := upd_same
    have n4 : D5 ≠ D3 := fun z => by rw [z, g33] at hD5; cases hD5
    have w4 : TrH D3 (upd H3 D5 (.lst [])) (.ref D5) .nil := Kd.close g4 n4 (kd_nil _ _)
    have g34 := t4 _ _ g33
    generalize upd H3 D5 _ = H4 at *
    walk_at "go"
    refine ⟨1, .ref D5, D3, .nil, rfl, by omega, by omega, ⟨_, g34⟩, w4, by decide, by decide, fun H5 s5 => ?_⟩
    walk_at "go"
    first | refine s_eqT ?_ | skip
    walk_at "go"
    refine ifp rfl ?_
    walk_at "go"
    refine ⟨4, .cons 0 (.cons 1 .nil .nil) (.cons 3 .nil .nil), rfl, by omega, by omega, by decide, by decide, fun D6 B6 us6 H6 hD6 s6 gD6 lay6 nd6 => ?_⟩
    have g36 := s6 _ _ (s5 _ _ g34)
    have w6 := lay6.tr gD6 hD6 ⟨_, s5 _ _ g34⟩
    clear lay6 lay w4 w3 w3'
    walk_at "go"
    refine ⟨small (show 0 ≤ 1000 by decide), fun E1 hE1 => ?_⟩
    have t7 := same_new hE1 (.lst [])
    have v7 : TrH D3 (upd H6 E1 (.lst [])) (.ref E1) .nil := Kd.close upd_same (fun z => by rw [z, g36] at hE1; cases hE1) (kd_nil _ _)
    have g37 := t7 _ _ g36
    have w7 := w6.same t7
    generalize upd H6 E1 _ = H7 at *
    walk_at "go"
    refine ⟨small (show 2 ≤ 1000 by decide), fun T1 hT1 => ?_⟩
    have t8 := same_new hT1 (.tup [.int 1, .ref E1])
    have k8 : Kd D3 (upd H7 T1 (.tup [.int 1, .ref E1])) [.ref T1] (Tr.cons 1 .nil .nil).kids := Kd.more (k := 1) (kd_nil _ _) (fun z => by rw [z, g37] at hT1; cases hT1) upd_same (v7.same t8)
    have g38 := t8 _ _ g37
    have w8 := w7.same t8
    generalize upd H7 T1 _ = H8 at *
    walk_at "go"
    refine ⟨small (show 1 ≤ 1000 by decide), fun E2 hE2 => ?_⟩
    have t9 := same_new hE2 (.lst [.ref T1])
    have v9 : TrH D3 (upd H8 E2 (.lst [.ref T1])) (.ref E2) (Tr.cons 1 .nil .nil) := Kd.close upd_same (fun z => by rw [z, g38] at hE2; cases hE2) (k8.same t9)
    have g39 := t9 _ _ g38
    have w9 := w8.same t9
    generalize upd H8 E2 _ = H9 at *
    walk_at "go"
    refine ⟨small (show 2 ≤ 1000 by decide), fun T2 hT2 => ?_⟩
    have t10 := same_new hT2 (.tup [.int 0, .ref E2])
    have k10 : Kd D3 (upd H9 T2 (.tup [.int 0, .ref E2])) [.ref T2] (Tr.cons 0 (Tr.cons 1 .nil .nil) .nil).kids := Kd.more (k := 0) (kd_nil _ _) (fun z => by rw [z, g39] at hT2; cases hT2) upd_same (v9.same t10)
    have g310 := t10 _ _ g39
    have w10 := w9.same t10
    generalize upd H9 T2 _ = H10 at *
    walk_at "go"
    refine ⟨small (show 0 ≤ 1000 by decide), fun E3 hE3 => ?_⟩
    have t11 := same_new hE3 (.lst [])
    have v11 : TrH D3 (upd H10 E3 (.lst [])) (.ref E3) .nil := Kd.close upd_same (fun z => by rw [z, g310] at hE3; cases hE3) (kd_nil _ _)
    have g311 := t11 _ _ g310
    have w11 := w10.same t11
    have k11 := k10.same t11
    generalize upd H10 E3 _ = H11 at *
    walk_at "go"
    refine ⟨small (show 2 ≤ 1000 by decide), fun T3 hT3 => ?_⟩
    have t12 := same_new hT3 (.tup [.int 3, .ref E3])
    have k12 : Kd D3 (upd H11 T3 (.tup [.int 3, .ref E3])) [.ref T2, .ref T3] (Tr.cons 0 (Tr.cons 1 .nil .nil) (Tr.cons 3 .nil .nil)).kids := Kd.more (k := 3) (k11.same t12) (fun z => by rw [z, g311] at hT3; cases hT3) upd_same (v11.same t12)
    have g312 := t12 _ _ g311
    have w12 := w11.same t12
    generalize upd H11 T3 _ = H12 at *
    walk_at "go"
    refine ⟨small (show 2 ≤ 1000 by decide), fun E4 hE4 => ?_⟩
    have t13 := same_new hE4 (.lst [.ref T2, .ref T3])
    have v13 : TrH D3 (upd H12 E4 (.lst [.ref T2, .ref T3])) (.ref E4) (Tr.cons 0 (Tr.cons 1 .nil .nil) (Tr.cons 3 .nil .nil)) := Kd.close upd_same (fun z => by rw [z, g312] at hE4; cases hE4) (k12.same t13)
    have w13 := w12.same t13
    generalize upd H12 E4 _ = H13 at *
    refine s_eqTr2 w13 v13 (by decide) ?_
    exact q H13
  rintro i σ H1 hi ⟨o1, o2, o3, o4, o5, o6, o7, o8, o9, o10, o11, rfl, s1⟩
  have hi10 : i < 10 := by
    rw [List.length_map] at hi
    revert hi; split <;> (try split) <;> omega
  have ei : (0 : Int) + (i : Int) = (i : Int) := by omega
  rw [ei]
  walk_at "go"
  refine ⟨sa, ns, _, rfl, s1.seq hS, h63, by omega, by omega, fun p H2 hp2 s2 hpo => ?_⟩
  have hHp : H p = none := s1.free hp2
  have s12 := s1.trans s2
  walk_at "go"
  refine take_use hpo (by omega) (by omega) (by omega) (fun k0 H3 k00 k01 hpo3 s3 => ?_)
  have s13 : Same H H3 := Same.but s12 s3 hHp
  have k1 : 1 ≤ 1 + k0 := by omega
  have k4 : 1 + k0 ≤ 4 := by omega
  walk_at "go"
  refine ⟨p, _, _, rfl, hpo3, by omega, k1, k4, fun D1 t H4 z1 g1 hD1 hpo4 s4 T1 => ?_⟩
  have s14 : Same H H4 := Same.but s13 s4 hHp
  have pa : ∀ {G : Hp} {m : Nat}, PoolAt G p m → ∃ o, G p = some o := fun ⟨a, b, c, e, _⟩ => ⟨_, e⟩
  have hp4 := pa hpo4
  have ex : ∀ {G : Hp}, Same H4 G → ∃ o, G p = some o := fun sG => let ⟨o, ho⟩ := hp4; ⟨o, sG _ _ ho⟩
  have u1 := T1 p (pa hpo3)
  have hh := ht_sz t
  have h21 : Tr.ht t ≤ 21 := by omega
  walk_at "go"
  refine ⟨.ref D1, p, t, rfl, ⟨hp4, u1, z1, h21⟩, fun D2 H5 hD2 s5 T2 => ?_⟩
  have u2 := T2 p hp4
  walk_at "go"
  refine ⟨.ref D1, p, t, rfl, ⟨ex s5, u1.same s5, z1, h21⟩, by omega, fun H6 s6 => ?_⟩
  walk_at "go"
  refine ⟨small (show 3 ≤ 1000 by decide), fun zl hzl => ?_⟩
  have t7 := same_new hzl (.lst [.int (1 + k0), .int 4, .int (1 + k0)])
  have g7 : (upd H6 zl (.lst [.int (1 + k0), .int 4, .int (1 + k0)])) zl = some (.lst [.int (1 + k0), .int 4, .int (1 + k0)]) := upd_same
  have s57 := s6.trans t7
  have s47 := s5.trans s57
  generalize upd H6 zl _ = H7 at *
  refine ⟨zl, rfl, ⟨_, SqL.of g7⟩, ?_⟩
  have hbl := bs_len t
  refine for_lst (xs := [.int (1 + k0), .int 4, .int (1 + k0)]) (fun j σ H' => ∃ (o7 o8 o9 o10 : Option V), σ = [some (.ref sa), some (.int (i : Int)), some (.ref p), some (.int (1 + k0)), some (.ref D1), some (.ref D2), some (tx (brt t.bs)), o7, o8, o9, o10, o11] ∧ Same H7 H') ⟨_, _, _, _, rfl, Same.refl _⟩ (fun j σ H' _ ⟨_, _, _, _, _, sH⟩ => SqL.of (sH _ _ g7)) ?_ ?_
  · rintro j x σ H8 hx ⟨o7', o8', o9', o10', rfl, s8⟩
    obtain ⟨kk, rfl, kk1, kk4, hgk⟩ : ∃ kk : Int, x = .int kk ∧ 1 ≤ kk ∧ kk ≤ 4 ∧ t.gr < kk.toNat := by
      match j, hx with
      | 0, hx => cases hx; exact ⟨_, rfl, k1, k4, g1⟩
      | 1, hx => cases hx; exact ⟨_, rfl, by omega, by omega, by omega⟩
      | 2, hx => cases hx; exact ⟨_, rfl, k1, k4, g1⟩
      | n + 3, hx => simp at hx
    have s48 := s47.trans s8
    walk_at "go"
    refine ⟨kk, .ref D2, p, t, rfl, kk1, kk4, ex s48, u2.same (s57.trans s8), z1, hgk, fun H9 s9 => ?_⟩
    have s49 := s48.trans s9
    have s59 := (s57.trans s8).trans s9
    walk_at "go"
    refine s_isi (b := true) (TyOf.str _) (by with_unfolding_all rfl) ?_
    walk_at "go"
    refine ifq rfl ?_
    walk_at "go"
    first | refine s_neT ?_ | skip
    walk_at "go"
    refine ifq (by simp) ?_
    walk_at "go"
    refine s_neDat (p := p) (q := p) (u2.same s59) (u1.same s49) (tr_dat (by omega)) ?_
    walk_at "go"
    refine ifq rfl ?_
    walk_at "go"
    refine ⟨kk, t, rfl, kk1, kk4, hgk, z1, fun D3 B us H10 hD3 s10 gD3 lay nd => ?_⟩
    have s410 := s49.trans s10
    walk_at "go"
    refine ⟨.ref D3, .ref D1, p, p, t, rfl, ⟨ex s410, lay.tr gD3 hD3 (ex s49), z1, h21⟩, ⟨ex s410, u1.same s410, z1, h21⟩, fun H11 s11 => ?_⟩
    walk_at "go"
    refine ifq rfl ?_
    walk_at "go"
    have lay11 := lay.same s11
    refine ⟨D3, 0, _, B, us, t, rfl, s11 _ _ gD3, lay11, nd, h21, z1, by omega, fun H12 bt gD12 sp => ?_⟩
    have s912 := lay11.old hD3 (s10.trans s11) bt
    walk_at "go"
    refine s_lenT (small (by rw [brt_len]; omega)) ?_
    rw [brt_len, hbl]
    walk_at "go"
    refine ifq (by simp) ?_
    walk_at "go"
    refine ⟨D3, 0, B, us, t, rfl, gD12, sp, h21, z1, fun D4 H13 hD4 s13 g13 => ?_⟩
    walk_at "go"
    refine s_LR ?_
    walk_at "go"
    refine ⟨by omega, by omega, fun D5 hD5 => ?_⟩
    have ej : (((0 + t.sz : Nat) : Int) + 1).toNat = t.sz + 1 := by omega
    rw [ej, ← nums_0]
    have t14 := same_new hD5 (.lst (nums 0 (t.sz + 1)))
    have g14 : (upd H13 D5 (.lst (nums 0 (t.sz + 1)))) D5 = some (.lst (nums 0 (t.sz + 1))) := upd_same
    have g13' := t14 _ _ g13
    generalize upd H13 D5 _ = H14 at *
    walk_at "go"
    refine s_neL (SqL.of g13') (SqL.of g14) (nums_all _ _) (nums_all _ _) ?_
    rw [eqVs_refl (nums_all _ _)]
    walk_at "go"
    refine ifq rfl ?_
    walk_at "go"
    exact ⟨_, _, _, _, rfl, (s8.trans s9).trans ((s912.trans s13).trans t14)⟩
  rintro σ H8 ⟨o7', o8', o9', o10', rfl, s78⟩
  have s48 := s47.trans s78
  walk_at "go"
  refine right_use (hpo4.same s48) (by omega) k1 k4 (by omega) (by omega) (fun row H9 hrt hlen hkin hpo9 s9 => ?_)
  have sH9 : Same H H9 := Same.but (s14.trans s48) s9 hHp
  obtain ⟨t2, rfl, g2⟩ := rt_tree k1 k4 _ row (Nat.le_refl _) hrt hkin
  have hz2 : t2.sz ≤ 20 := by rw [brt_len, bs_len] at hlen; omega
  have hh2 := ht_sz t2
  have h212 : Tr.ht t2 ≤ 21 := by omega
  have hp9 := pa hpo9
  have ex9 : ∀ {G : Hp}, Same H9 G → ∃ o, G p = some o := fun sG => let ⟨o, ho⟩ := hp9; ⟨o, sG _ _ ho⟩
  walk_at "go"
  refine ⟨_, t2, rfl, k1, k4, g2, hz2, fun D3 B us H10 hD3 s10 gD3 lay nd => ?_⟩
  walk_at "go"
  refine ⟨.ref D3, p, t2, rfl, ⟨ex9 s10, lay.tr gD3 hD3 hp9, hz2, h212⟩, by omega, fun H11 s11 => ?_⟩
  have s911 := s10.trans s11
  walk_at "go"
  first | refine s_neT ?_ | skip
  walk_at "go"
  refine ifq (by simp) ?_
  walk_at "go"
  refine ⟨4, t2, rfl, by omega, by omega, by omega, hz2, fun D4 B2 us2 H12 hD4 s12' gD4 lay4 nd4 => ?_⟩
  walk_at "go"
  refine ⟨4, .ref D4, p, t2, rfl, by omega, by omega, ex9 (s911.trans s12'), lay4.tr gD4 hD4 (ex9 s911), hz2, by omega, fun H13 s13' => ?_⟩
  walk_at "go"
  first | refine s_neT ?_ | skip
  walk_at "go"
  refine ifq (by simp) ?_
  walk_at "go"
  exact ⟨_, _, _, _, _, _, _, _, _, _, _, rfl, ((sH9.trans s911).trans s12').trans s13'⟩

end
theorem all_mk {l : PySem.W.OpenLaw} {w : World} {K : PySem.W.Frag} {h : Heap} {mg : Str → Option Value} {fa : Addr} (X : K.In h) (G : h.Ns mainGlobals mg) (hfa : mg "law" = some (.ref fa)) {f0 : Addr} {od0 an0 : Option Addr} {sl0 : Array (Option Value)} {oc0 kV0 dc0 pm0 cd0 ct0 : Value} {f1 : Addr} {od1 an1 : Option Addr} {sl1 : Array (Option Value)} {oc1 kV1 dc1 pm1 cd1 ct1 : Value} {f2 : Addr} {od2 an2 : Option Addr} {sl2 : Array (Option Value)} {oc2 kV2 dc2 pm2 cd2 ct2 : Value} {f3 : Addr} {od3 an3 : Option Addr} {sl3 : Array (Option Value)} {oc3 kV3 dc3 pm3 cd3 ct3 : Value} {f4 : Addr} {od4 an4 : Option Addr} {sl4 : Array (Option Value)} {oc4 kV4 dc4 pm4 cd4 ct4 : Value} {f5 : Addr} {od5 an5 : Option Addr} {sl5 : Array (Option Value)} {oc5 kV5 dc5 pm5 cd5 ct5 : Value} {f6 : Addr} {od6 an6 : Option Addr} {sl6 : Array (Option Value)} {oc6 kV6 dc6 pm6 cd6 ct6 : Value} {f7 : Addr} {od7 an7 : Option Addr} {sl7 : Array (Option Value)} {oc7 kV7 dc7 pm7 cd7 ct7 : Value} {f8 : Addr} {od8 an8 : Option Addr} {sl8 : Array (Option Value)} {oc8 kV8 dc8 pm8 cd8 ct8 : Value} {f9 : Addr} {od9 an9 : Option Addr} {sl9 : Array (Option Value)} {oc9 kV9 dc9 pm9 cd9 ct9 : Value} {f10 : Addr} {od10 an10 : Option Addr} {sl10 : Array (Option Value)} {oc10 kV10 dc10 pm10 cd10 ct10 : Value} {f11 : Addr} {od11 an11 : Option Addr} {sl11 : Array (Option Value)} {oc11 kV11 dc11 pm11 cd11 ct11 : Value} {f12 : Addr} {od12 an12 : Option Addr} {sl12 : Array (Option Value)} {oc12 kV12 dc12 pm12 cd12 ct12 : Value} {f13 : Addr} {od13 an13 : Option Addr} {sl13 : Array (Option Value)} {oc13 kV13 dc13 pm13 cd13 ct13 : Value} {f14 : Addr} {od14 an14 : Option Addr} {sl14 : Array (Option Value)} {oc14 kV14 dc14 pm14 cd14 ct14 : Value} {f15 : Addr} {od15 an15 : Option Addr} {sl15 : Array (Option Value)} {oc15 kV15 dc15 pm15 cd15 ct15 : Value} {f16 : Addr} {od16 an16 : Option Addr} {sl16 : Array (Option Value)} {oc16 kV16 dc16 pm16 cd16 ct16 : Value} {f17 : Addr} {od17 an17 : Option Addr} {sl17 : Array (Option Value)} {oc17 kV17 dc17 pm17 cd17 ct17 : Value} {f18 : Addr} {od18 an18 : Option Addr} {sl18 : Array (Option Value)} {oc18 kV18 dc18 pm18 cd18 ct18 : Value} {f19 : Addr} {od19 an19 : Option Addr} {sl19 : Array (Option Value)} {oc19 kV19 dc19 pm19 cd19 ct19 : Value} {f20 : Addr} {od20 an20 : Option Addr} {sl20 : Array (Option Value)} {oc20 kV20 dc20 pm20 cd20 ct20 : Value} {f21 : Addr} {od21 an21 : Option Addr} {sl21 : Array (Option Value)} {oc21 kV21 dc21 pm21 cd21 ct21 : Value} {x_OPENING : Str} {t_OPENING : Tok} {x_CLOSING : Str} {t_CLOSING : Tok} {aK : Addr} {oK : Obj} {itK : Array Value} {nK : Nat} {x_UNKNOWN : Str} {t_UNKNOWN : Tok} {x_MOST_SIGNS : Int} {t_MOST_SIGNS : Tok} {x_MOST_TUPLES : Int} {t_MOST_TUPLES : Tok}
    (a0 : PySem.W.nsIn K mainGlobals "is_whole" = some (some (.ref f0))) (l0 : K.lookup f0 = some ⟨oc0, od0, .func (PySem.W.fnOf "is_whole" "is_whole" (defArgs d_is_whole) (defBody d_is_whole) (defScope d_is_whole) .none kV0 dc0 pm0 an0 cd0 ct0), sl0⟩) (c0 : PySem.W.codeIn K cd0 "is_whole" = true) (k0 : PySem.W.keepIn K (.ref f0) = true)
    (a1 : PySem.W.nsIn K mainGlobals "check_kinds" = some (some (.ref f1))) (l1 : K.lookup f1 = some ⟨oc1, od1, .func (PySem.W.fnOf "check_kinds" "check_kinds" (defArgs d_check_kinds) (defBody d_check_kinds) (defScope d_check_kinds) .none kV1 dc1 pm1 an1 cd1 ct1), sl1⟩) (c1 : PySem.W.codeIn K cd1 "check_kinds" = true) (k1 : PySem.W.keepIn K (.ref f1) = true)
    (a2 : PySem.W.nsIn K mainGlobals "is_line" = some (some (.ref f2))) (l2 : K.lookup f2 = some ⟨oc2, od2, .func (PySem.W.fnOf "is_line" "is_line" (defArgs d_is_line) (defBody d_is_line) (defScope d_is_line) .none kV2 dc2 pm2 an2 cd2 ct2), sl2⟩) (c2 : PySem.W.codeIn K cd2 "is_line" = true) (k2 : PySem.W.keepIn K (.ref f2) = true)
    (a3 : PySem.W.nsIn K mainGlobals "check_line" = some (some (.ref f3))) (l3 : K.lookup f3 = some ⟨oc3, od3, .func (PySem.W.fnOf "check_line" "check_line" (defArgs d_check_line) (defBody d_check_line) (defScope d_check_line) .none kV3 dc3 pm3 an3 cd3 ct3), sl3⟩) (c3 : PySem.W.codeIn K cd3 "check_line" = true) (k3 : PySem.W.keepIn K (.ref f3) = true)
    (a4 : PySem.W.nsIn K mainGlobals "matched" = some (some (.ref f4))) (l4 : K.lookup f4 = some ⟨oc4, od4, .func (PySem.W.fnOf "matched" "matched" (defArgs d_matched) (defBody d_matched) (defScope d_matched) .none kV4 dc4 pm4 an4 cd4 ct4), sl4⟩) (c4 : PySem.W.codeIn K cd4 "matched" = true) (k4 : PySem.W.keepIn K (.ref f4) = true)
    (a5 : PySem.W.nsIn K mainGlobals "partners" = some (some (.ref f5))) (l5 : K.lookup f5 = some ⟨oc5, od5, .func (PySem.W.fnOf "partners" "partners" (defArgs d_partners) (defBody d_partners) (defScope d_partners) .none kV5 dc5 pm5 an5 cd5 ct5), sl5⟩) (c5 : PySem.W.codeIn K cd5 "partners" = true) (k5 : PySem.W.keepIn K (.ref f5) = true)
    (a6 : PySem.W.nsIn K mainGlobals "is_branch" = some (some (.ref f6))) (l6 : K.lookup f6 = some ⟨oc6, od6, .func (PySem.W.fnOf "is_branch" "is_branch" (defArgs d_is_branch) (defBody d_is_branch) (defScope d_is_branch) .none kV6 dc6 pm6 an6 cd6 ct6), sl6⟩) (c6 : PySem.W.codeIn K cd6 "is_branch" = true) (k6 : PySem.W.keepIn K (.ref f6) = true)
    (a7 : PySem.W.nsIn K mainGlobals "is_tree" = some (some (.ref f7))) (l7 : K.lookup f7 = some ⟨oc7, od7, .func (PySem.W.fnOf "is_tree" "is_tree" (defArgs d_is_tree) (defBody d_is_tree) (defScope d_is_tree) .none kV7 dc7 pm7 an7 cd7 ct7), sl7⟩) (c7 : PySem.W.codeIn K cd7 "is_tree" = true) (k7 : PySem.W.keepIn K (.ref f7) = true)
    (a8 : PySem.W.nsIn K mainGlobals "tree_between" = some (some (.ref f8))) (l8 : K.lookup f8 = some ⟨oc8, od8, .func (PySem.W.fnOf "tree_between" "tree_between" (defArgs d_tree_between) (defBody d_tree_between) (defScope d_tree_between) .none kV8 dc8 pm8 an8 cd8 ct8), sl8⟩) (c8 : PySem.W.codeIn K cd8 "tree_between" = true) (k8 : PySem.W.keepIn K (.ref f8) = true)
    (a9 : PySem.W.nsIn K mainGlobals "tree_of" = some (some (.ref f9))) (l9 : K.lookup f9 = some ⟨oc9, od9, .func (PySem.W.fnOf "tree_of" "tree_of" (defArgs d_tree_of) (defBody d_tree_of) (defScope d_tree_of) .none kV9 dc9 pm9 an9 cd9 ct9), sl9⟩) (c9 : PySem.W.codeIn K cd9 "tree_of" = true) (k9 : PySem.W.keepIn K (.ref f9) = true)
    (a10 : PySem.W.nsIn K mainGlobals "written" = some (some (.ref f10))) (l10 : K.lookup f10 = some ⟨oc10, od10, .func (PySem.W.fnOf "written" "written" (defArgs d_written) (defBody d_written) (defScope d_written) .none kV10 dc10 pm10 an10 cd10 ct10), sl10⟩) (c10 : PySem.W.codeIn K cd10 "written" = true) (k10 : PySem.W.keepIn K (.ref f10) = true)
    (a11 : PySem.W.nsIn K mainGlobals "row_of_tree" = some (some (.ref f11))) (l11 : K.lookup f11 = some ⟨oc11, od11, .func (PySem.W.fnOf "row_of_tree" "row_of_tree" (defArgs d_row_of_tree) (defBody d_row_of_tree) (defScope d_row_of_tree) .none kV11 dc11 pm11 an11 cd11 ct11), sl11⟩) (c11 : PySem.W.codeIn K cd11 "row_of_tree" = true) (k11 : PySem.W.keepIn K (.ref f11) = true)
    (a12 : PySem.W.nsIn K mainGlobals "_law_pool" = some (some (.ref f12))) (l12 : K.lookup f12 = some ⟨oc12, od12, .func (PySem.W.fnOf "_law_pool" "_law_pool" (defArgs d_law_pool) (defBody d_law_pool) (defScope d_law_pool) .none kV12 dc12 pm12 an12 cd12 ct12), sl12⟩) (c12 : PySem.W.codeIn K cd12 "_law_pool" = true) (k12 : PySem.W.keepIn K (.ref f12) = true)
    (a13 : PySem.W.nsIn K mainGlobals "_law_take" = some (some (.ref f13))) (l13 : K.lookup f13 = some ⟨oc13, od13, .func (PySem.W.fnOf "_law_take" "_law_take" (defArgs d_law_take) (defBody d_law_take) (defScope d_law_take) .none kV13 dc13 pm13 an13 cd13 ct13), sl13⟩) (c13 : PySem.W.codeIn K cd13 "_law_take" = true) (k13 : PySem.W.keepIn K (.ref f13) = true)
    (a14 : PySem.W.nsIn K mainGlobals "_law_right_row" = some (some (.ref f14))) (l14 : K.lookup f14 = some ⟨oc14, od14, .func (PySem.W.fnOf "_law_right_row" "_law_right_row" (defArgs d_law_right_row) (defBody d_law_right_row) (defScope d_law_right_row) .none kV14 dc14 pm14 an14 cd14 ct14), sl14⟩) (c14 : PySem.W.codeIn K cd14 "_law_right_row" = true) (k14 : PySem.W.keepIn K (.ref f14) = true)
    (a15 : PySem.W.nsIn K mainGlobals "_law_tree" = some (some (.ref f15))) (l15 : K.lookup f15 = some ⟨oc15, od15, .func (PySem.W.fnOf "_law_tree" "_law_tree" (defArgs d_law_tree) (defBody d_law_tree) (defScope d_law_tree) .none kV15 dc15 pm15 an15 cd15 ct15), sl15⟩) (c15 : PySem.W.codeIn K cd15 "_law_tree" = true) (k15 : PySem.W.keepIn K (.ref f15) = true)
    (a16 : PySem.W.nsIn K mainGlobals "_law_copy" = some (some (.ref f16))) (l16 : K.lookup f16 = some ⟨oc16, od16, .func (PySem.W.fnOf "_law_copy" "_law_copy" (defArgs d_law_copy) (defBody d_law_copy) (defScope d_law_copy) .none kV16 dc16 pm16 an16 cd16 ct16), sl16⟩) (c16 : PySem.W.codeIn K cd16 "_law_copy" = true) (k16 : PySem.W.keepIn K (.ref f16) = true)
    (a17 : PySem.W.nsIn K mainGlobals "_law_row" = some (some (.ref f17))) (l17 : K.lookup f17 = some ⟨oc17, od17, .func (PySem.W.fnOf "_law_row" "_law_row" (defArgs d_law_row) (defBody d_law_row) (defScope d_law_row) .none kV17 dc17 pm17 an17 cd17 ct17), sl17⟩) (c17 : PySem.W.codeIn K cd17 "_law_row" = true) (k17 : PySem.W.keepIn K (.ref f17) = true)
    (a18 : PySem.W.nsIn K mainGlobals "_law_is" = some (some (.ref f18))) (l18 : K.lookup f18 = some ⟨oc18, od18, .func (PySem.W.fnOf "_law_is" "_law_is" (defArgs d_law_is) (defBody d_law_is) (defScope d_law_is) .none kV18 dc18 pm18 an18 cd18 ct18), sl18⟩) (c18 : PySem.W.codeIn K cd18 "_law_is" = true) (k18 : PySem.W.keepIn K (.ref f18) = true)
    (a19 : PySem.W.nsIn K mainGlobals "_law_spoil" = some (some (.ref f19))) (l19 : K.lookup f19 = some ⟨oc19, od19, .func (PySem.W.fnOf "_law_spoil" "_law_spoil" (defArgs d_law_spoil) (defBody d_law_spoil) (defScope d_law_spoil) .none kV19 dc19 pm19 an19 cd19 ct19), sl19⟩) (c19 : PySem.W.codeIn K cd19 "_law_spoil" = true) (k19 : PySem.W.keepIn K (.ref f19) = true)
    (a20 : PySem.W.nsIn K mainGlobals "_law_numbers" = some (some (.ref f20))) (l20 : K.lookup f20 = some ⟨oc20, od20, .func (PySem.W.fnOf "_law_numbers" "_law_numbers" (defArgs d_law_numbers) (defBody d_law_numbers) (defScope d_law_numbers) .none kV20 dc20 pm20 an20 cd20 ct20), sl20⟩) (c20 : PySem.W.codeIn K cd20 "_law_numbers" = true) (k20 : PySem.W.keepIn K (.ref f20) = true)
    (a21 : PySem.W.nsIn K mainGlobals "law" = some (some (.ref f21))) (l21 : K.lookup f21 = some ⟨oc21, od21, .func (PySem.W.fnOf "law" "law" (defArgs d_law) (defBody d_law) (defScope d_law) .none kV21 dc21 pm21 an21 cd21 ct21), sl21⟩) (c21 : PySem.W.codeIn K cd21 "law" = true) (k21 : PySem.W.keepIn K (.ref f21) = true)
    (z_all : PySem.W.nsIn K mainGlobals "all" = some none)
    (z_bool : PySem.W.nsIn K mainGlobals "bool" = some none)
    (z_enumerate : PySem.W.nsIn K mainGlobals "enumerate" = some none)
    (z_int : PySem.W.nsIn K mainGlobals "int" = some none)
    (z_isinstance : PySem.W.nsIn K mainGlobals "isinstance" = some none)
    (z_len : PySem.W.nsIn K mainGlobals "len" = some none)
    (z_list : PySem.W.nsIn K mainGlobals "list" = some none)
    (z_max : PySem.W.nsIn K mainGlobals "max" = some none)
    (z_min : PySem.W.nsIn K mainGlobals "min" = some none)
    (z_range : PySem.W.nsIn K mainGlobals "range" = some none)
    (z_str : PySem.W.nsIn K mainGlobals "str" = some none)
    (z_tuple : PySem.W.nsIn K mainGlobals "tuple" = some none)
    (z_zip : PySem.W.nsIn K mainGlobals "zip" = some none)
    (g_OPENING : PySem.W.nsIn K mainGlobals "OPENING" = some (some (.str x_OPENING t_OPENING))) (h_OPENING : x_OPENING = ⟨([40, 91, 123, 60] : List Nat).toArray⟩)
    (g_CLOSING : PySem.W.nsIn K mainGlobals "CLOSING" = some (some (.str x_CLOSING t_CLOSING))) (h_CLOSING : x_CLOSING = ⟨([41, 93, 125, 62] : List Nat).toArray⟩)
    (g_K : PySem.W.nsIn K mainGlobals "KINDS" = some (some (.ref aK))) (l_K : K.lookup aK = some oK) (c_K : oK.cls = .type "tuple") (s_K : oK.data = .seq itK nK) (r_K : tupIs itK [tx [40, 41], tx [91, 93], tx [123, 125], tx [60, 62]] = true)
    (g_UNKNOWN : PySem.W.nsIn K mainGlobals "UNKNOWN" = some (some (.str x_UNKNOWN t_UNKNOWN))) (h_UNKNOWN : x_UNKNOWN = ⟨([63] : List Nat).toArray⟩)
    (g_MOST_SIGNS : PySem.W.nsIn K mainGlobals "MOST_SIGNS" = some (some (.int x_MOST_SIGNS t_MOST_SIGNS))) (h_MOST_SIGNS : x_MOST_SIGNS = 40)
    (g_MOST_TUPLES : PySem.W.nsIn K mainGlobals "MOST_TUPLES" = some (some (.int x_MOST_TUPLES t_MOST_TUPLES))) (h_MOST_TUPLES : x_MOST_TUPLES = 20) :
    ∃ fd : FuncData, (∀ (s : Shared) (v : Value), BindsTo s fd ⟨[v], []⟩ [("script", v)]) ∧ ∀ base : Heap, K.In base → base.Ns mainGlobals mg → FnOk l.prog w K mg base CX0 24 fa fd ["script"] (spLaw K) := by
  have e := hfa.symm.trans (PySem.W.mg_of X G a21)
  cases e
  have T : Txt K mg aK := ⟨PySem.W.mg_none_of X G z_all, PySem.W.mg_none_of X G z_bool, PySem.W.mg_none_of X G z_enumerate, PySem.W.mg_none_of X G z_int, PySem.W.mg_none_of X G z_isinstance, PySem.W.mg_none_of X G z_len, PySem.W.mg_none_of X G z_list, PySem.W.mg_none_of X G z_max, PySem.W.mg_none_of X G z_min, PySem.W.mg_none_of X G z_range, PySem.W.mg_none_of X G z_str, PySem.W.mg_none_of X G z_tuple, PySem.W.mg_none_of X G z_zip, ⟨_, PySem.W.mg_of X G g_OPENING, by rw [h_OPENING]; exact ⟨_, rfl⟩⟩, ⟨_, PySem.W.mg_of X G g_CLOSING, by rw [h_CLOSING]; exact ⟨_, rfl⟩⟩, ⟨_, PySem.W.mg_of X G g_K, rfl⟩, fun H => .inr ⟨oK, itK, nK, l_K, c_K, s_K, tupIs_size r_K (by decide), tupIs_vals r_K⟩, ⟨_, PySem.W.mg_of X G g_UNKNOWN, by rw [h_UNKNOWN]; exact ⟨_, rfl⟩⟩, ⟨_, PySem.W.mg_of X G g_MOST_SIGNS, by rw [h_MOST_SIGNS]; exact ⟨_, rfl⟩⟩, ⟨_, PySem.W.mg_of X G g_MOST_TUPLES, by rw [h_MOST_TUPLES]; exact ⟨_, rfl⟩⟩⟩
  have F0 := fun_mk (st := d_is_whole) l0 c0 k0
  have D0 : DefAt K mg "is_whole" d_is_whole ["thing"] _ _ := ⟨F0, PySem.W.mg_of X G a0, F0.binds (ps := ["thing"]) fun _ _ _ _ _ _ us hl => match us, hl with | [_], _ => rfl⟩
  have F1 := fun_mk (st := d_check_kinds) l1 c1 k1
  have D1 : DefAt K mg "check_kinds" d_check_kinds ["k"] _ _ := ⟨F1, PySem.W.mg_of X G a1, F1.binds (ps := ["k"]) fun _ _ _ _ _ _ us hl => match us, hl with | [_], _ => rfl⟩
  have F2 := fun_mk (st := d_is_line) l2 c2 k2
  have D2 : DefAt K mg "is_line" d_is_line ["k", "thing"] _ _ := ⟨F2, PySem.W.mg_of X G a2, F2.binds (ps := ["k", "thing"]) fun _ _ _ _ _ _ us hl => match us, hl with | [_, _], _ => rfl⟩
  have F3 := fun_mk (st := d_check_line) l3 c3 k3
  have D3 : DefAt K mg "check_line" d_check_line ["k", "row"] _ _ := ⟨F3, PySem.W.mg_of X G a3, F3.binds (ps := ["k", "row"]) fun _ _ _ _ _ _ us hl => match us, hl with | [_, _], _ => rfl⟩
  have F4 := fun_mk (st := d_matched) l4 c4 k4
  have D4 : DefAt K mg "matched" d_matched ["row"] _ _ := ⟨F4, PySem.W.mg_of X G a4, F4.binds (ps := ["row"]) fun _ _ _ _ _ _ us hl => match us, hl with | [_], _ => rfl⟩
  have F5 := fun_mk (st := d_partners) l5 c5 k5
  have D5 : DefAt K mg "partners" d_partners ["k", "row"] _ _ := ⟨F5, PySem.W.mg_of X G a5, F5.binds (ps := ["k", "row"]) fun _ _ _ _ _ _ us hl => match us, hl with | [_, _], _ => rfl⟩
  have F6 := fun_mk (st := d_is_branch) l6 c6 k6
  have D6 : DefAt K mg "is_branch" d_is_branch ["k", "thing"] _ _ := ⟨F6, PySem.W.mg_of X G a6, F6.binds (ps := ["k", "thing"]) fun _ _ _ _ _ _ us hl => match us, hl with | [_, _], _ => rfl⟩
  have F7 := fun_mk (st := d_is_tree) l7 c7 k7
  have D7 : DefAt K mg "is_tree" d_is_tree ["k", "thing"] _ _ := ⟨F7, PySem.W.mg_of X G a7, F7.binds (ps := ["k", "thing"]) fun _ _ _ _ _ _ us hl => match us, hl with | [_, _], _ => rfl⟩
  have F8 := fun_mk (st := d_tree_between) l8 c8 k8
  have D8 : DefAt K mg "tree_between" d_tree_between ["row", "ends", "start", "stop"] _ _ := ⟨F8, PySem.W.mg_of X G a8, F8.binds (ps := ["row", "ends", "start", "stop"]) fun _ _ _ _ _ _ us hl => match us, hl with | [_, _, _, _], _ => rfl⟩
  have F9 := fun_mk (st := d_tree_of) l9 c9 k9
  have D9 : DefAt K mg "tree_of" d_tree_of ["k", "row"] _ _ := ⟨F9, PySem.W.mg_of X G a9, F9.binds (ps := ["k", "row"]) fun _ _ _ _ _ _ us hl => match us, hl with | [_, _], _ => rfl⟩
  have F10 := fun_mk (st := d_written) l10 c10 k10
  have D10 : DefAt K mg "written" d_written ["tree"] _ _ := ⟨F10, PySem.W.mg_of X G a10, F10.binds (ps := ["tree"]) fun _ _ _ _ _ _ us hl => match us, hl with | [_], _ => rfl⟩
  have F11 := fun_mk (st := d_row_of_tree) l11 c11 k11
  have D11 : DefAt K mg "row_of_tree" d_row_of_tree ["k", "tree"] _ _ := ⟨F11, PySem.W.mg_of X G a11, F11.binds (ps := ["k", "tree"]) fun _ _ _ _ _ _ us hl => match us, hl with | [_, _], _ => rfl⟩
  have F12 := fun_mk (st := d_law_pool) l12 c12 k12
  have D12 : DefAt K mg "_law_pool" d_law_pool ["script", "k"] _ _ := ⟨F12, PySem.W.mg_of X G a12, F12.binds (ps := ["script", "k"]) fun _ _ _ _ _ _ us hl => match us, hl with | [_, _], _ => rfl⟩
  have F13 := fun_mk (st := d_law_take) l13 c13 k13
  have D13 : DefAt K mg "_law_take" d_law_take ["pool", "many"] _ _ := ⟨F13, PySem.W.mg_of X G a13, F13.binds (ps := ["pool", "many"]) fun _ _ _ _ _ _ us hl => match us, hl with | [_, _], _ => rfl⟩
  have F14 := fun_mk (st := d_law_right_row) l14 c14 k14
  have D14 : DefAt K mg "_law_right_row" d_law_right_row ["pool", "k", "most"] _ _ := ⟨F14, PySem.W.mg_of X G a14, F14.binds (ps := ["pool", "k", "most"]) fun _ _ _ _ _ _ us hl => match us, hl with | [_, _, _], _ => rfl⟩
  have F15 := fun_mk (st := d_law_tree) l15 c15 k15
  have D15 : DefAt K mg "_law_tree" d_law_tree ["pool", "k", "most"] _ _ := ⟨F15, PySem.W.mg_of X G a15, F15.binds (ps := ["pool", "k", "most"]) fun _ _ _ _ _ _ us hl => match us, hl with | [_, _, _], _ => rfl⟩
  have F16 := fun_mk (st := d_law_copy) l16 c16 k16
  have D16 : DefAt K mg "_law_copy" d_law_copy ["tree"] _ _ := ⟨F16, PySem.W.mg_of X G a16, F16.binds (ps := ["tree"]) fun _ _ _ _ _ _ us hl => match us, hl with | [_], _ => rfl⟩
  have F17 := fun_mk (st := d_law_row) l17 c17 k17
  have D17 : DefAt K mg "_law_row" d_law_row ["tree"] _ _ := ⟨F17, PySem.W.mg_of X G a17, F17.binds (ps := ["tree"]) fun _ _ _ _ _ _ us hl => match us, hl with | [_], _ => rfl⟩
  have F18 := fun_mk (st := d_law_is) l18 c18 k18
  have D18 : DefAt K mg "_law_is" d_law_is ["found", "due"] _ _ := ⟨F18, PySem.W.mg_of X G a18, F18.binds (ps := ["found", "due"]) fun _ _ _ _ _ _ us hl => match us, hl with | [_, _], _ => rfl⟩
  have F19 := fun_mk (st := d_law_spoil) l19 c19 k19
  have D19 : DefAt K mg "_law_spoil" d_law_spoil ["tree", "number"] _ _ := ⟨F19, PySem.W.mg_of X G a19, F19.binds (ps := ["tree", "number"]) fun _ _ _ _ _ _ us hl => match us, hl with | [_, _], _ => rfl⟩
  have F20 := fun_mk (st := d_law_numbers) l20 c20 k20
  have D20 : DefAt K mg "_law_numbers" d_law_numbers ["tree"] _ _ := ⟨F20, PySem.W.mg_of X G a20, F20.binds (ps := ["tree"]) fun _ _ _ _ _ _ us hl => match us, hl with | [_], _ => rfl⟩
  have F21 := fun_mk (st := d_law) l21 c21 k21
  have D21 : DefAt K mg "law" d_law ["script"] _ _ := ⟨F21, PySem.W.mg_of X G a21, F21.binds (ps := ["script"]) fun _ _ _ _ _ _ us hl => match us, hl with | [_], _ => rfl⟩
  refine ⟨PySem.W.fnOf "law" "law" (defArgs d_law) (defBody d_law) (defScope d_law) .none kV21 dc21 pm21 an21 cd21 ct21, fun s v => .of_eq rfl, fun base _ _ => ?_⟩
  have U_is_whole : FnU l.prog w K mg base 1 "is_whole" ["thing"] (spWhole K) := D0.fnU (ok_is_whole (k := 0) F0 T )
  have U_check_kinds : FnU l.prog w K mg base 2 "check_kinds" ["k"] (spKinds) := D1.fnU (ok_check_kinds (k := 1) F1 T (U_is_whole.mono (by decide)))
  have U_is_line : FnU l.prog w K mg base 3 "is_line" ["k", "thing"] (spLine K) := D2.fnU (ok_is_line (k := 2) F2 T (U_check_kinds.mono (by decide)))
  have U_check_line : FnU l.prog w K mg base 4 "check_line" ["k", "row"] (spCheckLine) := D3.fnU (ok_check_line (k := 3) F3 T (U_is_line.mono (by decide)))
  have U_matched : FnU l.prog w K mg base 1 "matched" ["row"] (spMatched) := D4.fnU (ok_matched (k := 0) F4 T )
  have U_partners : FnU l.prog w K mg base 5 "partners" ["k", "row"] (spPartners) := D5.fnU (ok_partners (k := 4) F5 T (U_check_line.mono (by decide)) (U_matched.mono (by decide)))
  have U_is_branch : FnU l.prog w K mg base 2 "is_branch" ["k", "thing"] (spBranch) := D6.fnU (ok_is_branch (k := 1) F6 T (U_is_whole.mono (by decide)))
  have U_is_tree : FnU l.prog w K mg base 3 "is_tree" ["k", "thing"] (spTree) := D7.fnU (ok_is_tree (k := 2) F7 T (U_check_kinds.mono (by decide)) (U_is_branch.mono (by decide)))
  have R_tree_between : ∀ n, FnU l.prog w K mg base (0 + n) "tree_between" ["row", "ends", "start", "stop"] (recSp gBetweenL n) := fun n => by
    induction n with
    | zero => exact D8.fnU ⟨fun _ _ _ _ h => h.elim, fun _ _ _ _ _ _ _ _ _ _ _ _ _ h => h.elim⟩
    | succ n ih => exact D8.fnU (ok_tree_between (k := 0 + n) n F8 T  ih)
  have U_tree_between := R_tree_between 22
  have U_tree_of : FnU l.prog w K mg base 23 "tree_of" ["k", "row"] (spTreeOfL) := D9.fnU (ok_tree_of (k := 22) F9 T (U_partners.mono (by decide)) (U_tree_between.mono (by decide)))
  have R_written : ∀ n, FnU l.prog w K mg base (0 + n) "written" ["tree"] (recSp gWritten n) := fun n => by
    induction n with
    | zero => exact D10.fnU ⟨fun _ _ _ _ h => h.elim, fun _ _ _ _ _ _ _ _ _ _ _ _ _ h => h.elim⟩
    | succ n ih => exact D10.fnU (ok_written (k := 0 + n) n F10 T  ih)
  have U_written := R_written 22
  have U_row_of_tree : FnU l.prog w K mg base 23 "row_of_tree" ["k", "tree"] (spRowOf) := D11.fnU (ok_row_of_tree (k := 22) F11 T (U_written.mono (by decide)) (U_is_tree.mono (by decide)))
  have U_law_pool : FnU l.prog w K mg base 1 "_law_pool" ["script", "k"] (spPool K) := D12.fnU (ok_law_pool (k := 0) F12 T )
  have U_law_take : FnU l.prog w K mg base 1 "_law_take" ["pool", "many"] (spTake) := D13.fnU (ok_law_take (k := 0) F13 T )
  have U_law_right_row : FnU l.prog w K mg base 2 "_law_right_row" ["pool", "k", "most"] (spRightRow) := D14.fnU (ok_law_right_row (k := 1) F14 T (U_law_take.mono (by decide)))
  have U_law_tree : FnU l.prog w K mg base 2 "_law_tree" ["pool", "k", "most"] (spMkB) := D15.fnU (ok_law_tree (k := 1) F15 T (U_law_take.mono (by decide)))
  have R_law_copy : ∀ n, FnU l.prog w K mg base (0 + n) "_law_copy" ["tree"] (recSp gCopy n) := fun n => by
    induction n with
    | zero => exact D16.fnU ⟨fun _ _ _ _ h => h.elim, fun _ _ _ _ _ _ _ _ _ _ _ _ _ h => h.elim⟩
    | succ n ih => exact D16.fnU (ok_law_copy (k := 0 + n) n F16 T  ih)
  have U_law_copy := R_law_copy 22
  have R_law_row : ∀ n, FnU l.prog w K mg base (0 + n) "_law_row" ["tree"] (recSp gWritten n) := fun n => by
    induction n with
    | zero => exact D17.fnU ⟨fun _ _ _ _ h => h.elim, fun _ _ _ _ _ _ _ _ _ _ _ _ _ h => h.elim⟩
    | succ n ih => exact D17.fnU (ok_law_row (k := 0 + n) n F17 T  ih)
  have U_law_row := R_law_row 22
  have R_law_is : ∀ n, FnU l.prog w K mg base (0 + n) "_law_is" ["found", "due"] (recSp gIs n) := fun n => by
    induction n with
    | zero => exact D18.fnU ⟨fun _ _ _ _ h => h.elim, fun _ _ _ _ _ _ _ _ _ _ _ _ _ h => h.elim⟩
    | succ n ih => exact D18.fnU (ok_law_is (k := 0 + n) n F18 T  ih)
  have U_law_is := R_law_is 22
  have R_law_spoil : ∀ n, FnU l.prog w K mg base (0 + n) "_law_spoil" ["tree", "number"] (recSp gSpoil n) := fun n => by
    induction n with
    | zero => exact D19.fnU ⟨fun _ _ _ _ h => h.elim, fun _ _ _ _ _ _ _ _ _ _ _ _ _ h => h.elim⟩
    | succ n ih => exact D19.fnU (ok_law_spoil (k := 0 + n) n F19 T  ih)
  have U_law_spoil := R_law_spoil 22
  have R_law_numbers : ∀ n, FnU l.prog w K mg base (0 + n) "_law_numbers" ["tree"] (recSp gNumb n) := fun n => by
    induction n with
    | zero => exact D20.fnU ⟨fun _ _ _ _ h => h.elim, fun _ _ _ _ _ _ _ _ _ _ _ _ _ h => h.elim⟩
    | succ n ih => exact D20.fnU (ok_law_numbers (k := 0 + n) n F20 T  ih)
  have U_law_numbers := R_law_numbers 22
  exact ok_law (k := 23) F21 T (U_law_pool.mono (by decide)) (U_law_tree.mono (by decide)) (U_law_copy.mono (by decide)) (U_law_row.mono (by decide)) (U_law_right_row.mono (by decide)) (U_law_take.mono (by decide)) (U_row_of_tree.mono (by decide)) (U_tree_of.mono (by decide)) (U_law_spoil.mono (by decide)) (U_law_is.mono (by decide)) (U_law_numbers.mono (by decide))
theorem walk {l : PySem.W.OpenLaw} {q : Program} {loose : List Str} {XP : (Str → Option Value) → Heap → Prop} {YP : World → Heap → Prop} {d : DefRec} {K : Params → PySem.W.Frag} (hn : l.most = some 63) (hdf : d.params.defaults = [])
    (hY : ∀ (w : World) (h : Heap), YP w h → (K w.params).In h)
    (F : ∀ (w : World) (mg : Str → Option Value) (fa : Addr) (h : Heap), (K w.params).In h → h.Ns mainGlobals mg → mg d.name = some (.ref fa) →
      ∃ fd : FuncData, (∀ (s : Shared) (u : Value), BindsTo s fd ⟨[u], []⟩ [("script", u)]) ∧ ∀ base : Heap, (K w.params).In base → base.Ns mainGlobals mg → FnOk l.prog w (K w.params) mg base CX0 24 fa fd ["script"] (spLaw (K w.params))) :
    PySem.W.WalkO q loose XP YP l.row.toRowW d [] (fun f vs => PySem.call f vs) :=
  L2.walk_of (n := 63) (k := 24) (x := "script") (CX := fun _ => CX0) (sp := fun w => spLaw (K w.params)) hn (by decide) hdf ⟨rfl, by decide, by decide, rfl⟩ hY F (fun _ _ a ns hl _ hS => ⟨a, ns, rfl, hS, hl, fun _ => rfl⟩) fun _ _ _ _ _ z => z
end Bk
theorem PySem.W.Fast.tw7934277664667780387 : True := trivial
theorem PySem.W.Fast.tw1953912636724156168 : True := trivial
theorem PySem.W.Fast.tw17838677184910635553 : True := trivial
theorem PySem.W.Fast.tw7034018327880192760 : True := trivial
theorem PySem.W.Fast.tw960700467908835701 : True := trivial
theorem PySem.W.Fast.tw6202125665373505961 : True := trivial
theorem PySem.W.Fast.tw2175305284761430491 : True := trivial
theorem PySem.W.Fast.tw12678526935478244654 : True := trivial
theorem PySem.W.Fast.tw14731929603451998288 : True := trivial
theorem PySem.W.Fast.tw13073816315704389368 : True := trivial
theorem PySem.W.Fast.tw280699750965001697 : True := trivial
theorem PySem.W.Fast.tw4396388386665218005 : True := trivial
theorem PySem.W.Fast.tw17821454609228039174 : True := trivial
theorem PySem.W.Fast.tw8749614683075477634 : True := trivial
theorem PySem.W.Fast.tw15203953497384152128 : True := trivial
theorem PySem.W.Fast.tw3342882616218349416 : True := trivial
theorem PySem.W.Fast.tw3076505319301269741 : True := trivial
theorem PySem.W.Fast.tw12781072658041985911 : True := trivial
theorem PySem.W.Fast.tw318606550249194350 : True := trivial
theorem PySem.W.Fast.tw10384043191285895901 : True := trivial
theorem PySem.W.Fast.tw11294487933818457472 : True := trivial
open PySem PySem.W PyProof.Rows
set_option maxRecDepth 100000 in
set_option maxHeartbeats 0 in
theorem PySem.Challenge.cw_bracketrows_k09_trees_of_rows_holds : PySem.Challenge.rw_bracketrows_k09_trees_of_rows.Holds := by
  w_on; o_law; k_head; (case hw => w_witness2)
  k_fill
  refine Bk.walk (l := PySem.Challenge.rw_bracketrows_k09_trees_of_rows) rfl rfl (fun w h Y => PySem.W.kIn_of Y) ?F
  case F =>
    intro w mg fa h KX G hmg
    refine' Bk.all_mk KX G hmg ?a0 ?l0 ?c0 ?k0 ?a1 ?l1 ?c1 ?k1 ?a2 ?l2 ?c2 ?k2 ?a3 ?l3 ?c3 ?k3 ?a4 ?l4 ?c4 ?k4 ?a5 ?l5 ?c5 ?k5 ?a6 ?l6 ?c6 ?k6 ?a7 ?l7 ?c7 ?k7 ?a8 ?l8 ?c8 ?k8 ?a9 ?l9 ?c9 ?k9 ?a10 ?l10 ?c10 ?k10 ?a11 ?l11 ?c11 ?k11 ?a12 ?l12 ?c12 ?k12 ?a13 ?l13 ?c13 ?k13 ?a14 ?l14 ?c14 ?k14 ?a15 ?l15 ?c15 ?k15 ?a16 ?l16 ?c16 ?k16 ?a17 ?l17 ?c17 ?k17 ?a18 ?l18 ?c18 ?k18 ?a19 ?l19 ?c19 ?k19 ?a20 ?l20 ?c20 ?k20 ?a21 ?l21 ?c21 ?k21 ?z_all ?z_bool ?z_enumerate ?z_int ?z_isinstance ?z_len ?z_list ?z_max ?z_min ?z_range ?z_str ?z_tuple ?z_zip ?g_OPENING ?h_OPENING ?g_CLOSING ?h_CLOSING ?g_K ?l_K ?c_K ?s_K ?r_K ?g_UNKNOWN ?h_UNKNOWN ?g_MOST_SIGNS ?h_MOST_SIGNS ?g_MOST_TUPLES ?h_MOST_TUPLES
    (case a0 | l0 | c0 | k0 | a1 | l1 | c1 | k1 | a2 | l2 | c2 | k2 | a3 | l3 | c3 | k3 | a4 | l4 | c4 | k4 | a5 | l5 | c5 | k5 | a6 | l6 | c6 | k6 | a7 | l7 | c7 | k7 | a8 | l8 | c8 | k8 | a9 | l9 | c9 | k9 | a10 | l10 | c10 | k10 | a11 | l11 | c11 | k11 | a12 | l12 | c12 | k12 | a13 | l13 | c13 | k13 | a14 | l14 | c14 | k14 | a15 | l15 | c15 | k15 | a16 | l16 | c16 | k16 | a17 | l17 | c17 | k17 | a18 | l18 | c18 | k18 | a19 | l19 | c19 | k19 | a20 | l20 | c20 | k20 | a21 | l21 | c21 | k21 | z_all | z_bool | z_enumerate | z_int | z_isinstance | z_len | z_list | z_max | z_min | z_range | z_str | z_tuple | z_zip | g_OPENING => k_is)
    (case h_OPENING => first | rfl | decide +kernel)
    (case g_CLOSING => k_is)
    (case h_CLOSING => first | rfl | decide +kernel)
    (case g_K | l_K => k_is)
    (case c_K => rfl)
    (case s_K => rfl)
    (case r_K => decide +kernel)
    (case g_UNKNOWN => k_is)
    (case h_UNKNOWN => first | rfl | decide +kernel)
    (case g_MOST_SIGNS => k_is)
    (case h_MOST_SIGNS => rfl)
    (case g_MOST_TUPLES => k_is)
    (case h_MOST_TUPLES => rfl)

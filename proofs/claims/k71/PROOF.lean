import PyProof.Rows.All
import Wide.All
import OpenK.AllK
import Wide.FinOn
import Lean
import PyProof.EqAt
import PyProof.EqKinds
import PyProof.TupleCall
import KE.KSortTup
import PySem.SetTable
import PyProof.SetScanFacts
import PyProof.Rows.SetFrom
import PyProof.TupleKey
import KE.KDictList
import PySem.Challenge.RW_splithouse_k71_whole_own_rules_by_books
-- CHANGE: your row's module here, as the last of these rows
set_option Elab.async false
set_option linter.all false
set_option maxRecDepth 100000
/-! THE HAND LAYER, for ints, bools, texts, own classes, LISTS and tuples (index, slices, in, append, pop ..), calls, loops. Paste it whole ahead of your own text; what your proof does not reach may be deleted. -/
namespace L2
open PySem PySem.Spec PyProof.Rows

/-- a key: an int or a str -/
noncomputable abbrev Key := Sum Int Str
noncomputable def keyIs : Key → Value → Bool
  | .inl k, v => Value.isInt k v
  | .inr x, v => Value.isStrOf x v
noncomputable def keyH (w : World) : Key → Int
  | .inl k => hashInt k
  | .inr x => hashStr w x
theorem keyIs_shape : ∀ {k : Key} {v : Value}, keyIs k v = true → (∃ i t, k = Sum.inl i ∧ v = Value.int i t) ∨ (∃ x t, k = Sum.inr x ∧ v = Value.str x t)
  | .inl i, v, h => by
    obtain ⟨t, e⟩ := Value.isInt_shape (k := i) (v := v) h
    exact .inl ⟨i, t, rfl, e⟩
  | .inr x, v, h => by
    obtain ⟨t, e⟩ := Value.isStrOf_shape (x := x) (v := v) h
    exact .inr ⟨x, t, rfl, e⟩
theorem keyIs_int (i : Int) (t : Tok) : keyIs (.inl i) (.int i t) = true := by simp [keyIs, Value.isInt]
theorem keyIs_str (x : Str) (t : Tok) : keyIs (.inr x) (.str x t) = true := by simp [keyIs, Value.isStrOf]
theorem key_ll (a b : Int) : decide ((Sum.inl a : Key) = Sum.inl b) = (a == b) := by
  by_cases e : a = b
  · subst e; simp
  · have h : ¬ (Sum.inl a : Key) = Sum.inl b := fun q => e (Sum.inl.inj q)
    rw [decide_eq_false h]
    exact (beq_eq_false_iff_ne.mpr e).symm
theorem key_rr (a b : Str) : decide ((Sum.inr a : Key) = Sum.inr b) = decide (a = b) := by
  by_cases e : a = b
  · subst e; simp
  · have h : ¬ (Sum.inr a : Key) = Sum.inr b := fun q => e (Sum.inr.inj q)
    rw [decide_eq_false h, decide_eq_false e]
theorem key_lr (a : Int) (b : Str) : decide ((Sum.inl a : Key) = Sum.inr b) = false := decide_eq_false (fun q => nomatch q)
theorem key_rl (a : Str) (b : Int) : decide ((Sum.inr a : Key) = Sum.inl b) = false := decide_eq_false (fun q => nomatch q)

noncomputable def mixKind (prog : Program) (w : World) : PySem.KeyKind prog w Key where
  is := keyIs
  hash := keyH w
  inj := fun v a b ha hb => by
    rcases keyIs_shape ha with ⟨i, t, rfl, rfl⟩ | ⟨x, t, rfl, rfl⟩
    · rcases keyIs_shape hb with ⟨j, u, rfl, e⟩ | ⟨y, u, rfl, e⟩
      · injection e with e1 _; rw [e1]
      · exact nomatch e
    · rcases keyIs_shape hb with ⟨j, u, rfl, e⟩ | ⟨y, u, rfl, e⟩
      · exact nomatch e
      · injection e with e1 _; rw [e1]
  byValue := fun k v h => by
    rcases keyIs_shape h with ⟨i, t, rfl, rfl⟩ | ⟨x, t, rfl, rfl⟩ <;> rfl
  pyHash := fun hv h => by
    rcases keyIs_shape hv with ⟨i, t, rfl, rfl⟩ | ⟨x, t, rfl, rfl⟩
    · exact wpAny_pyHash_int h
    · exact wpAny_pyHash_str h
  eqBool := fun hu hv h => by
    rcases keyIs_shape hu with ⟨i, t, rfl, rfl⟩ | ⟨x, t, rfl, rfl⟩
    · rcases keyIs_shape hv with ⟨j, u, rfl, rfl⟩ | ⟨y, u, rfl, rfl⟩
      · rw [key_ll] at h; exact wpAny_eqBool_int h
      · rw [key_lr] at h; exact SeqAt.EqAt.int_str i t y u _ _ _ _ h
    · rcases keyIs_shape hv with ⟨j, u, rfl, rfl⟩ | ⟨y, u, rfl, rfl⟩
      · rw [key_rl] at h; exact SeqAt.EqAt.str_int x t j u _ _ _ _ h
      · rw [key_rr] at h; exact wpAny_eqBool_str h
  «strs» := fun k x t v h => by
    rcases keyIs_shape h with ⟨i, u, rfl, e⟩ | ⟨y, u, rfl, e⟩
    · exact nomatch e
    · injection e with e1 _
      subst e1
      cases v <;> rfl

theorem mixKind_int (prog : Program) (w : World) (i : Int) (t : Tok) : (mixKind prog w).is (.inl i) (.int i t) = true := keyIs_int i t
theorem mixKind_str (prog : Program) (w : World) (x : Str) (t : Tok) : (mixKind prog w).is (.inr x) (.str x t) = true := keyIs_str x t
end L2

namespace L2
open PySem PySem.Spec PyProof.Rows

/-- a value, without the heap -/
inductive V where
  | non | bl (b : Bool) | int (i : Int) | str (x : Str) | byt (b : Array UInt8) | flt (b : UInt64) | ref (a : Addr) | ty (n : String)
  deriving DecidableEq

noncomputable def RelV : V → Value → Prop
  | .non, u => u = Value.none
  | .bl b, u => u = Value.bool b
  | .int i, u => ∃ t, u = Value.int i t
  | .str x, u => ∃ t, u = Value.str x t
  | .byt b, u => ∃ t, u = Value.bytes b t
  | .flt b, u => ∃ t, u = Value.float b t
  | .ref a, u => u = Value.ref a
  | .ty n, u => u = Value.type n

noncomputable abbrev Vals : List V → List Value → Prop := Paired RelV
theorem Vals.length {xs : List V} {us : List Value} (r : Vals xs us) : xs.length = us.length := Paired.length r
theorem Vals.get : ∀ {xs : List V} {us : List Value} {i : Nat} {x : V}, Vals xs us → xs[i]? = some x → ∃ u, us[i]? = some u ∧ RelV x u
  | _, _, _, _, .nil, e => by simp at e
  | _, _, 0, _, .cons r _, e => by simp at e; subst e; exact ⟨_, rfl, r⟩
  | _, _, i + 1, x, .cons _ t, e => by
    obtain ⟨u, h1, h2⟩ := Vals.get (i := i) (x := x) t (by simpa using e)
    exact ⟨u, by simpa using h1, h2⟩
theorem Vals.set {x : V} {u : Value} (r : RelV x u) : ∀ {xs : List V} {us : List Value} (i : Nat), Vals xs us → Vals (xs.set i x) (us.set i u)
  | _, _, _, .nil => .nil
  | _, _, 0, .cons _ t => .cons r t
  | _, _, i + 1, .cons q t => .cons q (Vals.set r i t)
theorem Vals.append : ∀ {xs ys : List V} {us ws : List Value}, Vals xs us → Vals ys ws → Vals (xs ++ ys) (us ++ ws)
  | _, _, _, _, .nil, s => s
  | _, _, _, _, .cons r t, s => .cons r (Vals.append t s)
theorem Vals.take : ∀ {xs : List V} {us : List Value} (n : Nat), Vals xs us → Vals (xs.take n) (us.take n)
  | _, _, 0, _ => .nil
  | _, _, _ + 1, .nil => .nil
  | _, _, n + 1, .cons r t => .cons r (Vals.take n t)
theorem Vals.drop : ∀ {xs : List V} {us : List Value} (n : Nat), Vals xs us → Vals (xs.drop n) (us.drop n)
  | _, _, 0, r => r
  | _, _, _ + 1, .nil => .nil
  | _, _, n + 1, .cons _ t => Vals.drop n t
noncomputable def RelO : Option V → Option Value → Prop
  | some v, some u => RelV v u
  | none, none => True
  | _, _ => False
noncomputable def KV {κ : Type} : List (κ × V) → List (κ × Value) → Prop := Paired fun (p : κ × V) (q : κ × Value) => p.1 = q.1 ∧ RelV p.2 q.2

/-- a key of a dict (00_mix): an int or a text -/
noncomputable def kV : Key → V
  | .inl i => .int i
  | .inr x => .str x

/-- what stands at a tracked address -/
inductive HO where
  /-- a list -/
  | lst (xs : List V)
  /-- a tuple (never changes) -/
  | tup (xs : List V)
  /-- a dict whose keys are ints and texts; one whose keys are tuples of ints and texts (the empty one is both) -/
  | dK (kvs : List (Key × V)) | dT (kvs : List (List Key × V))
  /-- a set of ints: its members, its size -/
  | set (S : Int → Bool) (n : Nat)
  /-- an instance of the class at C, its dict at dx, its attributes -/
  | ins (C dx : Addr) (fs : List (Str × V))
  /-- the dict of the instance at x -/
  | own (x : Addr)
  /-- the dict of an exception -/
  | xd (fs : List (Str × V))
  /-- a bound method, f of x -/
  | met (f x : Addr)
  /-- a range object lo, lo + 1, .. below hi -/
  | rng (lo hi : Int)
  /-- a thing that is known to the object (the script; a dict while a loop walks it): read, never written while it is so -/
  | frz (o : Obj) (u : HO)
  /-- a code object's table -/
  | tbl (ps : Array Value)
  /-- any other thing, by what is true of its one object (a def of one's own: SetO a S n := HO.ext fun h => ..) -/
  | ext (φ : Heap → Prop)

noncomputable abbrev Hp := Addr → Option HO
noncomputable def upd (H : Hp) (a : Addr) (o : HO) : Hp := fun b => if b = a then some o else H b
theorem upd_same {H : Hp} {a : Addr} {o : HO} : upd H a o a = some o := by unfold upd; rw [if_pos rfl]
theorem upd_ne {H : Hp} {a b : Addr} {o : HO} (h : b ≠ a) : upd H a o b = H b := by unfold upd; rw [if_neg h]
theorem upd_upd {H : Hp} {a : Addr} {o u : HO} : upd (upd H a o) a u = upd H a u := by
  funext b; unfold upd; split <;> rfl
/-- two objects of different content stand apart -/
theorem ne_of {H : Hp} {a b : Addr} {o u : HO} (h : H a = some o) (h' : H b = some u) (d : o ≠ u) : a ≠ b := by
  intro e; subst e; rw [h] at h'; exact d (Option.some.inj h')
theorem ne_of_none {H : Hp} {a b : Addr} {o : HO} (h : H a = some o) (h' : H b = none) : a ≠ b := by
  intro e; subst e; rw [h] at h'; cases h'

section
variable (P : Program) (w : World)
noncomputable def ObjOk (H : Hp) (h : Heap) (a : Addr) : HO → Prop
  | .lst xs => xs.length ≤ sizeLine ∧ ∃ (its : List Value) (n : Nat), Vals xs its ∧ h.get? a = some { cls := .type "list", data := .seq its.toArray n }
  | .tup xs => xs.length ≤ sizeLine ∧ ∃ its : List Value, Vals xs its ∧ IsTup h a its.toArray
  | .dK kvs => kvs.length ≤ sizeLine ∧ (a == sysModules) = false ∧ ∃ vs, KV kvs vs ∧ h.DictOf (mixKind P w) a vs
  | .dT kvs => kvs.length ≤ sizeLine ∧ (a == sysModules) = false ∧ ∃ xs : List (List Key × Addr × Value),
      Paired (fun (p : List Key × V) (q : List Key × Addr × Value) => p.1 = q.1 ∧ H q.2.1 = some (.tup (p.1.map kV)) ∧ RelV p.2 q.2.2) kvs xs ∧
      ∃ o es ep, h.get? a = some o ∧ o.ExactDict ∧ o.data = .dict es ep ∧ es.toList = xs.map (entryOfKey (tupleKind (mixKind P w))) ∧ (xs.map (·.1)).Nodup
  | .set S n => h.SetOf (intKind P w) a S n
  | .ins C dx fs => H dx = some (.own a) ∧ fs.length ≤ 1000 ∧ dx ≠ a ∧ h.get? a = some (PySem.W.instObj C dx) ∧
      ∃ mA, h.Ns1 dx mA ∧ (∀ f, RelO (fs.lookup f) (mA f)) ∧ PySem.Within mA (fs.map (·.1))
  | .own _ => ∃ o, h.get? a = some o
  | .xd fs => ∃ mA, h.Ns1 a mA ∧ ∀ f, RelO (fs.lookup f) (mA f)
  | .rng lo hi => ∃ t u v, h.get? a = some { cls := .type "range", data := .fields #[.int lo t, .int hi u, .int 1 v] }
  | .frz o u => h.get? a = some o ∧ ObjOk H h a u
  | .tbl ps => h.get? a = some { cls := .none, data := .fields ps }
  | .met f x => h.get? a = some (PySem.W.methodObj (.ref f) (.ref x))
  | .ext φ => φ h ∧ (∃ o, h.get? a = some o) ∧ ∀ h1 h2 : Heap, φ h1 → (∀ o, h1.get? a = some o → h2.get? a = some o) → φ h2
/-- the abstract heap is held -/
noncomputable def HOk (H : Hp) (h : Heap) : Prop := ∀ a o, H a = some o → ObjOk P w H h a o
end

section
variable {P : Program} {w : World} {H H' : Hp} {h h' : Heap} {a : Addr} {o : HO}
theorem ObjOk.lt (x : ObjOk P w H h a o) : a < h.objs.size := by
  cases o with
  | lst xs => obtain ⟨_, _, _, _, e⟩ := x; exact Heap.lt_size e
  | tup xs => obtain ⟨_, _, _, p⟩ := x; exact p.lt
  | dK kvs => obtain ⟨_, _, _, _, o, _, _, e, _⟩ := x; exact Heap.lt_size e
  | dT kvs => obtain ⟨_, _, _, _, o, _, _, e, _⟩ := x; exact Heap.lt_size e
  | set S n => obtain ⟨o, _, _, _, e, _⟩ := x; exact Heap.lt_size e
  | ins C dx fs => obtain ⟨_, _, _, e, _⟩ := x; exact Heap.lt_size e
  | own y => obtain ⟨_, e⟩ := x; exact Heap.lt_size e
  | xd fs => obtain ⟨_, ⟨_, _, _, e, _⟩, _⟩ := x; exact Heap.lt_size e
  | rng lo hi => obtain ⟨_, _, _, e⟩ := x; exact Heap.lt_size e
  | frz ob u => obtain ⟨e, _⟩ := x; exact Heap.lt_size e
  | tbl ps => exact Heap.lt_size (show h.get? a = some _ from x)
  | met f y => exact Heap.lt_size (show h.get? a = some _ from x)
  | ext φ => obtain ⟨_, ⟨_, e⟩, _⟩ := x; exact Heap.lt_size e
theorem Paired.mapP {α β : Type} {F G : α → β → Prop} : ∀ {l₁ : List α} {l₂ : List β}, Paired F l₁ l₂ → (∀ a b, F a b → G a b) → Paired G l₁ l₂
  | _, _, .nil, _ => .nil
  | _, _, .cons r t, f => .cons (f _ _ r) (Paired.mapP t f)
/-- what an object's description leans on: its own object, its own dict, the tuples -/
theorem ObjOk.stay (x : ObjOk P w H h a o) (k : ∀ b u, (b = a ∨ H b = some (.own a)) → h.get? b = some u → h'.get? b = some u)
    (ho : ∀ b, H b = some (.own a) → H' b = some (.own a)) (ht : ∀ b xs, H b = some (.tup xs) → H' b = some (.tup xs)) : ObjOk P w H' h' a o := by
  induction o with
  | lst xs => obtain ⟨z, its, n, r, e⟩ := x; exact ⟨z, its, n, r, k _ _ (.inl rfl) e⟩
  | tup xs => obtain ⟨z, its, r, ob, e, c⟩ := x; exact ⟨z, its, r, ob, k _ _ (.inl rfl) e, c⟩
  | dK kvs => obtain ⟨z, y, vs, r, ob, es, ep, e, c⟩ := x; exact ⟨z, y, vs, r, ob, es, ep, k _ _ (.inl rfl) e, c⟩
  | dT kvs =>
    obtain ⟨z, y, xs, r, ob, es, ep, e, c⟩ := x
    exact ⟨z, y, xs, Paired.mapP r fun p q z => ⟨z.1, ht _ _ z.2.1, z.2.2⟩, ob, es, ep, k _ _ (.inl rfl) e, c⟩
  | set S n => obtain ⟨ob, es, ep, t, e, c⟩ := x; exact ⟨ob, es, ep, t, k _ _ (.inl rfl) e, c⟩
  | ins C dx fs =>
    obtain ⟨d, z, ne, e, mA, ⟨od, es, ep, e2, c⟩, r⟩ := x
    exact ⟨ho _ d, z, ne, k _ _ (.inl rfl) e, mA, ⟨od, es, ep, k _ _ (.inr d) e2, c⟩, r⟩
  | own y => obtain ⟨ob, e⟩ := x; exact ⟨ob, k _ _ (.inl rfl) e⟩
  | xd fs => obtain ⟨mA, ⟨od, es, ep, e, c⟩, r⟩ := x; exact ⟨mA, ⟨od, es, ep, k _ _ (.inl rfl) e, c⟩, r⟩
  | rng lo hi => obtain ⟨t, u, v, e⟩ := x; exact ⟨t, u, v, k _ _ (.inl rfl) e⟩
  | frz ob u ih => obtain ⟨e, q⟩ := x; exact ⟨k _ _ (.inl rfl) e, ih q⟩
  | tbl ps =>
    have e : h.get? a = some { cls := .none, data := .fields ps } := x
    show h'.get? a = some { cls := .none, data := .fields ps }
    exact k a _ (.inl rfl) e
  | met f y =>
    have e : h.get? a = some (PySem.W.methodObj (.ref f) (.ref y)) := x
    show h'.get? a = some (PySem.W.methodObj (.ref f) (.ref y))
    exact k a _ (.inl rfl) e
  | ext φ => obtain ⟨p, ⟨o, e⟩, st⟩ := x; exact ⟨st _ _ p fun o q => k _ _ (.inl rfl) q, ⟨o, k _ _ (.inl rfl) e⟩, st⟩
theorem HOk.lt (x : HOk P w H h) (e : H a = some o) : a < h.objs.size := (x a o e).lt
theorem HOk.fresh (x : HOk P w H h) (e : h.objs.size ≤ a) : H a = none := by
  cases q : H a with
  | none => rfl
  | some u => exact absurd (Nat.lt_of_lt_of_le (x.lt q) e) (Nat.lt_irrefl _)
/-- every object of the heap is kept -/
theorem HOk.kept (x : HOk P w H h) (k : ∀ b u, h.get? b = some u → h'.get? b = some u) : HOk P w H h' := fun a o e =>
  (x a o e).stay (fun b u _ q => k b u q) (fun _ q => q) fun _ _ q => q
/-- a new object is laid and tracked -/
theorem HOk.laid (x : HOk P w H h) (k : ∀ b u, h.get? b = some u → h'.get? b = some u) (hp : h.objs.size ≤ a) (new : ObjOk P w (upd H a o) h' a o) : HOk P w (upd H a o) h' := fun b u e => by
  have hn := x.fresh hp
  by_cases hb : b = a
  · subst hb; rw [upd_same] at e; cases e; exact new
  · rw [upd_ne hb] at e
    exact (x b u e).stay (fun c v _ q => k c v q) (fun c q => by rw [upd_ne (ne_of_none q hn)]; exact q) fun c xs q => by rw [upd_ne (ne_of_none q hn)]; exact q
end

/-- what may be read as u: it is u, or a known u -/
noncomputable def Rd (H : Hp) (a : Addr) (u : HO) : Prop := H a = some u ∨ ∃ o, H a = some (.frz o u)
theorem Rd.ok {P : Program} {w : World} {H : Hp} {h : Heap} {a : Addr} {u : HO} (r : Rd H a u) (x : HOk P w H h) : ObjOk P w H h a u := by
  rcases r with r | ⟨o, r⟩
  · exact x a u r
  · obtain ⟨_, q⟩ := x a _ r
    exact q
/-- what may be written -/
noncomputable def Mut : Option HO → Prop
  | some (.lst _) => True
  | some (.dK _) => True
  | some (.dT _) => True
  | some (.set _ _) => True
  | some (.ins _ _ _) => True
  | some (.ext _) => True
  | _ => False
section
variable {P : Program} {w : World} {H : Hp} {h h' : Heap} {x e : Addr} {o' : HO}
/-- the object at e is changed: x itself, or the dict of the instance x -/
theorem HOk.write (ok : HOk P w H h) (mu : Mut (H x)) (he : e = x ∨ H e = some (.own x)) (k : ∀ b u, b ≠ e → h.get? b = some u → h'.get? b = some u) (heo : ∃ u, h'.get? e = some u)
    (new : ObjOk P w (upd H x o') h' x o') : HOk P w (upd H x o') h' := fun b u q => by
  have nown : ∀ c y, H c = some (.own y) → c ≠ x := fun c y r z => by subst z; rw [r] at mu; exact mu
  have ntup : ∀ c xs, H c = some (.tup xs) → c ≠ x := fun c xs r z => by subst z; rw [r] at mu; exact mu
  by_cases hb : b = x
  · subst hb; rw [upd_same] at q; cases q; exact new
  · rw [upd_ne hb] at q
    by_cases hbe : b = e
    · have q' : H b = some (.own x) := by
        rcases he with z | z
        · exact absurd (hbe.trans z) hb
        · rw [hbe]; exact z
      rw [q] at q'; cases q'
      obtain ⟨v, hv⟩ := heo
      exact ⟨v, by rw [hbe]; exact hv⟩
    · refine (ok b u q).stay (fun c v hc r => k c v ?_ r) (fun c r => by rw [upd_ne (nown c b r)]; exact r) fun c xs r => by rw [upd_ne (ntup c xs r)]; exact r
      rcases hc with rfl | hc
      · exact hbe
      · rintro rfl
        rcases he with z | z
        · exact nown c b hc z
        · rw [hc] at z; cases z; exact hb rfl
end

/-! ### kept unless tracked; of the frames at fs (the callers') the slots may change (an exception that passes writes there); of the records at ex (iterators) nothing is said -/
structure Un (fs ex : List Addr) (H H' : Hp) (h h' : Heap) : Prop where
  keep : ∀ b o, h.get? b = some o → H b = none → b ∉ fs → b ∉ ex → h'.get? b = some o
  slot : ∀ b o, h.get? b = some o → H b = none → b ∈ fs → b ∉ ex → ∃ sl, h'.get? b = some { o with slots := sl }
  free : ∀ b o, h.get? b = some o → H b = none → b ∉ ex → H' b = none
  there : ∀ b o, h.get? b = some o → b ∉ ex → ∃ o', h'.get? b = some o'
  tups : ∀ b xs, H b = some (.tup xs) → H' b = some (.tup xs)
  frzs : ∀ b o u, H b = some (.frz o u) → H' b = some (.frz o u)
  tbls : ∀ b ps, H b = some (.tbl ps) → ∃ more, H' b = some (.tbl (ps ++ more))
section
variable {fs fs' ex ex' : List Addr} {H H1 H2 : Hp} {h h1 h2 h' : Heap} {a x e : Addr} {o : HO}
theorem Un.any (u : Un fs ex H H1 h h1) {b : Addr} {ob : Obj} (q : h.get? b = some ob) (n : H b = none) (hx : b ∉ ex) : ∃ sl, h1.get? b = some { ob with slots := sl } := by
  by_cases hb : b ∈ fs
  · exact u.slot b ob q n hb hx
  · exact ⟨ob.slots, u.keep b ob q n hb hx⟩
theorem Un.kept (k : ∀ b u, h.get? b = some u → h'.get? b = some u) : Un fs ex H H h h' :=
  ⟨fun b ob q _ _ _ => k b ob q, fun b ob q _ _ _ => ⟨ob.slots, k b ob q⟩, fun _ _ _ n _ => n, fun b ob q _ => ⟨ob, k b ob q⟩, fun _ _ q => q, fun _ _ _ q => q, fun _ ps q => ⟨#[], by rw [q]; simp⟩⟩
theorem Un.refl : Un fs ex H H h h := Un.kept fun _ _ q => q
theorem Un.laid (k : ∀ b u, h.get? b = some u → h'.get? b = some u) (hp : h.objs.size ≤ a) (hn : H a = none) : Un fs ex H (upd H a o) h h' where
  keep := fun b u q _ _ _ => k b u q
  slot := fun b u q _ _ _ => ⟨u.slots, k b u q⟩
  free := fun b u q n _ => by rw [upd_ne (Nat.ne_of_lt (Nat.lt_of_lt_of_le (Heap.lt_size q) hp))]; exact n
  there := fun b u q _ => ⟨u, k b u q⟩
  tups := fun b xs q => by rw [upd_ne (ne_of_none q hn)]; exact q
  frzs := fun b u xs q => by rw [upd_ne (ne_of_none q hn)]; exact q
  tbls := fun b ps q => ⟨#[], by rw [upd_ne (ne_of_none q hn), q]; simp⟩
theorem Un.write (mu : Mut (H x)) (he : e = x ∨ H e = some (.own x)) (k : ∀ b u, b ≠ e → h.get? b = some u → h'.get? b = some u) (heo : ∃ u, h'.get? e = some u) : Un fs ex H (upd H x o) h h' := by
  have hx : ∀ b, H b = none → b ≠ x := fun b n z => by subst z; rw [n] at mu; exact mu
  have hb : ∀ b, H b = none → b ≠ e := fun b n z => by
    subst z
    rcases he with r | r
    · exact hx b n r
    · rw [n] at r; cases r
  have hm : ∀ b u, H b = some u → ¬ Mut (some u) → b ≠ x := fun b u q nm z => by subst z; rw [q] at mu; exact nm mu
  refine ⟨fun b u q n _ _ => k b u (hb b n) q, fun b u q n _ _ => ⟨u.slots, k b u (hb b n) q⟩, fun b u q n _ => by rw [upd_ne (hx b n)]; exact n, fun b u q _ => ?_,
    fun b xs q => by rw [upd_ne (hm b _ q fun z => z)]; exact q, fun b u xs q => by rw [upd_ne (hm b _ q fun z => z)]; exact q, fun b ps q => ⟨#[], by rw [upd_ne (hm b _ q fun z => z), q]; simp⟩⟩
  by_cases hbe : b = e
  · subst hbe; exact heo
  · exact ⟨u, k b u hbe q⟩
end

/-! ### the heap without what is tracked -/
noncomputable def trk (h : Heap) (H : Hp) : List Addr := (List.range h.objs.size).filter fun a => (H a).isSome
noncomputable def hidT (h : Heap) (H : Hp) : Heap := PySem.W.hideAll h (trk h H)
theorem hidT_size (h : Heap) (H : Hp) : (hidT h H).objs.size = h.objs.size := PySem.W.hideAll_size _ _
theorem hidT_get {h : Heap} {H : Hp} {b : Addr} {o : Obj} (e : h.get? b = some o) (n : H b = none) : (hidT h H).get? b = some o :=
  PySem.W.hideAll_get _ e fun hm => by
    have q : (H b).isSome = true := (List.mem_filter.mp hm).2
    rw [n] at q; simp at q
theorem of_hidT {h : Heap} {H : Hp} {b : Addr} {o : Obj} (e : (hidT h H).get? b = some o) : h.get? b = some o ∧ H b = none := by
  have e' : h.get? b = some o := PySem.W.of_hideAll (trk h H) e
  refine ⟨e', ?_⟩
  cases q : H b with
  | none => rfl
  | some x =>
    have hm : b ∈ trk h H := List.mem_filter.mpr ⟨List.mem_range.mpr (Heap.lt_size e'), by simp [q]⟩
    have z : (hidT h H).get? b = none := PySem.W.hideAll_none (trk h H) hm
    rw [z] at e; cases e

/-! ### OpenK's ledger, filled with every new object but one -/
end L2

namespace L2
open PySem PySem.Spec PyProof.Rows

/-- the module's facts, over the base: the heap at the law's entry without what is tracked there -/
structure Mod (K : PySem.W.Frag) (mg : Str → Option Value) (base : Heap) : Prop where
  kin : K.In base
  glob : base.Ns mainGlobals mg
  blt : ∃ mb, base.Ns builtinsNs mb ∧ ∀ x : Str, x ≠ "__name__" → mb x = bootBuiltins x
  nolimit : base.NoLimit

/-- the context: a def's body (or a comprehension's block) running. base: fixed through the whole law; s₀, H₀: the entry; outer: the frames whose slots others may change (a def's callers); stack: all frames that run;
   ex: iterators that were made ahead of the entry and are walked here (a comprehension's); fn: the names whose cells were made at the entry (a def: all; a comprehension's block: its own); calm: not within an except suite; pn: pins that every state bears; xe: what is wanted of an exception that leaves the code -/
structure Cx where
  prog : Program
  w : World
  K : PySem.W.Frag
  mg : Str → Option Value
  base : Heap
  A : Around
  N : List Str
  s₀ : Shared
  H₀ : Hp
  env : Env
  outer : List Env
  stack : List Env
  ex : List Addr
  fn : Str → Bool
  calm : Bool
  pn : List (Addr × Obj)
  xe : Value → Shared → Prop
/-- the callers' frames -/
noncomputable def frs (l : List Env) : List Addr := l.filterMap (·.frame)
noncomputable abbrev Cx.fs (X : Cx) : List Addr := frs X.outer

noncomputable def Vis (sc : Scope) (x : Str) : Prop := sc.names.lookup x = some .local ∨ sc.names.lookup x = some .cell ∨ sc.names.lookup x = some .free
noncomputable def Loc (sc : Scope) (x : Str) : Prop := sc.names.lookup x = some .local ∨ sc.names.lookup x = some .cell
noncomputable def Look (env : Env) (h : Heap) (m : Str → Option Value) (x : Str) (u : Value) : Prop :=
  (env.kindOf x = some .local ∧ m x = some u) ∨ ((env.kindOf x = some .cell ∨ env.kindOf x = some .free) ∧ ∃ c, env.cells.lookup x = some c ∧ h.IsCell c (some u))

structure Cx.Ok (X : Cx) : Prop where
  mod : Mod X.K X.mg X.base
  kind : X.env.scope.kind = .function
  glob : X.env.globals = mainGlobals
  blt : X.env.builtins = builtinsNs
  above : X.s₀.heap.objs.size ≤ X.env.locals
  inj : ∀ x y c, X.env.cells.lookup x = some c → X.env.cells.lookup y = some c → x = y
  has : ∀ x, (X.env.kindOf x = some .cell ∨ X.env.kindOf x = some .free) → ∃ c, X.env.cells.lookup x = some c
  cab : ∀ x c, X.fn x = true → X.env.cells.lookup x = some c → X.s₀.heap.objs.size ≤ c
  hd : X.calm = true → X.A.handled = none
  frames : X.A.frames = some X.stack
  stk : X.stack = X.outer ∨ (X.stack = X.env :: X.outer ∧ X.env.frame = some X.env.locals)
  exf : ∀ b ∈ X.ex, b ≠ X.env.locals ∧ ∀ x c, X.env.cells.lookup x = some c → c ≠ b
  bs : ∀ b o, X.base.get? b = some o → X.s₀.heap.get? b = some o ∧ X.H₀ b = none
  bsz : X.base.objs.size ≤ X.s₀.heap.objs.size
  noex : ∀ b o, X.base.get? b = some o → b ∉ X.ex
  exfs : ∀ b ∈ X.ex, b ∉ X.fs
  funs : X.s₀.heap.FunFrames X.base X.outer
  frf : ∀ b ∈ X.fs, X.H₀ b = none

structure Inv (X : Cx) (pins : List (Addr × Obj)) (σ : List (Option V)) (H : Hp) (s : Shared) : Prop where
  ok : X.Ok
  os : s.os = X.s₀.os
  bare : AllBare s.gens
  base : Un X.fs X.ex X.H₀ H X.s₀.heap s.heap
  loc : ∃ m, s.heap.Ns X.env.locals m ∧ ∀ (i : Nat) (x : Str) (v : V), X.N[i]? = some x → σ[i]? = some (some v) → Vis X.env.scope x → ∃ u, RelV v u ∧ Look X.env s.heap m x u
  cell : ∀ x c, X.env.cells.lookup x = some c → ∃ v, s.heap.IsCell c v
  free : H X.env.locals = none
  freeC : ∀ x c, X.env.cells.lookup x = some c → H c = none
  pin : ∀ p ∈ X.pn ++ pins, s.heap.get? p.1 = some p.2 ∧ H p.1 = none ∧ p.1 ≠ X.env.locals ∧ p.1 ∉ X.fs ∧ ∀ v, p.2.data ≠ .cell v
  hok : HOk X.prog X.w H s.heap
  len : σ.length = X.N.length

section
variable {X : Cx} {pins : List (Addr × Obj)} {σ : List (Option V)} {H H' : Hp} {s : Shared} {h' : Heap}

theorem Cx.Ok.nofr (ok : X.Ok) {b : Addr} {o : Obj} (e : X.base.get? b = some o) : b ∉ X.fs := fun hb => by
  have := (ok.funs.mem hb).1
  rw [e] at this; cases this
theorem Inv.bs (I : Inv X pins σ H s) : ∀ b o, X.base.get? b = some o → s.heap.get? b = some o ∧ H b = none := fun b o e =>
  ⟨I.base.keep b o (I.ok.bs b o e).1 (I.ok.bs b o e).2 (I.ok.nofr e) (I.ok.noex b o e), I.base.free b o (I.ok.bs b o e).1 (I.ok.bs b o e).2 (I.ok.noex b o e)⟩
theorem Inv.bk (I : Inv X pins σ H s) : ∀ b o, X.base.get? b = some o → s.heap.get? b = some o := fun b o e => (I.bs b o e).1
theorem Inv.mod (I : Inv X pins σ H s) : Mod X.K X.mg X.base := I.ok.mod
theorem Inv.kIn (I : Inv X pins σ H s) : X.K.In s.heap := I.ok.mod.kin.keeps I.bk
theorem Inv.lt (I : Inv X pins σ H s) : X.env.locals < s.heap.objs.size := let ⟨_, hn, _⟩ := I.loc; hn.lt
theorem Inv.sz (I : Inv X pins σ H s) : X.s₀.heap.objs.size ≤ s.heap.objs.size := Nat.le_trans I.ok.above (Nat.le_of_lt I.lt)
theorem Inv.nofs (I : Inv X pins σ H s) {a : Addr} (h : s.heap.objs.size ≤ a) : a ∉ X.fs := fun hb => by
  obtain ⟨_, o, ho, _⟩ := I.ok.funs.mem hb
  exact absurd (Nat.lt_of_lt_of_le (Heap.lt_size ho) (Nat.le_trans I.sz h)) (Nat.lt_irrefl _)
theorem Inv.cne (I : Inv X pins σ H s) : ∀ x c, X.env.cells.lookup x = some c → c ≠ X.env.locals := fun x c e z => by
  obtain ⟨v, o, ho, hd⟩ := I.cell x c e
  obtain ⟨m, ⟨o', es, ep, ho', hd', _⟩, _⟩ := I.loc
  rw [z, ho'] at ho; cases ho; rw [hd'] at hd; cases hd
theorem Inv.funs (I : Inv X pins σ H s) : s.heap.FunFrames X.base X.outer := by
  have all : ∀ (l : List Env), (∀ b ∈ frs l, b ∈ X.fs) → X.s₀.heap.FunFrames X.base l → s.heap.FunFrames X.base l := by
    intro l
    induction l with
    | nil => intro _ _; trivial
    | cons env r ih =>
      intro hs hl
      obtain ⟨hk, ⟨L, o, hf, hn, ho, hd⟩, hr⟩ := hl
      have hL : L ∈ X.fs := hs L (by unfold frs; rw [List.filterMap_cons, hf]; exact List.mem_cons_self)
      obtain ⟨sl, e⟩ := I.base.slot L o ho (I.ok.frf L hL) hL fun z => I.ok.exfs L z hL
      exact ⟨hk, ⟨L, _, hf, hn, e, hd⟩, ih (fun b hb => hs b (by unfold frs; rw [List.filterMap_cons, hf]; exact List.mem_cons_of_mem _ hb)) hr⟩
  exact all X.outer (fun _ hb => hb) I.ok.funs

/-- the frames that run, for a call -/
theorem Inv.stack (I : Inv X pins σ H s) : s.heap.FunFrames X.base X.stack := by
  rcases I.ok.stk with e | ⟨e, hf⟩
  · rw [e]; exact I.funs
  · rw [e]
    obtain ⟨m, hn, _⟩ := I.loc
    refine .cons (by rw [I.ok.kind]; decide) hf hn ?_ I.funs
    exact Heap.get?_none_of_le (Nat.le_trans I.ok.bsz I.ok.above)
theorem Inv.stkSub (I : Inv X pins σ H s) : ∀ b ∈ frs X.stack, b ∈ X.env.locals :: X.fs := fun b hb => by
  rcases I.ok.stk with e | ⟨e, hf⟩
  · rw [e] at hb; exact List.mem_cons_of_mem _ hb
  · rw [e] at hb
    unfold frs at hb
    rw [List.filterMap_cons, hf] at hb
    exact hb
theorem Inv.stkFree (I : Inv X pins σ H s) : ∀ b ∈ frs X.stack, H b = none := fun b hb => by
  rcases List.mem_cons.mp (I.stkSub b hb) with e | hb
  · rw [e]; exact I.free
  · obtain ⟨_, o, ho, _⟩ := I.ok.funs.mem hb
    exact I.base.free b o ho (I.ok.frf b hb) fun z => I.ok.exfs b z hb

/-- THE STEP: the untracked objects but the frame and the records at ch are kept (the callers' frames up to slots), the frame's map is kept, the new abstract heap is held -/
theorem Inv.step {g' : Array GenState} {t' : Nat} {d' : Drawn} {ch : List Addr} (I : Inv X pins σ H s)
    (hch : ∀ b ∈ ch, (b ∈ X.ex ∨ X.s₀.heap.objs.size ≤ b) ∧ b ≠ X.env.locals ∧ (∀ x c, X.env.cells.lookup x = some c → c ≠ b) ∧ ∀ p ∈ X.pn ++ pins, p.1 ≠ b)
    (keep : ∀ b o, b ≠ X.env.locals → b ∉ X.fs → b ∉ ch → s.heap.get? b = some o → H b = none → h'.get? b = some o)
    (slot : ∀ b o, b ≠ X.env.locals → b ∈ X.fs → b ∉ ch → s.heap.get? b = some o → H b = none → ∃ sl, h'.get? b = some { o with slots := sl }) (free : ∀ b o, b ∉ ch → s.heap.get? b = some o → H b = none → H' b = none)
    (there : ∀ b o, b ∉ ch → s.heap.get? b = some o → ∃ o', h'.get? b = some o')
    (tups : ∀ b xs, H b = some (.tup xs) → H' b = some (.tup xs)) (frzs : ∀ b o u, H b = some (.frz o u) → H' b = some (.frz o u)) (tbls : ∀ b ps, H b = some (.tbl ps) → ∃ more, H' b = some (.tbl (ps ++ more)))
    (ns : ∀ m, s.heap.Ns X.env.locals m → h'.Ns X.env.locals m) (hok : HOk X.prog X.w H' h') (hg : AllBare g') :
    Inv X pins σ H' { s with heap := h', gens := g', drawn := d', toks := t' } := by
  have neL : ∀ b o, X.s₀.heap.get? b = some o → b ≠ X.env.locals := fun b o e => Nat.ne_of_lt (Nat.lt_of_lt_of_le (Heap.lt_size e) I.ok.above)
  have neC : ∀ b o, X.s₀.heap.get? b = some o → b ∉ X.ex → b ∉ ch := fun b o e hx hb => by
    rcases (hch b hb).1 with z | z
    · exact hx z
    · exact absurd (Nat.lt_of_lt_of_le (Heap.lt_size e) z) (Nat.lt_irrefl _)
  have cellK : ∀ x c, X.env.cells.lookup x = some c → ∀ v, s.heap.IsCell c v → h'.IsCell c v := fun x c e v ⟨o, ho, hd⟩ => by
    have nch : c ∉ ch := fun z => (hch c z).2.2.1 x c e rfl
    by_cases hc : c ∈ X.fs
    · obtain ⟨sl, q⟩ := slot c o (I.cne x c e) hc nch ho (I.freeC x c e)
      exact ⟨_, q, hd⟩
    · exact ⟨o, keep c o (I.cne x c e) hc nch ho (I.freeC x c e), hd⟩
  refine ⟨I.ok, I.os, hg, ⟨fun b o e n hb hx => ?_, fun b o e n hb hx => ?_, fun b o e n hx => ?_, fun b o e hx => ?_, fun b xs e => tups b xs (I.base.tups b xs e), fun b o xs e => frzs b o xs (I.base.frzs b o xs e), fun b ps e => ?_⟩, ?_, fun x c e => ?_, ?_, fun x c e => ?_, fun p hp => ?_, hok, I.len⟩
  · exact keep b o (neL b o e) hb (neC b o e hx) (I.base.keep b o e n hb hx) (I.base.free b o e n hx)
  · obtain ⟨sl, e1⟩ := I.base.slot b o e n hb hx
    obtain ⟨sl', e2⟩ := slot b _ (neL b o e) hb (neC b o e hx) e1 (I.base.free b o e n hx)
    exact ⟨sl', e2⟩
  · obtain ⟨o', e1⟩ := I.base.there b o e hx
    exact free b o' (neC b o e hx) e1 (I.base.free b o e n hx)
  · obtain ⟨o', e1⟩ := I.base.there b o e hx
    exact there b o' (neC b o e hx) e1
  · obtain ⟨m1, e1⟩ := I.base.tbls b ps e
    obtain ⟨m2, e2⟩ := tbls b _ e1
    exact ⟨m1 ++ m2, by rw [e2, Array.append_assoc]⟩
  · obtain ⟨m, hn, hl⟩ := I.loc
    refine ⟨m, ns m hn, fun i x v e1 e2 e3 => ?_⟩
    obtain ⟨u, r, l⟩ := hl i x v e1 e2 e3
    refine ⟨u, r, ?_⟩
    rcases l with l | ⟨k, c, e, z⟩
    · exact .inl l
    · exact .inr ⟨k, c, e, cellK x c e _ z⟩
  · obtain ⟨v, z⟩ := I.cell x c e
    exact ⟨v, cellK x c e v z⟩
  · obtain ⟨m, ⟨o, _, _, ho, _⟩, _⟩ := I.loc
    exact free _ o (fun z => (hch _ z).2.1 rfl) ho I.free
  · obtain ⟨v, o, ho, hd⟩ := I.cell x c e
    exact free c o (fun z => (hch c z).2.2.1 x c e rfl) ho (I.freeC x c e)
  · obtain ⟨e, n, ne, nf, d⟩ := I.pin p hp
    have nch : p.1 ∉ ch := fun z => (hch p.1 z).2.2.2 p hp rfl
    exact ⟨keep p.1 p.2 ne nf nch e n, free p.1 p.2 nch e n, ne, nf, d⟩
/-- .. where the frame's own object is kept too -/
theorem Inv.un {t' : Nat} (I : Inv X pins σ H s) (u : Un X.fs [] H H' s.heap h') (hok : HOk X.prog X.w H' h') : Inv X pins σ H' { s with heap := h', toks := t' } := by
  obtain ⟨m, ⟨o, es, ep, ho, r⟩, _⟩ := id I.loc
  obtain ⟨sl, hL⟩ := u.any ho I.free (by simp)
  exact I.step (g' := s.gens) (d' := s.drawn) (ch := []) (fun _ z => nomatch z) (fun b o _ hb _ e n => u.keep b o e n hb (by simp)) (fun b o _ hb _ e n => u.slot b o e n hb (by simp)) (fun b o _ e n => u.free b o e n (by simp)) (fun b o _ e => u.there b o e (by simp)) u.tups u.frzs u.tbls (fun m' hm => by
    obtain ⟨o', es', ep', ho', r'⟩ := hm
    rw [ho] at ho'; cases ho'
    exact ⟨_, es', ep', hL, r'⟩) hok I.bare
/-- behind a call (or a comprehension's block): the slots of this frame may have changed too, the records at ch may have turned -/
theorem Inv.call {g' : Array GenState} {t' : Nat} {d' : Drawn} {ch : List Addr} (I : Inv X pins σ H s) (u : Un (frs X.stack) ch H H' s.heap h') (hok : HOk X.prog X.w H' h') (hg : AllBare g')
    (hch : ∀ b ∈ ch, (b ∈ X.ex ∨ X.s₀.heap.objs.size ≤ b) ∧ b ≠ X.env.locals ∧ (∀ x c, X.env.cells.lookup x = some c → c ≠ b) ∧ ∀ p ∈ X.pn ++ pins, p.1 ≠ b) :
    Inv X pins σ H' { s with heap := h', gens := g', drawn := d', toks := t' } := by
  obtain ⟨m, ⟨o, es, ep, ho, r⟩, _⟩ := id I.loc
  obtain ⟨sl, hL⟩ := u.any ho I.free fun z => (hch _ z).2.1 rfl
  exact I.step (ch := ch) hch (fun b o hL hb hc e n => u.keep b o e n (fun z => (List.mem_cons.mp (I.stkSub b z)).elim hL hb) hc) (fun b o _ _ hc e n => u.any e n hc) (fun b o hc e n => u.free b o e n hc) (fun b o hc e => u.there b o e hc) u.tups u.frzs u.tbls (fun m' hm => by
    obtain ⟨o', es', ep', ho', r'⟩ := hm
    rw [ho] at ho'; cases ho'
    exact ⟨_, es', ep', hL, r'⟩) hok hg
/-- an untracked record of ours (an iterator) has turned -/
theorem Inv.turned {t' : Nat} {it : Addr} (I : Inv X pins σ H s) (k : ∀ b o, b ≠ it → s.heap.get? b = some o → h'.get? b = some o) (hn : H it = none) (hL : it ≠ X.env.locals)
    (h1 : it ∈ X.ex ∨ X.s₀.heap.objs.size ≤ it) (h2 : ∀ x c, X.env.cells.lookup x = some c → c ≠ it) (h3 : ∀ p ∈ X.pn ++ pins, p.1 ≠ it) : Inv X pins σ H { s with heap := h', toks := t' } := by
  have nit : ∀ b u, H b = some u → b ≠ it := fun b u e z => by rw [z, hn] at e; cases e
  refine I.step (g' := s.gens) (d' := s.drawn) (ch := [it]) (fun b hb => ?_) (fun b o _ _ hc e _ => k b o (fun z => hc (by simp [z])) e) (fun b o _ _ hc e _ => ⟨o.slots, k b o (fun z => hc (by simp [z])) e⟩) (fun _ _ _ _ n => n)
    (fun b o hc e => ⟨o, k b o (fun z => hc (by simp [z])) e⟩) (fun _ _ e => e) (fun _ _ _ e => e) (fun b ps e => ⟨#[], by rw [e]; simp⟩) (fun m hm => ?_) (fun b u e => ?_) I.bare
  · have e : b = it := by simpa using hb
    subst e
    exact ⟨h1, hL, h2, h3⟩
  · obtain ⟨o, es, ep, ho, r⟩ := hm
    exact ⟨o, es, ep, k _ o (Ne.symm hL) ho, r⟩
  · refine (I.hok b u e).stay (fun c v hc q => k c v ?_ q) (fun _ q => q) fun _ _ q => q
    rcases hc with z | z
    · rw [z]; exact nit b u e
    · exact nit c _ z
theorem Inv.tok (I : Inv X pins σ H s) (t : Nat) : Inv X pins σ H { s with toks := t } := I.un (h' := s.heap) (t' := t) Un.refl I.hok
/-- all objects kept -/
theorem Inv.kept {t' : Nat} (I : Inv X pins σ H s) (k : ∀ b u, s.heap.get? b = some u → h'.get? b = some u) : Inv X pins σ H { s with heap := h', toks := t' } := I.un (Un.kept k) (I.hok.kept k)
/-- a new object laid and tracked -/
theorem Inv.laid {a : Addr} {o : HO} {t' : Nat} (I : Inv X pins σ H s) (k : ∀ b u, s.heap.get? b = some u → h'.get? b = some u) (hp : s.heap.objs.size ≤ a) (new : ObjOk X.prog X.w (upd H a o) h' a o) :
    Inv X pins σ (upd H a o) { s with heap := h', toks := t' } := I.un (Un.laid k hp (I.hok.fresh hp)) (I.hok.laid k hp new)
/-- an object written -/
theorem Inv.write {x e : Addr} {o : HO} {t' : Nat} (I : Inv X pins σ H s) (mu : Mut (H x)) (he : e = x ∨ H e = some (.own x)) (k : ∀ b u, b ≠ e → s.heap.get? b = some u → h'.get? b = some u) (heo : ∃ u, h'.get? e = some u)
    (new : ObjOk X.prog X.w (upd H x o) h' x o) : Inv X pins σ (upd H x o) { s with heap := h', toks := t' } := I.un (Un.write mu he k heo) (I.hok.write mu he k heo new)
/-- forgetting slots, pins -/
theorem Inv.weak {σ' : List (Option V)} (I : Inv X pins σ H s) (hl : σ'.length = σ.length) (w : ∀ (i : Nat) v, σ'[i]? = some (some v) → σ[i]? = some (some v)) : Inv X pins σ' H s :=
  ⟨I.ok, I.os, I.bare, I.base, let ⟨m, hn, hl'⟩ := I.loc; ⟨m, hn, fun i x v e1 e2 e3 => hl' i x v e1 (w i v e2) e3⟩, I.cell, I.free, I.freeC, I.pin, I.hok, hl.trans I.len⟩
theorem Inv.pins_of {pins' : List (Addr × Obj)} (I : Inv X pins σ H s) (h : ∀ p ∈ pins', s.heap.get? p.1 = some p.2 ∧ H p.1 = none ∧ p.1 ≠ X.env.locals ∧ p.1 ∉ X.fs ∧ ∀ v, p.2.data ≠ .cell v) : Inv X pins' σ H s :=
  ⟨I.ok, I.os, I.bare, I.base, I.loc, I.cell, I.free, I.freeC, fun p hp => (List.mem_append.mp hp).elim (fun z => I.pin p (List.mem_append_left _ z)) (h p), I.hok, I.len⟩

theorem nodup_ix {N : List Str} (hN : N.Nodup) {i j : Nat} {x : Str} (a : N[i]? = some x) (b : N[j]? = some x) : i = j := by
  obtain ⟨h1, e1⟩ := List.getElem?_eq_some_iff.mp a
  obtain ⟨h2, e2⟩ := List.getElem?_eq_some_iff.mp b
  exact (List.getElem_inj hN).mp (e1.trans e2.symm)

/-- a name is stored; what changed -/
theorem store_ok2 {M : Model} {A : Around} {E : Value → Shared → Prop} {i : Nat} {x : Str} {v : V} {u : Value} {Q : Unit → Shared → Prop} (I : Inv X pins σ H s) (hN : X.N.Nodup) (hi : X.N[i]? = some x) (hx : Loc X.env.scope x) (r : RelV v u)
    (h : ∀ s', Inv X pins (σ.set i (some v)) H s' → (∃ a, Heap.SameBut a s.heap s'.heap ∧ (a = X.env.locals ∨ X.env.cells.lookup x = some a)) → Q () s') (hf : X.fn x = true ∨ X.env.scope.names.lookup x = some .local := by first | exact .inl rfl | exact .inr rfl | assumption) : wpAny M A (storeName X.env x u) Q E s := by
  obtain ⟨m, hn, hl⟩ := id I.loc
  have hcls : (X.env.scope.kind == .class || (X.env.scope.kind == .module && X.env.locals != X.env.globals)) = false := by rw [I.ok.kind]; rfl
  have hiσ : i < σ.length := by rw [I.len]; exact (List.getElem?_eq_some_iff.mp hi).1
  have cne := I.cne
  have tracked : ∀ {a : Addr} {h' : Heap}, (∃ o, s.heap.get? a = some o ∧ H a = none) → Heap.SameBut a s.heap h' → HOk X.prog X.w H h' := fun {a h'} ha hs b ob e => by
    obtain ⟨_, _, hfree⟩ := ha
    refine (I.hok b ob e).stay (fun c w' hc q => (hs.2 c ?_).trans q) (fun _ q => q) fun _ _ q => q
    rintro rfl
    rcases hc with rfl | hc
    · rw [hfree] at e; cases e
    · rw [hfree] at hc; cases hc
  rcases hx with hk | hk
  · refine wpAny_storeName_local hk hn (fun h' hn' hs => ?_) hcls
    obtain ⟨oL, _, _, hoL, _⟩ := id hn
    refine h _ ⟨I.ok, I.os, I.bare, ⟨fun b o e n hb hx => ?_, fun b o e n hb hx => ?_, I.base.free, fun b o e hx => ?_, I.base.tups, I.base.frzs, I.base.tbls⟩, ⟨_, hn', fun j y v' e1 e2 e3 => ?_⟩, fun y c e => ?_, I.free, I.freeC, fun p hp => ?_, tracked ⟨oL, hoL, I.free⟩ hs, by simpa using I.len⟩ ⟨_, hs, .inl rfl⟩
    · exact (hs.2 b (Nat.ne_of_lt (Nat.lt_of_lt_of_le (Heap.lt_size e) I.ok.above))).trans (I.base.keep b o e n hb hx)
    · obtain ⟨sl, e1⟩ := I.base.slot b o e n hb hx
      exact ⟨sl, (hs.2 b (Nat.ne_of_lt (Nat.lt_of_lt_of_le (Heap.lt_size e) I.ok.above))).trans e1⟩
    · obtain ⟨o', e1⟩ := I.base.there b o e hx
      exact ⟨o', (hs.2 b (Nat.ne_of_lt (Nat.lt_of_lt_of_le (Heap.lt_size e) I.ok.above))).trans e1⟩
    · by_cases hj : j = i
      · subst hj
        rw [hi] at e1; cases e1
        rw [List.getElem?_set_self hiσ] at e2
        cases e2
        exact ⟨u, r, .inl ⟨hk, by simp⟩⟩
      · rw [List.getElem?_set_ne (Ne.symm hj)] at e2
        obtain ⟨u', r', q⟩ := hl j y v' e1 e2 e3
        refine ⟨u', r', ?_⟩
        rcases q with ⟨k, e⟩ | ⟨k, c, e, z⟩
        · refine .inl ⟨k, ?_⟩
          have : y ≠ x := fun e => hj (nodup_ix hN e1 (e ▸ hi))
          simp [this, e]
        · exact .inr ⟨k, c, e, z.sameBut hs (cne y c e)⟩
    · obtain ⟨w', z⟩ := I.cell y c e
      exact ⟨w', z.sameBut hs (cne y c e)⟩
    · obtain ⟨e, n, ne, nf, d⟩ := I.pin p hp
      exact ⟨(hs.2 p.1 ne).trans e, n, ne, nf, d⟩
  · have hfn : X.fn x = true := by
      rcases hf with z | z
      · exact z
      · rw [z] at hk; cases hk
    obtain ⟨c, hc⟩ := I.ok.has x (.inl hk)
    obtain ⟨w', z⟩ := I.cell x c hc
    refine wpAny_storeName_cell I.ok.kind hk hc z (fun h' hc' hs => ?_)
    obtain ⟨oc, hoc, hocd⟩ := id z
    refine h { s with heap := h' } ⟨I.ok, I.os, I.bare, ⟨fun b o e n hb hx => ?_, fun b o e n hb hx => ?_, I.base.free, fun b o e hx => ?_, I.base.tups, I.base.frzs, I.base.tbls⟩, ⟨m, hn.sameBut hs (Ne.symm (cne x c hc)), fun j y v' e1 e2 e3 => ?_⟩, fun y c' e => ?_, I.free, I.freeC, fun p hp => ?_, tracked ⟨oc, hoc, I.freeC x c hc⟩ hs, by simpa using I.len⟩ ⟨c, hs, .inr hc⟩
    · exact (hs.2 b (Nat.ne_of_lt (Nat.lt_of_lt_of_le (Heap.lt_size e) (I.ok.cab x c hfn hc)))).trans (I.base.keep b o e n hb hx)
    · obtain ⟨sl, e1⟩ := I.base.slot b o e n hb hx
      exact ⟨sl, (hs.2 b (Nat.ne_of_lt (Nat.lt_of_lt_of_le (Heap.lt_size e) (I.ok.cab x c hfn hc)))).trans e1⟩
    · obtain ⟨o', e1⟩ := I.base.there b o e hx
      exact ⟨o', (hs.2 b (Nat.ne_of_lt (Nat.lt_of_lt_of_le (Heap.lt_size e) (I.ok.cab x c hfn hc)))).trans e1⟩
    · by_cases hj : j = i
      · subst hj
        rw [hi] at e1; cases e1
        rw [List.getElem?_set_self hiσ] at e2
        cases e2
        exact ⟨u, r, .inr ⟨.inl hk, c, hc, hc'⟩⟩
      · rw [List.getElem?_set_ne (Ne.symm hj)] at e2
        obtain ⟨u', r', q⟩ := hl j y v' e1 e2 e3
        refine ⟨u', r', ?_⟩
        rcases q with q | ⟨k, c', e, z'⟩
        · exact .inl q
        · refine .inr ⟨k, c', e, z'.sameBut hs ?_⟩
          rintro rfl
          exact hj (nodup_ix hN e1 (I.ok.inj _ _ _ e hc ▸ hi))
    · by_cases hcc : c' = c
      · subst hcc; exact ⟨_, hc'⟩
      · obtain ⟨w2, z2⟩ := I.cell y c' e
        exact ⟨w2, z2.sameBut hs hcc⟩
    · obtain ⟨e, n, ne, nf, d⟩ := I.pin p hp
      refine ⟨(hs.2 p.1 ?_).trans e, n, ne, nf, d⟩
      intro q
      rw [q, hoc] at e
      have q' : oc = p.2 := Option.some.inj e
      exact d w' (by rw [← q']; exact hocd)
theorem store_ok {M : Model} {A : Around} {E : Value → Shared → Prop} {i : Nat} {x : Str} {v : V} {u : Value} {Q : Unit → Shared → Prop} (I : Inv X pins σ H s) (hN : X.N.Nodup) (hi : X.N[i]? = some x) (hx : Loc X.env.scope x) (r : RelV v u)
    (h : ∀ s', Inv X pins (σ.set i (some v)) H s' → Q () s') (hf : X.fn x = true ∨ X.env.scope.names.lookup x = some .local := by first | exact .inl rfl | exact .inr rfl | assumption) : wpAny M A (storeName X.env x u) Q E s :=
  store_ok2 I hN hi hx r (fun s' I' _ => h s' I') hf
/-- behind a call or a block, the state as it is -/
theorem Inv.call' {s' : Shared} {ch : List Addr} (I : Inv X pins σ H s) (ho : s'.os = s.os) (u : Un (frs X.stack) ch H H' s.heap s'.heap) (hok : HOk X.prog X.w H' s'.heap) (hg : AllBare s'.gens)
    (hch : ∀ b ∈ ch, (b ∈ X.ex ∨ X.s₀.heap.objs.size ≤ b) ∧ b ≠ X.env.locals ∧ (∀ x c, X.env.cells.lookup x = some c → c ≠ b) ∧ ∀ p ∈ X.pn ++ pins, p.1 ≠ b) : Inv X pins σ H' s' := by
  obtain ⟨h', g', d', t', o'⟩ := s'
  have e : o' = s.os := ho
  subst e
  exact I.call (g' := g') (t' := t') (d' := d') u hok hg hch
end

/-! ### the judgements -/
/-- an exception: its class, its own dict's address (where it has one), the abstract heap behind it -/
noncomputable abbrev XK := Value → Option Addr → Hp → Prop
noncomputable abbrev St := List (Option V)
noncomputable abbrev VK := V → Hp → Prop
/-- an expression's reading; a test's; an argument list's -/
noncomputable abbrev TE := St → Hp → VK → Prop
noncomputable abbrev TT := St → Hp → (Bool → Hp → Prop) → Prop
noncomputable abbrev TA := St → Hp → (List V → Hp → Prop) → Prop
/-- what is wanted behind a statement -/
structure Ends where
  nx : St → Hp → Prop
  rt : VK
  bk : St → Hp → Prop := fun _ _ => False
  ct : St → Hp → Prop := fun _ _ => False
noncomputable abbrev TS := Ends → St → Hp → Prop

noncomputable def EP (X : Cx) (pins : List (Addr × Obj)) (σ : St) (Q : VK) (u : Value) (s' : Shared) : Prop := ∃ v H', Inv X pins σ H' s' ∧ RelV v u ∧ Q v H'
noncomputable def TP (X : Cx) (pins : List (Addr × Obj)) (σ : St) (Q : Bool → Hp → Prop) (b : Bool) (s' : Shared) : Prop := ∃ H', Inv X pins σ H' s' ∧ Q b H'
noncomputable def AP (X : Cx) (pins : List (Addr × Obj)) (σ : St) (Q : List V → Hp → Prop) (us : List Value) (s' : Shared) : Prop := ∃ vs H', Inv X pins σ H' s' ∧ Vals vs us ∧ Q vs H'
noncomputable def SP (X : Cx) (pins : List (Addr × Obj)) (D : Ends) (f : Flow) (s' : Shared) : Prop :=
  match f with
  | .next => ∃ σ' H', Inv X pins σ' H' s' ∧ D.nx σ' H'
  | .brk => ∃ σ' H', Inv X pins σ' H' s' ∧ D.bk σ' H'
  | .cont => ∃ σ' H', Inv X pins σ' H' s' ∧ D.ct σ' H'
  | .ret u => ∃ v σ' H', Inv X pins σ' H' s' ∧ RelV v u ∧ D.rt v H'

noncomputable def PE (X : Cx) (e : Expr) (t : TE) : Prop :=
  ∀ (pins : List (Addr × Obj)) (s : Shared) (σ : St) (H : Hp) (Q : VK), Inv X pins σ H s → t σ H Q → wpAny (model X.prog X.w) X.A (eval e X.env) (EP X pins σ Q) X.xe s
noncomputable def PT (X : Cx) (e : Expr) (t : TT) : Prop :=
  ∀ (pins : List (Addr × Obj)) (s : Shared) (σ : St) (H : Hp) (Q : Bool → Hp → Prop), Inv X pins σ H s → t σ H Q → wpAny (model X.prog X.w) X.A (isTrue e X.env (eval e X.env)) (TP X pins σ Q) X.xe s
/-- a test whatever its 'whole' is (and, or) -/
noncomputable def PW (X : Cx) (e : Expr) (t : TT) : Prop :=
  ∀ (whole : Sem Value) (pins : List (Addr × Obj)) (s : Shared) (σ : St) (H : Hp) (Q : Bool → Hp → Prop), Inv X pins σ H s → t σ H Q → wpAny (model X.prog X.w) X.A (isTrue e X.env whole) (TP X pins σ Q) X.xe s
theorem PW.pt {X : Cx} {e : Expr} {t : TT} (h : PW X e t) : PT X e t := h _
/-- an argument list (no star), from the left -/
noncomputable def PA (X : Cx) (es : List Expr) (t : TA) : Prop :=
  ∀ (pos : Pos) (pins : List (Addr × Obj)) (s : Shared) (σ : St) (H : Hp) (Q : List V → Hp → Prop), Inv X pins σ H s → t σ H Q → wpAny (model X.prog X.w) X.A (spliced (backTo pos (starEach es X.env))) (AP X pins σ Q) X.xe s
noncomputable def PS (X : Cx) (st : Stmt) (t : TS) : Prop :=
  ∀ (pins : List (Addr × Obj)) (s : Shared) (σ : St) (H : Hp) (D : Ends), Inv X pins σ H s → t D σ H → wpAny (model X.prog X.w) X.A (exec st X.env) (SP X pins D) X.xe s
noncomputable def PSs (X : Cx) (st : List Stmt) (t : TS) : Prop :=
  ∀ (pins : List (Addr × Obj)) (s : Shared) (σ : St) (H : Hp) (D : Ends), Inv X pins σ H s → t D σ H → wpAny (model X.prog X.w) X.A (execs st X.env) (SP X pins D) X.xe s
/-- weaken the end -/
theorem thn {α : Type} {t : Sem α} {Q Q' : α → Shared → Prop} {M : Model} {A : Around} {E : Value → Shared → Prop} {s : Shared} (h : wpAny M A t Q E s) (hQ : ∀ a s, Q a s → Q' a s) : wpAny M A t Q' E s := wpAny_mono h hQ fun _ _ x => x
end L2

namespace L2
open PySem PySem.Spec PyProof.Rows
section
variable {X : Cx}

/-! ### names and constants -/
noncomputable def tVar (i : Nat) : TE := fun σ H Q => ∃ v, σ[i]? = some (some v) ∧ Q v H
noncomputable def tC (v : V) : TE := fun _ H Q => Q v H
theorem pe_var {i : Nat} {x : Str} {pos : Pos} (hN : X.N[i]? = some x) (hv : Vis X.env.scope x) (hd : (x == ("__debug__" : Str)) = false := by decide) (hcd : (x == ("__classdict__" : Str)) = false := by decide) : PE X (.Name x pos) (tVar i) := by
  intro pins s σ H Q I h
  obtain ⟨v, e, h⟩ := h
  obtain ⟨m, hn, hl⟩ := I.loc
  obtain ⟨u, r, l⟩ := hl i x v hN e hv
  have fin : EP X pins σ Q u s := ⟨v, H, I, r, h⟩
  rcases l with ⟨hk, hm⟩ | ⟨hk, c, hc, hcell⟩
  · exact wpAny_Name (wpAny_loadName_local I.ok.kind hk hn hm fin) hd
  · rcases hk with hk | hk
    · exact wpAny_Name (wpAny_loadName_cell I.ok.kind hk hc hcell fin) hd
    · exact wpAny_Name (wpAny_loadName_free I.ok.kind hk hc hcell fin hcd) hd
theorem pe_int {i j pos} : PE X (.Constant (.int i) j pos) (tC (.int i)) := fun _ _ _ H _ I h => wpAny_Constant_int ⟨.int i, H, I.tok _, ⟨_, rfl⟩, h⟩
theorem pe_bl {b j pos} : PE X (.Constant (.bool b) j pos) (tC (.bl b)) := fun _ _ _ H _ I h => Constant_bool ⟨.bl b, H, I, rfl, h⟩
theorem pe_non {j pos} : PE X (.Constant .none j pos) (tC .non) := fun _ _ _ H _ I h => Constant_none ⟨.non, H, I, rfl, h⟩
theorem pe_str {x j pos} : PE X (.Constant (.str x) j pos) (tC (.str x)) := fun _ _ _ H _ I h => Calls.Constant_str ⟨.str x, H, I.tok _, ⟨_, rfl⟩, h⟩

/-- a global name of the def -/
noncomputable def Gl (X : Cx) (x : Str) : Prop := X.env.kindOf x = some .globalImplicit
theorem ld_glob {E : Value → Shared → Prop} {pins : List (Addr × Obj)} {s : Shared} {σ : St} {H : Hp} {x : Str} {u : Value} {pos : Pos} {Q : Value → Shared → Prop} (I : Inv X pins σ H s) (hg : Gl X x) (hm : X.mg x = some u) (h : Q u s)
    (hd : (x == ("__debug__" : Str)) = false := by decide) : wpAny (model X.prog X.w) X.A (eval (.Name x pos) X.env) Q E s :=
  Calls.Name_function_global I.ok.kind hg (Calls.loadGlobal_global (by rw [I.ok.glob]; exact I.mod.glob.keeps I.bk) hm h) hd
theorem ld_blt {E : Value → Shared → Prop} {pins : List (Addr × Obj)} {s : Shared} {σ : St} {H : Hp} {x : Str} {u : Value} {pos : Pos} {Q : Value → Shared → Prop} (I : Inv X pins σ H s) (hg : Gl X x) (hm : X.mg x = none) (hv : bootBuiltins x = some u) (h : Q u s)
    (hn : x ≠ "__name__" := by decide) (hd : (x == ("__debug__" : Str)) = false := by decide) : wpAny (model X.prog X.w) X.A (eval (.Name x pos) X.env) Q E s := by
  obtain ⟨mb, h1, h2⟩ := I.mod.blt
  exact Calls.Name_function_global I.ok.kind hg (Calls.loadGlobal_builtin (by rw [I.ok.glob]; exact I.mod.glob.keeps I.bk) hm (by rw [I.ok.blt]; exact h1.keeps I.bk) ((h2 x hn).trans hv) h) hd
/-! ### arithmetic -/
variable {a b : Expr} {ta tb : TE} {pos : Pos}
/-! ### comparisons -/
/-- a comparison as a value, as a test -/
noncomputable def tB (t : TE) : TT := fun σ H Q => t σ H fun x H1 => ∃ c, x = .bl c ∧ Q c H1
/-- an expression whose value is a bool, as a test -/
theorem pt_val {e : Expr} {t : TE} (h : PE X e t) (he : ∀ whole, isTrue e X.env whole = (do let v ← whole; standAt e.pos; holding [v] (truthy v)) := by intro _; rfl) : PT X e (tB t) := by
  intro pins s σ H Q I hw
  refine isTrue_plain (thn (h pins s σ H _ I hw) fun v s1 ⟨x, H1, I1, r1, q1⟩ => ?_) (he _)
  obtain ⟨d, rfl, q⟩ := q1
  cases r1
  exact wpAny_truthy_bool ⟨H1, I1, q⟩

/-! ### and, or, not -/
variable {tA tB' : TT} {rest : List Expr}
noncomputable def tAnd (t u : TT) : TT := fun σ H Q => t σ H fun c H1 => if c = true then u σ H1 Q else Q false H1
noncomputable def tOr (t u : TT) : TT := fun σ H Q => t σ H fun c H1 => if c = true then Q true H1 else u σ H1 Q
noncomputable def tNot (t : TT) : TT := fun σ H Q => t σ H fun c H1 => Q (!c) H1
theorem pw_and1 (ha : PT X a tA) : PW X (.BoolOp .And [a] pos) tA := by
  intro wh pins s σ H Q I h
  refine isTrue_and (thn (ha pins s σ H Q I h) fun c s1 e => ?_)
  cases c with
  | true => exact isTrue_and_nil e
  | false => exact e
theorem pw_or1 (ha : PT X a tA) : PW X (.BoolOp .Or [a] pos) tA := by
  intro wh pins s σ H Q I h
  refine isTrue_or (thn (ha pins s σ H Q I h) fun c s1 e => ?_)
  cases c with
  | false => exact isTrue_or_nil e
  | true => exact e
theorem pw_and (ha : PT X a tA) (hb : PW X (.BoolOp .And (b :: rest) pos) tB') : PW X (.BoolOp .And (a :: b :: rest) pos) (tAnd tA tB') := by
  intro wh pins s σ H Q I h
  refine isTrue_and (thn (ha pins s σ H _ I h) fun c s1 ⟨H1, I1, q1⟩ => ?_)
  cases c with
  | true => exact hb wh pins s1 σ H1 Q I1 q1
  | false => exact ⟨H1, I1, q1⟩
theorem pw_or (ha : PT X a tA) (hb : PW X (.BoolOp .Or (b :: rest) pos) tB') : PW X (.BoolOp .Or (a :: b :: rest) pos) (tOr tA tB') := by
  intro wh pins s σ H Q I h
  refine isTrue_or (thn (ha pins s σ H _ I h) fun c s1 ⟨H1, I1, q1⟩ => ?_)
  cases c with
  | true => exact ⟨H1, I1, q1⟩
  | false => exact hb wh pins s1 σ H1 Q I1 q1
theorem pt_not (ha : PT X a tA) : PT X (.UnaryOp .Not a pos) (tNot tA) := by
  intro pins s σ H Q I h
  exact isTrue_not (ha pins s σ H (fun c H1 => Q (!c) H1) I h)
/-- .. as values (bools) -/
noncomputable def tAndV (ta tb : TE) : TE := fun σ H Q => ta σ H fun x H1 => ∃ c, x = .bl c ∧ if c = true then tb σ H1 Q else Q (.bl false) H1
noncomputable def tOrV (ta tb : TE) : TE := fun σ H Q => ta σ H fun x H1 => ∃ c, x = .bl c ∧ if c = true then Q (.bl true) H1 else tb σ H1 Q
theorem pe_one {op} {t : TE} (h : PE X a t) : PE X (.BoolOp op [a] pos) t := fun pins s σ H Q I hw => BoolOp_one (h pins s σ H Q I hw)
theorem pe_and (ha : PE X a ta) (hb : PE X (.BoolOp .And (b :: rest) pos) tb) : PE X (.BoolOp .And (a :: b :: rest) pos) (tAndV ta tb) := by
  intro pins s σ H Q I h
  refine BoolOp_and (thn (ha pins s σ H _ I h) fun v s1 ⟨x, H1, I1, r1, q1⟩ => ?_)
  obtain ⟨c, rfl, q1⟩ := q1
  cases r1
  refine wpAny_truthy_bool ?_
  cases c with
  | true => exact hb pins s1 σ H1 Q I1 q1
  | false => exact ⟨.bl false, H1, I1, rfl, q1⟩
theorem pe_or (ha : PE X a ta) (hb : PE X (.BoolOp .Or (b :: rest) pos) tb) : PE X (.BoolOp .Or (a :: b :: rest) pos) (tOrV ta tb) := by
  intro pins s σ H Q I h
  refine BoolOp_or (thn (ha pins s σ H _ I h) fun v s1 ⟨x, H1, I1, r1, q1⟩ => ?_)
  obtain ⟨c, rfl, q1⟩ := q1
  cases r1
  refine wpAny_truthy_bool ?_
  cases c with
  | false => exact hb pins s1 σ H1 Q I1 q1
  | true => exact ⟨.bl true, H1, I1, rfl, q1⟩
end
end L2

namespace L2
open PySem PySem.Spec PyProof.Rows

/-! ### a list, a tuple that is read: tracked, frozen, or an object of the module -/
noncomputable def SqL (K : PySem.W.Frag) (H : Hp) (a : Addr) (xs : List V) : Prop :=
  Rd H a (.lst xs) ∨
    ∃ (o : Obj) (its : Array Value) (n : Nat), K.lookup a = some o ∧ o.cls = .type "list" ∧ o.dict = none ∧ o.data = .seq its n ∧ its.size ≤ sizeLine ∧ Vals xs its.toList
noncomputable def SqT (K : PySem.W.Frag) (H : Hp) (a : Addr) (xs : List V) : Prop :=
  Rd H a (.tup xs) ∨
    ∃ (o : Obj) (its : Array Value) (n : Nat), K.lookup a = some o ∧ o.cls = .type "tuple" ∧ o.data = .seq its n ∧ its.size ≤ sizeLine ∧ Vals xs its.toList
noncomputable def absV : Value → Option V
  | .none => some .non
  | .bool b => some (.bl b)
  | .int i _ => some (.int i)
  | .str x _ => some (.str x)
  | .bytes b _ => some (.byt b)
  | .float b _ => some (.flt b)
  | .ref a => some (.ref a)
  | .type n => some (.ty n)
  | _ => none
theorem RelV.abs {x : V} {u : Value} (r : RelV x u) : absV u = some x := by
  cases x with
  | non => cases r; rfl
  | bl _ => cases r; rfl
  | int _ => obtain ⟨t, rfl⟩ := r; rfl
  | str _ => obtain ⟨t, rfl⟩ := r; rfl
  | byt _ => obtain ⟨t, rfl⟩ := r; rfl
  | flt _ => obtain ⟨t, rfl⟩ := r; rfl
  | ref _ => cases r; rfl
  | ty _ => cases r; rfl
theorem RelV.inj {x y : V} {u : Value} (r : RelV x u) (q : RelV y u) : x = y := Option.some.inj (r.abs.symm.trans q.abs)
theorem Vals.inj : ∀ {xs ys : List V} {us : List Value}, Vals xs us → Vals ys us → xs = ys
  | _, _, _, .nil, .nil => rfl
  | _, _, _, .cons r t, .cons r' t' => by rw [r.inj r', Vals.inj t t']
section
variable {X : Cx} {pins : List (Addr × Obj)} {σ : St} {H : Hp} {s : Shared} {a : Addr} {xs ys : List V}
theorem SqL.of {K : PySem.W.Frag} (h : H a = some (.lst xs)) : SqL K H a xs := .inl (.inl h)
theorem SqT.of {K : PySem.W.Frag} (h : H a = some (.tup xs)) : SqT K H a xs := .inl (.inl h)
theorem Inv.list (I : Inv X pins σ H s) (h : SqL X.K H a xs) : ∃ its : List Value, Vals xs its ∧ PlainL s.heap a its.toArray ∧ xs.length ≤ sizeLine := by
  rcases h with h | ⟨o, its, n, hk, hc, hd, hs, hz, r⟩
  · obtain ⟨z, its, n, r, e⟩ := h.ok I.hok
    exact ⟨its, r, ⟨_, n, e, rfl, rfl, rfl⟩, z⟩
  · refine ⟨its.toList, r, ⟨o, n, I.kIn a o hk, hc, hd, by simpa using hs⟩, ?_⟩
    have e := r.length
    simp only [Array.length_toList] at e
    omega
theorem Inv.tuple (I : Inv X pins σ H s) (h : SqT X.K H a xs) : ∃ its : List Value, Vals xs its ∧ IsTup s.heap a its.toArray ∧ xs.length ≤ sizeLine := by
  rcases h with h | ⟨o, its, n, hk, hc, hs, hz, r⟩
  · obtain ⟨z, its, r, p⟩ := h.ok I.hok
    exact ⟨its, r, p, z⟩
  · refine ⟨its.toList, r, ⟨o, I.kIn a o hk, hc, n, by simpa using hs⟩, ?_⟩
    have e := r.length
    simp only [Array.length_toList] at e
    omega
theorem Inv.list_inj (I : Inv X pins σ H s) (h : SqL X.K H a xs) (h' : SqL X.K H a ys) : xs = ys := by
  obtain ⟨its, r, ⟨o, n, e, _, _, d⟩, _⟩ := I.list h
  obtain ⟨its', r', ⟨o', n', e', _, _, d'⟩, _⟩ := I.list h'
  rw [e] at e'; cases e'
  rw [d] at d'
  injection d' with d1 _
  have : its = its' := by simpa using congrArg Array.toList d1
  subst this
  exact r.inj r'
end

/-! ### another wish about exceptions -/
noncomputable abbrev Cx.wish (X : Cx) (E : Value → Shared → Prop) : Cx := { X with xe := E }
/-- no exception leaves -/
noncomputable abbrev Cx.nox (X : Cx) : Cx := X.wish fun _ _ => False
theorem Cx.Ok.wish {X : Cx} (ok : X.Ok) (E : Value → Shared → Prop) : (X.wish E).Ok :=
  ⟨ok.mod, ok.kind, ok.glob, ok.blt, ok.above, ok.inj, ok.has, ok.cab, ok.hd, ok.frames, ok.stk, ok.exf, ok.bs, ok.bsz, ok.noex, ok.exfs, ok.funs, ok.frf⟩
theorem Cx.Ok.unwish {X : Cx} {E : Value → Shared → Prop} (ok : (X.wish E).Ok) : X.Ok :=
  ⟨ok.mod, ok.kind, ok.glob, ok.blt, ok.above, ok.inj, ok.has, ok.cab, ok.hd, ok.frames, ok.stk, ok.exf, ok.bs, ok.bsz, ok.noex, ok.exfs, ok.funs, ok.frf⟩
section
variable {X : Cx} {pins : List (Addr × Obj)} {σ : St} {H : Hp} {s : Shared} {E : Value → Shared → Prop}
theorem Inv.wish (I : Inv X pins σ H s) (E : Value → Shared → Prop) : Inv (X.wish E) pins σ H s := ⟨I.ok.wish E, I.os, I.bare, I.base, I.loc, I.cell, I.free, I.freeC, I.pin, I.hok, I.len⟩
theorem Inv.unwish (I : Inv (X.wish E) pins σ H s) : Inv X pins σ H s := ⟨I.ok.unwish, I.os, I.bare, I.base, I.loc, I.cell, I.free, I.freeC, I.pin, I.hok, I.len⟩
theorem SP.unwish {D : Ends} {f : Flow} {s' : Shared} (h : SP (X.wish E) pins D f s') : SP X pins D f s' := by
  cases f with
  | next => obtain ⟨σ', H', I, q⟩ := h; exact ⟨σ', H', I.unwish, q⟩
  | brk => obtain ⟨σ', H', I, q⟩ := h; exact ⟨σ', H', I.unwish, q⟩
  | cont => obtain ⟨σ', H', I, q⟩ := h; exact ⟨σ', H', I.unwish, q⟩
  | ret u => obtain ⟨v, σ', H', I, r, q⟩ := h; exact ⟨v, σ', H', I.unwish, r, q⟩
theorem PSs.nox {st : List Stmt} {t : TS} (h : PSs X.nox st t) : PSs X st t := fun pins s σ H D I hw =>
  wpAny_mono (h pins s σ H D (I.wish _) hw) (fun _ _ q => q.unwish) fun _ _ z => False.elim z
end

/-! ### blocks and small statements -/
section
variable {X : Cx} {st : Stmt} {rest : List Stmt} {t u : TS} {e : Expr} {te : TE} {pos : Pos}
noncomputable def tNext : TS := fun D σ H => D.nx σ H
noncomputable def tSeq (t u : TS) : TS := fun D σ H => t { D with nx := u D } σ H
theorem pss_nil : PSs X [] tNext := fun _ _ σ H _ I h => wpAny_execs_nil ⟨σ, H, I, h⟩
theorem pss_cons (h1 : PS X st t) (h2 : PSs X rest u) : PSs X (st :: rest) (tSeq t u) := by
  intro pins s σ H D I h
  refine wpAny_execs_cons (thn (h1 pins s σ H { D with nx := u D } I h) fun f s1 q => ?_)
  cases f with
  | next =>
    obtain ⟨σ', H', I', q⟩ := q
    exact h2 pins s1 σ' H' D I' q
  | ret v => exact q
  | brk => exact q
  | cont => exact q
theorem pss_one (h1 : PS X st t) : PSs X [st] t := by
  intro pins s σ H D I h
  refine wpAny_execs_cons (thn (h1 pins s σ H D I h) fun f s1 q => ?_)
  cases f with
  | next => exact wpAny_execs_nil q
  | ret v => exact q
  | brk => exact q
  | cont => exact q
/-- in a def's body nothing is shown -/
theorem Inv.quiet {pins : List (Addr × Obj)} {σ : St} {H : Hp} {s : Shared} (I : Inv X pins σ H s) : interactive X.env = false := by simp [interactive, I.ok.kind]
/-- an expression whose value is dropped -/
noncomputable def tDrop (te : TE) : TS := fun D σ H => te σ H fun _ H1 => D.nx σ H1
theorem ps_expr (he : PE X e te) (hs : swapsWith e none pos.line X.env = pure false := by rfl) : PS X (.Expr e pos) (tDrop te) := by
  intro pins s σ H D I h
  exact wpAny_Expr_any (thn (he pins s σ H _ I h) fun v s1 ⟨x, H1, I1, r1, q1⟩ => ⟨σ, H1, I1, q1⟩) I.quiet hs
noncomputable def tRet (te : TE) : TS := fun D σ H => te σ H D.rt
theorem ps_ret (he : PE X e te) : PS X (.Return (some e) pos) (tRet te) := by
  intro pins s σ H D I h
  exact wpAny_Return_some (thn (he pins s σ H _ I h) fun v s1 ⟨x, H1, I1, r1, q1⟩ => ⟨x, σ, H1, I1, r1, q1⟩)
noncomputable def tIfS (c : TT) (t u : TS) : TS := fun D σ H => c σ H fun b H1 => if b = true then t D σ H1 else u D σ H1
theorem ps_if {c : Expr} {a b : List Stmt} {tc : TT} (hc : PT X c tc) (ha : PSs X a t) (hb : PSs X b u) : PS X (.If c a b pos) (tIfS tc t u) := by
  intro pins s σ H D I h
  refine wpAny_If (thn (hc pins s σ H _ I h) fun d s1 ⟨H1, I1, q1⟩ => ?_)
  cases d with
  | true => exact ha pins s1 σ H1 D I1 q1
  | false => exact hb pins s1 σ H1 D I1 q1
end

/-! ### targets -/
noncomputable abbrev TG := V → St → Hp → (St → Hp → Prop) → Prop
noncomputable abbrev TGs := List V → St → Hp → (St → Hp → Prop) → Prop
noncomputable def PG (X : Cx) (target : Expr) (t : TG) : Prop :=
  ∀ (pins : List (Addr × Obj)) (s : Shared) (σ : St) (H : Hp) (v : V) (u : Value) (Q : St → Hp → Prop), Inv X pins σ H s → RelV v u → t v σ H Q →
    wpAny (model X.prog X.w) X.A (assign target X.env u) (fun _ s' => ∃ σ' H', Inv X pins σ' H' s' ∧ Q σ' H') X.xe s
/-- several targets, one after another -/
noncomputable def PGs (X : Cx) (ts : List Expr) (t : TGs) : Prop :=
  ∀ (pins : List (Addr × Obj)) (s : Shared) (σ : St) (H : Hp) (vs : List V) (us : List Value) (Q : St → Hp → Prop), Inv X pins σ H s → Vals vs us → t vs σ H Q →
    wpAny (model X.prog X.w) X.A (assignInOrder ((assignEach ts X.env).map (·.2)) us) (fun _ s' => ∃ σ' H', Inv X pins σ' H' s' ∧ Q σ' H') X.xe s
/-- o[i] = v, by values -/
noncomputable abbrev TSet := V → V → V → Hp → (Hp → Prop) → Prop
noncomputable def PSet (X : Cx) (t : TSet) : Prop :=
  ∀ (pins : List (Addr × Obj)) (s : Shared) (σ : St) (H : Hp) (o i v : V) (ov iv u : Value) (Q : Hp → Prop), Inv X pins σ H s → RelV o ov → RelV i iv → RelV v u → t o i v H Q →
    wpAny (model X.prog X.w) X.A (setItem ov iv u) (fun _ s' => ∃ H', Inv X pins σ H' s' ∧ Q H') X.xe s
section
variable {X : Cx} {pos : Pos}
noncomputable def gName (i : Nat) : TG := fun v σ H Q => Q (σ.set i (some v)) H
theorem pg_name {i : Nat} {x : Str} (hN : X.N.Nodup) (hi : X.N[i]? = some x) (hx : Loc X.env.scope x) (hf : X.fn x = true ∨ X.env.scope.names.lookup x = some .local := by first | exact .inl rfl | exact .inr rfl | assumption) : PG X (.Name x pos) (gName i) := by
  intro pins s σ H v u Q I r h
  exact wpAny_assign_Name (store_ok I hN hi hx r (fun s' I' => ⟨_, H, I', h⟩) hf)
noncomputable def gNil : TGs := fun vs σ H Q => vs = [] ∧ Q σ H
noncomputable def gCons (t : TG) (u : TGs) : TGs := fun vs σ H Q => ∃ v r, vs = v :: r ∧ t v σ H fun σ' H' => u r σ' H' Q
theorem pgs_nil : PGs X [] gNil := by
  intro pins s σ H vs us Q I r h
  obtain ⟨e, h⟩ := h
  subst e
  cases r
  exact assignInOrder_nil ⟨σ, H, I, h⟩
theorem pgs_cons {e : Expr} {es : List Expr} {t : TG} {u : TGs} (h1 : PG X e t) (h2 : PGs X es u)
    (hs : (assignEach (e :: es) X.env).map (·.2) = assign e X.env :: (assignEach es X.env).map (·.2) := by rfl) : PGs X (e :: es) (gCons t u) := by
  intro pins s σ H vs us Q I r h
  obtain ⟨v, vr, e1, h⟩ := h
  subst e1
  cases r with
  | cons r rr =>
    rw [hs]
    refine assignInOrder_cons (thn (h1 pins s σ H _ _ _ I r h) fun _ s1 ⟨σ1, H1, I1, q1⟩ => ?_)
    exact h2 pins s1 σ1 H1 _ _ Q I1 rr q1
/-- (a, b, ..) = a tuple of that length -/
noncomputable def gTup (K : PySem.W.Frag) (n : Nat) (t : TGs) : TG := fun v σ H Q => ∃ a xs, v = .ref a ∧ SqT K H a xs ∧ xs.length = n ∧ t xs σ H Q
theorem pg_tup {es : List Expr} {k : Nat} {t : TGs} {n : Nat} (hc : X.calm = true) (h : PGs X es t)
    (hn : (assignEach es X.env).length = n := by rfl) (hst : (assignEach es X.env).findIdx? (·.1) = none := by rfl) : PG X (.Tuple es k pos) (gTup X.K n t) := by
  intro pins s σ H v u Q I r hw
  obtain ⟨a, xs, e1, hq, hl, hw⟩ := hw
  subst e1
  cases r
  obtain ⟨its, rv, ht, hz⟩ := I.tuple hq
  refine assign_Tuple_tuple (I.ok.hd hc) ht (by simp [hn, ← hl, rv.length]) hst fun h' hx => ?_
  have I1 : Inv X pins σ H { s with heap := h' } := I.kept (t' := s.toks) fun b o e => hx b o (Nat.ne_of_lt (Heap.lt_size e)) e
  exact h pins _ σ H xs _ Q I1 (by simpa using rv) hw
/-- o[i] = .. -/
noncomputable def gSub (to ti : TE) (t : TSet) : TG := fun v σ H Q => to σ H fun o H1 => ti σ H1 fun i H2 => t o i v H2 fun H3 => Q σ H3
theorem pg_sub {o i : Expr} {to ti : TE} {t : TSet} (ho : PE X o to) (hi : PE X i ti) (hs : PSet X t)
    (ha : ∀ v, assign (.Subscript o i pos) X.env v = (do
      let ov ← holding [v] (eval o X.env)
      let iv ← holding [v, ov] (eval i X.env)
      standAt pos
      holding [v, ov, iv] (setItem ov iv v)
      release [v, ov, iv] []) := by intro _; rfl) : PG X (.Subscript o i pos) (gSub to ti t) := by
  intro pins s σ H v u Q I r h
  rw [ha]
  refine wpAny_bind (wpAny_holding (thn (ho pins s σ H _ I h) fun ov s1 ⟨x, H1, I1, r1, q1⟩ => ?_))
  refine wpAny_bind (wpAny_holding (thn (hi pins s1 σ H1 _ I1 q1) fun iv s2 ⟨y, H2, I2, r2, q2⟩ => ?_))
  refine wpAny_bind (wpAny_standAt (wpAny_bind (wpAny_holding (thn (hs pins s2 σ H2 x y v ov iv u _ I2 r1 r2 r q2) fun _ s3 ⟨H3, I3, q3⟩ => ?_))))
  exact wpAny_release ⟨σ, H3, I3, q3⟩
/-- target = value -/
noncomputable def tAsg (te : TE) (g : TG) : TS := fun D σ H => te σ H fun x H1 => g x σ H1 D.nx
theorem ps_asg {tg e : Expr} {te : TE} {g : TG} (he : PE X e te) (hg : PG X tg g) (hs : swapsWithSole [tg] e pos.line X.env = pure false := by rfl) (hw : swappedStores [tg] e X.env = pure none := by rfl)
    (h1 : (assignEach [tg] X.env).map (·.2) = [assign tg X.env] := by rfl) : PS X (.Assign [tg] e pos) (tAsg te g) := by
  intro pins s σ H D I h
  refine wpAny_Assign_stores (thn (he pins s σ H _ I h) fun v s1 ⟨x, H1, I1, r1, q1⟩ => ?_) hs hw
  rw [h1]
  exact thn (hg pins s1 σ H1 x v _ I1 r1 q1) fun _ s2 q => q
/-- name = value -/
theorem ps_set {i : Nat} {x : Str} {e : Expr} {te : TE} {pos' : Pos} (hN : X.N.Nodup) (hi : X.N[i]? = some x) (hx : Loc X.env.scope x) (he : PE X e te) (hs : swapsWith e (some (.Name x pos')) pos.line X.env = pure false := by rfl) (hf : X.fn x = true ∨ X.env.scope.names.lookup x = some .local := by first | exact .inl rfl | exact .inr rfl | assumption) :
    PS X (.Assign [.Name x pos'] e pos) (tAsg te (gName i)) := by
  intro pins s σ H D I h
  refine wpAny_Assign_Name (thn (he pins s σ H _ I h) fun v s1 ⟨y, H1, I1, r1, q1⟩ => ?_) hs
  exact store_ok I1 hN hi hx r1 (fun s2 I2 => ⟨_, H1, I2, q1⟩) hf
end

/-! ### while -/
section
variable {X : Cx} {pos : Pos}
/-- the invariant W with its measure -/
noncomputable def tWhile (c : TT) (tb : TS) : TS := fun D σ H => ∃ W : Nat → St → Hp → Prop, (∃ m, W m σ H) ∧ ∀ m σ H, W m σ H →
  c σ H fun b H1 => if b = true then ∃ N : St → Hp → Prop, (∀ σ' H', N σ' H' → ∃ m', m' < m ∧ W m' σ' H') ∧ tb { D with nx := N, ct := N, bk := D.nx } σ H1 else D.nx σ H1
theorem ps_while {c : Expr} {body : List Stmt} {tc : TT} {tb : TS} (hp : PassesOwn (model X.prog X.w) X.A X.env X.xe) (hc : PT X c tc) (hb : PSs X body tb) : PS X (.While c body [] pos) (tWhile tc tb) := by
  intro pins s σ H D I h
  obtain ⟨W, ⟨m0, w0⟩, turn⟩ := h
  refine wpAny_While (codeAny_whileLoop (fun n s' => ∃ σ' H', Inv X pins σ' H' s' ∧ W n σ' H') ?_ m0 ⟨σ, H, I, w0⟩)
  rintro n s1 ⟨σ1, H1, I1, w1⟩
  refine wpAny_passesOwn hp (thn (hc pins s1 σ1 H1 _ I1 (turn n σ1 H1 w1)) fun b s2 ⟨H2, I2, q2⟩ => ?_)
  cases b with
  | true =>
    obtain ⟨N, hN, q2⟩ := q2
    rw [if_pos rfl]
    refine wpAny_passesOwn hp (thn (hb pins s2 σ1 H2 _ I2 q2) fun f s3 q3 => ?_)
    cases f with
    | next =>
      obtain ⟨σ3, H3, I3, n3⟩ := q3
      obtain ⟨m', hm, w3⟩ := hN σ3 H3 n3
      exact ⟨m', hm, σ3, H3, I3, w3⟩
    | cont =>
      obtain ⟨σ3, H3, I3, n3⟩ := q3
      obtain ⟨m', hm, w3⟩ := hN σ3 H3 n3
      exact ⟨m', hm, σ3, H3, I3, w3⟩
    | brk => exact q3
    | ret v => exact q3
  | false =>
    rw [if_neg Bool.false_ne_true]
    exact wpAny_execs_nil ⟨σ1, H2, I2, q2⟩
end

/-! ### what a loop or a comprehension walks -/
/-- at turn i: it yields x (the heap may grow), or it stops -/
structure It where
  go : Nat → Hp → Prop
  yld : Nat → Hp → V → Hp → Prop
  stop : Nat → Hp → Prop
/-- the iterator's own objects may turn: they are not the frame's, not pinned, younger than the entry (or a comprehension's own) -/
noncomputable def FpOk (X : Cx) (pins : List (Addr × Obj)) (H : Hp) (b : Addr) : Prop :=
  H b = none ∧ b ≠ X.env.locals ∧ b ∉ X.fs ∧ (b ∈ X.ex ∨ X.s₀.heap.objs.size ≤ b) ∧ (∀ x c, X.env.cells.lookup x = some c → c ≠ b) ∧ ∀ p ∈ X.pn ++ pins, p.1 ≠ b
theorem Inv.fpOk {X : Cx} {pins : List (Addr × Obj)} {σ : St} {H H' : Hp} {s : Shared} {b : Addr} (I : Inv X pins σ H s) (hb : s.heap.objs.size ≤ b) (hn : H' b = none) : FpOk X pins H' b := by
  refine ⟨hn, Nat.ne_of_gt (Nat.lt_of_lt_of_le I.lt hb), I.nofs hb, .inr (Nat.le_trans I.sz hb), fun x c e z => ?_, fun p hp z => ?_⟩
  · obtain ⟨v, q⟩ := I.cell x c e
    exact absurd (Nat.lt_of_lt_of_le q.lt (by rw [z]; exact hb)) (Nat.lt_irrefl _)
  · exact absurd (Nat.lt_of_lt_of_le (Heap.lt_size (I.pin p hp).1) (by rw [z]; exact hb)) (Nat.lt_irrefl _)
structure Turn (P : Program) (w : World) (K : PySem.W.Frag) (tg : Expr) (J : It) (fp : List Addr) (it : Addr) (tn : Nat → Heap → Prop) : Prop where
  mem : it ∈ fp
  obj : ∀ i h, tn i h → ∀ b ∈ fp, ∃ o, h.get? b = some o ∧ ∀ v, o.data ≠ .cell v
  keep : ∀ i h h', tn i h → (∀ b ∈ fp, ∀ o, h.get? b = some o → h'.get? b = some o) → tn i h'
  item : ∀ (X : Cx), X.prog = P → X.w = w → X.K = K → X.calm = true → ∀ (i : Nat) (pins : List (Addr × Obj)) (s : Shared) (σ : St) (H : Hp) (E : Value → Shared → Prop), Inv X pins σ H s → (∀ b ∈ fp, FpOk X pins H b) → tn i s.heap → J.go i H →
    wpAny (model P w) X.A (pyNext (.ref it)) (fun r s1 => ∃ u, r = some u ∧
      wpAny (model P w) X.A (letOwnedTupleGo tg (.ref it) u) (fun _ s2 => ∃ x H', Inv X pins σ H' s2 ∧ RelV x u ∧ J.yld i H x H' ∧ tn (i + 1) s2.heap ∧ ∀ b ∈ fp, H' b = none) E s1) E s
  done : ∀ (X : Cx), X.prog = P → X.w = w → X.K = K → X.calm = true → ∀ (i : Nat) (pins : List (Addr × Obj)) (s : Shared) (σ : St) (H : Hp) (E : Value → Shared → Prop), Inv X pins σ H s → (∀ b ∈ fp, FpOk X pins H b) → tn i s.heap → J.stop i H →
    wpAny (model P w) X.A (pyNext (.ref it)) (fun r s1 => r = none ∧ Inv X pins σ H s1) E s
  self : ∀ (A : Around) (i : Nat) (s : Shared) (Q : Value → Shared → Prop) (E : Value → Shared → Prop), tn i s.heap → Q (.ref it) s → wpAny (model P w) A (pyIter (.ref it)) Q E s
noncomputable abbrev TI := St → Hp → (It → Hp → Prop) → Prop
/-- an iterator has come -/
noncomputable def PIE (X : Cx) (pins : List (Addr × Obj)) (σ : St) (tg : Expr) (R : It → Hp → Prop) (itv : Value) (s2 : Shared) : Prop :=
  ∃ (it : Addr) (fp : List Addr) (tn : Nat → Heap → Prop) (J : It) (H' : Hp), itv = .ref it ∧ Inv X pins σ H' s2 ∧ Turn X.prog X.w X.K tg J fp it tn ∧ tn 0 s2.heap ∧ (∀ b ∈ fp, FpOk X pins H' b) ∧ R J H'
noncomputable def PI (X : Cx) (tg iter : Expr) (wi : TI) : Prop :=
  ∀ (pins : List (Addr × Obj)) (s : Shared) (σ : St) (H : Hp) (R : It → Hp → Prop), Inv X pins σ H s → wi σ H R →
    wpAny (model X.prog X.w) X.A (eval iter X.env) (fun v s1 => wpAny (model X.prog X.w) X.A (pyIter v) (PIE X pins σ tg R) X.xe s1) X.xe s

/-- the step ahead of the store is nothing for an iterator that keeps no tuple -/
theorem go_of {M : Model} {A : Around} {E : Value → Shared → Prop} {s : Shared} {tg : Expr} {it : Addr} {u : Value} {o : Obj} {n : String} {vs : Array Value} {Q : Unit → Shared → Prop} (ho : s.heap.get? it = some o) (hc : o.cls = .type n) (hd : o.data = .fields vs)
    (hn : ["enumerate", "zip", "dict_itemiterator", "dict_reverseitemiterator", "odict_iterator", "itertools.zip_longest", "itertools.pairwise"].contains n = false) (hQ : Q () s) : wpAny M A (letOwnedTupleGo tg (.ref it) u) Q E s := by
  unfold letOwnedTupleGo
  cases tg <;> first
    | exact wpAny_pure hQ
    | (cases u <;> first
        | exact wpAny_pure hQ
        | (refine wpAny_bind (wpAny_load ho ?_)
           rw [hc, hd]
           show wpAny M A (if (["enumerate", "zip", "dict_itemiterator", "dict_reverseitemiterator", "odict_iterator", "itertools.zip_longest", "itertools.pairwise"].contains n && vs[0]? == some (rawInt _)) = true then _ else _) Q E s
           rw [if_neg (by intro h; rw [hn, Bool.false_and] at h; cases h)]
           exact wpAny_pure hQ))

/-- the list at a, as it stands at each turn (a loop may append to it) -/
noncomputable def Itl (K : PySem.W.Frag) (a : Addr) : It :=
  ⟨fun i H => ∃ xs x, SqL K H a xs ∧ xs[i]? = some x, fun i H x H' => H' = H ∧ ∀ xs, SqL K H a xs → xs[i]? = some x, fun i H => ∃ xs, SqL K H a xs ∧ xs.length ≤ i⟩
/-- lo, lo + 1, .. (n of them) -/
noncomputable def Itr (lo : Int) (n : Nat) : It := ⟨fun i _ => i < n, fun i H x H' => H' = H ∧ x = .int (lo + i), fun i _ => n ≤ i⟩
theorem turn_list {P : Program} {w : World} {K : PySem.W.Frag} {tg : Expr} (a it : Addr) : Turn P w K tg (Itl K a) [it] it (fun i h => h.IsListIter it a i) where
  mem := by simp
  obj := fun i h st b hb => by
    have e : b = it := by simpa using hb
    subst e
    obtain ⟨o, e, c, d⟩ := st
    exact ⟨o, e, fun v z => by rw [d] at z; cases z⟩
  keep := fun i h h' st k => st.at fun o e => k it (by simp) o e
  item := by
    intro X hP hw hK hc i pins s σ H E I hf st hg
    subst hP hw hK
    obtain ⟨xs, x, hq, hx⟩ := hg
    obtain ⟨its, rv, p, hz⟩ := I.list hq
    obtain ⟨u, hu, ru⟩ := rv.get hx
    obtain ⟨f0, f1, f2, f3, f4, f5⟩ := hf it (by simp)
    refine wpAny_pyNext_list_item st p.isList (x := u) (by simpa using hu) fun h' st' sb => ?_
    have I1 : Inv X pins σ H { s with heap := h' } := I.turned (t' := s.toks) (fun b o hb e => (sb.2 b hb).trans e) f0 f1 f3 f4 f5
    obtain ⟨o, e, c, d⟩ := id st'
    exact ⟨u, rfl, go_of (s := { s with heap := h' }) e c d (by decide) ⟨x, H, I1, ru, ⟨rfl, fun ys hy => by rw [I.list_inj hy hq]; exact hx⟩, st', fun b hb => (hf b hb).1⟩⟩
  done := by
    intro X hP hw hK hc i pins s σ H E I hf st hg
    subst hP hw hK
    obtain ⟨xs, hq, hx⟩ := hg
    obtain ⟨its, rv, p, hz⟩ := I.list hq
    obtain ⟨f0, f1, f2, f3, f4, f5⟩ := hf it (by simp)
    have hl := rv.length
    exact wpAny_pyNext_list_end (I.ok.hd hc) st p.isList (by simp; omega) fun h' eb => ⟨rfl, I.turned (t' := s.toks) (fun b o hb e => eb b o hb e) f0 f1 f3 f4 f5⟩
  self := fun _ _ _ _ _ st h => wpAny_pyIter_listiter st h
theorem turn_range {P : Program} {w : World} {K : PySem.W.Frag} {tg : Expr} (it : Addr) (lo : Int) (n : Nat) : Turn P w K tg (Itr lo n) [it] it (fun i h => IsRangeIter h it (lo + (i : Nat) * 1) ((n : Int) - (i : Nat)) 1) where
  mem := by simp
  obj := fun i h st b hb => by
    have e : b = it := by simpa using hb
    subst e
    exact ⟨_, st, fun v z => by
      have z' : Data.fields _ = Data.cell v := z
      cases z'⟩
  keep := fun i h h' st k => k it (by simp) _ st
  item := by
    intro X hP hw hK hc i pins s σ H E I hf st hg
    subst hP hw hK
    obtain ⟨f0, f1, f2, f3, f4, f5⟩ := hf it (by simp)
    have W := Walks.range (prog := X.prog) (w := X.w) (I.ok.hd hc) it lo 1 n
    refine W.item i s _ _ hg st fun v h' tk hv st' kk => ?_
    obtain ⟨t, rfl⟩ := hv
    have I1 : Inv X pins σ H { s with heap := h', toks := tk } := I.turned (fun b o hb e => kk b o (by simpa using hb) e) f0 f1 f3 f4 f5
    refine ⟨_, rfl, go_of (s := { s with heap := h', toks := tk }) (n := "range_iterator") st' rfl rfl (by decide) ⟨.int (lo + i), H, I1, ⟨t, ?_⟩, ⟨rfl, rfl⟩, st', fun b hb => (hf b hb).1⟩⟩
    rw [Int.mul_one]
  done := by
    intro X hP hw hK hc i pins s σ H E I hf st hg
    subst hP hw hK
    obtain ⟨f0, f1, f2, f3, f4, f5⟩ := hf it (by simp)
    exact wpAny_pyNext_range_end (I.ok.hd hc) st (by have : n ≤ i := hg; omega) fun h' eb => ⟨rfl, I.turned (t' := s.toks) (fun b o hb e => eb b o hb e) f0 f1 f3 f4 f5⟩
  self := fun _ _ _ _ _ st h => wpAny_pyIter_rangeiter st h
end L2

namespace L2
open PySem PySem.Spec PyProof.Rows
section
variable {X : Cx} {tg : Expr}
noncomputable def iList (K : PySem.W.Frag) (tl : TE) : TI := fun σ H R => tl σ H fun x H1 => ∃ a, x = .ref a ∧ (∃ xs, SqL K H1 a xs) ∧ R (Itl K a) H1
theorem pi_list {l : Expr} {tl : TE} (hl : PE X l tl) : PI X tg l (iList X.K tl) := by
  intro pins s σ H R I h
  refine thn (hl pins s σ H _ I h) fun v s1 ⟨x, H1, I1, r1, q1⟩ => ?_
  obtain ⟨a, e, ⟨xs, hq⟩, q⟩ := q1
  subst e
  cases r1
  obtain ⟨its, rv, p, hz⟩ := I1.list hq
  refine wpAny_pyIter_list p.isList ?_
  refine ⟨s1.heap.objs.size, [s1.heap.objs.size], _, _, H1, rfl, I1.kept (t' := s1.toks) fun b o e => Heap.get?_push_of_some _ e, turn_list a _, ⟨_, Heap.get?_push_size _ rfl, rfl, rfl⟩, fun b hb => ?_, q⟩
  have e : b = s1.heap.objs.size := by simpa using hb
  subst e
  exact I1.fpOk (Nat.le_refl _) (I1.hok.fresh (Nat.le_refl _))
/-- a range object just made, walked -/
theorem range_it {pins : List (Addr × Obj)} {σ : St} {H : Hp} {s : Shared} {R : It → Hp → Prop} {E : Value → Shared → Prop} {lo hi : Int} {t u v : Tok} {tk : Nat} (I : Inv X pins σ H s) (h1 : -(2 ^ 62) ≤ lo) (h2 : lo < 2 ^ 62) (h3 : -(2 ^ 62) ≤ hi) (h4 : hi < 2 ^ 62)
    (q : R (Itr lo (hi - lo).toNat) H) : wpAny (model X.prog X.w) X.A (pyIter (.ref s.heap.objs.size)) (PIE X pins σ tg R) E { s with heap := s.heap.push { cls := .type "range", data := .fields #[.int lo t, .int hi u, .int 1 v] }, toks := tk } := by
  refine wpAny_pyIter_range (IsRange.new ..) (small_one h1 h2 h3 h4) ?_
  have I1 : Inv X pins σ H { s with heap := s.heap.push { cls := .type "range", data := .fields #[.int lo t, .int hi u, .int 1 v] }, toks := tk } := I.kept fun b o e => Heap.get?_push_of_some _ e
  refine ⟨(s.heap.push { cls := .type "range", data := .fields #[.int lo t, .int hi u, .int 1 v] }).objs.size, [(s.heap.push { cls := .type "range", data := .fields #[.int lo t, .int hi u, .int 1 v] }).objs.size], _, _, H, rfl,
    I1.kept (t' := tk) fun b o e => Heap.get?_push_of_some _ e, turn_range _ lo (hi - lo).toNat, ?_, fun b hb => ?_, q⟩
  · have e1 : lo + ((0 : Nat) : Int) * 1 = lo := by simp
    have e2 : (((hi - lo).toNat : Nat) : Int) - ((0 : Nat) : Int) = Builtin.Range.rangeSize lo hi 1 := by rw [rangeSize_one]; split <;> omega
    show IsRangeIter _ _ (lo + ((0 : Nat) : Int) * 1) ((((hi - lo).toNat : Nat) : Int) - ((0 : Nat) : Int)) 1
    rw [e1, e2]
    exact Heap.get?_push_size _ rfl
  · have e : b = (s.heap.push { cls := .type "range", data := .fields #[.int lo t, .int hi u, .int 1 v] }).objs.size := by simpa using hb
    subst e
    exact I1.fpOk (Nat.le_refl _) (I1.hok.fresh (Nat.le_refl _))
noncomputable def iRng1 (ta : TA) : TI := fun σ H R => ta σ H fun vs H1 => ∃ j : Int, vs = [.int j] ∧ -(2 ^ 62) ≤ j ∧ j < 2 ^ 62 ∧ R (Itr 0 j.toNat) H1
theorem pi_range1 {a : Expr} {ta : TA} {p pos : Pos} (hg : Gl X "range") (hm : X.mg "range" = none) (ha : PA X [a] ta) (hs : starEach [a] X.env = [(false, eval a X.env)] := by rfl) : PI X tg (.Call (.Name "range" p) [a] [] pos) (iRng1 ta) := by
  intro pins s σ H R I h
  refine Call_ (ld_blt I hg hm boot_range (PyProof.Rows.callWith_type1 (thn (ha pos pins s σ H _ I h) fun us s1 ⟨vs, H1, I1, r1, q1⟩ => ?_) hs rfl))
  obtain ⟨j, e, q1, q2, q⟩ := q1
  subst e
  cases r1 with
  | cons r rr =>
    cases rr
    obtain ⟨t, rfl⟩ := r
    exact call_range_1 (range_it I1 (by omega) (by omega) q1 q2 (by simpa using q))
/-! ### for -/
/-- W: the invariant by the turn and a measure; N: what the body is to reach -/
noncomputable def tFor (wi : TI) (g : TG) (tb : TS) : TS := fun D σ H => wi σ H fun J H1 => ∃ W : Nat → Nat → St → Hp → Prop, (∃ m, W 0 m σ H1) ∧ ∀ i m σ H, W i m σ H →
  (J.stop i H ∧ D.nx σ H) ∨ (J.go i H ∧ ∃ N : St → Hp → Prop, (∀ σ' H', N σ' H' → ∃ m', m' < m ∧ W (i + 1) m' σ' H') ∧ ∀ x H', J.yld i H x H' → g x σ H' fun σ2 H2 => tb { D with nx := N, ct := N, bk := D.nx } σ2 H2)
/-- the records at fp as they stand -/
noncomputable def pinsAt (fp : List Addr) (h : Heap) : List (Addr × Obj) := fp.filterMap fun b => (h.get? b).map fun o => (b, o)
theorem mem_pinsAt {fp : List Addr} {h : Heap} {b : Addr} {o : Obj} (hb : b ∈ fp) (e : h.get? b = some o) : (b, o) ∈ pinsAt fp h := List.mem_filterMap.mpr ⟨b, hb, by rw [e]; rfl⟩
theorem of_pinsAt {fp : List Addr} {h : Heap} {p : Addr × Obj} (hp : p ∈ pinsAt fp h) : p.1 ∈ fp ∧ h.get? p.1 = some p.2 := by
  obtain ⟨b, hb, e⟩ := List.mem_filterMap.mp hp
  cases q : h.get? b with
  | none => rw [q] at e; cases e
  | some o =>
    rw [q] at e
    have e' : (b, o) = p := Option.some.inj e
    subst e'
    exact ⟨hb, q⟩
theorem Inv.pinned {pins : List (Addr × Obj)} {σ : St} {H : Hp} {s : Shared} {fp : List Addr} (I : Inv X pins σ H s) (hf : ∀ b ∈ fp, FpOk X pins H b) (ho : ∀ b ∈ fp, ∃ o, s.heap.get? b = some o ∧ ∀ v, o.data ≠ .cell v) : Inv X (pins ++ pinsAt fp s.heap) σ H s :=
  I.pins_of fun p hp => (List.mem_append.mp hp).elim (fun z => I.pin p (List.mem_append_right _ z)) fun z => by
    obtain ⟨hb, e⟩ := of_pinsAt z
    obtain ⟨f0, f1, f2, _⟩ := hf p.1 hb
    obtain ⟨o, e', d⟩ := ho p.1 hb
    rw [e] at e'; cases e'
    exact ⟨e, f0, f1, f2, d⟩
theorem Inv.unpinned {pins pl : List (Addr × Obj)} {σ : St} {H : Hp} {s : Shared} (I : Inv X (pins ++ pl) σ H s) : Inv X pins σ H s := I.pins_of fun p hp => I.pin p (List.mem_append_right _ (List.mem_append_left _ hp))
theorem ps_for {iter : Expr} {body : List Stmt} {wi : TI} {g : TG} {tb : TS} {pos : Pos} (hp : PassesOwn (model X.prog X.w) X.A X.env X.xe) (hc : X.calm = true) (hi : PI X tg iter wi) (hg : PG X tg g) (hb : PSs X body tb)
    (hs : ∀ x, foldedSetIterable iter X.env x = pure x := by intro _; rfl) : PS X (.For tg iter body [] pos) (tFor wi g tb) := by
  intro pins s σ H D I h
  refine wpAny_For (thn (hi pins s σ H _ I h) fun v s1 h1 => thn h1 fun itv s2 h2 => ?_) hs
  obtain ⟨it, fp, tn, J, H2, e, I2, T, st2, f2, W, ⟨m0, w0⟩, turn⟩ := h2
  subst e
  -- what stays true of the iterator's objects through the loop
  have stat : ∀ {H' : Hp}, (∀ b ∈ fp, H' b = none) → ∀ b ∈ fp, FpOk X pins H' b := fun hn b hb => ⟨hn b hb, (f2 b hb).2⟩
  refine codeAny_forLoop_any (fun n s' => ∃ i σ' H', Inv X pins σ' H' s' ∧ tn i s'.heap ∧ (∀ b ∈ fp, H' b = none) ∧ W i n σ' H') ?_ m0 ⟨0, σ, H2, I2, st2, fun b hb => (f2 b hb).1, w0⟩
  rintro n s3 ⟨i, σ3, H3, I3, st3, fr3, w3⟩
  rcases turn i n σ3 H3 w3 with ⟨stop, qn⟩ | ⟨go, N, hN, step⟩
  · refine wpAny_passesOwn hp (thn (T.done X rfl rfl rfl hc i pins s3 σ3 H3 X.xe I3 (stat fr3) st3 stop) fun r s4 ⟨hr, I4⟩ => ?_)
    subst hr
    exact wpAny_execs_nil ⟨σ3, H3, I4, qn⟩
  · refine wpAny_passesOwn hp (thn (T.item X rfl rfl rfl hc i pins s3 σ3 H3 X.xe I3 (stat fr3) st3 go) fun r s4 ⟨u, hr, h4⟩ => ?_)
    subst hr
    refine wpAny_passesOwn hp (thn h4 fun _ s5 ⟨x, H5, I5, r5, y5, st5, fr5⟩ => ?_)
    have I5' := I5.pinned (stat fr5) (T.obj _ _ st5)
    refine wpAny_passesOwn hp (thn (hg _ s5 σ3 H5 x u _ I5' r5 (step x H5 y5)) fun _ s6 ⟨σ6, H6, I6, q6⟩ => ?_)
    refine wpAny_passesOwn hp (thn (hb _ s6 σ6 H6 _ I6 q6) fun f s7 q7 => ?_)
    have again : ∀ {σ7 : St} {H7 : Hp}, Inv X (pins ++ pinsAt fp s5.heap) σ7 H7 s7 → N σ7 H7 → ∃ m, m < n ∧ ∃ i σ' H', Inv X pins σ' H' s7 ∧ tn i s7.heap ∧ (∀ b ∈ fp, H' b = none) ∧ W i m σ' H' := fun {σ7 H7} I7 n7 => by
      obtain ⟨m', hm, w7⟩ := hN σ7 H7 n7
      refine ⟨m', hm, i + 1, σ7, H7, I7.unpinned, T.keep _ _ _ st5 fun b hb o e => (I7.pin (b, o) (List.mem_append_right _ (List.mem_append_right _ (mem_pinsAt hb e)))).1, fun b hb => ?_, w7⟩
      obtain ⟨o, e, d⟩ := T.obj _ _ st5 b hb
      exact (I7.pin (b, o) (List.mem_append_right _ (List.mem_append_right _ (mem_pinsAt hb e)))).2.1
    cases f with
    | next => obtain ⟨σ7, H7, I7, n7⟩ := q7; exact again I7 n7
    | cont => obtain ⟨σ7, H7, I7, n7⟩ := q7; exact again I7 n7
    | brk => obtain ⟨σ7, H7, I7, q7⟩ := q7; exact ⟨σ7, H7, I7.unpinned, q7⟩
    | ret v => obtain ⟨x7, σ7, H7, I7, r7, q7⟩ := q7; exact ⟨x7, σ7, H7, I7.unpinned, r7, q7⟩
end

/-! ### the forms one uses -/
/-- over a list that the body leaves as it is -/
theorem for_list {K : PySem.W.Frag} {a : Addr} {xs : List V} {g : TG} {tb : TS} {D : Ends} {σ : St} {H : Hp} (Pv : Nat → St → Hp → Prop) (h0 : Pv 0 σ H) (hl : ∀ i σ H, i ≤ xs.length → Pv i σ H → SqL K H a xs)
    (hs : ∀ i x σ H, xs[i]? = some x → Pv i σ H → g x σ H fun σ2 H2 => tb { D with nx := Pv (i + 1), ct := Pv (i + 1), bk := D.nx } σ2 H2) (hd : ∀ σ H, Pv xs.length σ H → D.nx σ H) :
    ∃ W : Nat → Nat → St → Hp → Prop, (∃ m, W 0 m σ H) ∧ ∀ i m σ H, W i m σ H →
      ((Itl K a).stop i H ∧ D.nx σ H) ∨ ((Itl K a).go i H ∧ ∃ N : St → Hp → Prop, (∀ σ' H', N σ' H' → ∃ m', m' < m ∧ W (i + 1) m' σ' H') ∧ ∀ x H', (Itl K a).yld i H x H' → g x σ H' fun σ2 H2 => tb { D with nx := N, ct := N, bk := D.nx } σ2 H2) := by
  refine ⟨fun i m σ H => m = xs.length - i ∧ i ≤ xs.length ∧ Pv i σ H, ⟨xs.length, by simp, Nat.zero_le _, h0⟩, ?_⟩
  rintro i m σ H ⟨rfl, hi, p⟩
  have q := hl i σ H hi p
  by_cases hlt : i < xs.length
  · refine .inr ⟨⟨xs, xs[i], q, by simp [hlt]⟩, Pv (i + 1), fun σ' H' p' => ⟨xs.length - (i + 1), by omega, rfl, hlt, p'⟩, fun x H' y => ?_⟩
    obtain ⟨e, y⟩ := y
    subst e
    exact hs i x σ _ (y xs q) p
  · have e : i = xs.length := by omega
    subst e
    exact .inl ⟨⟨xs, q, Nat.le_refl _⟩, hd σ H p⟩
theorem for_range {lo : Int} {n : Nat} {g : TG} {tb : TS} {D : Ends} {σ : St} {H : Hp} (Pv : Nat → St → Hp → Prop) (h0 : Pv 0 σ H)
    (hs : ∀ i σ H, i < n → Pv i σ H → g (.int (lo + i)) σ H fun σ2 H2 => tb { D with nx := Pv (i + 1), ct := Pv (i + 1), bk := D.nx } σ2 H2) (hd : ∀ σ H, Pv n σ H → D.nx σ H) :
    ∃ W : Nat → Nat → St → Hp → Prop, (∃ m, W 0 m σ H) ∧ ∀ i m σ H, W i m σ H →
      ((Itr lo n).stop i H ∧ D.nx σ H) ∨ ((Itr lo n).go i H ∧ ∃ N : St → Hp → Prop, (∀ σ' H', N σ' H' → ∃ m', m' < m ∧ W (i + 1) m' σ' H') ∧ ∀ x H', (Itr lo n).yld i H x H' → g x σ H' fun σ2 H2 => tb { D with nx := N, ct := N, bk := D.nx } σ2 H2) := by
  refine ⟨fun i m σ H => m = n - i ∧ i ≤ n ∧ Pv i σ H, ⟨n, by simp, Nat.zero_le _, h0⟩, ?_⟩
  rintro i m σ H ⟨rfl, hi, p⟩
  by_cases hlt : i < n
  · refine .inr ⟨hlt, Pv (i + 1), fun σ' H' p' => ⟨n - (i + 1), by omega, rfl, hlt, p'⟩, fun x H' y => ?_⟩
    obtain ⟨e, y⟩ := y
    subst e y
    exact hs i σ _ hlt p
  · have e : i = n := by omega
    subst e
    exact .inl ⟨Nat.le_refl _, hd σ H p⟩
end L2

namespace L2
open PySem PySem.Spec PyProof.Rows

noncomputable abbrev R2 := V → V → Hp → VK → Prop
/-- a two-place operation on values: f is binaryOp op, inplaceOp op or compareOp op -/
noncomputable def OpR (X : Cx) (f : Value → Value → Sem Value) (r : R2) : Prop :=
  ∀ (pins : List (Addr × Obj)) (s : Shared) (σ : St) (H : Hp) (x y : V) (v u : Value) (Q : VK), Inv X pins σ H s → RelV x v → RelV y u → r x y H Q →
    wpAny (model X.prog X.w) X.A (f v u) (EP X pins σ Q) X.xe s
/-- a one-place operation -/
noncomputable def UnR (X : Cx) (f : Value → Sem Value) (r : V → Hp → VK → Prop) : Prop :=
  ∀ (pins : List (Addr × Obj)) (s : Shared) (σ : St) (H : Hp) (x : V) (v : Value) (Q : VK), Inv X pins σ H s → RelV x v → r x H Q →
    wpAny (model X.prog X.w) X.A (f v) (EP X pins σ Q) X.xe s
/-- a call of a value that is known (a builtin, a type) with values -/
noncomputable def CallR (X : Cx) (f : Value) (r : List V → Hp → VK → Prop) : Prop :=
  ∀ (pins : List (Addr × Obj)) (s : Shared) (σ : St) (H : Hp) (xs : List V) (us : List Value) (Q : VK), Inv X pins σ H s → Vals xs us → r xs H Q →
    wpAny (model X.prog X.w) X.A (call f us) (EP X pins σ Q) X.xe s
noncomputable def tOp (r : R2) (ta tb : TE) : TE := fun σ H Q => ta σ H fun x H1 => tb σ H1 fun y H2 => r x y H2 Q
noncomputable def tUn (r : V → Hp → VK → Prop) (ta : TE) : TE := fun σ H Q => ta σ H fun x H1 => r x H1 Q
/-- ints in, under C, and a value out -/
noncomputable def rI (C : Int → Int → Prop) (g : Int → Int → V) : R2 := fun x y H Q => ∃ i j, x = .int i ∧ y = .int j ∧ C i j ∧ Q (g i j) H
noncomputable def rI0 (g : Int → Int → V) : R2 := fun x y H Q => ∃ i j, x = .int i ∧ y = .int j ∧ Q (g i j) H
noncomputable def rU (g : Int → V) : V → Hp → VK → Prop := fun x H Q => ∃ i, x = .int i ∧ Q (g i) H

section
variable {X : Cx} {a b c : Expr} {ta tb tc : TE} {pos : Pos}

theorem binT (ha : PE X a ta) (hb : PE X b tb) {pins : List (Addr × Obj)} {s : Shared} {σ : St} {H : Hp} {R : V → V → Hp → Prop} (I : Inv X pins σ H s)
    (h : ta σ H fun x H1 => tb σ H1 fun y H2 => R x y H2) {Q : Value → Shared → Prop} {f : Value → Value → Sem Value}
    (hf : ∀ v u s2 x y H2, Inv X pins σ H2 s2 → RelV x v → RelV y u → R x y H2 → wpAny (model X.prog X.w) X.A (f v u) Q X.xe s2) :
    wpAny (model X.prog X.w) X.A (eval a X.env) (fun v s₁ => wpAny (model X.prog X.w) X.A (eval b X.env) (fun u s₂ => wpAny (model X.prog X.w) X.A (f v u) Q X.xe s₂) X.xe s₁) X.xe s := by
  refine thn (ha pins s σ H _ I h) fun v s1 ⟨x, H1, I1, r1, q1⟩ => ?_
  refine thn (hb pins s1 σ H1 _ I1 q1) fun u s2 ⟨y, H2, I2, r2, q2⟩ => ?_
  exact hf v u s2 x y H2 I2 r1 r2 q2

theorem pe_op {op : Operator} {r : R2} (ho : OpR X (binaryOp op) r) (ha : PE X a ta) (hb : PE X b tb) : PE X (.BinOp a op b pos) (tOp r ta tb) := by
  intro pins s σ H Q I h
  exact wpAny_BinOp (binT ha hb I h fun v u s2 x y H2 I2 rx ry q => ho pins s2 σ H2 x y v u Q I2 rx ry q)
theorem pe_un {op : UnaryOp} {r : V → Hp → VK → Prop} (ho : UnR X (unaryOp op) r) (ha : PE X a ta) : PE X (.UnaryOp op a pos) (tUn r ta) := by
  intro pins s σ H Q I h
  exact UnaryOp_ (thn (ha pins s σ H _ I h) fun v s1 ⟨x, H1, I1, r1, q1⟩ => ho pins s1 σ H1 x v Q I1 r1 q1)
/-! ### ints -/
theorem opI {f : Value → Value → Sem Value} {C : Int → Int → Prop} {g : Int → Int → Int}
    (rule : ∀ (i j : Int) (t u : Tok) (s : Shared) (Q : Value → Shared → Prop) (E : Value → Shared → Prop), C i j → Q (.int (g i j) s.toks) { s with toks := s.toks + 1 } → wpAny (model X.prog X.w) X.A (f (.int i t) (.int j u)) Q E s) :
    OpR X f (rI C fun i j => .int (g i j)) := by
  intro pins s σ H x y v u Q I rx ry h
  obtain ⟨i, j, rfl, rfl, hc, q⟩ := h
  obtain ⟨t, rfl⟩ := rx
  obtain ⟨t', rfl⟩ := ry
  exact rule i j t t' s _ _ hc ⟨.int (g i j), H, I.tok _, ⟨_, rfl⟩, q⟩
theorem opI0 {f : Value → Value → Sem Value} {g : Int → Int → Int}
    (rule : ∀ (i j : Int) (t u : Tok) (s : Shared) (Q : Value → Shared → Prop) (E : Value → Shared → Prop), Q (.int (g i j) s.toks) { s with toks := s.toks + 1 } → wpAny (model X.prog X.w) X.A (f (.int i t) (.int j u)) Q E s) :
    OpR X f (rI0 fun i j => .int (g i j)) := by
  intro pins s σ H x y v u Q I rx ry h
  obtain ⟨i, j, rfl, rfl, q⟩ := h
  obtain ⟨t, rfl⟩ := rx
  obtain ⟨t', rfl⟩ := ry
  exact rule i j t t' s _ _ ⟨.int (g i j), H, I.tok _, ⟨_, rfl⟩, q⟩
theorem opB0 {f : Value → Value → Sem Value} {g : Int → Int → Bool}
    (rule : ∀ (i j : Int) (t u : Tok) (s : Shared) (Q : Value → Shared → Prop) (E : Value → Shared → Prop), Q (.bool (g i j)) s → wpAny (model X.prog X.w) X.A (f (.int i t) (.int j u)) Q E s) :
    OpR X f (rI0 fun i j => .bl (g i j)) := by
  intro pins s σ H x y v u Q I rx ry h
  obtain ⟨i, j, rfl, rfl, q⟩ := h
  obtain ⟨t, rfl⟩ := rx
  obtain ⟨t', rfl⟩ := ry
  exact rule i j t t' s _ _ ⟨.bl (g i j), H, I, rfl, q⟩

noncomputable def CDiv (i j : Int) : Prop := 0 < j ∧ j < 1073741824
noncomputable def CPow (i j : Int) : Prop := 0 ≤ j ∧ j ≤ 1000000 ∧ i.natAbs < 2 ^ 64
noncomputable def CMul (i j : Int) : Prop := (-(2 ^ 64) < i ∧ i < 2 ^ 64) ∨ (-(2 ^ 64) < j ∧ j < 2 ^ 64)
theorem CMul.ok {i j : Int} (h : CMul i j) : IntMulOk i j := by
  rcases h with ⟨h1, h2⟩ | ⟨h1, h2⟩
  · exact .of_left (intBits_le_64 h1 h2)
  · exact .of_right (intBits_le_64 h1 h2)
theorem two_pow_nn (k : Nat) : (0 : Int) ≤ 2 ^ k := by
  rw [two_pow_cast]
  exact Int.natCast_nonneg _

theorem op_add : OpR X (binaryOp .Add) (rI0 fun i j => .int (i + j)) := opI0 fun _ _ _ _ _ _ _ q => add_int q
theorem op_sub : OpR X (binaryOp .Sub) (rI0 fun i j => .int (i - j)) := opI0 fun _ _ _ _ _ _ _ q => sub_int q
theorem op_mul : OpR X (binaryOp .Mult) (rI CMul fun i j => .int (i * j)) := opI fun _ _ _ _ _ _ _ hc q => mul_int q hc.ok
/-- // by a positive divisor -/
theorem op_fdiv : OpR X (binaryOp .FloorDiv) (rI CDiv fun i j => .int (i / j)) := opI fun i j _ _ _ _ _ hc q => by
  have h1 : (0 : Int) < j := hc.1
  have h2 : j < 1073741824 := hc.2
  exact floordiv_int (by omega) (by rw [Int.fdiv_eq_ediv_of_nonneg i (by omega)]; exact q) (.inl (PyProof.noPylong_small (by omega)))
/-- % by a positive divisor of any size -/
theorem op_mod : OpR X (binaryOp .Mod) (rI (fun _ j => 0 < j) fun i j => .int (i % j)) := opI fun i j _ _ _ _ _ hc q => by
  have h1 : (0 : Int) < j := hc
  exact mod_int' (by omega) (by rw [Int.fmod_eq_emod_of_nonneg i (by omega)]; exact q)
theorem op_shl : OpR X (binaryOp .LShift) (rI CPow fun i j => .int (i * 2 ^ j.toNat)) := opI fun _ _ _ _ _ _ _ hc q => lshift_int_small hc.1 hc.2.1 hc.2.2 q
theorem op_shr : OpR X (binaryOp .RShift) (rI (fun _ j => 0 ≤ j) fun i j => .int (i / 2 ^ j.toNat)) := opI fun i j _ _ _ _ _ hc q =>
  rshift_int hc (by rw [Int.fdiv_eq_ediv_of_nonneg i (two_pow_nn _)]; exact q)
theorem op_and : OpR X (binaryOp .BitAnd) (rI0 fun i j => .int (Builtin.bitAnd i j)) := opI0 fun _ _ _ _ _ _ _ q => and_int q
theorem op_or : OpR X (binaryOp .BitOr) (rI0 fun i j => .int (Builtin.bitOr i j)) := opI0 fun _ _ _ _ _ _ _ q => or_int q
theorem unI {f : Value → Sem Value} {g : Int → Int}
    (rule : ∀ (i : Int) (t : Tok) (s : Shared) (Q : Value → Shared → Prop) (E : Value → Shared → Prop), Q (.int (g i) s.toks) { s with toks := s.toks + 1 } → wpAny (model X.prog X.w) X.A (f (.int i t)) Q E s) :
    UnR X f (rU fun i => .int (g i)) := by
  intro pins s σ H x v Q I rx h
  obtain ⟨i, rfl, q⟩ := h
  obtain ⟨t, rfl⟩ := rx
  exact rule i t s _ _ ⟨.int (g i), H, I.tok _, ⟨_, rfl⟩, q⟩
theorem un_inv : UnR X (unaryOp .Invert) (rU fun i => .int (Builtin.bitNot i)) := unI fun _ _ _ _ _ q => invert_int q

/-! ### bools among ints: n += (a < b) -/
end

/-! ### comparisons -/
/-- the scalars that == tells apart as data does -/
noncomputable def scal : V → V → Bool
  | .non, .non => true | .non, .int _ => true | .int _, .non => true | .non, .bl _ => true | .bl _, .non => true | .non, .str _ => true | .str _, .non => true
  | .int _, .int _ => true | .bl _, .bl _ => true | .str _, .str _ => true | .byt _, .byt _ => true
  | .int _, .str _ => true | .str _, .int _ => true | .bl _, .str _ => true | .str _, .bl _ => true
  | _, _ => false
noncomputable def rEq : R2 := fun x y H Q => scal x y = true ∧ Q (.bl (decide (x = y))) H
noncomputable def rNe : R2 := fun x y H Q => scal x y = true ∧ Q (.bl (!decide (x = y))) H

theorem dec_int {i j : Int} : decide (V.int i = V.int j) = (i == j) := by
  rw [Bool.eq_iff_iff]
  simp
theorem dec_bl {i j : Bool} : decide (V.bl i = V.bl j) = (i == j) := by
  rw [Bool.eq_iff_iff]
  simp
theorem dec_str {i j : Str} : decide (V.str i = V.str j) = (i == j) := by
  rw [Bool.eq_iff_iff]
  simp
theorem dec_byt {i j : Array UInt8} : decide (V.byt i = V.byt j) = (i.toList == j.toList) := by
  rw [Bool.eq_iff_iff]
  cases i
  cases j
  simp

section
variable {X : Cx} {a b c : Expr} {ta tb tc : TE} {pos : Pos}
theorem fin_bl {pins : List (Addr × Obj)} {σ : St} {H : Hp} {s : Shared} {Q : VK} {k k' : Bool} (I : Inv X pins σ H s) (q : Q (.bl k) H) (e : k = k') : EP X pins σ Q (.bool k') s := by
  subst e
  exact ⟨.bl k, H, I, rfl, q⟩
theorem op_eq : OpR X (compareOp .Eq) rEq := by
  intro pins s σ H x y v u Q I rx ry h
  obtain ⟨hs, q⟩ := h
  cases x with
  | non =>
    cases rx
    cases y with
    | non => cases ry; exact PySem.EqNone.eq_none_none (fin_bl I q (by simp))
    | bl j => cases ry; exact PySem.EqNone.eq_none_bool (fin_bl I q (by simp))
    | int j => obtain ⟨t', rfl⟩ := ry; exact PySem.EqNone.eq_none_int (fin_bl I q (by simp))
    | str j => obtain ⟨t', rfl⟩ := ry; exact PySem.EqNone.eq_none_str (fin_bl I q (by simp))
    | _ => exact absurd (show false = true from hs) Bool.false_ne_true
  | bl i =>
    cases rx
    cases y with
    | non => cases ry; exact PySem.EqNone.eq_bool_none (fin_bl I q (by simp))
    | bl j => cases ry; exact eq_bool (fin_bl I q dec_bl)
    | str j => obtain ⟨t', rfl⟩ := ry; exact PySem.EqMixed.eq_bool_str (fin_bl I q (by simp))
    | _ => exact absurd (show false = true from hs) Bool.false_ne_true
  | int i =>
    obtain ⟨t, rfl⟩ := rx
    cases y with
    | non => cases ry; exact PySem.EqNone.eq_int_none (fin_bl I q (by simp))
    | int j => obtain ⟨t', rfl⟩ := ry; exact eq_int (fin_bl I q dec_int)
    | str j => obtain ⟨t', rfl⟩ := ry; exact PySem.EqMixed.eq_int_str (fin_bl I q (by simp))
    | _ => exact absurd (show false = true from hs) Bool.false_ne_true
  | str i =>
    obtain ⟨t, rfl⟩ := rx
    cases y with
    | non => cases ry; exact PySem.EqNone.eq_str_none (fin_bl I q (by simp))
    | bl j => cases ry; exact PySem.EqMixed.eq_str_bool (fin_bl I q (by simp))
    | int j => obtain ⟨t', rfl⟩ := ry; exact PySem.EqMixed.eq_str_int (fin_bl I q (by simp))
    | str j => obtain ⟨t', rfl⟩ := ry; exact eq_str (fin_bl I q dec_str)
    | _ => exact absurd (show false = true from hs) Bool.false_ne_true
  | byt i =>
    obtain ⟨t, rfl⟩ := rx
    cases y with
    | byt j => obtain ⟨t', rfl⟩ := ry; exact PySem.W.eq_bytes (fin_bl I q dec_byt)
    | _ => exact absurd (show false = true from hs) Bool.false_ne_true
  | _ => cases y <;> exact absurd (show false = true from hs) Bool.false_ne_true
theorem op_ne : OpR X (compareOp .NotEq) rNe := by
  intro pins s σ H x y v u Q I rx ry h
  obtain ⟨hs, q⟩ := h
  cases x with
  | non =>
    cases rx
    cases y with
    | non => cases ry; exact PySem.EqNone.ne_none_none (fin_bl I q (by simp))
    | bl j => cases ry; exact PySem.EqNone.ne_none_bool (fin_bl I q (by simp))
    | int j => obtain ⟨t', rfl⟩ := ry; exact PySem.EqNone.ne_none_int (fin_bl I q (by simp))
    | str j => obtain ⟨t', rfl⟩ := ry; exact PySem.EqNone.ne_none_str (fin_bl I q (by simp))
    | _ => exact absurd (show false = true from hs) Bool.false_ne_true
  | bl i =>
    cases rx
    cases y with
    | non => cases ry; exact PySem.EqNone.ne_bool_none (fin_bl I q (by simp))
    | bl j => cases ry; exact ne_bool (fin_bl I q (congrArg not dec_bl))
    | str j => obtain ⟨t', rfl⟩ := ry; exact PySem.EqMixed.ne_bool_str (fin_bl I q (by simp))
    | _ => exact absurd (show false = true from hs) Bool.false_ne_true
  | int i =>
    obtain ⟨t, rfl⟩ := rx
    cases y with
    | non => cases ry; exact PySem.EqNone.ne_int_none (fin_bl I q (by simp))
    | int j => obtain ⟨t', rfl⟩ := ry; exact ne_int (fin_bl I q (congrArg not dec_int))
    | str j => obtain ⟨t', rfl⟩ := ry; exact PySem.EqMixed.ne_int_str (fin_bl I q (by simp))
    | _ => exact absurd (show false = true from hs) Bool.false_ne_true
  | str i =>
    obtain ⟨t, rfl⟩ := rx
    cases y with
    | non => cases ry; exact PySem.EqNone.ne_str_none (fin_bl I q (by simp))
    | bl j => cases ry; exact PySem.EqMixed.ne_str_bool (fin_bl I q (by simp))
    | int j => obtain ⟨t', rfl⟩ := ry; exact PySem.EqMixed.ne_str_int (fin_bl I q (by simp))
    | str j => obtain ⟨t', rfl⟩ := ry; exact ne_str (fin_bl I q (congrArg not dec_str))
    | _ => exact absurd (show false = true from hs) Bool.false_ne_true
  | byt i =>
    obtain ⟨t, rfl⟩ := rx
    cases y with
    | byt j => obtain ⟨t', rfl⟩ := ry; exact PySem.W.ne_bytes (fin_bl I q (congrArg not dec_byt))
    | _ => exact absurd (show false = true from hs) Bool.false_ne_true
  | _ => cases y <;> exact absurd (show false = true from hs) Bool.false_ne_true

theorem op_lt : OpR X (compareOp .Lt) (rI0 fun i j => .bl (decide (i < j))) := opB0 fun _ _ _ _ _ _ _ q => lt_int q
theorem op_gt : OpR X (compareOp .Gt) (rI0 fun i j => .bl (decide (j < i))) := opB0 fun _ _ _ _ _ _ _ q => gt_int q
theorem op_ge : OpR X (compareOp .GtE) (rI0 fun i j => .bl (decide (j ≤ i))) := opB0 fun _ _ _ _ _ _ _ q => ge_int q
theorem op_notN : OpR X (compareOp .IsNot) (fun x y H Q => y = .non ∧ Q (.bl (!decide (x = .non))) H) := by
  intro pins s σ H x y v u Q I rx ry h
  obtain ⟨rfl, q⟩ := h
  cases ry
  refine isnot_none_gen (fin_bl I q ?_)
  cases x <;> first
    | (cases rx; rfl)
    | (obtain ⟨t, rfl⟩ := rx; rfl)

theorem nomark (b : Expr) {op : CmpOp} (h : op ≠ .In := by decide) (h2 : op ≠ .NotIn := by decide) : behindInMarks op b = false := by
  have e1 : (op == CmpOp.In) = false := by cases op <;> first | rfl | exact absurd rfl h
  have e2 : (op == CmpOp.NotIn) = false := by cases op <;> first | rfl | exact absurd rfl h2
  cases b <;> simp [behindInMarks, e1, e2]
/-- a comparison as a value; hm: nomark b, or (for in, not in) by with_unfolding_all rfl -/
theorem pe_cmpR {op : CmpOp} {r : R2} (ho : OpR X (compareOp op) r) (ha : PE X a ta) (hb : PE X b tb) (hm : behindInMarks op b = false) : PE X (.Compare a [op] [b] pos) (tOp r ta tb) := by
  intro pins s σ H Q I h
  exact wpAny_Compare1 (binT ha hb I h fun v u s2 x y H2 I2 rx ry q => ho pins s2 σ H2 x y v u Q I2 rx ry q) hm
/-- a reading of a value as a test -/
noncomputable def tTest (t : TE) : TT := fun σ H Q => t σ H fun x H' => ∃ k, x = .bl k ∧ Q k H'
theorem pt_cmpR {op : CmpOp} {r : R2} (ho : OpR X (compareOp op) r) (ha : PE X a ta) (hb : PE X b tb) (hm : behindInMarks op b = false) : PT X (.Compare a [op] [b] pos) (tTest (tOp r ta tb)) := by
  intro pins s σ H Q I h
  refine wpAny_isTrue_Compare1 (thn (ha pins s σ H _ I h) fun v s1 ⟨x, H1, I1, r1, q1⟩ => thn (hb pins s1 σ H1 _ I1 q1) fun u s2 ⟨y, H2, I2, r2, q2⟩ =>
    thn (ho pins s2 σ H2 x y v u _ I2 r1 r2 q2) fun c s3 ⟨z, H3, I3, r3, k, e, q3⟩ => ?_) hm
  subst e
  cases r3
  exact wpAny_truthy_bool ⟨H3, I3, q3⟩
/-! ### truth -/
theorem line63 : (sizeLine : Nat) < 2 ^ 63 := by rw [sizeLine_eq]; decide
/-! ### strs and bytes -/
/-! ### scalar builtins, by CallR -/
theorem vals1 {x : V} {us : List Value} (r : Vals [x] us) : ∃ u, us = [u] ∧ RelV x u := by
  cases r with
  | cons r1 r2 => cases r2; exact ⟨_, rfl, r1⟩
theorem vals2 {x y : V} {us : List Value} (r : Vals [x, y] us) : ∃ u w', us = [u, w'] ∧ RelV x u ∧ RelV y w' := by
  cases r with
  | cons r1 r2 =>
    cases r2 with
    | cons r3 r4 => cases r4; exact ⟨_, _, rfl, r1, r3⟩
theorem call_int1 : CallR X (.type "int") (fun xs H Q => (∃ i, xs = [.int i] ∧ Q (.int i) H) ∨ ∃ k, xs = [.bl k] ∧ Q (.int (if k then 1 else 0)) H) := by
  intro pins s σ H xs us Q I r h
  rcases h with ⟨i, rfl, q⟩ | ⟨k, rfl, q⟩
  · obtain ⟨u, rfl, t, rfl⟩ := vals1 r
    exact call_int_int ⟨.int i, H, I, ⟨_, rfl⟩, q⟩
  · obtain ⟨u, rfl, r1⟩ := vals1 r
    cases r1
    exact call_int_bool ⟨.int (if k then 1 else 0), H, I.tok _, ⟨_, rfl⟩, q⟩
end
end L2

namespace L2
open PySem PySem.Spec PyProof.Rows

/-! ### an instance, its attributes a map -/
section
variable {prog : Program} {w : World} {A : Around} {E : Value → Shared → Prop} {s : Shared} {K : PySem.W.Frag} {x dx C f : Addr} {mA : Str → Option Value} {name : Str} {v : Value}

end

/-! ### the attributes as a list of pairs -/
theorem RelO.some_of {v : V} {o : Option Value} (r : RelO (some v) o) : ∃ u, o = some u ∧ RelV v u := by
  cases o with
  | none => exact (show False from r).elim
  | some u => exact ⟨u, rfl, r⟩
section
variable {P : Program} {w : World} {H H' : Hp} {h h' : Heap} {a C dx : Addr} {fs fs' : List (Str × V)}
end

/-! ### what of the text a class must have -/
section
variable {X : Cx} {pins : List (Addr × Obj)} {σ : St} {H : Hp} {s : Shared} {a C dx : Addr} {fs : List (Str × V)} {f : Str} {v : V} {A : Around} {E : Value → Shared → Prop}

end

/-! ### readings and rules -/
section
variable {X : Cx} {o e value : Expr} {f : Str} {pos pos' tpos : Pos} {ta tv : TE}
end

/-! ### isinstance -/
section
variable {X : Cx} {pins : List (Addr × Obj)} {σ : St} {H : Hp} {s : Shared} {A : Around} {E : Value → Shared → Prop} {Q : Value → Shared → Prop} {c : Value} {b : Bool}
end
end L2

namespace L2
open PySem PySem.Spec PyProof.Rows

/-! ### room -/
structure Room (k : Nat) (A : Around) : Prop where
  hd : A.handled = none
  dp : A.depth + 3 * k + 5 < recursionLimit
  un : A.units + 16 * k + 200 < cLine
theorem Room.mono {j k : Nat} {A : Around} (r : Room k A) (h : j ≤ k) : Room j A := ⟨r.hd, by have := r.dp; omega, by have := r.un; omega⟩
theorem Room.deeper {k : Nat} {A : Around} (r : Room (k + 1) A) (env : Env) : Room k (A.deeper env) :=
  ⟨r.hd, by have := r.dp; show A.depth + 1 + 3 * k + 5 < _; omega, by have := r.un; show A.units + 3 + 16 * k + 200 < _; omega⟩
theorem Room.depth {k : Nat} {A : Around} (r : Room k A) : A.depth < recursionLimit := by have := r.dp; omega
theorem Room.units {k : Nat} {A : Around} (r : Room k A) : A.units + 64 < cLine := by have := r.un; omega
/-! ### argument lists and displays -/
noncomputable def tNil : TA := fun _ H Q => Q [] H
noncomputable def tCons (ta : TE) (tr : TA) : TA := fun σ H Q => ta σ H fun x H1 => tr σ H1 fun xs H2 => Q (x :: xs) H2
section
variable {X : Cx} {e : Expr} {es : List Expr} {te : TE} {t : TA} {pos : Pos}
theorem pa_nil : PA X [] tNil := fun _ _ _ _ H Q I h => Calls.spliced_nil ⟨[], H, I, .nil, h⟩
theorem pa_cons (ha : PE X e te) (hr : PA X es t) (hs : starEach (e :: es) X.env = (false, eval e X.env) :: starEach es X.env := by rfl) : PA X (e :: es) (tCons te t) := by
  intro pos pins s σ H Q I h
  rw [hs]
  show wpAny _ _ (spliced ((false, eval e X.env) :: backTo pos (starEach es X.env))) _ _ s
  refine Calls.spliced_cons (thn (ha pins s σ H _ I h) fun u s1 ⟨x, H1, I1, r1, q1⟩ => ?_)
  exact thn (hr pos pins s1 σ H1 _ I1 q1) fun us s2 ⟨xs, H2, I2, r2, q2⟩ => ⟨x :: xs, H2, I2, .cons r1 r2, q2⟩

/-- a tuple, a list of written items -/
noncomputable def tTup (t : TA) : TE := fun σ H Q => t σ H fun xs H1 => xs.length ≤ sizeLine ∧ ∀ p, H1 p = none → Q (.ref p) (upd H1 p (.tup xs))
noncomputable def tLst (t : TA) : TE := fun σ H Q => t σ H fun xs H1 => xs.length ≤ sizeLine ∧ ∀ p, H1 p = none → Q (.ref p) (upd H1 p (.lst xs))
theorem pe_tup {x1} (h : PA X es t) : PE X (.Tuple es x1 pos) (tTup t) := by
  intro pins s σ H Q I hq
  refine wpAny_Tuple_spliced (thn (h pos pins s σ H _ I hq) fun us s1 ⟨xs, H1, I1, r, z, q⟩ => ⟨by rw [← r.length]; exact z, ?_⟩)
  have hf : H1 s1.heap.objs.size = none := I1.hok.fresh (Nat.le_refl _)
  refine ⟨.ref s1.heap.objs.size, upd H1 s1.heap.objs.size (.tup xs), I1.laid (t' := s1.toks) (fun b u e => Heap.get?_push_of_some _ e) (Nat.le_refl _) ?_, rfl, q _ hf⟩
  exact ⟨z, us, r, ⟨_, Heap.get?_push_size _ rfl, rfl, _, rfl⟩⟩
theorem pe_lst (h : PA X es t) : PE X (.List es pos) (tLst t) := by
  intro pins s σ H Q I hq
  refine wpAny_List_spliced (thn (h pos pins s σ H _ I hq) fun us s1 ⟨xs, H1, I1, r, z, q⟩ => ⟨by rw [← r.length]; exact z, ?_⟩)
  have hf : H1 s1.heap.objs.size = none := I1.hok.fresh (Nat.le_refl _)
  refine ⟨.ref s1.heap.objs.size, upd H1 s1.heap.objs.size (.lst xs), I1.laid (t' := s1.toks) (fun b u e => Heap.get?_push_of_some _ e) (Nat.le_refl _) ?_, rfl, q _ hf⟩
  exact ⟨z, us, 0, r, Heap.get?_push_size _ rfl⟩
end

/-! ### what a def promises -/
/-- a def's promise: the bound arguments in the parameters' order, the heap, the wanted end, the wanted exception -/
noncomputable abbrev Sp := List V → Hp → VK → XK → Prop
/-- how an exception lies behind a call (file 08 gives it): the callers' frames, abstract heap and state ahead of the call, the wish, the exception, the state -/
noncomputable abbrev CXT := List Env → Hp → Shared → XK → Value → Shared → Prop

/-- the state at a call -/
structure Env0 (P : Program) (w : World) (K : PySem.W.Frag) (mg : Str → Option Value) (base : Heap) (A : Around) (outer : List Env) (s : Shared) (H : Hp) : Prop where
  frames : A.frames = some outer
  mod : Mod K mg base
  bs : ∀ b o, base.get? b = some o → s.heap.get? b = some o ∧ H b = none
  bsz : base.objs.size ≤ s.heap.objs.size
  funs : s.heap.FunFrames base outer
  frf : ∀ b ∈ frs outer, H b = none
  hok : HOk P w H s.heap
  bare : AllBare s.gens
/-- a call's end -/
noncomputable def CE (outer : List Env) (P : Program) (w : World) (H : Hp) (s : Shared) (Q : VK) (u : Value) (s' : Shared) : Prop :=
  ∃ v H', s'.os = s.os ∧ AllBare s'.gens ∧ Un (frs outer) [] H H' s.heap s'.heap ∧ HOk P w H' s'.heap ∧ RelV v u ∧ Q v H'
noncomputable def CR (CX : CXT) (outer : List Env) (P : Program) (w : World) (H : Hp) (s : Shared) (Q : VK) (E : XK) (r : Result) (s' : Shared) : Prop :=
  match r with
  | .ok (.ret u) => CE outer P w H s Q u s'
  | .ok _ => False
  | .error e => CX outer H s E e s'
structure FnOk (P : Program) (w : World) (K : PySem.W.Frag) (mg : Str → Option Value) (base : Heap) (CX : CXT) (k : Nat) (f : Addr) (fd : FuncData) (ps : List Str) (sp : Sp) : Prop where
  len : ∀ vs H Q E, sp vs H Q E → vs.length = ps.length
  run : ∀ (A : Around) (outer : List Env) (s : Shared) (H : Hp) (args : Args) (us : List Value) (vs : List V) (Q : VK) (E : XK), Room k A → Env0 P w K mg base A outer s H → BindsTo s fd args (ps.zip us) → Vals vs us → sp vs H Q E →
    codeAny (model P w) A (.call (.ref f) args) (CR CX outer P w H s Q E) s
section
variable {X : Cx} {pins : List (Addr × Obj)} {σ : St} {H : Hp} {s s' : Shared}
/-- from a body: what a callee wants -/
theorem Inv.env0 (I : Inv X pins σ H s) : Env0 X.prog X.w X.K X.mg X.base X.A X.stack s H :=
  ⟨I.ok.frames, I.ok.mod, I.bs, Nat.le_trans I.ok.bsz I.sz, I.stack, I.stkFree, I.hok, I.bare⟩
/-- behind a call -/
theorem Inv.after {Q : VK} {u : Value} (I : Inv X pins σ H s) (h : CE X.stack X.prog X.w H s Q u s') : EP X pins σ Q u s' := by
  obtain ⟨v, H', os, bare, un, hok, r, q⟩ := h
  obtain ⟨hh, g, d, t, os'⟩ := s'
  obtain rfl : os' = s.os := os
  exact ⟨v, H', I.call (h' := hh) (g' := g) (d' := d) (t' := t) (ch := []) un hok bare (fun b z => absurd z (by simp)), r, q⟩
end

/-! ### calls -/
/-- f(..): the written arguments, then the defaults dvs; E: what is wanted of an exception -/
noncomputable def tCall (sp : Sp) (dvs : List V) (E : XK) (t : TA) : TE := fun σ H Q => t σ H fun vs H1 => sp (vs ++ dvs) H1 Q E
/-- how the parameters are bound: us the positional arguments, kw the keywords' values by name, ds the defaults that fill up -/
noncomputable def Binds (K : PySem.W.Frag) (fd : FuncData) (ps : List Str) (ds : List Value) : Prop :=
  ∀ (s : Shared) (us : List Value), K.In s.heap → (us ++ ds).length = ps.length → BindsTo s fd ⟨us, []⟩ (ps.zip (us ++ ds))
/-- every parameter is given -/
theorem Binds.all {K : PySem.W.Frag} {fd : FuncData} {ps : List Str} (h : ∀ us : List Value, us.length = ps.length → bindArgs fd ⟨us, []⟩ = pure (ps.zip us)) : Binds K fd ps [] := fun s us _ hl => by
  rw [List.append_nil] at hl ⊢
  exact .of_eq (h us hl)

/-- an exception of a callee reaches what this body wants of exceptions -/
noncomputable def Passes (CX : CXT) (X : Cx) (E : XK) : Prop := ∀ (pins : List (Addr × Obj)) (σ : St) (H : Hp) (s : Shared) (e : Value) (s' : Shared), Inv X pins σ H s → CX X.stack H s E e s' → X.xe e s'

section
variable {X : Cx} {CX : CXT} {k : Nat} {f C : Addr} {fd : FuncData} {ps : List Str} {sp : Sp} {dvs : List V} {ds : List Value} {E : XK} {x m : Str} {p pos apos : Pos} {e o : Expr} {es : List Expr} {ta : TE} {t : TA}

/-- the callee runs -/
theorem run_fn {pins : List (Addr × Obj)} {σ : St} {H : Hp} {s : Shared} {Q : VK} {us : List Value} {vs : List V} (F : FnOk X.prog X.w X.K X.mg X.base CX k f fd ps sp) (hr : Room k X.A) (hb : Binds X.K fd ps ds) (hd : Vals dvs ds) (hx : Passes CX X E)
    (I : Inv X pins σ H s) (r : Vals vs us) (h : sp (vs ++ dvs) H Q E) : wpAny (model X.prog X.w) X.A (call (.ref f) us) (EP X pins σ Q) X.xe s := by
  have r2 : Vals (vs ++ dvs) (us ++ ds) := r.append hd
  have hl : (us ++ ds).length = ps.length := by rw [← r2.length]; exact F.len _ _ _ _ h
  refine wpAny_call (codeAny_mono (F.run X.A X.stack s H ⟨us, []⟩ (us ++ ds) (vs ++ dvs) Q E hr I.env0 (hb s us I.kIn hl) r2 h) fun r s' hq => ?_)
  cases r with
  | error e => exact hx pins σ H s e s' I hq
  | ok fl =>
    cases fl with
    | ret u => exact I.after hq
    | next => exact False.elim hq
    | brk => exact False.elim hq
    | cont => exact False.elim hq

theorem pe_call (F : FnOk X.prog X.w X.K X.mg X.base CX k f fd ps sp) (hr : Room k X.A) (hg : Gl X x) (hm : X.mg x = some (.ref f)) (hk : PySem.W.keepIn X.K (.ref f) = true) (hb : Binds X.K fd ps ds) (hd : Vals dvs ds) (hx : Passes CX X E)
    (ha : PA X (e :: es) t) (hdb : (x == ("__debug__" : Str)) = false := by decide) (he : starEach (e :: es) X.env = (false, eval e X.env) :: starEach es X.env := by rfl) (hpl : (backTo pos (starEach es X.env)).any (·.1) = false := by rfl) :
    PE X (.Call (.Name x p) (e :: es) [] pos) (tCall sp dvs E t) := by
  intro pins s σ H Q I h
  refine wpAny_Call_Name_kw (ld_glob I hg hm ?_ hdb)
  refine PySem.W.callWith_K (h₀ := X.base) I.ok.mod.kin hk (thn (ha pos pins s σ H _ I h) fun us s1 ⟨vs, H1, I1, r, q⟩ => ⟨I1.kIn, ?_⟩) he hpl
  exact run_fn F hr hb hd hx I1 r q
end

/-! ### keywords -/
section
variable {X : Cx} {CX : CXT} {k : Nat} {f C : Addr} {fd : FuncData} {ps ks : List Str} {sp : Sp} {E : XK} {x m : Str} {p pos apos kpos : Pos} {e o : Expr} {es : List Expr} {kws : List Keyword} {te ta : TE} {t tk : TA} {nm : Option Str}
variable {g : List Value → List Value → List Value} {gV : List V → List V → List V}
end

/-! ### a def's body keeps its promise -/
/-- names: the parameters first -/
structure FnScope (N P : List Str) (sc : Scope) : Prop where
  kind : sc.kind = .function
  co : sc.isCoroutine = false
  gen : sc.isGenerator = false
  nd : N.Nodup
  pre : N.take P.length = P
  par : ∀ x ∈ P, sc.names.lookup x = some .local ∨ sc.names.lookup x = some .cell
  nofree : ∀ y ∈ sc.names, y.2 ≠ .free

theorem bindL_out {kindOf : Str → Option NameKind} {x : Str} : ∀ {binds : List (Str × Value)} {m : Str → Option Value}, (∀ v, (x, v) ∉ binds) → bindL kindOf binds m x = m x
  | [], _, _ => rfl
  | (n, v) :: r, m, h => by
    unfold bindL
    rw [bindL_out fun w hw => h w (List.mem_cons_of_mem _ hw)]
    split
    · have : x ≠ n := by rintro rfl; exact h v List.mem_cons_self
      simp [this]
    · rfl
theorem bindC_out {kindOf : Str → Option NameKind} {x : Str} : ∀ {binds : List (Str × Value)} {m : Str → Option Value}, (∀ v, (x, v) ∉ binds) → bindC kindOf binds m x = m x
  | [], _, _ => rfl
  | (n, v) :: r, m, h => by
    unfold bindC
    rw [bindC_out fun w hw => h w (List.mem_cons_of_mem _ hw)]
    split
    · rfl
    · have : x ≠ n := by rintro rfl; exact h v List.mem_cons_self
      simp [this]
theorem bindL_get {kindOf : Str → Option NameKind} {x : Str} {v : Value} : ∀ {P : List Str} {vs : List Value} {i : Nat} {m : Str → Option Value}, P.Nodup → P[i]? = some x → vs[i]? = some v → kindOf x = some .local →
    bindL kindOf (P.zip vs) m x = some v
  | [], _, _, _, _, h, _, _ => by simp at h
  | _ :: _, [], _, _, _, _, h, _ => by simp at h
  | p :: P, w :: vs, 0, m, nd, h1, h2, hk => by
    simp at h1 h2; subst h1; subst h2
    show bindL kindOf ((p, w) :: P.zip vs) m p = _
    unfold bindL
    rw [bindL_out fun v hv => (List.nodup_cons.mp nd).1 (List.of_mem_zip hv).1, if_pos hk]
    simp
  | p :: P, w :: vs, i + 1, m, nd, h1, h2, hk => by
    show bindL kindOf ((p, w) :: P.zip vs) m x = _
    unfold bindL
    exact bindL_get (i := i) (List.nodup_cons.mp nd).2 (by simpa using h1) (by simpa using h2) hk
theorem bindC_get {kindOf : Str → Option NameKind} {x : Str} {v : Value} : ∀ {P : List Str} {vs : List Value} {i : Nat} {m : Str → Option Value}, P.Nodup → P[i]? = some x → vs[i]? = some v → kindOf x ≠ some .local →
    bindC kindOf (P.zip vs) m x = some v
  | [], _, _, _, _, h, _, _ => by simp at h
  | _ :: _, [], _, _, _, _, h, _ => by simp at h
  | p :: P, w :: vs, 0, m, nd, h1, h2, hk => by
    simp at h1 h2; subst h1; subst h2
    show bindC kindOf ((p, w) :: P.zip vs) m p = _
    unfold bindC
    rw [bindC_out fun v hv => (List.nodup_cons.mp nd).1 (List.of_mem_zip hv).1, if_neg hk]
    simp
  | p :: P, w :: vs, i + 1, m, nd, h1, h2, hk => by
    show bindC kindOf ((p, w) :: P.zip vs) m x = _
    unfold bindC
    exact bindC_get (i := i) (List.nodup_cons.mp nd).2 (by simpa using h1) (by simpa using h2) hk

/-- the names' values at the entry -/
noncomputable def start (N : List Str) (vs : List V) : St := vs.map some ++ List.replicate (N.length - vs.length) none

/-- the context of a def's body, at its entry; an exception leaves the frame, then lies as CX says -/
noncomputable def cxOf (CX : CXT) (P : Program) (w : World) (K : PySem.W.Frag) (mg : Str → Option Value) (base : Heap) (N : List Str) (qual : Str) (scope : Scope) (f : Addr) (cd : Value) (A : Around) (outer : List Env) (s : Shared) (H : Hp) (E : XK) : Cx where
  prog := P
  w := w
  K := K
  mg := mg
  base := base
  A := A.deeper (envOfC qual scope s.heap.objs.size f cd)
  N := N
  s₀ := s
  H₀ := H
  env := envOfC qual scope s.heap.objs.size f cd
  outer := outer
  stack := envOfC qual scope s.heap.objs.size f cd :: outer
  ex := []
  calm := true
  fn := fun _ => true
  pn := []
  xe := fun e s' => wpAny (model P w) (A.deeper (envOfC qual scope s.heap.objs.size f cd)) (leaving (envOfC qual scope s.heap.objs.size f cd) e) (fun _ s'' => CX outer H s E e s'') (fun e' s'' => CX outer H s E e' s'') s'

theorem cell_has {sc : Scope} {n : Nat} {x : Str} (h : sc.names.lookup x = some .cell) : ∃ c, (cellsFrom n sc.names []).lookup x = some c := by
  have q := PySem.W.cellsFrom_some sc.names n [] (.inl h)
  exact Option.isSome_iff_exists.mp q

theorem inv_start {CX : CXT} {P : Program} {w : World} {K : PySem.W.Frag} {mg : Str → Option Value} {base : Heap} {N ps : List Str} {qual : Str} {scope : Scope} {f : Addr} {cd : Value} {A : Around} {outer : List Env} {s s1 : Shared} {H : Hp} {E : XK} {us : List Value} {vs : List V}
    (S : FnScope N ps scope) (hd : A.handled = none) (e0 : Env0 P w K mg base A outer s H) (hl : vs.length = ps.length) (r : Vals vs us)
    (x : InCallC s s.heap.objs.size (bindL (envOfC qual scope s.heap.objs.size f cd).kindOf (ps.zip us) fun _ => none) (cellsFrom (s.heap.objs.size + 1) scope.names []) (bindC (envOfC qual scope s.heap.objs.size f cd).kindOf (ps.zip us) fun _ => none) s1) :
    Inv (cxOf CX P w K mg base N qual scope f cd A outer s H E) [] (start N vs) H s1 := by
  have hpl : ps.length ≤ N.length := by have := congrArg List.length S.pre; rw [List.length_take] at this; omega
  obtain ⟨h1, tk, rfl, hk⟩ := x.done
  have noA : ∀ b : Addr, b ∉ (cxOf CX P w K mg base N qual scope f cd A outer s H E).ex := fun b z => absurd (show b ∈ ([] : List Addr) from z) (by simp)
  refine ⟨⟨e0.mod, S.kind, rfl, rfl, Nat.le_refl _, fun y z c h1 h2 => ?_, fun y hy => ?_, fun y c _ h => ?_, fun _ => hd, Around.frames_deeper e0.frames, .inr ⟨rfl, rfl⟩, fun b z => absurd z (noA b), e0.bs, e0.bsz, fun b _ _ => noA b, fun b z => absurd z (noA b), e0.funs, e0.frf⟩,
    rfl, e0.bare, Un.kept hk, ⟨_, x.toInCall.ns, fun i y v h1 h2 h3 => ?_⟩, fun y c h => ⟨_, x.cell y c h⟩, e0.hok.fresh (Nat.le_refl _), fun y c h => ?_, fun p hp => absurd (show p ∈ ([] : List (Addr × Obj)) from hp) (by simp), e0.hok.kept hk, ?_⟩
  · exact name_of_addr x.apart (PySem.mem_of_lookup h1) (PySem.mem_of_lookup h2)
  · have hy : scope.names.lookup y = some .cell ∨ scope.names.lookup y = some .free := hy
    rcases hy with hy | hy
    · exact cell_has hy
    · exact absurd rfl (S.nofree _ (PySem.mem_of_lookup hy))
  · exact Nat.le_of_lt (x.above y c (PySem.mem_of_lookup h))
  · have hi : i < vs.length := by
      unfold start at h2
      by_cases hi : i < vs.length
      · exact hi
      · rw [List.getElem?_append_right (by simpa using hi)] at h2
        rw [List.getElem?_replicate] at h2
        split at h2 <;> cases h2
    have ha : vs[i]? = some v := by
      unfold start at h2
      rw [List.getElem?_append_left (by simpa using hi), List.getElem?_map] at h2
      cases e : vs[i]? with
      | none => rw [e] at h2; cases h2
      | some a => rw [e] at h2; cases h2; rfl
    obtain ⟨u, hu, rv⟩ := r.get ha
    have hp : ps[i]? = some y := by
      rw [← S.pre, List.getElem?_take_of_lt (by omega)]; exact h1
    have ndP : ps.Nodup := by rw [← S.pre]; exact S.nd.sublist (List.take_sublist _ _)
    refine ⟨u, rv, ?_⟩
    rcases S.par y (List.mem_of_getElem? hp) with k | k
    · exact .inl ⟨k, bindL_get ndP hp hu k⟩
    · obtain ⟨c, e⟩ := cell_has (n := s.heap.objs.size + 1) k
      refine .inr ⟨.inl k, c, e, ?_⟩
      have q := x.cell y c e
      rw [bindC_get ndP hp hu (by show scope.names.lookup y ≠ _; rw [k]; decide)] at q
      exact q
  · exact e0.hok.fresh (Nat.le_of_lt (x.above y c (PySem.mem_of_lookup h)))
  · unfold start
    show _ = N.length
    rw [List.length_append, List.length_map, List.length_replicate]
    omega

/-- THE RULE: a def (or a method) of the text, by its body. The body's reading t is chosen for each entry; it is run at the parameters' values -/
theorem fn_of {CX : CXT} {P : Program} {w : World} {K : PySem.W.Frag} {mg : Str → Option Value} {base : Heap} {k : Nat} {f : Addr} {name qual : Str} {params : Arguments} {body : List Stmt} {scope : Scope} {dV kV doc pm cdv ct oc : Value} {an od : Option Addr}
    {osl : Array (Option Value)} {N ps : List Str} {sp : Sp} (lk : K.lookup f = some ⟨oc, od, .func (PySem.W.fnOf name qual params body scope dV kV doc pm an cdv ct), osl⟩) (hcd : PySem.W.codeIn K cdv qual = true) (S : FnScope N ps scope)
    (len : ∀ vs H Q E, sp vs H Q E → vs.length = ps.length)
    (hbody : ∀ (A : Around) (outer : List Env) (s : Shared) (H : Hp) (vs : List V) (Q : VK) (E : XK), Room k (A.deeper (envOfC qual scope s.heap.objs.size f cdv)) → sp vs H Q E →
      ∃ t, PSs (cxOf CX P w K mg base N qual scope f cdv A outer s H E) body t ∧ t { nx := fun _ H' => Q .non H', rt := Q } (start N vs) H) :
    FnOk P w K mg base CX (k + 1) f (PySem.W.fnOf name qual params body scope dV kV doc pm an cdv ct) ps sp := by
  refine ⟨len, fun A outer s H args us vs Q E hr e0 hb r hsp => ?_⟩
  have hl := len _ _ _ _ hsp
  have KX : K.In s.heap := e0.mod.kin.keeps fun b o e => (e0.bs b o e).1
  have lim : s.heap.NoLimit := e0.mod.nolimit.keeps fun b o e => (e0.bs b o e).1
  have hkind : ∀ y ∈ ps.zip us, scope.names.lookup y.1 = some .local ∨ (scope.names.lookup y.1 = some .cell ∧ ((cellsFrom (s.heap.objs.size + 1) scope.names []).lookup y.1).isSome = true) := fun ⟨n, v⟩ hy => by
    rcases S.par n (List.of_mem_zip hy).1 with q | q
    · exact .inl q
    · exact .inr ⟨q, PySem.W.cellsFrom_some _ _ _ (.inl q)⟩
  refine codeAny_call_function hr.depth (KX _ _ lk) rfl S.co S.gen rfl (PySem.W.codeRec_of KX hcd) (hb _ _ _ _ ?_)
  refine wpAny_newFunctionEnv_cells S.kind hkind fun env he s1 x => ?_
  subst he
  refine ⟨lim.keeps x.toInCall.keep, codeAny_func ?_⟩
  obtain ⟨t, ht, hq⟩ := hbody A outer s H vs Q E (hr.deeper _) hsp
  have I : Inv (cxOf CX P w K mg base N qual scope f cdv A outer s H E) [] (start N vs) H s1 := inv_start S hr.hd e0 hl r x
  refine wpAny_mono (ht [] s1 (start N vs) H _ I hq) (fun fl s' hs => ?_) fun e s' hs => hs
  have fin : ∀ {σ' : St} {H' : Hp} {v : V} {u : Value}, Inv (cxOf CX P w K mg base N qual scope f cdv A outer s H E) [] σ' H' s' → RelV v u → Q v H' → CE outer P w H s Q u s' :=
    fun {σ' H' v u} J rv q => ⟨v, H', J.os, J.bare, J.base, J.hok, rv, q⟩
  cases fl with
  | ret u =>
    obtain ⟨v, σ', H', J, rv, q⟩ := hs
    exact fin J rv q
  | next =>
    obtain ⟨σ', H', J, q⟩ := hs
    exact fin (v := V.non) (u := Value.none) J rfl q
  | brk =>
    obtain ⟨_, _, _, q⟩ := hs
    exact False.elim q
  | cont =>
    obtain ⟨_, _, _, q⟩ := hs
    exact False.elim q
end L2

namespace L2
open PySem PySem.Spec PyProof.Rows
section
variable {X : Cx} {x : Str} {p pos : Pos} {e : Expr} {es : List Expr} {t : TA} {id T : String} {r : List V → Hp → VK → Prop}

noncomputable def tCB (r : List V → Hp → VK → Prop) (t : TA) : TE := fun σ H Q => t σ H fun vs H1 => r vs H1 Q
/-- f(e, ..), f a built-in function -/
theorem pe_callB (hc : CallR X (.builtin id) r) (hg : Gl X x) (hm : X.mg x = none) (hv : bootBuiltins x = some (.builtin id)) (ha : PA X (e :: es) t) (hn : x ≠ "__name__" := by decide) (hdb : (x == ("__debug__" : Str)) = false := by decide)
    (he : starEach (e :: es) X.env = (false, eval e X.env) :: starEach es X.env := by rfl) (hpl : (backTo pos (starEach es X.env)).any (·.1) = false := by rfl) : PE X (.Call (.Name x p) (e :: es) [] pos) (tCB r t) := by
  intro pins s σ H Q I h
  refine wpAny_Call_Name_kw (ld_blt I hg hm hv ?_ hn hdb)
  exact PyProof.Rows.callWith_builtin1 (thn (ha pos pins s σ H _ I h) fun us s1 ⟨vs, H1, I1, r1, q1⟩ => hc pins s1 σ H1 vs us Q I1 r1 q1) he hpl
/-- T(e, ..), T a built-in type -/
theorem pe_callTy (hc : CallR X (.type T) r) (hg : Gl X x) (hm : X.mg x = none) (hv : bootBuiltins x = some (.type T)) (ha : PA X (e :: es) t) (hn : x ≠ "__name__" := by decide) (hdb : (x == ("__debug__" : Str)) = false := by decide)
    (he : starEach (e :: es) X.env = (false, eval e X.env) :: starEach es X.env := by rfl) (hpl : (backTo pos (starEach es X.env)).any (·.1) = false := by rfl) : PE X (.Call (.Name x p) (e :: es) [] pos) (tCB r t) := by
  intro pins s σ H Q I h
  refine wpAny_Call_Name_kw (ld_blt I hg hm hv ?_ hn hdb)
  exact PyProof.Rows.callWith_type1 (thn (ha pos pins s σ H _ I h) fun us s1 ⟨vs, H1, I1, r1, q1⟩ => hc pins s1 σ H1 vs us Q I1 r1 q1) he hpl
end
end L2

namespace HT
open PySem PyProof.Rows

section
open PySem.SeqAt
open PySem.AutoSeq1 (wpAny_loadPart')
open PySem.MeetsSeq PySem.MeetsSeq2 PySem.MeetsSeq3

end

section
variable {prog : Program} {w : World} {A : Around} {E : Value → Shared → Prop} {s : Shared}

/-! ### t[a:b], not the whole -/
/-- a slice's bound as a place among n (d where it is left out) -/
noncomputable def sIx (n d : Nat) : Option Int → Nat
  | none => d
  | some v => if v < 0 then (v + (n : Int)).toNat else min v.toNat n
theorem sIx_none (n d : Nat) : sIx n d none = d := rfl
theorem sIx_nat (n d k : Nat) : sIx n d (some (k : Int)) = min k n := by
  show (if (k : Int) < 0 then ((k : Int) + (n : Int)).toNat else min (k : Int).toNat n) = min k n
  rw [if_neg (by omega), Int.toNat_natCast]
end
end HT

namespace L2
open PySem PySem.Spec PyProof.Rows

/-! ### the parts of a slice -/
noncomputable abbrev TO := St → Hp → (Option Int → Hp → Prop) → Prop
/-- a slice's part (left out, or an int) -/
noncomputable def PO (X : Cx) (e : Option Expr) (t : TO) : Prop :=
  ∀ (pins : List (Addr × Obj)) (s : Shared) (σ : St) (H : Hp) (Q : Option Int → Hp → Prop), Inv X pins σ H s → t σ H Q →
    wpAny (model X.prog X.w) X.A (evalPart e X.env) (fun u s' => ∃ o H', Inv X pins σ H' s' ∧ IsPart u o ∧ Q o H') X.xe s
noncomputable def tNoPart : TO := fun _ H Q => Q none H
noncomputable def tPart (t : TE) : TO := fun σ H Q => t σ H fun x H1 => ∃ i, x = .int i ∧ Q (some i) H1

theorem intsAre_of {ns : List Int} : ∀ {us : List Value}, Vals (ns.map V.int) us → IntsAre us ns := by
  induction ns with
  | nil => intro us r; rw [List.map_nil] at r; cases r; exact .nil
  | cons n ns ih =>
    intro us r
    rw [List.map_cons] at r
    cases r with
    | cons r1 r2 =>
      obtain ⟨t, e⟩ := r1
      subst e
      exact .cons n t (ih r2)

section
variable {X : Cx} {e : Expr} {te : TE} {lo hi : Option Expr} {tl th : TO} {pos p2 : Pos}

theorem po_none : PO X none tNoPart := by
  intro pins s σ H Q I h
  rw [evalPart_none]
  exact wpAny_pure ⟨none, H, I, .none, h⟩
theorem po_some (h : PE X e te) : PO X (some e) (tPart te) := by
  intro pins s σ H Q I hw
  rw [evalPart_some]
  refine thn (h pins s σ H _ I hw) fun u s1 ⟨x, H1, I1, r1, q1⟩ => ?_
  obtain ⟨i, rfl, q⟩ := q1
  obtain ⟨t, rfl⟩ := r1
  exact ⟨some i, H1, I1, .int i t, q⟩

/-- what a slice of a value is, by values: the slice object stands at sl -/
noncomputable def SlR (X : Cx) (r : V → Option Int → Option Int → Hp → VK → Prop) : Prop :=
  ∀ (pins : List (Addr × Obj)) (s : Shared) (σ : St) (H : Hp) (x : V) (v vl vu : Value) (lo hi : Option Int) (sl : Addr) (Q : VK), Inv X pins σ H s → RelV x v → s.heap.IsSliceOf sl vl vu .none → IsPart vl lo → IsPart vu hi → r x lo hi H Q →
    ∃ T id, typeLookup (.type T) "__getitem__" = pure (some (.builtin id)) ∧ s.TypeIs v T ∧ wpAny (model X.prog X.w) X.A (getItem v (.ref sl)) (EP X pins σ Q) X.xe s
noncomputable def tSl (r : V → Option Int → Option Int → Hp → VK → Prop) (te : TE) (tl th : TO) : TE := fun σ H Q => te σ H fun x H1 => tl σ H1 fun l H2 => th σ H2 fun u H3 => r x l u H3 Q
/-- a[lo:hi], any a -/
theorem pe_slice {r : V → Option Int → Option Int → Hp → VK → Prop} (hr : SlR X r) (he : PE X e te) (hl : PO X lo tl) (hu : PO X hi th) : PE X (.Subscript e (.Slice lo hi none p2) pos) (tSl r te tl th) := by
  intro pins s σ H Q I h
  refine Subscript_ (thn (he pins s σ H _ I h) fun v s1 ⟨x, H1, I1, r1, q1⟩ => ?_)
  refine wpAny_Slice (thn (hl pins s1 σ H1 _ I1 q1) fun vl s2 ⟨l, H2, I2, pl, q2⟩ => thn (hu pins s2 σ H2 _ I2 q2) fun vu s3 ⟨u, H3, I3, pu, q3⟩ => ?_)
  rw [evalPart_none]
  refine wpAny_pure ?_
  have I4 : Inv X pins σ H3 { s3 with heap := s3.heap.push { cls := .type "slice", data := .fields #[vl, vu, .none] } } := I3.kept (t' := s3.toks) fun b ob q => Heap.get?_push_of_some _ q
  obtain ⟨T, id, hT, ht, hg⟩ := hr pins { s3 with heap := s3.heap.push { cls := .type "slice", data := .fields #[vl, vu, .none] } } σ H3 x v vl vu l u s3.heap.objs.size Q I4 r1 (Heap.IsSliceOf.new ..) pl pu q3
  show wpAny (model X.prog X.w) X.A (subscriptTail e (.Slice lo hi none p2) v (.ref s3.heap.objs.size)) (EP X pins σ Q) X.xe { s3 with heap := s3.heap.push { cls := .type "slice", data := .fields #[vl, vu, .none] } }
  exact tail_any (ops := [.ref s3.heap.objs.size, v]) ht hT hg (by with_unfolding_all rfl)

/-- the items of xs[lo:hi] -/
noncomputable def cutV (xs : List V) (lo hi : Option Int) : List V := (xs.drop (HT.sIx xs.length 0 lo)).take (HT.sIx xs.length xs.length hi - HT.sIx xs.length 0 lo)
theorem cutV_length (xs : List V) (lo hi : Option Int) : (cutV xs lo hi).length ≤ xs.length := by
  unfold cutV
  rw [List.length_take, List.length_drop]
  omega
/-! ### t < u, t + u -/
end
end L2

namespace L2
open PySem PySem.Spec PyProof.Rows

/-! ### places -/
/-- the place that an index of any sign means -/
noncomputable def ixN (n : Nat) (i : Int) : Option Nat := if 0 ≤ i then (if i < n then some i.toNat else none) else if -(n : Int) ≤ i then some (i + n).toNat else none
noncomputable def atI {α : Type} (xs : List α) (i : Int) : Option α := (ixN xs.length i).bind fun j => xs[j]?
theorem ixN_seq {n : Nat} {i : Int} {j : Nat} (h : ixN n i = some j) : seqIndex? i n = some j ∧ j < n ∧ -(n : Int) ≤ i ∧ i < n := by
  unfold ixN at h
  by_cases h0 : 0 ≤ i
  · rw [if_pos h0] at h
    by_cases h1 : i < n
    · rw [if_pos h1] at h
      have e : i.toNat = j := Option.some.inj h
      exact ⟨by rw [seqIndex_of h0 h1, e], by omega, by omega, h1⟩
    · rw [if_neg h1] at h; cases h
  · rw [if_neg h0] at h
    by_cases h1 : -(n : Int) ≤ i
    · rw [if_pos h1] at h
      have e : (i + n).toNat = j := Option.some.inj h
      exact ⟨by rw [seqIndex_neg (by omega) h1, e], by omega, h1, by omega⟩
    · rw [if_neg h1] at h; cases h
theorem atI_get {α : Type} {xs : List α} {i : Int} {v : α} (h : atI xs i = some v) : ∃ j, seqIndex? i xs.length = some j ∧ xs[j]? = some v ∧ j < xs.length ∧ -(xs.length : Int) ≤ i ∧ i < xs.length := by
  unfold atI at h
  cases e : ixN xs.length i with
  | none => rw [e] at h; cases h
  | some j =>
    rw [e] at h
    obtain ⟨h1, h2, h3, h4⟩ := ixN_seq e
    exact ⟨j, h1, h, h2, h3, h4⟩
theorem atI_nat {α : Type} {xs : List α} {j : Nat} {v : α} (h : xs[j]? = some v) : atI xs (j : Int) = some v := by
  have hj : j < xs.length := (List.getElem?_eq_some_iff.mp h).1
  have e : ixN xs.length (j : Int) = some j := by
    unfold ixN
    rw [if_pos (by omega), if_pos (by omega)]; simp
  unfold atI; rw [e]; exact h
/-! ### what may be subscripted -/
/-- what stands as an index of a plain subscript -/
noncomputable def PlainIx (b : Expr) : Prop := ∀ o i, subscripted b false o i = operate [o, i] (getItem o i)
/-- a subscript by values -/
noncomputable def IxR (X : Cx) (r : R2) : Prop :=
  ∀ (value slice : Expr) (pins : List (Addr × Obj)) (s : Shared) (σ : St) (H : Hp) (x y : V) (v u : Value) (Q : VK), Inv X pins σ H s → RelV x v → RelV y u → r x y H Q →
    subscripted slice false v u = operate [v, u] (getItem v u) → wpAny (model X.prog X.w) X.A (subscriptTail value slice v u) (EP X pins σ Q) X.xe s
/-- a call of a builtin's method by values: the receiver, the arguments -/
noncomputable def MtR (X : Cx) (id : String) (r : V → List V → Hp → VK → Prop) : Prop :=
  ∀ (pins : List (Addr × Obj)) (s : Shared) (σ : St) (H : Hp) (x : V) (xs : List V) (v : Value) (us : List Value) (Q : VK), Inv X pins σ H s → RelV x v → Vals xs us → r x xs H Q →
    wpAny (model X.prog X.w) X.A (call (.builtin id) (v :: us)) (EP X pins σ Q) X.xe s
section
variable {X : Cx} {a b : Expr} {ta tb : TE} {pos : Pos}
/-- a[b] -/
theorem pe_ix {r : R2} (hr : IxR X r) (ha : PE X a ta) (hb : PE X b tb) (hs : PlainIx b) : PE X (.Subscript a b pos) (tOp r ta tb) := by
  intro pins s σ H Q I h
  exact Subscript_ (binT ha hb I h fun v u s2 x y H2 I2 rx ry q => hr a b pins s2 σ H2 x y v u Q I2 rx ry q (hs _ _))

noncomputable def rIxL (K : PySem.W.Frag) : R2 := fun x y H Q => ∃ p xs i v, x = .ref p ∧ y = .int i ∧ SqL K H p xs ∧ atI xs i = some v ∧ Q v H
noncomputable def rIxT (K : PySem.W.Frag) : R2 := fun x y H Q => ∃ p xs i v, x = .ref p ∧ y = .int i ∧ SqT K H p xs ∧ atI xs i = some v ∧ Q v H
theorem ix_list : IxR X (rIxL X.K) := by
  intro value slice pins s σ H x y v u Q I rx ry h hs
  obtain ⟨p, xs, i, z, rfl, rfl, hq, he, q⟩ := h
  cases rx
  obtain ⟨t, rfl⟩ := ry
  obtain ⟨its, r, pl, hz⟩ := I.list hq
  obtain ⟨j, h1, h2, h3, h4, h5⟩ := atI_get he
  obtain ⟨w, ew, rw'⟩ := r.get h2
  have hl := r.length
  have hn := line63
  have fin : EP X pins σ Q w s := ⟨z, H, I, rw', q⟩
  by_cases h0 : 0 ≤ i
  · have hj : i.toNat = j := by
      rw [seqIndex_of h0 h5] at h1
      exact Option.some.inj h1
    exact item_listR pl.isList h0 (by omega) (by rw [hj]; simpa using ew) fin hs
  · have hj : (i + (its.toArray.size : Int)).toNat = j := by
      rw [seqIndex_neg (by omega) h4] at h1
      rw [List.size_toArray, ← hl]
      exact Option.some.inj h1
    exact subscriptTail_builtinR (x := w) pl.isList.typeIs slot_list_getitem.lookup
      (wpAny_getItem_list_neg (Q := fun r s' => r = w ∧ EP X pins σ Q r s') pl.isList (by omega) (by rw [List.size_toArray] <;> omega) (by omega) (by rw [hj]; simpa using ew) ⟨rfl, fin⟩) hs
theorem ix_tup : IxR X (rIxT X.K) := by
  intro value slice pins s σ H x y v u Q I rx ry h hs
  obtain ⟨p, xs, i, z, rfl, rfl, hq, he, q⟩ := h
  cases rx
  obtain ⟨t, rfl⟩ := ry
  obtain ⟨its, r, pl, hz⟩ := I.tuple hq
  obtain ⟨j, h1, h2, h3, h4, h5⟩ := atI_get he
  obtain ⟨w, ew, rw'⟩ := r.get h2
  have hl := r.length
  have hn := line63
  have fin : EP X pins σ Q w s := ⟨z, H, I, rw', q⟩
  exact subscriptTail_builtinR (x := w) pl.typeIs slot_tuple_getitem.lookup
    (getItem_tuple (j := j) (Q := fun r s' => r = w ∧ EP X pins σ Q r s') pl (by omega) (by omega) (by rw [List.size_toArray, ← hl]; exact h1) (by simpa using ew) ⟨rfl, fin⟩) hs
/-! ### xs[i] = v, any sign -/
/-- the list's object behind a store -/
theorem mapSeq_set (its : List Value) (n j : Nat) (u : Value) : Obj.mapSeq (·.setIfInBounds j u) { cls := .type "list", data := .seq its.toArray n } = { cls := .type "list", data := .seq (its.set j u).toArray n } := by
  simp [Obj.mapSeq]
theorem Inv.lst {pins : List (Addr × Obj)} {σ : St} {H : Hp} {s : Shared} {p : Addr} {xs : List V} (I : Inv X pins σ H s) (h : H p = some (.lst xs)) :
    ∃ (its : List Value) (n : Nat), Vals xs its ∧ s.heap.get? p = some { cls := .type "list", data := .seq its.toArray n } ∧ xs.length ≤ sizeLine := by
  obtain ⟨z, its, n, r, e⟩ := I.hok p _ h
  exact ⟨its, n, r, e, z⟩
/-- the list at p is written by an update of its object -/
theorem Inv.lstUpd {pins : List (Addr × Obj)} {σ : St} {H : Hp} {s : Shared} {p : Addr} {xs ys : List V} {its its' : List Value} {n n' : Nat} {f : Obj → Obj} (I : Inv X pins σ H s) (h : H p = some (.lst xs))
    (ho : s.heap.get? p = some { cls := .type "list", data := .seq its.toArray n }) (hf : f { cls := .type "list", data := .seq its.toArray n } = { cls := .type "list", data := .seq its'.toArray n' }) (r : Vals ys its') (hz : ys.length ≤ sizeLine) (t : Nat) :
    Inv X pins σ (upd H p (.lst ys)) { s with heap := s.heap.update p f, toks := t } := by
  have e : (s.heap.update p f).get? p = some { cls := .type "list", data := .seq its'.toArray n' } := by
    rw [Heap.get?_update_self f ho (by rw [hf] <;> rfl), hf]
  refine I.write (x := p) (e := p) (by rw [h]; trivial) (.inl rfl) (fun b u hb q => (Heap.get?_update_other _ _ (Ne.symm hb)).trans q) ⟨_, e⟩ ?_
  exact ⟨hz, its', n', r, e⟩
noncomputable def rSetL : V → V → V → Hp → (Hp → Prop) → Prop := fun o i v H Q => ∃ p xs k j, o = .ref p ∧ i = .int k ∧ H p = some (.lst xs) ∧ ixN xs.length k = some j ∧ Q (upd H p (.lst (xs.set j v)))
theorem set_list : PSet X rSetL := by
  intro pins s σ H o i v ov iv u Q I ro ri rv h
  obtain ⟨p, xs, k, j, rfl, rfl, hp, hj, q⟩ := h
  cases ro
  obtain ⟨t, rfl⟩ := ri
  obtain ⟨its, n, r, ho, hz⟩ := I.lst hp
  obtain ⟨h1, h2, h3, h4⟩ := ixN_seq hj
  have hl := r.length
  have hn := line63
  have I' : Inv X pins σ (upd H p (.lst (xs.set j v))) { s with heap := s.heap.update p (Obj.mapSeq (·.setIfInBounds j u)) } :=
    I.lstUpd hp ho (mapSeq_set its n j u) (r.set rv j) (by rw [List.length_set]; exact hz) s.toks
  by_cases h0 : 0 ≤ k
  · have hk : k.toNat = j := by
      rw [seqIndex_of h0 h4] at h1
      exact Option.some.inj h1
    exact PySem.W.ki_setAt ho h0 (by omega) (by rw [List.size_toArray, ← hl]; exact h4) (by rw [hk]; exact ⟨_, I', q⟩)
  · have hk : (k + (its.toArray.size : Int)).toNat = j := by
      rw [seqIndex_neg (by omega) h3] at h1
      rw [List.size_toArray, ← hl]
      exact Option.some.inj h1
    exact PySem.W.ki_setBack ho (by omega) (by rw [List.size_toArray, ← hl]; exact h3) (by omega) (by rw [hk]; exact ⟨_, I', q⟩)

/-! ### slices -/
theorem slice_bounds (lo hi : Option Int) (n : Nat) : (sliceBounds lo hi none n).1 = ((HT.sIx n 0 lo : Nat) : Int) ∧ (sliceBounds lo hi none n).2.1 = ((HT.sIx n n hi : Nat) : Int) ∧ (sliceBounds lo hi none n).2.2 = 1 := by
  refine ⟨?_, ?_, rfl⟩
  · cases lo with
    | none => simp [sliceBounds, HT.sIx]
    | some i =>
      simp only [sliceBounds, HT.sIx, Option.getD_none, show (1 : Int) > 0 by decide, if_true]
      by_cases h : i < 0
      · simp only [h, if_true] <;> omega
      · simp only [h, if_false] <;> omega
  · cases hi with
    | none => simp [sliceBounds, HT.sIx]
    | some i =>
      simp only [sliceBounds, HT.sIx, Option.getD_none, show (1 : Int) > 0 by decide, if_true]
      by_cases h : i < 0
      · simp only [h, if_true] <;> omega
      · simp only [h, if_false] <;> omega
theorem slicePick_cut (its : List Value) (lo hi : Option Int) : slicePick its.toArray lo hi none = ((its.drop (HT.sIx its.length 0 lo)).take (HT.sIx its.length its.length hi - HT.sIx its.length 0 lo)).toArray := by
  obtain ⟨h1, h2, h3⟩ := slice_bounds lo hi its.toArray.size
  unfold slicePick
  rw [h1, h2, h3]
  simp only [sliceRange_one, pick_run, List.size_toArray] <;> rfl
/-- xs[lo:hi] of a list: a new list -/
noncomputable def rSlL (K : PySem.W.Frag) : V → Option Int → Option Int → Hp → VK → Prop := fun x lo hi H Q => ∃ a xs, x = .ref a ∧ SqL K H a xs ∧ ∀ p, H p = none → Q (.ref p) (upd H p (.lst (cutV xs lo hi)))
theorem sl_list : SlR X (rSlL X.K) := by
  intro pins s σ H x v vl vu lo hi sl Q I rx hs pl pu h
  obtain ⟨a, xs, rfl, hx, q⟩ := h
  cases rx
  obtain ⟨its, r, ht, hz⟩ := I.list hx
  have hlen := r.length
  refine ⟨"list", _, slot_list_getitem.lookup, ht.isList.typeIs, ?_⟩
  refine wpAny_getItem_list_slice ht.isList hs pl pu .none (by simp) ?_ (by rw [List.size_toArray] <;> omega)
  rw [slicePick_cut, ← hlen]
  refine ⟨.ref s.heap.objs.size, _, I.laid (t' := s.toks) (o := .lst (cutV xs lo hi)) (fun b ob q => Heap.get?_push_of_some _ q) (Nat.le_refl _) ?_, rfl, q _ (I.hok.fresh (Nat.le_refl _))⟩
  exact ⟨Nat.le_trans (cutV_length xs lo hi) hz, _, 0, (r.drop (HT.sIx xs.length 0 lo)).take (HT.sIx xs.length xs.length hi - HT.sIx xs.length 0 lo), Heap.get?_push_size _ rfl⟩

/-! ### in, not in: flat items -/
noncomputable def flatV : V → Bool
  | .non => true
  | .bl _ => true
  | .int _ => true
  | .str _ => true
  | _ => false
/-- == of flat values -/
noncomputable def eqV : V → V → Bool
  | .non, .non => true
  | .bl a, .bl b => a == b
  | .bl a, .int b => (if a then 1 else 0) == b
  | .int a, .bl b => a == (if b then 1 else 0)
  | .int a, .int b => a == b
  | .str a, .str b => a == b
  | _, _ => false
theorem eqAt_V {A : Around} {s : Shared} {y x : V} {u v : Value} (ry : RelV y u) (rx : RelV x v) (fy : flatV y = true) (fx : flatV x = true) : SeqAt.EqAt A s u v (eqV y x) := by
  cases y with
  | non =>
    cases ry
    cases x with
    | non => cases rx; exact SeqAt.EqAt.same _
    | bl b => cases rx; exact SeqAt.EqAt.none_bool b
    | int b => obtain ⟨t, rfl⟩ := rx; exact SeqAt.EqAt.none_int b t
    | str b => obtain ⟨t, rfl⟩ := rx; exact SeqAt.EqAt.none_str b t
    | _ => exact absurd (show false = true from fx) Bool.false_ne_true
  | bl a =>
    cases ry
    cases x with
    | non => cases rx; exact SeqAt.EqAt.bool_none a
    | bl b => cases rx; exact SeqAt.EqAt.bool_bool a b
    | int b => obtain ⟨t, rfl⟩ := rx; exact SeqAt.EqAt.bool_int a b t
    | str b => obtain ⟨t, rfl⟩ := rx; exact SeqAt.EqAt.bool_str a b t
    | _ => exact absurd (show false = true from fx) Bool.false_ne_true
  | int a =>
    obtain ⟨t', rfl⟩ := ry
    cases x with
    | non => cases rx; exact SeqAt.EqAt.int_none a t'
    | bl b => cases rx; exact SeqAt.EqAt.int_bool a t' b
    | int b => obtain ⟨t, rfl⟩ := rx; exact SeqAt.EqAt.int_int a t' b t
    | str b => obtain ⟨t, rfl⟩ := rx; exact SeqAt.EqAt.int_str a t' b t
    | _ => exact absurd (show false = true from fx) Bool.false_ne_true
  | str a =>
    obtain ⟨t', rfl⟩ := ry
    cases x with
    | non => cases rx; exact SeqAt.EqAt.str_none a t'
    | bl b => cases rx; exact SeqAt.EqAt.str_bool a t' b
    | int b => obtain ⟨t, rfl⟩ := rx; exact SeqAt.EqAt.str_int a t' b t
    | str b => obtain ⟨t, rfl⟩ := rx; exact SeqAt.EqAt.str_str a t' b t
    | _ => exact absurd (show false = true from fx) Bool.false_ne_true
  | _ => exact absurd (show false = true from fy) Bool.false_ne_true
/-- the items' answers, read off the values (a value's own answer does not lean on its token) -/
noncomputable def eqU (x : V) (u : Value) : Bool := match u with
  | .none => eqV .non x
  | .bool b => eqV (.bl b) x
  | .int i _ => eqV (.int i) x
  | .str z _ => eqV (.str z) x
  | _ => false
theorem eqU_of {x y : V} {u : Value} (r : RelV y u) (f : flatV y = true) : eqU x u = eqV y x := by
  cases y with
  | non => cases r; rfl
  | bl b => cases r; rfl
  | int i => obtain ⟨t, rfl⟩ := r; rfl
  | str z => obtain ⟨t, rfl⟩ := r; rfl
  | _ => exact absurd (show false = true from f) Bool.false_ne_true
theorem any_eqU {x : V} : ∀ {xs : List V} {us : List Value}, Vals xs us → xs.all flatV = true → us.any (eqU x) = xs.any fun y => eqV y x
  | _, _, .nil, _ => rfl
  | y :: xs, u :: us, .cons r t, f => by
    rw [List.all_cons, Bool.and_eq_true] at f
    rw [List.any_cons, List.any_cons, eqU_of r f.1, any_eqU t f.2]
theorem mem_eqAt {A : Around} {s : Shared} {x : V} {v : Value} (rx : RelV x v) (fx : flatV x = true) : ∀ {xs : List V} {us : List Value}, Vals xs us → xs.all flatV = true → ∀ u ∈ us, SeqAt.EqAt A s u v (eqU x u)
  | _, _, .nil, _ => fun u hu => by cases hu
  | y :: xs, u :: us, .cons r t, f => fun u' hu => by
    rw [List.all_cons, Bool.and_eq_true] at f
    rcases List.mem_cons.mp hu with rfl | hu
    · rw [eqU_of r f.1]; exact eqAt_V r rx f.1 fx
    · exact mem_eqAt rx fx t f.2 u' hu
noncomputable def inV (x : V) (xs : List V) : Bool := xs.any fun y => eqV y x
/-- x in a list or tuple of flat items -/
noncomputable def rIn (K : PySem.W.Frag) (neg : Bool) : R2 := fun x y H Q => ∃ p xs, y = .ref p ∧ (SqL K H p xs ∨ SqT K H p xs) ∧ flatV x = true ∧ xs.all flatV = true ∧ Q (.bl (if neg then !inV x xs else inV x xs)) H
theorem op_notIn_seq : OpR X (compareOp .NotIn) (rIn X.K true) := by
  intro pins s σ H x y v u Q I rx ry h
  obtain ⟨p, xs, rfl, hq, fx, fs, q⟩ := h
  cases ry
  rcases hq with hq | hq
  · obtain ⟨its, r, pl, hz⟩ := I.list hq
    refine SeqAt.notIn_listAt (eqU x) pl.isList (fun w hw => mem_eqAt rx fx r fs w (by simpa using hw)) ⟨.bl _, H, I, rfl, ?_⟩
    rw [show its.toArray.any (eqU x) = its.any (eqU x) by simp, any_eqU r fs]
    exact q
  · obtain ⟨its, r, pl, hz⟩ := I.tuple hq
    refine SeqAt.notIn_tupleAt (eqU x) pl (fun w hw => mem_eqAt rx fx r fs w (by simpa using hw)) ⟨.bl _, H, I, rfl, ?_⟩
    rw [show its.toArray.any (eqU x) = its.any (eqU x) by simp, any_eqU r fs]
    exact q
/-! ### len, list(x), tuple(x) of any list or tuple that is read -/
theorem call_len_seq : CallR X (.builtin "len") (fun xs H Q => ∃ p ys, xs = [.ref p] ∧ (SqL X.K H p ys ∨ SqT X.K H p ys) ∧ Q (.int ys.length) H) := by
  intro pins s σ H xs us Q I r h
  obtain ⟨p, ys, rfl, hq, q⟩ := h
  obtain ⟨u, rfl, rx⟩ := vals1 r
  cases rx
  have hn := line63
  rcases hq with hq | hq
  · obtain ⟨its, r', pl, hz⟩ := I.list hq
    have hlen := r'.length
    exact Calls.call_len_list pl.isList (by simp only [List.size_toArray] <;> omega) ⟨.int ys.length, H, I.tok _, ⟨s.toks + 1, by rw [List.size_toArray, hlen]⟩, q⟩
  · obtain ⟨its, r', pl, hz⟩ := I.tuple hq
    have hlen := r'.length
    exact len_tuple pl (by simp only [List.size_toArray] <;> omega) ⟨.int ys.length, H, I.tok _, ⟨s.toks + 1, by rw [List.size_toArray, hlen]⟩, q⟩
/-! ### the call of a builtin's method: o.m(..) -/
/-- the value is of that builtin type -/
noncomputable def tyV (K : PySem.W.Frag) (T : String) (x : V) (H : Hp) : Prop := match x with
  | .str _ => T = "str"
  | .int _ => T = "int"
  | .ref p => (T = "list" ∧ ∃ xs, SqL K H p xs) ∨ (T = "tuple" ∧ ∃ o, K.lookup p = some o ∧ o.cls = .type "tuple" ∧ o.dict = none) ∨
      (T = "dict" ∧ ((∃ kvs, H p = some (.dK kvs)) ∨ ∃ kvs, H p = some (.dT kvs))) ∨ (T = "set" ∧ ∃ S n, H p = some (.set S n))
  | _ => False
theorem tyV_is {pins : List (Addr × Obj)} {σ : St} {H : Hp} {s : Shared} {T : String} {x : V} {v : Value} (I : Inv X pins σ H s) (r : RelV x v) (ty : tyV X.K T x H) :
    s.TypeIs v T ∧ ∀ a, v = .ref a → ∃ ob, s.heap.get? a = some ob ∧ ob.dict = none := by
  cases x with
  | str z =>
    obtain ⟨t, rfl⟩ := r
    cases (show T = "str" from ty)
    exact ⟨typeIs_str s z t, fun _ e => nomatch e⟩
  | int i =>
    obtain ⟨t, rfl⟩ := r
    cases (show T = "int" from ty)
    exact ⟨typeIs_int s i t, fun _ e => nomatch e⟩
  | ref p =>
    cases r
    rcases ty with ⟨rfl, xs, hq⟩ | ⟨rfl, o, hk, hc, hd⟩ | ⟨rfl, hk⟩ | ⟨rfl, S, n, hk⟩
    · obtain ⟨its, _, pl, _⟩ := I.list hq
      refine ⟨pl.isList.typeIs, fun a e => ?_⟩
      cases e
      obtain ⟨o, n, e, c, hd, _⟩ := pl
      exact ⟨o, e, hd⟩
    · refine ⟨⟨o, I.kIn p o hk, hc⟩, fun a e => ?_⟩
      cases e
      exact ⟨o, I.kIn _ o hk, hd⟩
    · have z : ∃ o, s.heap.get? p = some o ∧ o.ExactDict := by
        rcases hk with ⟨kvs, hk⟩ | ⟨kvs, hk⟩
        · obtain ⟨_, _, _, _, o, _, _, e, ex, _⟩ := I.hok p _ hk
          exact ⟨o, e, ex⟩
        · obtain ⟨_, _, _, _, o, _, _, e, ex, _⟩ := I.hok p _ hk
          exact ⟨o, e, ex⟩
      obtain ⟨o, e, ex⟩ := z
      refine ⟨⟨o, e, ex.1⟩, fun a e2 => ?_⟩
      cases e2
      exact ⟨o, e, ex.2.1⟩
    · obtain ⟨o, _, _, _, e, ex, _⟩ := I.hok p _ hk
      refine ⟨⟨o, e, ex.1⟩, fun a e2 => ?_⟩
      cases e2
      exact ⟨o, e, ex.2.1⟩
  | _ => exact False.elim ty
noncomputable def tBM0 (K : PySem.W.Frag) (T : String) (r : V → List V → Hp → VK → Prop) (to : TE) : TE := fun σ H Q => to σ H fun x H1 => tyV K T x H1 ∧ r x [] H1 Q
noncomputable def tBM (K : PySem.W.Frag) (T : String) (r : V → List V → Hp → VK → Prop) (to : TE) (t : TA) : TE := fun σ H Q => to σ H fun x H1 => tyV K T x H1 ∧ t σ H1 fun xs H2 => r x xs H2 Q
variable {o e : Expr} {es : List Expr} {to : TE} {t : TA} {name : Str} {apos cpos : Pos} {T id : String} {r : V → List V → Hp → VK → Prop}
theorem pe_bm0 (pa : PlainAttrs T) (slot : Slot T name id) (hty : typeOf (.builtin id) = pure (.type "method_descriptor")) (hm : MtR X id r) (ho : PE X o to)
    (hbase : attributeBase o name X.env (eval o X.env) = eval o X.env := by rfl) (hline : (apos.endLine == cpos.line) = true := by rfl) : PE X (.Call (.Attribute o name apos) [] [] cpos) (tBM0 X.K T r to) := by
  intro pins s σ H Q I h
  refine wpAny_Call_method0_late hbase hline (thn (ho pins s σ H _ I h) fun v s1 ⟨x, H1, I1, r1, ty, q1⟩ => ?_)
  obtain ⟨h1, h2⟩ := tyV_is I1 r1 ty
  exact ⟨T, id, pa, slot, hty, h1, h2, Calls.callWith_builtin rfl (PySem.evalArgs_none (hm pins s1 σ H1 x [] v [] Q I1 r1 .nil q1))⟩
theorem pe_bm (pa : PlainAttrs T) (slot : Slot T name id) (hty : typeOf (.builtin id) = pure (.type "method_descriptor")) (hm : MtR X id r) (ho : PE X o to) (ha : PA X (e :: es) t)
    (hbase : attributeBase o name X.env (eval o X.env) = eval o X.env := by rfl)
    (hfew : ((backTo cpos (starEach (e :: es) X.env)).all (fun x => !x.1) && (backToKw cpos (keywordEach [] X.env)).all (fun x => x.1.isSome)
      && decide ((e :: es).length + ([] : List Keyword).length + (if ([] : List Keyword).isEmpty then 0 else 1) < 30)) = true := by rfl)
    (hline : (apos.endLine == cpos.line) = true := by rfl) (hs : starEach (e :: es) X.env = (false, eval e X.env) :: starEach es X.env := by rfl) (hplain : (backTo cpos (starEach es X.env)).any (·.1) = false := by rfl) :
    PE X (.Call (.Attribute o name apos) (e :: es) [] cpos) (tBM X.K T r to t) := by
  intro pins s σ H Q I h
  refine wpAny_Call_method_late hbase hfew hline rfl (thn (ho pins s σ H _ I h) fun v s1 ⟨x, H1, I1, r1, ty, q1⟩ => ?_)
  obtain ⟨h1, h2⟩ := tyV_is I1 r1 ty
  refine ⟨T, id, pa, slot, hty, h1, h2, ?_⟩
  have hA := ha cpos pins s1 σ H1 _ I1 q1
  rw [hs] at hA ⊢
  refine Calls.callWith_builtin (by show (false || (backTo cpos (starEach es X.env)).any (·.1)) = false; rw [hplain] <;> rfl) (Calls.evalArgs_plain ?_)
  exact thn hA fun us s2 ⟨vs, H2, I2, r2, q2⟩ => hm pins s2 σ H2 x vs v us Q I2 r1 r2 q2
/- xs.append(e), list.index on a module's tuple .. are MtR facts of 06m -/
end
end L2

namespace L2
open PySem PySem.Spec PyProof.Rows

noncomputable def MtM (X : Cx) (id : String) (r : V → List V → Hp → VK → Prop) : Prop :=
  ∀ (pins : List (Addr × Obj)) (s : Shared) (σ : St) (H : Hp) (x : V) (xs : List V) (v : Value) (us : List Value) (Q : VK), Inv X pins σ H s → RelV x v → Vals xs us → r x xs H Q →
    wpAny (model X.prog X.w) X.A (call (.builtin id) (v :: us)) (EP X pins σ Q) X.xe s

/-! ### lists of values -/
theorem Vals.one : ∀ {x : V} {us : List Value}, Vals [x] us → ∃ u, us = [u] ∧ RelV x u
  | _, _, .cons r .nil => ⟨_, rfl, r⟩
section
variable {X : Cx} {pins : List (Addr × Obj)} {σ : St} {H : Hp} {s : Shared} {l b : Addr} {xs ys zs : List V}

/-! ### the two steps: a tracked list is rewritten, a new list is laid -/
theorem Inv.lset {its its' : List Value} {n : Nat} {f : Array Value → Array Value} {t' : Nat} (I : Inv X pins σ H s) (hH : H l = some (.lst xs))
    (e : s.heap.get? l = some { cls := .type "list", data := .seq its.toArray n }) (hf : f its.toArray = its'.toArray) (hv : Vals ys its') (hz : ys.length ≤ sizeLine) :
    Inv X pins σ (upd H l (.lst ys)) { s with heap := s.heap.update l (Obj.mapSeq f), toks := t' } := by
  have q := PySem.IsL.update e f
  rw [hf] at q
  refine I.write (x := l) (e := l) (by rw [hH]; exact trivial) (.inl rfl) (fun b' u hb hu => (Heap.get?_update_other s.heap (Obj.mapSeq f) (Ne.symm hb)).trans hu) ⟨_, q⟩ ?_
  exact ⟨hz, its', _, hv, q⟩
theorem Inv.lnew {its : List Value} {t' : Nat} (I : Inv X pins σ H s) (hv : Vals ys its) (hz : ys.length ≤ sizeLine) :
    Inv X pins σ (upd H s.heap.objs.size (.lst ys)) { s with heap := s.heap.push { cls := .type "list", data := .seq its.toArray }, toks := t' } :=
  I.laid (fun _ _ q => Heap.get?_push_of_some _ q) (Nat.le_refl _) ⟨hz, its, 0, hv, Heap.get?_push_size _ rfl⟩
theorem Inv.fresh (I : Inv X pins σ H s) : H s.heap.objs.size = none := I.hok.fresh (Nat.le_refl _)
theorem Inv.lstM (I : Inv X pins σ H s) (hH : H l = some (.lst xs)) : xs.length ≤ sizeLine ∧ ∃ (its : List Value) (n : Nat), Vals xs its ∧ xs.length = its.length ∧ s.heap.get? l = some { cls := .type "list", data := .seq its.toArray n } := by
  obtain ⟨z, its, n, r, e⟩ := I.hok l _ hH
  exact ⟨z, its, n, r, r.length, e⟩

theorem notLongL {n : Nat} (h : n ≤ sizeLine) : Builtin.List.listTooLong n = false := by
  unfold Builtin.List.listTooLong
  exact decide_eq_false (by omega)
end

section
variable {X : Cx}

/-! ### methods -/
noncomputable def rAppend : V → List V → Hp → VK → Prop := fun x vs H Q => ∃ l xs y, x = .ref l ∧ vs = [y] ∧ H l = some (.lst xs) ∧ xs.length < sizeLine ∧ Q .non (upd H l (.lst (xs ++ [y])))
theorem mt_append : MtM X "list.append" rAppend := by
  intro pins s σ H x vs v us Q I rx rv h
  obtain ⟨l, xs, y, rfl, rfl, hH, hz, q⟩ := h
  cases rx
  obtain ⟨u, rfl, ru⟩ := rv.one
  obtain ⟨z, its, n, r, hl, e⟩ := I.lstM hH
  refine call_meets F.slot_list_append ⟨_, e, rfl⟩ F.entry_list_append (F.args_list_append_2 _ _) (PySem.list_append l its.toArray n u (by rw [List.size_toArray]; omega)) ⟨e, ?_⟩
  refine ⟨.non, _, I.lset (its' := its ++ [u]) hH e (by simp) (r.append (.cons ru .nil)) ?_, rfl, q⟩
  rw [List.length_append, List.length_singleton]
  omega

noncomputable def rExtend : V → List V → Hp → VK → Prop := fun x vs H Q => ∃ l b xs zs, x = .ref l ∧ vs = [.ref b] ∧ H l = some (.lst xs) ∧ H b = some (.lst zs) ∧ xs.length + zs.length ≤ sizeLine ∧ Q .non (upd H l (.lst (xs ++ zs)))
theorem mt_extend : MtM X "list.extend" rExtend := by
  intro pins s σ H x vs v us Q I rx rv h
  obtain ⟨l, b, xs, zs, rfl, rfl, hH, hB, hz, q⟩ := h
  cases rx
  obtain ⟨u, rfl, ru⟩ := rv.one
  cases ru
  obtain ⟨z, its, n, r, hl, e⟩ := I.lstM hH
  obtain ⟨z2, its2, n2, r2, hl2, e2⟩ := I.lstM hB
  have hsz : its.toArray.size + its2.toArray.size ≤ sizeLine := by rw [List.size_toArray, List.size_toArray]; omega
  have hlong : ¬ (!its.toArray.isEmpty && Builtin.List.listTooLong (its.toArray.size + its2.toArray.size)) = true := by
    rw [notLongL hsz, Bool.and_false]
    exact Bool.false_ne_true
  refine call_meets F.slot_list_extend ⟨_, e, rfl⟩ F.entry_list_extend (F.args_list_extend_2 _ _)
    (AutoSeq1.list_extend_list_list_0 l its.toArray n b its2.toArray n2 hlong (by rw [List.size_toArray]; omega) (by omega)) ⟨e, e2, ?_⟩
  refine ⟨.non, _, I.lset (its' := its ++ its2) hH e (by simp) (r.append r2) ?_, rfl, q⟩
  rw [List.length_append]
  omega

/-! ### list + list, list += list, list * int -/
noncomputable def rCat : R2 := fun x y H Q => ∃ l b xs zs, x = .ref l ∧ y = .ref b ∧ H l = some (.lst xs) ∧ H b = some (.lst zs) ∧ xs.length + zs.length ≤ sizeLine ∧ ∀ p, H p = none → Q (.ref p) (upd H p (.lst (xs ++ zs)))
theorem op_cat : OpR X (binaryOp .Add) rCat := by
  intro pins s σ H x y v u Q I rx ry h
  obtain ⟨l, b, xs, zs, rfl, rfl, hH, hB, hz, q⟩ := h
  cases rx
  cases ry
  obtain ⟨z, its, n, r, hl, e⟩ := I.lstM hH
  obtain ⟨z2, its2, n2, r2, hl2, e2⟩ := I.lstM hB
  refine PySem.P.add_list e e2 ?_ (by rw [List.size_toArray, List.size_toArray]; omega)
  have ea : its.toArray ++ its2.toArray = (its ++ its2).toArray := by simp
  rw [ea]
  exact ⟨.ref _, _, I.lnew (t' := s.toks) (r.append r2) (by rw [List.length_append]; omega), rfl, q _ I.fresh⟩
/-! ### del xs[i] -/
end

/-! ### xs[a:b] = ys -/
section
variable {prog : Program} {w : World} {A : Around} {E : Value → Shared → Prop} {s : Shared}
end

section
variable {X : Cx}
end
end L2

namespace Att
open PySem PySem.W PySem.Calls PyProof.Rows

/-! ### the script -/
theorem ints_of_wellAll {P : Params} {h : Heap} : ∀ (ns : List Int) (vs : List Value), WellAll P h vs (ns.map WData.int) → IntsAre vs ns := by
  intro ns
  induction ns with
  | nil =>
    intro vs w
    rw [List.map_nil] at w
    cases w
    exact .nil
  | cons n ns ih =>
    intro vs w
    rw [List.map_cons] at w
    cases w with
    | cons a b =>
      cases a
      exact .cons _ _ (ih _ b)

theorem script_of {l : OpenLaw} {n : Nat} (hn : l.most = some n) {P : Params} {h : Heap} {args : List WData} {vals : List Value}
    (hpre : l.row.toRowW.claim.pre args = true) (hwl : WellAll P h vals args) :
    ∃ a vs ns, vals = [Value.ref a] ∧ args = [WData.list (ns.map WData.int)] ∧ h.get? a = some { cls := .type "list", data := .seq vs.toArray } ∧ IntsAre vs ns ∧ ns.length ≤ n := by
  have hsh : WShape.hasAll [] args [.list .int] = true := (pre_splitW hpre).1
  have hc : l.pre.holds [] { args := args } = true := (pre_splitW hpre).2
  obtain ⟨d, r, rfl, h1, h2⟩ := hasAllW_cons hsh
  obtain rfl := hasAllW_nil h2
  obtain ⟨xs, rfl, h3⟩ := hasW_list h1
  obtain ⟨ns, rfl⟩ := items_int h3
  have hlen : ns.length ≤ n := by
    unfold OpenLaw.pre at hc
    have h4 : (WTm.not (.lt (.lit (.int (n : Int))) (.len (.arg 0)))).holds [] { args := [.list (ns.map .int)] } = true := by
      have h4 := (holds_andW hc).1
      rw [hn] at h4
      exact h4
    have h5 := condW_of h4 (w_not (w_lt w_lit (w_len_list (w_arg rfl))))
    rw [List.length_map] at h5
    refine Nat.le_of_not_lt fun q => ?_
    have q' : (n : Int) < ((ns.length : Nat) : Int) := by omega
    first
      | (rw [decide_eq_true q'] at h5; exact absurd h5 (by decide))
      | (simp at h5; omega)
  cases hwl with
  | cons w1 w2 =>
    cases w2
    cases w1 with
    | list ho hall => exact ⟨_, _, ns, rfl, rfl, ho, ints_of_wellAll ns _ hall, hlen⟩

theorem post_true (l : OpenLaw) (args : List WData) : l.row.toRowW.claim.post args (.bool true) args = true :=
  postW_of (r := l.row.toRowW) (X := (true == true))
    (show WShape.has [] (.bool true) .bool = true by first | rfl | decide | simp [WShape.has, WShape.arms, WShape.armsAll])
    (show (WTm.eq .res (.lit (.bool true))).value [] { args := args, res := some (.bool true), after := args } = some (.bool (true == true)) from w_eq_bool (w_res rfl) w_lit) rfl

/-! ### the attachment: holds_open's last premise (the goal 'hc' behind k_head) from a wpAny of the law's body -/
/-- the same from a codeAny of the CALL (for a layer whose function contracts speak of calls) -/
theorem attach_call {l : OpenLaw} {n : Nat} {q : Program} {loose : List Str} {XP : (Str → Option Value) → Heap → Prop} {YP : World → Heap → Prop} {d : DefRec}
    (hn : l.most = some n) (hdf : d.params.defaults = [])
    (call : ∀ (w : World) (s₀ s₁ : Shared) (mg mb : Str → Option Value) (fa : Addr) (o : Obj) (pm cd doc : Value) (a : Addr) (vs : List Value) (ns : List Int),
      Ground q loose [] XP w s₀ mg mb s₁.heap → YP w s₁.heap →
      s₁.heap.get? fa = some o → o.data = .func (docDef d.name d.params d.body d.scope pm cd doc) → s₁.heap.CodeRec cd d.name → mg d.name = some (.ref fa) →
      s₁.heap.get? a = some { cls := .type "list", data := .seq vs.toArray } → IntsAre vs ns → ns.length ≤ n → s₁.gens = #[] →
      codeAny (model l.prog w) callerA (.call (.ref fa) ⟨[.ref a], []⟩) (fun r s' => r = .ok (.ret (.bool true)) ∧ OldK s₁.heap s'.heap ∧ s'.os = s₁.os ∧ AllBare s'.gens) s₁) :
    WalkO q loose XP YP l.row.toRowW d [] (fun f vs => PySem.call f vs) := by
  intro w s₀ s₁ mg mb G Y fa o pm cd doc dV kV ho hd hcd hD hmg hg args vals as hpre hlay hrd hwl hlo
  obtain rfl : dV = .none := Dflts.none hD hdf
  obtain rfl : kV = .none := Dflts.noKw hD
  obtain ⟨a, vs, ns, rfl, rfl, hobj, hints, hlen⟩ := script_of hn hpre hwl
  refine enter_call (codeAny_mono (call w s₀ s₁ mg mb fa o pm cd doc a vs ns G Y ho (fd_plain hd) hcd hmg hobj hints hlen hg) fun r s' hq => ?_)
  obtain ⟨rfl, h2, h3, h4⟩ := hq
  exact ⟨.inl ⟨.bool true, .bool true, [], rfl, fun _ => rfl, .bool true, post_true l _, fun _ => ⟨List.Pairwise.nil, fun _ hm => (nomatch hm)⟩⟩, h2, h3, h4⟩

/-! ### rules over ANY heap (no ledger) from facts about the written part K: the library's own take a ledger (News) for what they write -/
section
variable {prog : Program} {w : World} {A : Around} {E : Value → Shared → Prop} {s : Shared} {K : Frag}

/-! the whole heap as the ledger: makes every rule that writes through a ledger a rule over any heap -/
end
end Att

namespace L2
open PySem PySem.Spec PyProof.Rows

theorem vals_ints : ∀ {vs : List Value} {ns : List Int}, IntsAre vs ns → Vals (ns.map V.int) vs
  | _, _, .nil => .nil
  | _, _, .cons n t h => .cons ⟨t, rfl⟩ (vals_ints h)

/-- nothing is tracked but the script, known to the object (or it is an object of the module) -/
noncomputable def Only (H : Hp) : Prop := ∀ b, H b = none ∨ ∃ o xs, H b = some (.frz o (.lst xs))

/-- THE HEAD: the law's promise, at the heap behind the top. F, the promise of the law's def, may use that base is part of the heap (so K.In base, base.Ns mainGlobals mg stand in Mod) -/
theorem law_call {P : Program} {w : World} {K : PySem.W.Frag} {mg mb : Str → Option Value} {CX : CXT} {k : Nat} {fa a : Addr} {fd : FuncData} {x : Str} {sp : Sp} {s₁ : Shared} {vs : List Value} {ns : List Int}
    (KX : K.In s₁.heap) (hns : s₁.heap.Ns mainGlobals mg) (hb : s₁.heap.Ns builtinsNs mb) (hbb : ∀ x : Str, x ≠ "__name__" → mb x = bootBuiltins x) (hlim : s₁.heap.NoLimit) (hg : s₁.gens = #[])
    (ha : s₁.heap.get? a = some { cls := .type "list", data := .seq vs.toArray }) (hi : IntsAre vs ns) (hl : ns.length ≤ sizeLine) (hr : Room k callerA)
    (F : ∀ base : Heap, K.In base → base.Ns mainGlobals mg → FnOk P w K mg base CX k fa fd [x] sp) (hbind : ∀ (s : Shared) (u : Value), BindsTo s fd ⟨[u], []⟩ [(x, u)])
    (hsp : ∀ H : Hp, Only H → SqL K H a (ns.map V.int) → sp [.ref a] H (fun v _ => v = .bl true) fun _ _ _ => False)
    (hCX : ∀ H e s', CX [] H s₁ (fun _ _ _ => False) e s' → False) :
    codeAny (model P w) callerA (.call (.ref fa) ⟨[.ref a], []⟩) (fun r s' => r = .ok (.ret (.bool true)) ∧ OldK s₁.heap s'.heap ∧ s'.os = s₁.os ∧ AllBare s'.gens) s₁ := by
  have rv := vals_ints hi
  have lenV := hi.length
  -- from an abstract heap in which nothing but the script may be tracked
  have core : ∀ H : Hp, Only H → SqL K H a (ns.map V.int) → HOk P w H s₁.heap → (∀ b, H b ≠ none → b = a) → (H a ≠ none → K.lookup a = none) →
      codeAny (model P w) callerA (.call (.ref fa) ⟨[.ref a], []⟩) (fun r s' => r = .ok (.ret (.bool true)) ∧ OldK s₁.heap s'.heap ∧ s'.os = s₁.os ∧ AllBare s'.gens) s₁ := by
    intro H hO hS hok hA hK
    have base_of : ∀ {b : Addr} {o : Obj}, s₁.heap.get? b = some o → H b = none → (hidT s₁.heap H).get? b = some o := fun e n => hidT_get e n
    have noA : ∀ {b : Addr} {o : Obj} {es : Array DictEntry} {ep : Nat}, s₁.heap.get? b = some o → o.data = .dict es ep → H b = none := fun {b o es ep} e d => by
      cases q : H b with
      | none => rfl
      | some u =>
        have e' : b = a := hA b (by rw [q]; simp)
        subst e'
        rw [ha] at e; cases e
        have d' : Data.seq vs.toArray _ = Data.dict es ep := d
        cases d'
    have nsK : ∀ {b : Addr} {m : Str → Option Value}, s₁.heap.Ns b m → (hidT s₁.heap H).Ns b m := fun {b m} ⟨o, es, ep, e, d, r⟩ => ⟨o, es, ep, base_of e (noA e d), d, r⟩
    have hKb : K.In (hidT s₁.heap H) := fun b o e => base_of (KX b o e) (by
      cases q : H b with
      | none => rfl
      | some u =>
        have e' : b = a := hA b (by rw [q]; simp)
        subst e'
        rw [hK (by rw [q]; simp)] at e; cases e)
    have hM : Mod K mg (hidT s₁.heap H) := ⟨hKb, nsK hns, ⟨mb, nsK hb, hbb⟩, let ⟨mc, h1, h2⟩ := hlim; ⟨mc, nsK h1, h2⟩⟩
    have e0 : Env0 P w K mg (hidT s₁.heap H) callerA [] s₁ H := ⟨rfl, hM, fun b o e => of_hidT e, Nat.le_of_eq (hidT_size _ _), trivial, fun b hb => absurd (show b ∈ ([] : List Addr) from hb) (by simp), hok, .of_eq hg⟩
    refine codeAny_mono ((F _ hKb (nsK hns)).run callerA [] s₁ H ⟨[.ref a], []⟩ [.ref a] [.ref a] _ _ hr e0 (hbind s₁ (.ref a)) (.cons rfl .nil) (hsp H hO hS)) fun r s' h => ?_
    cases r with
    | error e => exact (hCX H e s' h).elim
    | ok fl =>
      cases fl with
      | next => exact False.elim h
      | brk => exact False.elim h
      | cont => exact False.elim h
      | ret u =>
        obtain ⟨v, H', os, bare, un, hok', r', q⟩ := h
        have q' : v = .bl true := q
        subst q'
        obtain rfl : u = Value.bool true := r'
        refine ⟨rfl, OldK.of_keep fun b o e => ?_, os, bare⟩
        cases q : H b with
        | none => exact un.keep b o e q (by intro z; exact absurd (show b ∈ ([] : List Addr) from z) (by simp)) (by simp)
        | some u =>
          rcases hO b with z | ⟨ob, xs, z⟩
          · rw [q] at z; cases z
          · have z2 := un.frzs b ob _ z
            obtain ⟨e1, _⟩ := hok b _ z
            obtain ⟨e2, _⟩ := hok' b _ z2
            rw [e] at e1; cases e1
            exact e2
  cases hk : K.lookup a with
  | some o =>
    -- the script is one of the module's own objects
    have e := KX a o hk
    rw [ha] at e
    cases e
    refine core (fun _ => none) (fun _ => .inl rfl) (.inr ⟨_, vs.toArray, _, hk, rfl, rfl, rfl, by rw [List.size_toArray, lenV]; exact hl, by simpa using rv⟩) (fun b u z => by have z' : (none : Option HO) = some u := z; cases z') (fun b z => absurd rfl z) fun z => absurd rfl z
  | none =>
    refine core (fun b => if b = a then some (.frz { cls := .type "list", data := .seq vs.toArray } (.lst (ns.map V.int))) else none) (fun b => ?_) (.inl (.inr ⟨{ cls := .type "list", data := .seq vs.toArray }, if_pos rfl⟩)) (fun b u z => ?_) (fun b z => ?_) fun _ => hk
    · by_cases hb : b = a
      · exact .inr ⟨_, _, if_pos hb⟩
      · exact .inl (if_neg hb)
    · by_cases hb : b = a
      · have z' := (if_pos hb).symm.trans z
        cases z'
        subst hb
        exact ⟨ha, by rw [List.length_map]; exact hl, vs, _, rv, ha⟩
      · have z' := (if_neg hb).symm.trans z
        cases z'
    · by_cases hb : b = a
      · exact hb
      · exact absurd (if_neg hb) z
end L2

namespace L2
open PySem PySem.Spec PyProof.Rows

/-- the goal that k_head leaves (case hc), from the law's promise. F gives the function object fd (K's own) once, then the promise over every base -/
theorem walk_of {l : PySem.W.OpenLaw} {n k : Nat} {q : Program} {loose : List Str} {XP : (Str → Option Value) → Heap → Prop} {YP : World → Heap → Prop} {d : DefRec} {K : Params → PySem.W.Frag} {CX : World → CXT} {sp : World → Sp} {x : Str}
    (hn : l.most = some n) (hn2 : n ≤ sizeLine) (hdf : d.params.defaults = []) (hr : Room k callerA)
    (hY : ∀ (w : World) (h : Heap), YP w h → (K w.params).In h)
    (F : ∀ (w : World) (mg : Str → Option Value) (fa : Addr) (h : Heap), (K w.params).In h → h.Ns mainGlobals mg → mg d.name = some (.ref fa) →
      ∃ fd : FuncData, (∀ (s : Shared) (u : Value), BindsTo s fd ⟨[u], []⟩ [(x, u)]) ∧
        ∀ base : Heap, (K w.params).In base → base.Ns mainGlobals mg → FnOk l.prog w (K w.params) mg base (CX w) k fa fd [x] (sp w))
    (hsp : ∀ (w : World) (H : Hp) (a : Addr) (ns : List Int), ns.length ≤ n → Only H → SqL (K w.params) H a (ns.map V.int) → sp w [.ref a] H (fun v _ => v = .bl true) fun _ _ _ => False)
    (hCX : ∀ (w : World) (H : Hp) (s : Shared) (e : Value) (s' : Shared), CX w [] H s (fun _ _ _ => False) e s' → False) :
    PySem.W.WalkO q loose XP YP l.row.toRowW d [] (fun f vs => PySem.call f vs) := by
  refine Att.attach_call hn hdf fun w s₀ s₁ mg mb fa o pm cd doc a vs ns G Y ho hd hcd hmg hobj hints hlen hg => ?_
  have KX := hY w _ Y
  obtain ⟨fd, hb, hF⟩ := F w mg fa _ KX G.T.g hmg
  exact law_call KX G.T.g G.T.b G.T.builtins G.T.nolimit hg hobj hints (Nat.le_trans hlen hn2) hr hF hb (fun H hO hS => hsp w H a ns hlen hO hS) fun H e s' => hCX w H s₁ e s'
end L2

/- THE LAST THEOREM (shape; LID, My.* are yours):
   My.Adr: a structure of the addresses that your layer names (classes, functions); My.Txt K t: a structure (Prop) of the equations over K;
   My.txt_mk : {K} {implicit addresses ..} (e1 : nsIn K mainGlobals "law" = some (some (.ref f))) (e2 : K.lookup f = some ⟨oc, od, .func (fnOf "law" "law" params body scope dV kV doc pm an cdv ct), sl⟩) (e3 : codeIn K cdv "law" = true) .. : ∃ t, My.Txt K t

set_option maxRecDepth 100000 in
set_option maxHeartbeats 0 in
theorem PySem.Challenge.cw_LID_holds : PySem.Challenge.rw_LID.Holds := by
  w_on; o_law; k_head; (case hw => w_witness2)
  k_fill
  refine L2.walk_of (l := PySem.Challenge.rw_LID) (n := 63) (k := 40) (x := "script") (CX := fun w => ..) (sp := fun _ => My.sp_law) rfl (by decide) rfl ⟨rfl, by decide, by decide⟩ (fun w h Y => PySem.W.kIn_of Y) ?F ?S ?C
  case F =>
    intro w mg fa h KX G hmg
    have T : ∃ t, My.Txt (L2.KOf KX) t := by
      dsimp only [L2.KOf]                          -- K must stand as «<heap const> w.params» for k_is
      refine' My.txt_mk ?e1 ?e2 ?e3 ..
      (case e1 => PySem.W.k_is)                    -- in the order: a name -> its address -> its object -> its parts
      (case e2 => PySem.W.k_is)
      ..
    obtain ⟨t, T⟩ := T
    have e0 := hmg.symm.trans (PySem.W.mg_of KX G T.law)
    cases e0                                       -- fa is the law's own address
    exact ⟨_, fun s u => .of_eq rfl, fun base kb nb => My.law_fn T kb nb⟩     -- if «.of_eq rfl» comes too early: refine' ⟨_, ?b, fun base kb nb => My.law_fn T kb nb⟩; exact fun s u => .of_eq rfl
  case S => exact fun w H a ns hl hO hS => ..
  case C => exact ..
(the tactic k_is has no namespace: write k_is) -/

/-! SHORT WORDS over the layer: a def of the text, its body, what a loop and a test want. -/
namespace L2
open PySem PySem.Spec PyProof.Rows

/-! ### the text by places -/
noncomputable def defArgs (s : Stmt) : Arguments := match s with
  | .FunctionDef _ a _ _ _ _ _ _ _ _ => a
  | _ => { posonlyargs := [], args := [], vararg := none, kwonlyargs := [], kw_defaults := [], kwarg := none, defaults := [] }
noncomputable def defBody (s : Stmt) : List Stmt := match s with
  | .FunctionDef _ _ b _ _ _ _ _ _ _ => b
  | _ => []
noncomputable def defScope (s : Stmt) : Scope := match s with
  | .FunctionDef _ _ _ _ _ _ sc _ _ _ => sc
  | _ => { kind := .function, names := [], isGenerator := false, isCoroutine := false }

/-! ### no exception leaves a def -/
noncomputable abbrev CX0 : CXT := fun _ _ _ _ _ _ => False
noncomputable abbrev E0 : XK := fun _ _ _ => False
theorem pass0 {X : Cx} : Passes CX0 X E0 := fun _ _ _ _ _ _ _ h => h.elim

/-! ### a def (or method) of the text as it stands behind the top -/
structure Fun (K : PySem.W.Frag) (x qual : Str) (st : Stmt) (f : Addr) (fd : FuncData) : Prop where
  ex : ∃ (oc : Value) (od : Option Addr) (kV doc pm : Value) (an : Option Addr) (cdv ct : Value) (osl : Array (Option Value)),
    fd = PySem.W.fnOf x qual (defArgs st) (defBody st) (defScope st) .none kV doc pm an cdv ct ∧ K.lookup f = some ⟨oc, od, .func fd, osl⟩ ∧ PySem.W.codeIn K cdv qual = true
  kp : PySem.W.keepIn K (.ref f) = true
section
variable {P : Program} {w : World} {K : PySem.W.Frag} {mg : Str → Option Value} {base : Heap}
/-- THE RULE for a def: its body as a term of rules, and the reading of that term -/
theorem Fun.ok {x qual : Str} {st : Stmt} {f : Addr} {fd : FuncData} {N ps : List Str} {k : Nat} {sp : Sp} (F : Fun K x qual st f fd) (S : FnScope N ps (defScope st)) (len : ∀ vs H Q E, sp vs H Q E → vs.length = ps.length)
    (hbody : ∀ (cdv : Value) (A : Around) (outer : List Env) (s : Shared) (H : Hp) (vs : List V) (Q : VK) (E : XK), Room k (A.deeper (envOfC qual (defScope st) s.heap.objs.size f cdv)) → sp vs H Q E →
      ∃ t, PSs (cxOf CX0 P w K mg base N qual (defScope st) f cdv A outer s H E).nox (defBody st) t ∧ t { nx := fun _ H' => Q .non H', rt := Q } (start N vs) H) : FnOk P w K mg base CX0 (k + 1) f fd ps sp := by
  obtain ⟨oc, od, kV, doc, pm, an, cdv, ct, osl, rfl, lk, hcd⟩ := F.ex
  refine fn_of lk hcd S len fun A outer s H vs Q E hr hsp => ?_
  obtain ⟨t, h, q⟩ := hbody cdv A outer s H vs Q E hr hsp
  exact ⟨t, h.nox, q⟩
/-- how its arguments bind (no defaults): h is «fun _ _ _ _ _ _ us hl => match us, hl with | [_, _], _ => rfl», one _ a parameter -/
theorem Fun.binds {x qual : Str} {st : Stmt} {f : Addr} {fd : FuncData} {ps : List Str} (F : Fun K x qual st f fd)
    (h : ∀ (kV doc pm : Value) (an : Option Addr) (cdv ct : Value) (us : List Value), us.length = ps.length → bindArgs (PySem.W.fnOf x qual (defArgs st) (defBody st) (defScope st) .none kV doc pm an cdv ct) ⟨us, []⟩ = pure (ps.zip us)) : Binds K fd ps [] := by
  obtain ⟨oc, od, kV, doc, pm, an, cdv, ct, osl, rfl, lk, hcd⟩ := F.ex
  exact .all (h kV doc pm an cdv ct)
theorem fun_mk {x qual : Str} {st : Stmt} {f : Addr} {oc : Value} {od an : Option Addr} {osl : Array (Option Value)} {kV doc pm cdv ct : Value} (l : K.lookup f = some ⟨oc, od, .func (PySem.W.fnOf x qual (defArgs st) (defBody st) (defScope st) .none kV doc pm an cdv ct), osl⟩)
    (c : PySem.W.codeIn K cdv qual = true) (k : PySem.W.keepIn K (.ref f) = true) : Fun K x qual st f (PySem.W.fnOf x qual (defArgs st) (defBody st) (defScope st) .none kV doc pm an cdv ct) := ⟨⟨oc, od, kV, doc, pm, an, cdv, ct, osl, rfl, l, c⟩, k⟩
end
theorem hu_of {A : Around} {k : Nat} (hr : Room k A) : A.units + 1 < cLine := Nat.lt_of_le_of_lt (Nat.add_le_add_left (by decide : 1 ≤ 64) _) hr.units
theorem small1000 {n : Nat} (h : n ≤ 1000) : n < sizeLine := Nat.lt_of_le_of_lt h (by decide)

/-! ### expressions in short: the name that stands in the i-th slot -/
section
variable {X : Cx}
theorem pv (i : Nat) {x : Str} {pos : Pos} (hN : X.N[i]? = some x := by rfl) (hv : Vis X.env.scope x := by first | exact Or.inl rfl | exact Or.inr (Or.inl rfl) | exact Or.inr (Or.inr rfl)) (hd : (x == ("__debug__" : Str)) = false := by decide)
    (hcd : (x == ("__classdict__" : Str)) = false := by decide) : PE X (.Name x pos) (tVar i) := pe_var hN hv hd hcd
end

/-! ### tests -/
theorem iteF {A B : Prop} (h : B) : if false = true then A else B := by
  rw [if_neg Bool.false_ne_true]
  exact h
theorem iteT {A B : Prop} (h : A) : if true = true then A else B := by
  rw [if_pos rfl]
  exact h
theorem ite2 {c A B : Prop} [Decidable c] (h1 : c → A) (h2 : ¬ c → B) : if c then A else B := by
  by_cases h : c
  · rw [if_pos h]
    exact h1 h
  · rw [if_neg h]
    exact h2 h
/-! ### heaps -/
/-- all that was tracked is as it was -/
noncomputable def Same (H H' : Hp) : Prop := ∀ b o, H b = some o → H' b = some o
theorem Same.refl (H : Hp) : Same H H := fun _ _ h => h
theorem Same.trans {H H1 H2 : Hp} (a : Same H H1) (b : Same H1 H2) : Same H H2 := fun c o h => b c o (a c o h)
theorem Same.free {H H' : Hp} (e : Same H H') {l : Addr} (h : H' l = Option.none) : H l = Option.none := by
  cases q : H l with
  | none => rfl
  | some o =>
    rw [e l o q] at h
    cases h
theorem Same.seq {K : PySem.W.Frag} {H H' : Hp} {a : Addr} {xs : List V} (e : Same H H') (h : SqL K H a xs) : SqL K H' a xs := by
  rcases h with (h | ⟨o, h⟩) | h
  · exact .inl (.inl (e _ _ h))
  · exact .inl (.inr ⟨o, e _ _ h⟩)
  · exact .inr h

end L2

set_option maxHeartbeats 4000000
namespace L2
open PySem PySem.Spec PyProof.Rows

/-! ### the cells that a comprehension's block is handed -/
noncomputable def clF (cells : List (Str × Addr)) : List (Str × NameKind) → List (Str × Addr) → List (Str × Addr)
  | [], cs => cs
  | (n, k) :: r, cs => clF cells r (if k == .free then (match cells.lookup n with | some c => (n, c) :: cs | none => cs) else cs)

theorem clF_mem {cells : List (Str × Addr)} : ∀ (names : List (Str × NameKind)) (cs : List (Str × Addr)) (n : Str) (c : Addr), (n, c) ∈ clF cells names cs → (n, c) ∈ cs ∨ (cells.lookup n = some c ∧ (n, NameKind.free) ∈ names)
  | [], cs, n, c, h => .inl h
  | (m, k) :: r, cs, n, c, h => by
    rcases clF_mem r _ n c h with q | ⟨q, z⟩
    · by_cases hk : (k == NameKind.free) = true
      · rw [if_pos hk] at q
        have hk' : k = .free := by simpa using hk
        cases e : cells.lookup m with
        | none => rw [e] at q; exact .inl q
        | some d =>
          rw [e] at q
          rcases List.mem_cons.mp q with z | z
          · cases z; exact .inr ⟨e, by rw [hk']; exact List.mem_cons_self⟩
          · exact .inl z
      · rw [if_neg hk] at q; exact .inl q
    · exact .inr ⟨q, List.mem_cons_of_mem _ z⟩
theorem clF_sub {cells : List (Str × Addr)} : ∀ (names : List (Str × NameKind)) (cs : List (Str × Addr)), ∀ p ∈ cs, p ∈ clF cells names cs
  | [], cs, p, h => h
  | (m, k) :: r, cs, p, h => by
    refine clF_sub r _ p ?_
    by_cases hk : (k == NameKind.free) = true
    · rw [if_pos hk]
      cases cells.lookup m with
      | none => exact h
      | some d => exact List.mem_cons_of_mem _ h
    · rw [if_neg hk]; exact h
theorem clF_has {cells : List (Str × Addr)} : ∀ (names : List (Str × NameKind)) (cs : List (Str × Addr)) (n : Str) (c : Addr), (n, NameKind.free) ∈ names → cells.lookup n = some c → (n, c) ∈ clF cells names cs
  | [], _, _, _, h, _ => nomatch h
  | (m, k) :: r, cs, n, c, h, e => by
    rcases List.mem_cons.mp h with z | z
    · cases z
      refine clF_sub r _ _ ?_
      rw [if_pos (by rfl), e]
      exact List.mem_cons_self
    · exact clF_has r _ n c z e
theorem lookup_isSome_of_mem {β : Type} : ∀ {l : List (Str × β)} {n : Str} {c : β}, (n, c) ∈ l → ∃ d, l.lookup n = some d
  | (m, d) :: r, n, c, h => by
    cases e : n == m with
    | true => exact ⟨d, by simp [List.lookup_cons, e]⟩
    | false =>
      have e' : n ≠ m := by simpa using e
      rcases List.mem_cons.mp h with z | z
      · cases z; exact absurd rfl e'
      · obtain ⟨q, hq⟩ := lookup_isSome_of_mem z
        exact ⟨q, by simp [List.lookup_cons, e, hq]⟩
theorem clF_lookup {cells : List (Str × Addr)} {names : List (Str × NameKind)} {n : Str} {c : Addr} (h : (clF cells names []).lookup n = some c) : cells.lookup n = some c ∧ (n, NameKind.free) ∈ names := by
  rcases clF_mem names [] n c (PySem.mem_of_lookup h) with z | z
  · cases z
  · exact z
theorem closure_eq {env : Env} {scope : Scope} (hf : ∀ n, (n, NameKind.free) ∈ scope.names → ∃ c, env.cells.lookup n = some c) : closureFor scope env = pure (clF env.cells scope.names []) := by
  have go : ∀ (l : List (Str × NameKind)) (cs : List (Str × Addr)), (∀ n, (n, NameKind.free) ∈ l → ∃ c, env.cells.lookup n = some c) →
      (forIn l cs (fun x r => match x with | (name, kind) => if (kind == NameKind.free) = true then do
        let y ← cellOf env name
        pure (ForInStep.yield ((name, y) :: r)) else pure (ForInStep.yield r)) : Sem (List (Str × Addr))) = pure (clF env.cells l cs) := by
    intro l
    induction l with
    | nil => intro cs _; rfl
    | cons x r ih =>
      intro cs h
      obtain ⟨n, k⟩ := x
      rw [List.forIn_cons]
      by_cases hk : (k == NameKind.free) = true
      · have hk' : k = .free := by simpa using hk
        obtain ⟨c, e⟩ := h n (by rw [hk']; exact List.mem_cons_self)
        have ec : cellOf env n = pure c := by unfold cellOf; rw [e]
        simp only [hk, if_true, ec, pure_bind]
        rw [ih _ fun m hm => h m (List.mem_cons_of_mem _ hm)]
        show _ = pure (clF env.cells r _)
        rw [if_pos hk, e]
      · have hk' : (k == NameKind.free) = false := by simpa using hk
        have e1 := ih cs fun m hm => h m (List.mem_cons_of_mem _ hm)
        show (((if (k == NameKind.free) = true then _ else pure (ForInStep.yield cs)) : Sem _) >>= _) = _
        rw [if_neg hk, pure_bind]
        refine Eq.trans e1 ?_
        show _ = pure (clF env.cells r _)
        rw [if_neg hk]
  unfold closureFor
  have := go scope.names [] hf
  rw [bind_pure]
  exact this
end L2

namespace L2
open PySem PySem.Spec PyProof.Rows

/-- a comprehension's own scope against the block around it -/
structure CScope (X : Cx) (xs : List Str) (sc : Scope) : Prop where
  kind : sc.kind = .function
  nocell : ∀ y ∈ sc.names, y.2 ≠ .cell
  names : ∀ y ∈ sc.names, y.2 = .local → sc.names.lookup y.1 = some .local
  own : ∀ x ∈ xs, sc.names.lookup x = some .local
  sep : ∀ y ∈ X.N, sc.names.lookup y ≠ some .local
  frees : ∀ y ∈ sc.names, y.2 = .free → X.env.kindOf y.1 = some .cell ∨ X.env.kindOf y.1 = some .free
  nd : (xs ++ X.N).Nodup

/-- the context of a comprehension's block -/
noncomputable def cxC (X : Cx) (xs : List Str) (sc : Scope) (ex : List Addr) (s : Shared) (H : Hp) : Cx where
  prog := X.prog
  w := X.w
  K := X.K
  mg := X.mg
  base := X.base
  A := X.A
  N := xs ++ X.N
  s₀ := s
  H₀ := H
  env := compEnvC sc (clF X.env.cells sc.names []) s.heap.objs.size X.env
  outer := X.stack
  stack := X.stack
  ex := ex
  fn := fun _ => false
  calm := X.calm
  pn := []
  xe := fun _ _ => False

theorem lookup_relabel (env : Env) (x : Str) : ∀ names : List (Str × NameKind),
    (names.map fun (n, k) => if (k == NameKind.free && env.scope.kind == .function && env.kindOf n == some .cell) then (n, NameKind.cell) else (n, k)).lookup x =
      (names.lookup x).map fun k => if (k == NameKind.free && env.scope.kind == .function && env.kindOf x == some .cell) then NameKind.cell else k
  | [] => rfl
  | (n, k) :: r => by
    have ih := lookup_relabel env x r
    show List.lookup x ((if (k == NameKind.free && env.scope.kind == .function && env.kindOf n == some .cell) = true then (n, NameKind.cell) else (n, k)) :: _) = _
    cases hx : x == n with
    | true =>
      have e : x = n := by simpa using hx
      subst e
      by_cases hc : (k == NameKind.free && env.scope.kind == .function && env.kindOf x == some .cell) = true
      · rw [if_pos hc]
        simp only [List.lookup_cons, hx, Option.map_some]
        rw [if_pos hc]
      · rw [if_neg hc]
        simp only [List.lookup_cons, hx, Option.map_some]
        rw [if_neg hc]
    | false =>
      by_cases hc : (k == NameKind.free && env.scope.kind == .function && env.kindOf n == some .cell) = true
      · rw [if_pos hc]; simp only [List.lookup_cons, hx]; exact ih
      · rw [if_neg hc]; simp only [List.lookup_cons, hx]; exact ih

/-- a name of the block around, seen in the comprehension, is a free one -/
theorem vis_relabel {sc : Scope} {env : Env} {x : Str} (h : Vis (relabel sc env) x) (hl : sc.names.lookup x ≠ some .local) (hc : ∀ y ∈ sc.names, y.2 ≠ .cell) :
    (x, NameKind.free) ∈ sc.names ∧ ((relabel sc env).names.lookup x = some .cell ∨ (relabel sc env).names.lookup x = some .free) := by
  have e : (relabel sc env).names.lookup x = _ := lookup_relabel env x sc.names
  unfold Vis at h
  rw [e] at h
  cases k : sc.names.lookup x with
  | none => rw [k] at h; simp at h
  | some v =>
    have mem := PySem.mem_of_lookup k
    have nl : v ≠ .local := fun z => hl (by rw [k, z])
    have ncl : v ≠ .cell := fun z => hc _ mem z
    rw [k] at h
    rw [e, k]
    simp only [Option.map_some] at h ⊢
    by_cases hv : v = .free
    · subst hv
      refine ⟨mem, ?_⟩
      split
      · exact .inl rfl
      · exact .inr rfl
    · have : (v == NameKind.free) = false := by simpa using hv
      simp only [this, Bool.false_and] at h
      rcases h with h | h | h
      · exact absurd (Option.some.inj h) nl
      · exact absurd (Option.some.inj h) ncl
      · exact absurd (Option.some.inj h) hv

section
variable {X : Cx} {pins : List (Addr × Obj)} {σ : St} {H : Hp} {s : Shared} {xs : List Str} {sc : Scope} {ex : List Addr}
theorem CScope.cells (S : CScope X xs sc) (ok : X.Ok) : ∀ n, (n, NameKind.free) ∈ sc.names → ∃ c, X.env.cells.lookup n = some c := fun n h => ok.has n (S.frees _ h rfl)
theorem cxC_ok (S : CScope X xs sc) (I : Inv X pins σ H s) (he : ∀ b ∈ ex, b < s.heap.objs.size ∧ b ∉ frs X.stack ∧ (∀ x c, X.env.cells.lookup x = some c → c ≠ b) ∧ X.base.get? b = none) : (cxC X xs sc ex s H).Ok := by
  refine ⟨I.ok.mod, S.kind, I.ok.glob, I.ok.blt, Nat.le_refl _, fun x y c h1 h2 => ?_, fun x hx => ?_, fun _ _ h => (by cases h), I.ok.hd, I.ok.frames, .inl rfl, fun b hb => ⟨Nat.ne_of_lt (he b hb).1, fun x c h => (he b hb).2.2.1 x c (clF_lookup h).1⟩, fun b o e => ?_, ?_, fun b o e hb => ?_, fun b hb => (he b hb).2.1, I.stack, I.stkFree⟩
  · exact I.ok.inj x y c (clF_lookup h1).1 (clF_lookup h2).1
  · have hv : (relabel sc X.env).names.lookup x = some .cell ∨ (relabel sc X.env).names.lookup x = some .free := hx
    have q : (x, NameKind.free) ∈ sc.names := by
      have e : (relabel sc X.env).names.lookup x = _ := lookup_relabel X.env x sc.names
      rw [e] at hv
      cases k : sc.names.lookup x with
      | none => rw [k] at hv; simp at hv
      | some v =>
        have mem := PySem.mem_of_lookup k
        rw [k] at hv
        simp only [Option.map_some] at hv
        by_cases hvf : v = .free
        · rw [hvf] at mem; exact mem
        · have : (v == NameKind.free) = false := by simpa using hvf
          simp only [this, Bool.false_and] at hv
          rcases hv with h | h
          · exact absurd (Option.some.inj h) (S.nocell _ mem)
          · exact absurd (Option.some.inj h) hvf
    obtain ⟨c, e⟩ := S.cells I.ok x q
    exact lookup_isSome_of_mem (clF_has sc.names [] x c q e)
  · exact I.bs b o e
  · exact Nat.le_trans I.ok.bsz I.sz
  · have q : X.base.get? b = none := (he b hb).2.2.2
    have e' : X.base.get? b = some o := e
    rw [q] at e'; cases e'

/-- the block's first state -/
theorem inv_comp {h₁ : Heap} {tk : Nat} (S : CScope X xs sc) (I : Inv X pins σ H s) (he : ∀ b ∈ ex, b < s.heap.objs.size ∧ b ∉ frs X.stack ∧ (∀ x c, X.env.cells.lookup x = some c → c ≠ b) ∧ X.base.get? b = none)
    (hn : h₁.Ns s.heap.objs.size (fun _ => none)) (hk : ∀ b o, s.heap.get? b = some o → h₁.get? b = some o) :
    Inv (cxC X xs sc ex s H) [] (List.replicate xs.length none ++ σ) H { s with heap := h₁, toks := tk } := by
  have I1 : Inv X pins σ H { s with heap := h₁, toks := tk } := I.kept hk
  refine ⟨cxC_ok S I he, rfl, I.bare, Un.kept hk, ⟨_, hn, fun i x v h1 h2 h3 => ?_⟩, fun x c h => I1.cell x c (clF_lookup h).1, I.hok.fresh (Nat.le_refl _), fun x c h => I.freeC x c (clF_lookup h).1, fun p hp => absurd (show p ∈ ([] : List (Addr × Obj)) from hp) (by simp), I.hok.kept hk, ?_⟩
  · have h1' : (xs ++ X.N)[i]? = some x := h1
    by_cases hi : i < xs.length
    · rw [List.getElem?_append_left (by simpa using hi), List.getElem?_replicate, if_pos hi] at h2
      cases h2
    · have hi' : xs.length ≤ i := Nat.le_of_not_lt hi
      rw [List.getElem?_append_right (by simpa using hi')] at h2
      rw [List.getElem?_append_right hi'] at h1'
      rw [List.length_replicate] at h2
      have hm : x ∈ X.N := List.mem_of_getElem? h1'
      obtain ⟨hf, hkd⟩ := vis_relabel h3 (S.sep x hm) S.nocell
      have hko := S.frees _ hf rfl
      obtain ⟨m, _, hl⟩ := I1.loc
      obtain ⟨u, r, l⟩ := hl (i - xs.length) x v h1' h2 (by
        rcases hko with z | z
        · exact .inr (.inl z)
        · exact .inr (.inr z))
      refine ⟨u, r, .inr ⟨hkd, ?_⟩⟩
      rcases l with ⟨z, _⟩ | ⟨_, c, ec, hc⟩
      · rcases hko with q | q <;> (rw [q] at z; cases z)
      · obtain ⟨d, ed⟩ := lookup_isSome_of_mem (clF_has sc.names [] x c hf ec)
        have : c = d := by
          have := (clF_lookup ed).1
          rw [ec] at this
          exact Option.some.inj this
        subst this
        exact ⟨c, ed, hc⟩
  · show (List.replicate xs.length none ++ σ).length = (xs ++ X.N).length
    rw [List.length_append, List.length_append, List.length_replicate, I.len]
end
end L2

namespace L2
open PySem PySem.Spec PyProof.Rows

section
variable {prog : Program} {w : World} {A : Around} {R : Result → Shared → Prop} {s : Shared}
/-- a comprehension's loop, no exception leaving it -/
theorem compLoop_of {elt target iter : Expr} {ifs : List Expr} {scope : Scope} {pos : Pos} {it acc : Value} {env : Env} (I : Nat → Shared → Prop)
    (turn : ∀ n s, I n s → wpAny (model prog w) A (pyNext it) (fun r s₁ => match r with
      | none => R (.ok .next) s₁
      | some v => wpAny (model prog w) A (letOwnedTupleGo target it v) (fun _ s₁' => wpAny (model prog w) A (assign target env v) (fun _ s₂ =>
          wpAny (model prog w) A (forIn ifs true fun c r => if r = true then do let ok ← isTrue c env (eval c env); pure (ForInStep.yield ok) else pure (ForInStep.yield r)) (fun ok s₃ =>
            if ok = true then wpAny (model prog w) A (eval elt env) (fun x s₄ =>
              wpAny (model prog w) A (call (.builtin "list.append") [acc, x]) (fun _ s₅ => ∃ m, m < n ∧ I m s₅) (fun _ _ => False) s₄) (fun _ _ => False) s₃
            else ∃ m, m < n ∧ I m s₃) (fun _ _ => False) s₂) (fun _ _ => False) s₁') (fun _ _ => False) s₁) (fun _ _ => False) s)
    (n : Nat) (h : I n s) :
    codeAny (model prog w) A (.compLoop (.ListComp elt [⟨target, iter, ifs, 0⟩] scope pos) 0 it acc env) R s := by
  refine codeAny_loop rfl I (fun n s hI => ?_) n h
  show wpAny _ A ((compTurn (.ListComp elt [⟨target, iter, ifs, 0⟩] scope pos) 0 it acc env).onRaise (fun x => do noteFrame x env; theTreesLotGoes x)) _ _ s
  refine wpAny_noted ?_
  rw [compTurn_list]
  refine wpAny_bind (wpAny_standAt (wpAny_bind (wpAny_mono (turn n s hI) (fun r s₁ h₁ => ?_) fun _ _ h' => h'.elim)))
  cases r with
  | none => exact wpAny_pure h₁
  | some v =>
    refine wpAny_bind (wpAny_mono h₁ (fun _ s₁' h₁' => ?_) fun _ _ h' => h'.elim)
    refine wpAny_bind (wpAny_mono h₁' (fun _ s₂ h₂ => wpAny_bind (wpAny_mono h₂ (fun ok s₃ h₃ => ?_) fun _ _ h' => h'.elim)) fun _ _ h' => h'.elim)
    cases ok with
    | false => exact wpAny_pure ⟨rfl, h₃⟩
    | true =>
      exact wpAny_bind (wpAny_bind (wpAny_mono h₃ (fun x s₄ h₄ => wpAny_bind (wpAny_mono h₄ (fun _ s₅ h₅ => wpAny_pure (wpAny_pure ⟨rfl, h₅⟩)) fun _ _ h' => h'.elim)) fun _ _ h' => h'.elim))
end

/-- the tests of a clause -/
noncomputable def PTs (X : Cx) (ifs : List Expr) (t : TT) : Prop :=
  ∀ (pins : List (Addr × Obj)) (s : Shared) (σ : St) (H : Hp) (Q : Bool → Hp → Prop), Inv X pins σ H s → t σ H Q →
    wpAny (model X.prog X.w) X.A (forIn ifs true fun c r => if r = true then do let ok ← isTrue c X.env (eval c X.env); pure (ForInStep.yield ok) else pure (ForInStep.yield r)) (TP X pins σ Q) X.xe s
noncomputable def tYes : TT := fun _ H Q => Q true H
theorem pts_nil {X : Cx} : PTs X [] tYes := fun _ _ _ H _ I h => wpAny_tests_nil ⟨H, I, h⟩
theorem pts_one {X : Cx} {c : Expr} {t : TT} (h : PT X c t) : PTs X [c] t := fun pins s σ H Q I q => wpAny_tests_one (h pins s σ H Q I q)

section
variable {X : Cx} {pins : List (Addr × Obj)} {σ : St} {H : Hp} {s2 : Shared} {tg iter elt : Expr} {ifs : List Expr} {sc : Scope} {pos : Pos} {xs : List Str} {g : TG} {tc : TT} {te : TE} {J : It} {fp : List Addr} {it : Addr} {tn : Nat → Heap → Prop}
/-- a list object that stands untracked is taken into the tracked ones -/
theorem HOk.adopt {P : Program} {w : World} {H : Hp} {h : Heap} {a : Addr} {xs : List V} {its : List Value} {n : Nat} (x : HOk P w H h) (hn : H a = none) (hz : xs.length ≤ sizeLine) (r : Vals xs its) (e : h.get? a = some { cls := .type "list", data := .seq its.toArray n }) :
    HOk P w (upd H a (.lst xs)) h := fun b u q => by
  by_cases hb : b = a
  · subst hb; rw [upd_same] at q; cases q; exact ⟨hz, its, n, r, e⟩
  · rw [upd_ne hb] at q
    exact (x b u q).stay (fun c v _ q => q) (fun c q => by rw [upd_ne (ne_of_none q hn)]; exact q) fun c xs q => by rw [upd_ne (ne_of_none q hn)]; exact q

theorem comp_core {E : Value → Shared → Prop} {RR : Value → Addr → Result → Shared → Prop} (S : CScope X xs sc) (hcalm : X.calm = true)
    (hg : ∀ ex s3 H3, PG (cxC X xs sc ex s3 H3) tg g) (ht : ∀ ex s3 H3, PTs (cxC X xs sc ex s3 H3) ifs tc) (he : ∀ ex s3 H3, PE (cxC X xs sc ex s3 H3) elt te)
    (I : Inv X pins σ H s2) (T : Turn X.prog X.w X.K tg J fp it tn) (st : tn 0 s2.heap) (f2 : ∀ b ∈ fp, FpOk X pins H b)
    (W : Nat → Nat → List V → Hp → Prop) (w0 : ∃ m, W 0 m [] H) (F : List V → Hp → Prop)
    (turn : ∀ i m acc H, W i m acc H → (J.stop i H ∧ acc.length ≤ sizeLine ∧ F acc H) ∨
      (J.go i H ∧ acc.length < sizeLine ∧ ∃ N : List V → Hp → Prop, (∀ acc' H', N acc' H' → ∃ m', m' < m ∧ W (i + 1) m' acc' H') ∧ ∀ x H', J.yld i H x H' → g x (List.replicate xs.length none ++ σ) H' fun σ2 H2 => σ2.drop xs.length = σ ∧ tc σ2 H2 fun c H3 =>
        if c = true then te σ2 H3 fun y H4 => N (acc ++ [y]) H4 else N acc H3))
    (fin : ∀ D C s' acc H', (∃ m, s'.heap.Ns C m) → FpOk X pins (upd H' D (.lst acc)) C → F acc H' → H' D = none → Inv X pins σ (upd H' D (.lst acc)) s' → RR (.ref D) C (.ok .next) s') :
    wpAny (model X.prog X.w) X.A (newList []) (fun acc s3 => wpAny (model X.prog X.w) X.A (newFunctionEnv sc X.env.globals (clF X.env.cells sc.names []) [] X.env.qual none .none (some X.env)) (fun cenv s4 =>
      codeAny (model X.prog X.w) X.A (.compStart (.ListComp elt [⟨tg, iter, ifs, 0⟩] sc pos) 0 (.ref it) acc { cenv with scope := relabel sc X.env }) (RR acc cenv.locals) s4) E s3) E s2 := by
  refine wpAny_newObj_type (wpAny_newFunctionEnv S.nocell (by intro y hy; simp at hy) (fun h₁ hns₁ hsb₁ => ?_) S.kind)
  dsimp only at hns₁ hsb₁ ⊢
  generalize hH3 : s2.heap.push { cls := .type "list", dict := none, data := .seq ([] : List Value).toArray } = H3 at hns₁ hsb₁ ⊢
  have hC : H3.objs.size = s2.heap.objs.size + 1 := by rw [← hH3, Heap.size_push]
  have hDC : s2.heap.objs.size ≠ H3.objs.size := by rw [hC]; exact Nat.ne_of_lt (Nat.lt_succ_self _)
  have old3 : ∀ b o, s2.heap.get? b = some o → H3.get? b = some o := fun b o e => hH3 ▸ Heap.get?_push_of_some _ e
  have k1 : ∀ b o, H3.get? b = some o → h₁.get? b = some o := fun b o e => hsb₁.extBut b o (Nat.ne_of_lt (Heap.lt_size e)) (Heap.get?_push_of_some _ e)
  have I3 : Inv X pins σ H { s2 with heap := H3 } := I.kept old3
  have fpLt : ∀ b ∈ fp, b < s2.heap.objs.size := fun b hb => by
    obtain ⟨o, e, _⟩ := T.obj _ _ st b hb
    exact Heap.lt_size e
  have hnofr : ∀ b, s2.heap.objs.size ≤ b → b ∉ frs X.stack := fun b hb z => by
    rcases List.mem_cons.mp (I.stkSub b z) with q | q
    · exact absurd (Nat.lt_of_lt_of_le I.lt hb) (by rw [q]; exact Nat.lt_irrefl _)
    · exact I.nofs hb q
  have hnocell : ∀ b, s2.heap.objs.size ≤ b → ∀ x c, X.env.cells.lookup x = some c → c ≠ b := fun b hb x c e z => by
    obtain ⟨v, q⟩ := I.cell x c e
    exact absurd (Nat.lt_of_lt_of_le q.lt (by rw [z]; exact hb)) (Nat.lt_irrefl _)
  have hnobase : ∀ b, s2.heap.objs.size ≤ b → X.base.get? b = none := fun b hb => Heap.get?_none_of_le (Nat.le_trans (Nat.le_trans I.ok.bsz I.sz) hb)
  have fpfr : ∀ b ∈ fp, b ∉ frs X.stack := fun b hb z => by
    rcases List.mem_cons.mp (I.stkSub b z) with q | q
    · exact (f2 b hb).2.1 q
    · exact (f2 b hb).2.2.1 q
  have fpbase : ∀ b ∈ fp, X.base.get? b = none := fun b hb => by
    rcases (f2 b hb).2.2.2.1 with z | z
    · cases e : X.base.get? b with
      | none => rfl
      | some o => exact absurd z (I.ok.noex b o e)
    · exact Heap.get?_none_of_le (Nat.le_trans I.ok.bsz z)
  have hex : ∀ b ∈ (s2.heap.objs.size :: fp), b < H3.objs.size ∧ b ∉ frs X.stack ∧ (∀ x c, X.env.cells.lookup x = some c → c ≠ b) ∧ X.base.get? b = none := fun b hb => by
    rcases List.mem_cons.mp hb with z | z
    · subst z
      exact ⟨by rw [hC]; exact Nat.lt_succ_self _, hnofr _ (Nat.le_refl _), hnocell _ (Nat.le_refl _), hnobase _ (Nat.le_refl _)⟩
    · exact ⟨by rw [hC]; exact Nat.lt_succ_of_lt (fpLt b z), fpfr b z, (f2 b z).2.2.2.2.1, fpbase b z⟩
  have I4 := inv_comp (ex := s2.heap.objs.size :: fp) (tk := s2.toks + ([] : List (Str × Value)).length) S I3 hex hns₁ k1
  generalize hX' : cxC X xs sc (s2.heap.objs.size :: fp) { s2 with heap := H3 } H = X' at I4
  have hDn : H s2.heap.objs.size = none := I.hok.fresh (Nat.le_refl _)
  have hDobj : h₁.get? s2.heap.objs.size = some { cls := .type "list", data := .seq (([] : List Value)).toArray 0 } := k1 _ _ (hH3 ▸ Heap.get?_push_size _ rfl)
  have st1 : tn 0 h₁ := T.keep _ _ _ st fun b _ o e => k1 b o (old3 b o e)
  obtain ⟨m0, w0⟩ := w0
  -- the block's facts about D and the iterator, whatever the state
  have eXex : X'.ex = s2.heap.objs.size :: fp := by rw [← hX']; rfl
  have eXloc : X'.env.locals = H3.objs.size := by rw [← hX']; rfl
  have eXfs : X'.fs = frs X.stack := by rw [← hX']; rfl
  have eXcl : X'.env.cells = clF X.env.cells sc.names [] := by rw [← hX']; rfl
  have eXpn : X'.pn = [] := by rw [← hX']; rfl
  have eXm : X'.prog = X.prog ∧ X'.w = X.w ∧ X'.K = X.K ∧ X'.calm = true ∧ X'.A = X.A ∧ X'.xe = fun _ _ => False := by rw [← hX']; exact ⟨rfl, rfl, rfl, hcalm, rfl, rfl⟩
  obtain ⟨eP, ew, eK, ec, eA, exe⟩ := eXm
  have envE : X'.env = { newEnv sc H3.objs.size X.env.globals (clF X.env.cells sc.names []) X.env.qual none .none (some X.env) builtinsNs with scope := relabel sc X.env } := by rw [← hX']; rfl
  have hg' : PG X' tg g := hX' ▸ hg _ _ _
  have ht' : PTs X' ifs tc := hX' ▸ ht _ _ _
  have he' : PE X' elt te := hX' ▸ he _ _ _
  have hs0 : X'.s₀.heap = H3 := by rw [← hX']; rfl
  have hH0 : X'.H₀ = H := by rw [← hX']; rfl
  have hos : X'.s₀.os = s2.os := by rw [← hX']; rfl
  have loop : ∀ s₃ : Shared, s₃ = { s2 with heap := h₁, toks := s2.toks + ([] : List (Str × Value)).length } →
      codeAny (model X.prog X.w) X.A (.compLoop (.ListComp elt [⟨tg, iter, ifs, 0⟩] sc pos) 0 (.ref it) (.ref s2.heap.objs.size) X'.env) (RR (.ref s2.heap.objs.size) H3.objs.size) s₃ := by
    rintro s₃ rfl
    refine compLoop_of (fun n s' => ∃ i acc its k H', Inv X' [] (List.replicate xs.length none ++ σ) H' s' ∧ tn i s'.heap ∧ (∀ b ∈ fp, H' b = none) ∧ H' s2.heap.objs.size = none ∧ Vals acc its ∧
      s'.heap.get? s2.heap.objs.size = some { cls := .type "list", data := .seq its.toArray k } ∧ W i n acc H') ?_ m0
      ⟨0, [], [], 0, H, I4, st1, fun b hb => (f2 b hb).1, hDn, .nil, hDobj, w0⟩
    rintro n s' ⟨i, acc, its, k, H', I', st', fr', hD', rv, hobj, w'⟩
    have fpok : ∀ {o : Obj} {H'' : Hp}, (∀ b ∈ fp, H'' b = none) → ∀ b ∈ fp, FpOk X' [(s2.heap.objs.size, o)] H'' b := fun {o H''} hn b hb => by
      refine ⟨hn b hb, by rw [eXloc, hC]; exact Nat.ne_of_lt (Nat.lt_succ_of_lt (fpLt b hb)), by rw [eXfs]; exact fpfr b hb, .inl (by rw [eXex]; exact List.mem_cons_of_mem _ hb), fun x c e => ?_, fun p hp => ?_⟩
      · rw [eXcl] at e
        exact (f2 b hb).2.2.2.2.1 x c (clF_lookup e).1
      · rw [eXpn] at hp
        have : p = (s2.heap.objs.size, o) := by simpa using hp
        rw [this]
        exact Nat.ne_of_gt (fpLt b hb)
    have pinD : ∀ {H'' : Hp} {s'' : Shared} {σ'' : St} {o : Obj}, Inv X' [] σ'' H'' s'' → s''.heap.get? s2.heap.objs.size = some o → (∀ v, o.data ≠ .cell v) → H'' s2.heap.objs.size = none → Inv X' [(s2.heap.objs.size, o)] σ'' H'' s'' := fun {H'' s'' σ'' o} J e d hn =>
      J.pins_of fun p hp => by
        have : p = (s2.heap.objs.size, o) := by simpa using hp
        rw [this]
        exact ⟨e, hn, by rw [eXloc]; exact hDC, by rw [eXfs]; exact hnofr _ (Nat.le_refl _), d⟩
    have J := pinD I' hobj (fun v => by intro z; cases z) hD'
    rw [← eP, ← ew, ← eA]
    rcases turn i n acc H' w' with ⟨stop, hz, hF⟩ | ⟨go, hz, N, hN, step⟩
    · have q1 : wpAny (model X'.prog X'.w) X'.A (pyNext (.ref it)) (fun r s1 => r = none ∧ Inv X' [(s2.heap.objs.size, { cls := .type "list", data := .seq its.toArray k })] (List.replicate xs.length none ++ σ) H' s1) (fun _ _ => False) s' := by
        have := T.done X' eP ew eK ec i _ s' _ H' (fun _ _ => False) J (fpok fr') st' stop
        rw [eP, ew]; exact this
      refine thn q1 fun r s1 h1 => ?_
      obtain ⟨hr, J1⟩ := h1
      subst hr
      have e1 := J1.pin (s2.heap.objs.size, { cls := .type "list", data := .seq its.toArray k }) (List.mem_append_right _ List.mem_cons_self)
      -- back to the block around
      have un : Un (frs X.stack) (s2.heap.objs.size :: fp) H H' H3 s1.heap := by
        have := J1.base
        rw [eXfs, eXex, hH0, hs0] at this
        exact this
      have hok1 : HOk X.prog X.w H' s1.heap := by have := J1.hok; rw [eP, ew] at this; exact this
      obtain ⟨mC, hmC, _⟩ := J1.loc
      have hmC' : s1.heap.Ns H3.objs.size mC := by rw [eXloc] at hmC; exact hmC
      have hCfree : H' H3.objs.size = none := by have := J1.free; rw [eXloc] at this; exact this
      refine fin _ _ s1 acc H' ⟨mC, hmC'⟩ ?_ hF e1.2.1 ?_
      · refine I.fpOk (by rw [hC]; exact Nat.le_succ _) ?_
        rw [upd_ne (Ne.symm hDC)]
        exact hCfree
      · refine I.call' (ch := fp) (J1.os.trans hos) ?_ (hok1.adopt e1.2.1 hz rv e1.1) J1.bare fun b hb => ⟨(f2 b hb).2.2.2.1, (f2 b hb).2.1, (f2 b hb).2.2.2.2.1, (f2 b hb).2.2.2.2.2⟩
        have below : ∀ b o, s2.heap.get? b = some o → b ≠ s2.heap.objs.size := fun b o e => Nat.ne_of_lt (Heap.lt_size e)
        have nin : ∀ b o, s2.heap.get? b = some o → b ∉ fp → b ∉ s2.heap.objs.size :: fp := fun b o e hb z => (List.mem_cons.mp z).elim (below b o e) hb
        have trkne : ∀ b u, H b = some u → b ≠ s2.heap.objs.size := fun b u e z => by rw [z, hDn] at e; cases e
        refine ⟨fun b o e n hf hb => un.keep b o (old3 b o e) n hf (nin b o e hb), fun b o e n hf hb => un.slot b o (old3 b o e) n hf (nin b o e hb), fun b o e n hb => ?_, fun b o e hb => un.there b o (old3 b o e) (nin b o e hb), fun b ys e => ?_, fun b o u e => ?_, fun b ps e => ?_⟩
        · rw [upd_ne (below b o e)]; exact un.free b o (old3 b o e) n (nin b o e hb)
        · rw [upd_ne (trkne b _ e)]; exact un.tups b ys e
        · rw [upd_ne (trkne b _ e)]; exact un.frzs b o u e
        · rw [upd_ne (trkne b _ e)]; exact un.tbls b ps e
    · have q1 := T.item X' eP ew eK ec i _ s' _ H' (fun _ _ => False) J (fpok fr') st' go
      rw [← eP, ← ew] at q1
      have q2 := q1
      refine thn q2 fun r s1 h1 => ?_
      obtain ⟨u, hr, h4⟩ := h1
      subst hr
      dsimp only
      refine thn h4 fun _ s5 ⟨x, H5, J5, r5, y5, st5, fr5⟩ => ?_
      have J5' := J5.pinned (fpok fr5) (T.obj _ _ st5)
      have q5 := hg' _ s5 _ H5 x u _ J5' r5 (step x H5 y5)
      rw [exe] at q5
      refine thn q5 fun _ s6 ⟨σ6, H6, J6, hσ, q6⟩ => ?_
      have q7 := ht' _ s6 σ6 H6 _ J6 q6
      rw [exe] at q7
      refine thn q7 fun ok s7 ⟨H7, J7, q7⟩ => ?_
      -- the state behind a turn
      have lenσ : ∀ {H8 : Hp} {s8 : Shared} {pl : List (Addr × Obj)}, Inv X' pl σ6 H8 s8 → (List.replicate xs.length none ++ σ).length = σ6.length := fun {H8 s8 pl} J8 => J6.len.symm ▸ I4.len
      have weak : ∀ {H8 : Hp} {s8 : Shared} {pl : List (Addr × Obj)}, Inv X' pl σ6 H8 s8 → Inv X' pl (List.replicate xs.length none ++ σ) H8 s8 := fun {H8 s8 pl} J8 => by
        refine J8.weak (lenσ J8) fun j v e => ?_
        by_cases hj : j < xs.length
        · rw [List.getElem?_append_left (by simpa using hj), List.getElem?_replicate, if_pos hj] at e
          cases e
        · have hj' : xs.length ≤ j := Nat.le_of_not_lt hj
          rw [List.getElem?_append_right (by simpa using hj'), List.length_replicate, ← hσ, List.getElem?_drop] at e
          rw [← e]
          congr 1
          omega
      have back : ∀ {H8 : Hp} {s8 : Shared}, Inv X' ([(s2.heap.objs.size, { cls := .type "list", data := .seq its.toArray k })] ++ pinsAt fp s5.heap) σ6 H8 s8 →
          Inv X' [] (List.replicate xs.length none ++ σ) H8 s8 ∧ tn (i + 1) s8.heap ∧ (∀ b ∈ fp, H8 b = none) ∧ H8 s2.heap.objs.size = none ∧ s8.heap.get? s2.heap.objs.size = some { cls := .type "list", data := .seq its.toArray k } := fun {H8 s8} J8 => by
        have eD := J8.pin (s2.heap.objs.size, { cls := .type "list", data := .seq its.toArray k }) (List.mem_append_right _ (List.mem_append_left _ List.mem_cons_self))
        refine ⟨(weak J8).pins_of fun p hp => absurd hp (by simp), T.keep _ _ _ st5 fun b hb o e => (J8.pin (b, o) (List.mem_append_right _ (List.mem_append_right _ (mem_pinsAt hb e)))).1, fun b hb => ?_, eD.2.1, eD.1⟩
        obtain ⟨o, e, d⟩ := T.obj _ _ st5 b hb
        exact (J8.pin (b, o) (List.mem_append_right _ (List.mem_append_right _ (mem_pinsAt hb e)))).2.1
      cases ok with
      | false =>
        simp only [Bool.false_eq_true, if_false] at q7 ⊢
        obtain ⟨m', hm, w7⟩ := hN _ _ q7
        obtain ⟨a1, a2, a3, a4, a5⟩ := back J7
        exact ⟨m', hm, i + 1, acc, its, k, H7, a1, a2, a3, a4, rv, a5, w7⟩
      | true =>
        simp only [if_true] at q7 ⊢
        have q8 := he' _ s7 σ6 H7 _ J7 q7
        rw [exe] at q8
        refine thn q8 fun u8 s8 ⟨y, H8, J8, r8, q9⟩ => ?_
        obtain ⟨m', hm, w8⟩ := hN _ _ q9
        obtain ⟨a1, a2, a3, a4, a5⟩ := back J8
        have hits : its.length = acc.length := rv.length.symm
        refine wpAny_list_append_plain (hsz := by show its.toArray.size ≤ sizeLine; rw [List.size_toArray, hits]; exact Nat.le_of_lt hz) ⟨k, a5⟩ fun h9 hl9 hs9 => ?_
        obtain ⟨k9, e9⟩ := hl9
        refine ⟨m', hm, i + 1, acc ++ [y], its ++ [u8], k9, H8, ?_, ?_, a3, a4, rv.append (.cons r8 .nil), ?_, w8⟩
        · exact a1.turned (t' := s8.toks) (fun b o hb e => hs9.extBut b o hb e) a4 (by rw [eXloc]; exact hDC) (.inl (by rw [eXex]; exact List.mem_cons_self)) (fun x c e => by rw [eXcl] at e; exact hnocell _ (Nat.le_refl _) x c (clF_lookup e).1) (fun p hp => by rw [eXpn] at hp; simp at hp)
        · exact T.keep _ _ _ a2 fun b hb o e => hs9.extBut b o (Nat.ne_of_lt (fpLt b hb)) e
        · rw [e9]
          congr 2
          simp
  rw [show { newEnv sc H3.objs.size X.env.globals (clF X.env.cells sc.names []) X.env.qual none .none (some X.env) builtinsNs with scope := relabel sc X.env } = X'.env from envE.symm]
  exact codeAny_compStart_list (loop _ rfl) (T.self X.A 0 _ _ _ st1 (loop _ rfl))
end
end L2

namespace L2
open PySem PySem.Spec PyProof.Rows

/-- [elt for tg in iter if ..]: W the word by the turn, a measure, and what is gathered -/
noncomputable def LCW (n : Nat) (J : It) (g : TG) (tc : TT) (te : TE) (σ : St) (H1 : Hp) (F : List V → Hp → Prop) : Prop :=
  ∃ W : Nat → Nat → List V → Hp → Prop, (∃ m, W 0 m [] H1) ∧ ∀ i m acc H, W i m acc H → (J.stop i H ∧ acc.length ≤ sizeLine ∧ F acc H) ∨
    (J.go i H ∧ acc.length < sizeLine ∧ ∃ N : List V → Hp → Prop, (∀ acc' H', N acc' H' → ∃ m', m' < m ∧ W (i + 1) m' acc' H') ∧ ∀ x H', J.yld i H x H' → g x (List.replicate n none ++ σ) H' fun σ2 H2 => σ2.drop n = σ ∧ tc σ2 H2 fun c H3 =>
      if c = true then te σ2 H3 fun y H4 => N (acc ++ [y]) H4 else N acc H3)
noncomputable def tLC (n : Nat) (wi : TI) (g : TG) (tc : TT) (te : TE) : TE := fun σ H Q => wi σ H fun J H1 => LCW n J g tc te σ H1 fun acc H => ∀ p, H p = none → Q (.ref p) (upd H p (.lst acc))

section
variable {X : Cx} {tg iter elt : Expr} {ifs : List Expr} {sc : Scope} {pos : Pos} {xs : List Str} {wi : TI} {g : TG} {tc : TT} {te : TE}
theorem FpOk.turn {pins : List (Addr × Obj)} {σ : St} {H : Hp} {s : Shared} {C : Addr} {h' : Heap} (f : FpOk X pins H C) (I : Inv X pins σ H s) (hs : Heap.SameBut C s.heap h') : Inv X pins σ H { s with heap := h' } :=
  I.turned (t' := s.toks) (fun b o hb e => hs.extBut b o hb e) f.1 f.2.1 f.2.2.2.1 f.2.2.2.2.1 f.2.2.2.2.2
theorem pe_comp (S : CScope X xs sc) (hc : X.calm = true) (hi : PI X tg iter wi) (hg : ∀ ex s3 H3, PG (cxC X xs sc ex s3 H3) tg g) (ht : ∀ ex s3 H3, PTs (cxC X xs sc ex s3 H3) ifs tc) (he : ∀ ex s3 H3, PE (cxC X xs sc ex s3 H3) elt te)
    (hs : ∀ x, foldedSetIterable iter X.env x = pure x := by intro _; rfl) : PE X (.ListComp elt [⟨tg, iter, ifs, 0⟩] sc pos) (tLC xs.length wi g tc te) := by
  intro pins s σ H Q I h
  rw [eval_ListComp]
  refine wpAny_comprehension_free (use := none) rfl hs (closure_eq (S.cells I.ok)) S.kind S.names (thn (hi pins s σ H _ I h) fun v s1 h1 => thn h1 fun itv s2 h2 => ?_)
  obtain ⟨it, fp, tn, J, H2, e, I2, T, st2, f2, W, w0, turn⟩ := h2
  subst e
  refine comp_core (RR := fun acc C => compPost (model X.prog X.w) X.A X.xe none (EP X pins σ Q) acc C) S hc hg ht he I2 T st2 f2 W w0 _ turn fun D C s' acc H' hns fC hF hD IF => ?_
  obtain ⟨m, hm⟩ := hns
  exact ⟨m, hm, fun h' hs' => ⟨.ref D, _, fC.turn IF hs', rfl, hF D hD⟩⟩
end

/-! ### the forms one uses -/
theorem lc_list {K : PySem.W.Frag} {a : Addr} {xs : List V} {n : Nat} {g : TG} {tc : TT} {te : TE} {σ : St} {H : Hp} {F : List V → Hp → Prop} (Pv : Nat → List V → Hp → Prop) (hn : xs.length ≤ 1000000) (h0 : Pv 0 [] H)
    (hl : ∀ i acc H, i ≤ xs.length → Pv i acc H → SqL K H a xs ∧ acc.length ≤ i)
    (hs : ∀ i x acc H, xs[i]? = some x → Pv i acc H → g x (List.replicate n none ++ σ) H fun σ2 H2 => σ2.drop n = σ ∧ tc σ2 H2 fun c H3 => if c = true then te σ2 H3 fun y H4 => Pv (i + 1) (acc ++ [y]) H4 else Pv (i + 1) acc H3)
    (hd : ∀ acc H, Pv xs.length acc H → F acc H) : LCW n (Itl K a) g tc te σ H F := by
  have sz : (1000000 : Nat) < sizeLine := by rw [sizeLine_eq]; decide
  refine ⟨fun i m acc H => m = xs.length - i ∧ i ≤ xs.length ∧ Pv i acc H, ⟨xs.length, by simp, Nat.zero_le _, h0⟩, ?_⟩
  rintro i m acc H ⟨rfl, hi, p⟩
  have q := hl i acc H hi p
  by_cases hlt : i < xs.length
  · refine .inr ⟨⟨xs, xs[i], q.1, by simp [hlt]⟩, by omega, Pv (i + 1), fun acc' H' p' => ⟨xs.length - (i + 1), by omega, rfl, hlt, p'⟩, fun x H' y => ?_⟩
    obtain ⟨e, y⟩ := y
    subst e
    exact hs i x acc _ (y xs q.1) p
  · have e : i = xs.length := by omega
    subst e
    exact .inl ⟨⟨xs, q.1, Nat.le_refl _⟩, by omega, hd acc H p⟩
theorem lc_range {lo : Int} {k : Nat} {n : Nat} {g : TG} {tc : TT} {te : TE} {σ : St} {H : Hp} {F : List V → Hp → Prop} (Pv : Nat → List V → Hp → Prop) (hn : k ≤ 1000000) (h0 : Pv 0 [] H)
    (hl : ∀ i acc H, i ≤ k → Pv i acc H → acc.length ≤ i)
    (hs : ∀ i acc H, i < k → Pv i acc H → g (.int (lo + i)) (List.replicate n none ++ σ) H fun σ2 H2 => σ2.drop n = σ ∧ tc σ2 H2 fun c H3 => if c = true then te σ2 H3 fun y H4 => Pv (i + 1) (acc ++ [y]) H4 else Pv (i + 1) acc H3)
    (hd : ∀ acc H, Pv k acc H → F acc H) : LCW n (Itr lo k) g tc te σ H F := by
  have sz : (1000000 : Nat) < sizeLine := by rw [sizeLine_eq]; decide
  refine ⟨fun i m acc H => m = k - i ∧ i ≤ k ∧ Pv i acc H, ⟨k, by simp, Nat.zero_le _, h0⟩, ?_⟩
  rintro i m acc H ⟨rfl, hi, p⟩
  have q := hl i acc H hi p
  by_cases hlt : i < k
  · refine .inr ⟨hlt, by omega, Pv (i + 1), fun acc' H' p' => ⟨k - (i + 1), by omega, rfl, hlt, p'⟩, fun x H' y => ?_⟩
    obtain ⟨e, y⟩ := y
    subst e y
    exact hs i acc _ hlt p
  · have e : i = k := by omega
    subst e
    exact .inl ⟨Nat.le_refl _, by omega, hd acc H p⟩
end L2

namespace L2
open PySem PySem.Spec PyProof.Rows

section
variable {prog : Program} {w : World} {A : Around} {E : Value → Shared → Prop} {s : Shared}
end

section
variable {X : Cx} {pos : Pos}
/-- n.bit_length() -/
theorem mt_bitlen : MtR X "int.bit_length" (fun x xs H Q => ∃ i, x = .int i ∧ xs = [] ∧ Q (.int ((Builtin.Int.intBits i : Nat) : Int)) H) := by
  intro pins s σ H x xs v us Q I rx rs h
  obtain ⟨i, rfl, rfl, q⟩ := h
  obtain ⟨t, rfl⟩ := rx
  cases rs
  exact call_int_bit_length ⟨.int _, H, I.tok _, ⟨_, rfl⟩, q⟩
/-- two lists of ints compared -/
noncomputable def rEqL (K : PySem.W.Frag) (neg : Bool) : R2 := fun x y H Q => ∃ (a b : Addr) (ns ms : List Int), x = .ref a ∧ y = .ref b ∧ SqL K H a (ns.map V.int) ∧ SqL K H b (ms.map V.int) ∧ Q (.bl (if neg then !decide (ns = ms) else decide (ns = ms))) H
theorem op_eqL (hu : X.A.units + 64 < cLine) : OpR X (compareOp .Eq) (rEqL X.K false) := by
  intro pins s σ H x y v u Q I rx ry h
  obtain ⟨a, b, ns, ms, rfl, rfl, h1, h2, q⟩ := h
  cases rx; cases ry
  obtain ⟨its, rv, pl, _⟩ := I.list h1
  obtain ⟨its', rv', pl', _⟩ := I.list h2
  exact PySem.W.eq_intsK pl.isList (intsAre_of rv) pl'.isList (intsAre_of rv') hu ⟨.bl _, H, I, rfl, q⟩
theorem op_neL (hu : X.A.units + 64 < cLine) : OpR X (compareOp .NotEq) (rEqL X.K true) := by
  intro pins s σ H x y v u Q I rx ry h
  obtain ⟨a, b, ns, ms, rfl, rfl, h1, h2, q⟩ := h
  cases rx; cases ry
  obtain ⟨its, rv, pl, _⟩ := I.list h1
  obtain ⟨its', rv', pl', _⟩ := I.list h2
  exact PySem.W.ne_intsK pl.isList (intsAre_of rv) pl'.isList (intsAre_of rv') hu ⟨.bl _, H, I, rfl, q⟩
end
end L2

namespace L2
open PySem PySem.Spec PyProof.Rows

/-! ### small words -/
/-- all but what stands at st is as it was -/
noncomputable def But (st : Addr) (H H' : Hp) : Prop := ∀ b o, H b = some o → b ≠ st → H' b = some o
theorem But.refl (st : Addr) (H : Hp) : But st H H := fun _ _ h _ => h
theorem But.trans {st : Addr} {H H1 H2 : Hp} (a : But st H H1) (b : But st H1 H2) : But st H H2 := fun c o h n => b c o (a c o h n) n
theorem But.put (st : Addr) (H : Hp) (o : HO) : But st H (upd H st o) := fun b u e n => by rw [upd_ne n]; exact e
theorem Same.but {st : Addr} {H H' : Hp} (e : Same H H') : But st H H' := fun b o h _ => e b o h
theorem Same.new {H : Hp} {p : Addr} {o : HO} (h : H p = none) : Same H (upd H p o) := fun b u e => by rw [upd_ne (ne_of_none e h)]; exact e
theorem But.new {st : Addr} {H : Hp} {p : Addr} {o : HO} (h : H p = none) : But st H (upd H p o) := (Same.new h).but

theorem nat_of {x : Int} {n : Nat} (h0 : 0 ≤ x) (h1 : x < (n : Int)) : ∃ r : Nat, x = (r : Int) ∧ r < n := ⟨x.toNat, by omega, by omega⟩
theorem shl1 (m : Nat) : (1 : Int) * 2 ^ (m : Int).toNat = ((2 ^ m : Nat) : Int) := by simp
theorem cpow1 {m : Nat} (h : m ≤ 1000) : CPow 1 (m : Int) := ⟨by omega, by omega, by decide⟩
theorem and_lt {a b n : Nat} (h : a < n) : a &&& b < n := Nat.lt_of_le_of_lt Nat.and_le_left h
/-! ### sets as naturals -/
theorem bitAnd_nat (a b : Nat) : Builtin.bitAnd (a : Int) (b : Int) = ((a &&& b : Nat) : Int) := by
  simp [Builtin.bitAnd]
theorem bitNot_not (x : Int) : Builtin.bitNot (Builtin.bitNot x) = x := by unfold Builtin.bitNot; omega
theorem bitOr_nat (a b : Nat) : Builtin.bitOr (a : Int) (b : Int) = ((a ||| b : Nat) : Int) := by
  have ha : ¬ 0 ≤ Builtin.bitNot (a : Int) := by unfold Builtin.bitNot; omega
  have hb : ¬ 0 ≤ Builtin.bitNot (b : Int) := by unfold Builtin.bitNot; omega
  unfold Builtin.bitOr
  simp only [Builtin.bitAnd, ha, hb, decide_false, bitNot_not, Int.toNat_natCast]
theorem two_pow_int (k : Nat) : ((2 : Int) ^ k) = ((2 ^ k : Nat) : Int) := by simp
end L2

namespace L2
open PySem PySem.Spec PyProof.Rows
/-- what is asked of a comprehension's scope, reckoned -/
noncomputable def cscB (N xs : List Str) (osc sc : Scope) : Bool :=
  decide (sc.kind = .function) && sc.names.all (fun y => decide (y.2 ≠ .cell)) && sc.names.all (fun y => decide (y.2 ≠ .local) || decide (sc.names.lookup y.1 = some .local)) && xs.all (fun x => decide (sc.names.lookup x = some .local)) &&
    N.all (fun y => decide (sc.names.lookup y ≠ some .local)) && sc.names.all (fun y => decide (y.2 ≠ .free) || (decide (osc.names.lookup y.1 = some .cell) || decide (osc.names.lookup y.1 = some .free))) && decide ((xs ++ N).Nodup)
theorem cs {X : Cx} {xs : List Str} {sc : Scope} (N : List Str) (osc : Scope) (hN : X.N = N) (ho : X.env.scope = osc) (h : cscB N xs osc sc = true) : CScope X xs sc := by
  unfold cscB at h
  simp only [Bool.and_eq_true, List.all_eq_true, decide_eq_true_eq, Bool.or_eq_true] at h
  obtain ⟨⟨⟨⟨⟨⟨h1, h2⟩, h3⟩, h4⟩, h5⟩, h6⟩, h7⟩ := h
  refine ⟨h1, h2, fun y hy e => ?_, h4, by rw [hN]; exact h5, fun y hy e => ?_, by rw [hN]; exact h7⟩
  · rcases h3 y hy with z | z
    · exact absurd e z
    · exact z
  · rcases h6 y hy with z | z
    · exact absurd e z
    · show X.env.scope.names.lookup y.1 = _ ∨ X.env.scope.names.lookup y.1 = _
      rw [ho]; exact z
end L2

namespace L2
open PySem PySem.Spec PyProof.Rows
theorem mod_lo (x : Int) {m : Int} (h : 0 < m) : 0 ≤ x % m := Int.emod_nonneg _ (by omega)
theorem mod_hi (x : Int) {m : Int} (h : 0 < m) : x % m < m := Int.emod_lt_of_pos _ h
/-! ### columns of a set, as naturals -/
noncomputable def vN (k : Nat) : V := V.int (k : Int)
noncomputable def hasB (a k : Nat) : Bool := decide (a / 2 ^ k % 2 = 1)
noncomputable def bitsN (a : Nat) : Nat := Builtin.Int.intBits (a : Int)
noncomputable def colsN (a : Nat) : List Nat := (List.range (bitsN a)).filter (hasB a)
theorem map_int (l : List Nat) : (l.map fun (k : Nat) => (k : Int)).map V.int = l.map vN := by rw [List.map_map]; rfl
theorem bitsN_le {a : Nat} (h : a < 2 ^ 20) : bitsN a ≤ 20 := by
  unfold bitsN Builtin.Int.intBits
  split
  · omega
  · rename_i z
    have h0 : a ≠ 0 := by intro e; subst e; exact z rfl
    have : a.log2 < 20 := (Nat.log2_lt h0).mpr h
    show (a : Int).natAbs.log2 + 1 ≤ 20
    rw [Int.natAbs_natCast]
    omega
theorem dec_nat (a b : Nat) : decide (V.int (a : Int) = V.int (b : Int)) = decide (a = b) := by
  rw [dec_int, Bool.eq_iff_iff, beq_iff_eq, decide_eq_true_iff]
  exact Int.ofNat_inj
noncomputable def spHas : Sp := fun vs H Q _ => ∃ a k : Nat, vs = [vN a, vN k] ∧ Q (.bl (hasB a k)) H
noncomputable def spCols : Sp := fun vs H Q _ => ∃ a : Nat, vs = [vN a] ∧ a < 2 ^ 20 ∧ ∀ p, H p = none → Q (.ref p) (upd H p (.lst ((colsN a).map vN)))
noncomputable def spAllOf : Sp := fun vs H Q _ => ∃ m : Nat, vs = [vN m] ∧ m ≤ 1000 ∧ Q (vN (2 ^ m - 1)) H
theorem has_eq (a k : Nat) : decide (V.int (Builtin.bitAnd ((a : Int) / 2 ^ (k : Int).toNat) 1) = V.int 1) = hasB a k := by
  have e : ((a : Int) / 2 ^ (k : Int).toNat) = ((a / 2 ^ k : Nat) : Int) := by
    rw [Int.toNat_natCast, two_pow_int]; omega
  rw [e, show (1 : Int) = ((1 : Nat) : Int) from rfl, bitAnd_nat, dec_nat, Nat.and_one_is_mod]
  rfl
theorem filt_succ (p : Nat → Bool) (i : Nat) : (List.range (i + 1)).filter p = (List.range i).filter p ++ (if p i = true then [i] else []) := by
  rw [List.range_succ, List.filter_append]
  congr 1
  cases h : p i <;> simp [h]
end L2

namespace L2
open PySem PySem.Spec PyProof.Rows
/-! ### the rules that speak of the written part, with it told (in a comprehension's block it stands under a binder) -/
section
variable {X : Cx} {K : PySem.W.Frag}
theorem ix_listK (h : X.K = K) : IxR X (rIxL K) := h ▸ ix_list
theorem ix_tupK (h : X.K = K) : IxR X (rIxT K) := h ▸ ix_tup
theorem call_lenK (h : X.K = K) : CallR X (.builtin "len") (fun xs H Q => ∃ p ys, xs = [.ref p] ∧ (SqL K H p ys ∨ SqT K H p ys) ∧ Q (.int ys.length) H) := h ▸ call_len_seq
theorem op_eqLK (h : X.K = K) (hu : X.A.units + 64 < cLine) : OpR X (compareOp .Eq) (rEqL K false) := h ▸ op_eqL hu
theorem op_neLK (h : X.K = K) (hu : X.A.units + 64 < cLine) : OpR X (compareOp .NotEq) (rEqL K true) := h ▸ op_neL hu
theorem pi_listK {tg l : Expr} {tl : TE} (h : X.K = K) (hl : PE X l tl) : PI X tg l (iList K tl) := h ▸ pi_list hl
end
end L2

namespace L2
open PySem PySem.Spec PyProof.Rows
/-! ### arithmetic of naturals -/
noncomputable def rN (C : Nat → Nat → Prop) (g : Nat → Nat → V) : R2 := fun x y H Q => ∃ i j : Nat, x = vN i ∧ y = vN j ∧ C i j ∧ Q (g i j) H
noncomputable def rN0 (g : Nat → Nat → V) : R2 := fun x y H Q => ∃ i j : Nat, x = vN i ∧ y = vN j ∧ Q (g i j) H
section
variable {X : Cx}
theorem OpR.mono {f : Value → Value → Sem Value} {r r' : R2} (h : OpR X f r) (k : ∀ x y H Q, r' x y H Q → r x y H Q) : OpR X f r' := fun pins s σ H x y v u Q I rx ry q => h pins s σ H x y v u Q I rx ry (k x y H Q q)
theorem op_addN : OpR X (binaryOp .Add) (rN0 fun i j => vN (i + j)) := op_add.mono fun x y H Q ⟨i, j, h1, h2, q⟩ => ⟨i, j, h1, h2, by show Q (V.int ((i : Int) + j)) H; rw [← Int.natCast_add]; exact q⟩
theorem op_subN : OpR X (binaryOp .Sub) (rN (fun i j => j ≤ i) fun i j => vN (i - j)) := op_sub.mono fun x y H Q ⟨i, j, h1, h2, h, q⟩ => ⟨i, j, h1, h2, by show Q (V.int ((i : Int) - j)) H; rw [← Int.ofNat_sub h]; exact q⟩
theorem op_mulN : OpR X (binaryOp .Mult) (rN (fun i _ => i < 2 ^ 64) fun i j => vN (i * j)) := op_mul.mono fun x y H Q ⟨i, j, h1, h2, h, q⟩ => ⟨i, j, h1, h2, .inl ⟨by omega, by omega⟩, by show Q (V.int ((i : Int) * j)) H; rw [← Int.natCast_mul]; exact q⟩
theorem op_modN' : OpR X (binaryOp .Mod) (rN (fun _ j => 0 < j) fun i j => vN (i % j)) := op_mod.mono fun x y H Q ⟨i, j, h1, h2, h, q⟩ => ⟨i, j, h1, h2, by omega, by show Q (V.int ((i : Int) % j)) H; rw [← Int.natCast_emod]; exact q⟩
theorem op_fdivN' : OpR X (binaryOp .FloorDiv) (rN (fun _ j => 0 < j ∧ j < 1073741824) fun i j => vN (i / j)) := op_fdiv.mono fun x y H Q ⟨i, j, h1, h2, h, q⟩ => ⟨i, j, h1, h2, ⟨by omega, by omega⟩, by show Q (V.int ((i : Int) / j)) H; rw [← Int.natCast_ediv]; exact q⟩
theorem op_shlN : OpR X (binaryOp .LShift) (rN (fun i j => j ≤ 1000 ∧ i < 2 ^ 64) fun i j => vN (i * 2 ^ j)) := op_shl.mono fun x y H Q ⟨i, j, h1, h2, h, q⟩ => ⟨i, j, h1, h2, ⟨by omega, by omega, by rw [Int.natAbs_natCast]; exact h.2⟩, by
  show Q (V.int ((i : Int) * 2 ^ (j : Int).toNat)) H
  rw [Int.toNat_natCast, two_pow_int, ← Int.natCast_mul]; exact q⟩
/-- 1 << j -/
theorem op_shl1 : OpR X (binaryOp .LShift) (fun x y H Q => ∃ j : Nat, x = .int 1 ∧ y = vN j ∧ j ≤ 1000 ∧ Q (vN (2 ^ j)) H) := op_shlN.mono fun x y H Q ⟨j, h1, h2, h, q⟩ => ⟨1, j, h1, h2, ⟨h, by decide⟩, by show Q (vN (1 * 2 ^ j)) H; rw [Nat.one_mul]; exact q⟩
theorem op_shrN : OpR X (binaryOp .RShift) (rN0 fun i j => vN (i / 2 ^ j)) := op_shr.mono fun x y H Q ⟨i, j, h1, h2, q⟩ => ⟨i, j, h1, h2, by omega, by
  show Q (V.int ((i : Int) / 2 ^ (j : Int).toNat)) H
  rw [Int.toNat_natCast, two_pow_int, ← Int.natCast_ediv]; exact q⟩
theorem op_andN : OpR X (binaryOp .BitAnd) (rN0 fun i j => vN (i &&& j)) := op_and.mono fun x y H Q ⟨i, j, h1, h2, q⟩ => ⟨i, j, h1, h2, by show Q (V.int (Builtin.bitAnd (i : Int) j)) H; rw [bitAnd_nat]; exact q⟩
theorem op_orN : OpR X (binaryOp .BitOr) (rN0 fun i j => vN (i ||| j)) := op_or.mono fun x y H Q ⟨i, j, h1, h2, q⟩ => ⟨i, j, h1, h2, by show Q (V.int (Builtin.bitOr (i : Int) j)) H; rw [bitOr_nat]; exact q⟩
theorem op_eqN : OpR X (compareOp .Eq) (rN0 fun i j => .bl (decide (i = j))) := op_eq.mono fun x y H Q ⟨i, j, h1, h2, q⟩ => by
  subst h1 h2
  refine ⟨rfl, ?_⟩
  show Q (V.bl (decide (V.int (i : Int) = V.int (j : Int)))) H
  rw [dec_nat]; exact q
theorem op_neN : OpR X (compareOp .NotEq) (rN0 fun i j => .bl (!decide (i = j))) := op_ne.mono fun x y H Q ⟨i, j, h1, h2, q⟩ => by
  subst h1 h2
  refine ⟨rfl, ?_⟩
  show Q (V.bl (!decide (V.int (i : Int) = V.int (j : Int)))) H
  rw [dec_nat]; exact q
theorem dlt (i j : Nat) : decide ((i : Int) < (j : Int)) = decide (i < j) := by rw [decide_eq_decide]; omega
theorem dle (i j : Nat) : decide ((i : Int) ≤ (j : Int)) = decide (i ≤ j) := by rw [decide_eq_decide]; omega
theorem op_ltN : OpR X (compareOp .Lt) (rN0 fun i j => .bl (decide (i < j))) := op_lt.mono fun x y H Q ⟨i, j, h1, h2, q⟩ => ⟨i, j, h1, h2, by show Q (V.bl (decide ((i : Int) < j))) H; rw [dlt]; exact q⟩
theorem op_gtN : OpR X (compareOp .Gt) (rN0 fun i j => .bl (decide (j < i))) := op_gt.mono fun x y H Q ⟨i, j, h1, h2, q⟩ => ⟨i, j, h1, h2, by show Q (V.bl (decide ((j : Int) < i))) H; rw [dlt]; exact q⟩
theorem op_geN : OpR X (compareOp .GtE) (rN0 fun i j => .bl (decide (j ≤ i))) := op_ge.mono fun x y H Q ⟨i, j, h1, h2, q⟩ => ⟨i, j, h1, h2, by show Q (V.bl (decide ((j : Int) ≤ i))) H; rw [dle]; exact q⟩
end
/-- a range from nought, its numbers as naturals -/
theorem lc_rangeN {k : Nat} {n : Nat} {g : TG} {tc : TT} {te : TE} {σ : St} {H : Hp} {F : List V → Hp → Prop} (Pv : Nat → List V → Hp → Prop) (hn : k ≤ 1000000) (h0 : Pv 0 [] H)
    (hl : ∀ i acc H, i ≤ k → Pv i acc H → acc.length ≤ i)
    (hs : ∀ i acc H, i < k → Pv i acc H → g (vN i) (List.replicate n none ++ σ) H fun σ2 H2 => σ2.drop n = σ ∧ tc σ2 H2 fun c H3 => if c = true then te σ2 H3 fun y H4 => Pv (i + 1) (acc ++ [y]) H4 else Pv (i + 1) acc H3)
    (hd : ∀ acc H, Pv k acc H → F acc H) : LCW n (Itr 0 k) g tc te σ H F :=
  lc_range Pv hn h0 hl (fun i acc H hi p => by rw [Int.zero_add]; exact hs i acc H hi p) hd
theorem for_rangeN {n : Nat} {g : TG} {tb : TS} {D : Ends} {σ : St} {H : Hp} (Pv : Nat → St → Hp → Prop) (h0 : Pv 0 σ H)
    (hs : ∀ i σ H, i < n → Pv i σ H → g (vN i) σ H fun σ2 H2 => tb { D with nx := Pv (i + 1), ct := Pv (i + 1), bk := D.nx } σ2 H2) (hd : ∀ σ H, Pv n σ H → D.nx σ H) :
    ∃ W : Nat → Nat → St → Hp → Prop, (∃ m, W 0 m σ H) ∧ ∀ i m σ H, W i m σ H →
      ((Itr 0 n).stop i H ∧ D.nx σ H) ∨ ((Itr 0 n).go i H ∧ ∃ N : St → Hp → Prop, (∀ σ' H', N σ' H' → ∃ m', m' < m ∧ W (i + 1) m' σ' H') ∧ ∀ x H', (Itr 0 n).yld i H x H' → g x σ H' fun σ2 H2 => tb { D with nx := N, ct := N, bk := D.nx } σ2 H2) :=
  for_range (lo := 0) Pv h0 (fun i σ H hi p => by rw [Int.zero_add]; exact hs i σ H hi p) hd
end L2

namespace L2
open PySem PySem.Spec PyProof.Rows
/-! ### insert, index, sorted; a name let go -/
section
variable {X : Cx} {K : PySem.W.Frag}
theorem call_sortedK (h : X.K = K) : CallR X (.builtin "sorted") (fun xs H Q => ∃ (p : Addr) (ns : List Int), xs = [.ref p] ∧ SqL K H p (ns.map V.int) ∧ ns.length < 64 ∧ ∀ (l : Addr) (ns' : List Int), H l = none → ns'.Perm ns → ns'.Pairwise (· ≤ ·) → Q (.ref l) (upd H l (.lst (ns'.map V.int)))) := by
  subst h
  intro pins s σ H xs us Q I r h
  obtain ⟨p, ns, rfl, hq, h64, q⟩ := h
  obtain ⟨u, rfl, rx⟩ := vals1 r
  cases rx
  obtain ⟨its, rv, pl, hz⟩ := I.list hq
  refine sorted_ints pl.isList (intsAre_of rv) (by rw [← rv.length, List.length_map]; exact h64) fun out ns' a1 a2 a3 => ?_
  obtain ⟨e, he⟩ := sortedAll_at s.heap its out
  refine ⟨.ref (s.heap.objs.size + 1), _, I.laid (t' := s.toks) (fun b o => sortedAll_old) (Nat.le_succ _) (show ObjOk X.prog X.w _ _ _ (.lst (ns'.map V.int)) from ⟨?_, out.toList, e, vals_ints a1, by simpa using he⟩), rfl, q _ ns' (I.hok.fresh (Nat.le_succ _)) a2 a3⟩
  rw [List.length_map, a2.length_eq]
  exact Nat.le_of_lt (small1000 (by omega))
/-- a name's value let go -/
theorem pss_forget {st : List Stmt} {t : TS} (i : Nat) (h : PSs X st t) : PSs X st (fun D σ H => t D (σ.set i none) H) := fun pins s σ H D I hw =>
  h pins s (σ.set i none) H D (I.weak (by simp) fun j v e => by
    by_cases hj : i = j
    · subst hj
      rw [List.getElem?_set] at e
      simp only [if_true] at e
      split at e <;> cases e
    · rwa [List.getElem?_set_ne hj] at e) hw
/-- a block whose own name is called like one that is let go around it -/
noncomputable abbrev Cx.withN (X : Cx) (N' : List Str) : Cx := { X with N := N' }
theorem Cx.Ok.withN {X : Cx} (ok : X.Ok) (N' : List Str) : (X.withN N').Ok :=
  ⟨ok.mod, ok.kind, ok.glob, ok.blt, ok.above, ok.inj, ok.has, ok.cab, ok.hd, ok.frames, ok.stk, ok.exf, ok.bs, ok.bsz, ok.noex, ok.exfs, ok.funs, ok.frf⟩
theorem Cx.Ok.ofN {X : Cx} {N' : List Str} (ok : (X.withN N').Ok) : X.Ok :=
  ⟨ok.mod, ok.kind, ok.glob, ok.blt, ok.above, ok.inj, ok.has, ok.cab, ok.hd, ok.frames, ok.stk, ok.exf, ok.bs, ok.bsz, ok.noex, ok.exfs, ok.funs, ok.frf⟩
theorem pe_hide {e : Expr} {t : TE} (j : Nat) (hv : ¬ Vis X.env.scope "") (h : PE (X.withN (X.N.set j "")) e t) : PE X e (fun σ H Q => (∀ v, σ[j]? ≠ some (some v)) ∧ t σ H Q) := by
  intro pins s σ H Q I ⟨hd, hw⟩
  have I' : Inv (X.withN (X.N.set j "")) pins σ H s := by
    refine ⟨I.ok.withN _, I.os, I.bare, I.base, ?_, I.cell, I.free, I.freeC, I.pin, I.hok, by rw [I.len]; simp⟩
    obtain ⟨m, h1, h2⟩ := I.loc
    refine ⟨m, h1, fun i x v e1 e2 e3 => ?_⟩
    by_cases hj : j = i
    · subst hj; exact absurd e2 (hd v)
    · exact h2 i x v (by rwa [show (X.withN (X.N.set j "")).N = X.N.set j "" from rfl, List.getElem?_set_ne hj] at e1) e2 e3
  refine thn (h pins s σ H Q I' hw) fun u s' ⟨v, H', J, r, q⟩ => ⟨v, H', ?_, r, q⟩
  refine ⟨J.ok.ofN, J.os, J.bare, J.base, ?_, J.cell, J.free, J.freeC, J.pin, J.hok, I.len⟩
  obtain ⟨m, h1, h2⟩ := J.loc
  refine ⟨m, h1, fun i x v e1 e2 e3 => ?_⟩
  by_cases hj : j = i
  · subst hj; exact absurd e2 (hd v)
  · exact h2 i x v (by rwa [show (X.withN (X.N.set j "")).N = X.N.set j "" from rfl, List.getElem?_set_ne hj]) e2 e3
end
/-! ### the law's script and its place, the script frozen: lists of one's own stand apart from it -/
noncomputable def SqF (K : PySem.W.Frag) (H : Hp) (a : Addr) (ns : List Int) : Prop := (∃ o, H a = some (.frz o (.lst (ns.map V.int)))) ∨
  ∃ (o : Obj) (its : Array Value) (n : Nat), K.lookup a = some o ∧ o.cls = .type "list" ∧ o.dict = none ∧ o.data = .seq its n ∧ its.size ≤ sizeLine ∧ Vals (ns.map V.int) its.toList
theorem SqF.sq {K : PySem.W.Frag} {H : Hp} {a : Addr} {ns : List Int} (h : SqF K H a ns) : SqL K H a (ns.map V.int) := by
  rcases h with ⟨o, h⟩ | h
  · exact .inl (.inr ⟨o, h⟩)
  · exact .inr h
theorem SqF.of {K : PySem.W.Frag} {H : Hp} {a : Addr} {ns : List Int} (hO : Only H) (h : SqL K H a (ns.map V.int)) : SqF K H a ns := by
  rcases h with (h | ⟨o, h⟩) | h
  · rcases hO a with z | ⟨o, xs, z⟩
    · rw [h] at z; cases z
    · rw [h] at z; cases z
  · exact .inl ⟨o, h⟩
  · exact .inr h
theorem SqF.imp {K : PySem.W.Frag} {H H' : Hp} {a : Addr} {ns : List Int} (h : SqF K H a ns) (e : ∀ o, H a = some (.frz o (.lst (ns.map V.int))) → H' a = some (.frz o (.lst (ns.map V.int)))) : SqF K H' a ns := by
  rcases h with ⟨o, h⟩ | h
  · exact .inl ⟨o, e o h⟩
  · exact .inr h
noncomputable def STF (K : PySem.W.Frag) (H : Hp) (st : Addr) (ns : List Int) (k : Nat) : Prop := ∃ sc, H st = some (.lst [.ref sc, .int (k : Int)]) ∧ SqF K H sc ns
theorem STF.seq {K : PySem.W.Frag} {H H' : Hp} {st sc : Addr} {ns : List Int} {v : V} (h : H st = some (.lst [.ref sc, v])) (hs : SqF K H sc ns) (b : But st H H') : SqF K H' sc ns :=
  hs.imp fun o z => b _ _ z fun e => by
    subst e
    rw [h] at z
    cases z
theorem STF.same {K : PySem.W.Frag} {H H' : Hp} {st : Addr} {ns : List Int} {k : Nat} (h : STF K H st ns k) (e : Same H H') : STF K H' st ns k := by
  obtain ⟨sc, h1, h2⟩ := h
  exact ⟨sc, e _ _ h1, h2.imp fun o z => e _ _ z⟩
theorem STF.new {K : PySem.W.Frag} {H : Hp} {st p : Addr} {ns : List Int} {k : Nat} {o : HO} (h : STF K H st ns k) (hp : H p = none) : STF K (upd H p o) st ns k := h.same (Same.new hp)
theorem STF.start {K : PySem.W.Frag} {H : Hp} {a p : Addr} {ns : List Int} (h : SqF K H a ns) (hp : H p = none) : STF K (upd H p (.lst [.ref a, .int 0])) p ns 0 :=
  ⟨a, upd_same, h.imp fun o z => (Same.new hp) _ _ z⟩
/-- a list of one's own is written -/
theorem STF.put {K : PySem.W.Frag} {H : Hp} {st p : Addr} {ns : List Int} {k : Nat} {xs ys : List V} (h : STF K H st ns k) (hp : H p = some (.lst xs)) (hn : p ≠ st) : STF K (upd H p (.lst ys)) st ns k := by
  obtain ⟨sc, h1, h2⟩ := h
  refine ⟨sc, by rw [upd_ne (Ne.symm hn)]; exact h1, h2.imp fun o z => ?_⟩
  rw [upd_ne]
  · exact z
  · intro e
    subst e
    rw [hp] at z
    cases z
theorem STF.some {K : PySem.W.Frag} {H : Hp} {st : Addr} {ns : List Int} {k : Nat} (h : STF K H st ns k) : ∃ o, H st = some o := by
  obtain ⟨sc, h1, _⟩ := h
  exact ⟨_, h1⟩
theorem But.own {st p : Addr} {H H' : Hp} {o : HO} (b : But st H H') (hp : H p = none) : But st H (upd H' p o) := fun c u e n => by
  rw [upd_ne (ne_of_none e hp)]
  exact b c u e n
noncomputable def spTakeF (K : PySem.W.Frag) : Sp := fun vs H Q _ => ∃ (st : Addr) (ns : List Int) (k : Nat) (most : Int), vs = [.ref st, .int most] ∧ STF K H st ns k ∧ k ≤ 1000000 ∧ ns.length ≤ 63 ∧ 0 < most ∧
  ∀ (r : Int) (H' : Hp), 0 ≤ r → r < most → STF K H' st ns (k + 1) → But st H H' → Q (.int r) H'
noncomputable def spSetF (K : PySem.W.Frag) : Sp := fun vs H Q _ => ∃ (st : Addr) (ns : List Int) (k m : Nat), vs = [.ref st, .int (m : Int)] ∧ STF K H st ns k ∧ k ≤ 900000 ∧ ns.length ≤ 63 ∧ 1 ≤ m ∧ m ≤ 7 ∧
  ∀ (r k' : Nat) (H' : Hp), r < 2 ^ m → k' ≤ k + 3 → STF K H' st ns k' → But st H H' → Q (.int (r : Int)) H'
end L2

namespace L2
open PySem PySem.Spec PyProof.Rows
/-! ### ints compared, truths compared, tuples compared, all -/
section
variable {X : Cx} {K : PySem.W.Frag}
end
end L2

namespace L2
open PySem PySem.Spec PyProof.Rows
/-! ### two tuples walked side by side -/
section
variable {prog : Program} {w : World} {A : Around} {E : Value → Shared → Prop} {s : Shared}
end
/-! ### .. as the layer walks it -/
section
variable {X : Cx} {pins : List (Addr × Obj)} {σ : St} {H : Hp} {s : Shared}
theorem Inv.turnedL {t' : Nat} {h' : Heap} {ch : List Addr} (I : Inv X pins σ H s) (k : ∀ b o, b ∉ ch → s.heap.get? b = some o → h'.get? b = some o) (hf : ∀ b ∈ ch, FpOk X pins H b) : Inv X pins σ H { s with heap := h', toks := t' } := by
  have nit : ∀ b u, H b = some u → b ∉ ch := fun b u e z => by rw [(hf b z).1] at e; cases e
  refine I.step (g' := s.gens) (d' := s.drawn) (ch := ch) (fun b hb => ?_) (fun b o _ _ hc e _ => k b o hc e) (fun b o _ _ hc e _ => ⟨o.slots, k b o hc e⟩) (fun _ _ _ _ n => n) (fun b o hc e => ⟨o, k b o hc e⟩) (fun _ _ e => e) (fun _ _ _ e => e) (fun b ps e => ⟨#[], by rw [e]; simp⟩) (fun m hm => ?_) (fun b u e => ?_) I.bare
  · obtain ⟨f0, f1, f2, f3, f4, f5⟩ := hf b hb
    exact ⟨f3, f1, f4, f5⟩
  · obtain ⟨o, es, ep, ho, r⟩ := hm
    exact ⟨o, es, ep, k _ o (fun z => (hf _ z).2.1 rfl) ho, r⟩
  · refine (I.hok b u e).stay (fun c v hc q => k c v ?_ q) (fun _ q => q) fun _ _ q => q
    rcases hc with z | z
    · rw [z]; exact nit b u e
    · exact nit c _ z
end
end L2

namespace L2
open PySem PySem.Spec PyProof.Rows
/-! ### rows of a book in the heap -/
theorem stf_fresh {K : PySem.W.Frag} {H H1 : Hp} {st p : Addr} {ns : List Int} {k : Nat} (S : STF K H1 st ns k) (B : But st H H1) (hp : H1 p = none) : H p = none ∧ p ≠ st := by
  have hn : p ≠ st := fun e => by
    obtain ⟨o, z⟩ := S.some
    rw [← e, hp] at z; cases z
  refine ⟨?_, hn⟩
  cases e : H p with
  | none => rfl
  | some o => rw [B p o e hn] at hp; cases hp
theorem stf_tup {K : PySem.W.Frag} {H H1 : Hp} {st t : Addr} {ns : List Int} {k : Nat} {xs : List V} (S : STF K H st ns k) (B : But st H H1) (h : H t = some (.tup xs)) : H1 t = some (.tup xs) :=
  B _ _ h fun e => by
    obtain ⟨sc, h1, _⟩ := S
    rw [← e, h] at h1; cases h1
/-- a list is written: tuples stay -/
theorem tup_put {H : Hp} {p : Addr} {xs ys : List V} (hp : H p = some (.lst xs)) : ∀ t zs, H t = some (.tup zs) → (upd H p (.lst ys)) t = some (.tup zs) := fun t zs e => by
  rw [upd_ne]
  · exact e
  · intro z
    rw [z, hp] at e; cases e
/-! ### what the program says of rows -/
end L2

namespace L2
open PySem PySem.Spec PyProof.Rows

/-! ### lists of pairs as tables -/
section
variable {κ : Type} [DecidableEq κ]
noncomputable def valV (kvs : List (κ × V)) (k : κ) : Option V := (kvs.find? fun kv => decide (kv.1 = k)).map (·.2)
/-- in its place, or at the end -/
noncomputable def putK (kvs : List (κ × V)) (k : κ) (v : V) : List (κ × V) :=
  if (kvs.any fun kv => decide (kv.1 = k)) = true then kvs.map (fun kv => if kv.1 = k then (kv.1, v) else kv) else kvs ++ [(k, v)]
theorem valV_pos {p : κ × V} {r : List (κ × V)} {k : κ} (e : p.1 = k) : valV (p :: r) k = some p.2 := by simp [valV, List.find?_cons, e]
theorem valV_neg {p : κ × V} {r : List (κ × V)} {k : κ} (e : ¬ p.1 = k) : valV (p :: r) k = valV r k := by simp [valV, List.find?_cons, e]
theorem valV_any (k : κ) : ∀ kvs : List (κ × V), (kvs.any fun kv => decide (kv.1 = k)) = (valV kvs k).isSome
  | [] => rfl
  | p :: r => by
    rw [List.any_cons]
    by_cases e : p.1 = k
    · simp only [valV_pos e, decide_eq_true e, Bool.true_or, Option.isSome_some]
    · rw [valV_neg e, decide_eq_false e, Bool.false_or]; exact valV_any k r
theorem valV_map (k j : κ) (y : V) : ∀ kvs : List (κ × V), valV (kvs.map fun kv => if kv.1 = k then (kv.1, y) else kv) j = (valV kvs j).map fun x => if j = k then y else x
  | [] => rfl
  | p :: r => by
    have ih := valV_map k j y r
    rw [List.map_cons]
    by_cases h : p.1 = k
    · rw [if_pos h]
      by_cases e : p.1 = j
      · rw [valV_pos (p := (p.1, y)) e, valV_pos e, Option.map_some, if_pos (e.symm.trans h)]
      · rw [valV_neg (p := (p.1, y)) e, valV_neg e, ih]
    · rw [if_neg h]
      by_cases e : p.1 = j
      · rw [valV_pos (p := p) e, valV_pos e, Option.map_some, if_neg (fun z => h (e.trans z))]
      · rw [valV_neg (p := p) e, valV_neg e, ih]
theorem valV_snoc (k j : κ) (y : V) : ∀ kvs : List (κ × V), valV kvs k = none → valV (kvs ++ [(k, y)]) j = if j = k then some y else valV kvs j
  | [], _ => by
    by_cases e : k = j
    · rw [if_pos e.symm]; exact valV_pos (p := (k, y)) e
    · rw [if_neg (fun z => e z.symm)]; exact valV_neg (p := (k, y)) e
  | p :: r, hn => by
    rw [List.cons_append]
    have hk : ¬ p.1 = k := fun z => by rw [valV_pos z] at hn; cases hn
    rw [valV_neg hk] at hn
    have ih := valV_snoc k j y r hn
    by_cases e : p.1 = j
    · rw [valV_pos e, valV_pos e, if_neg (fun z => hk (e.trans z))]
    · rw [valV_neg e, valV_neg e, ih]
theorem valV_put (kvs : List (κ × V)) (k j : κ) (y : V) : valV (putK kvs k y) j = if j = k then some y else valV kvs j := by
  unfold putK
  by_cases a : (kvs.any fun kv => decide (kv.1 = k)) = true
  · rw [if_pos a, valV_map]
    rw [valV_any] at a
    by_cases e : j = k
    · obtain ⟨x, hx⟩ := Option.isSome_iff_exists.mp a
      rw [if_pos e, e, hx, Option.map_some, if_pos rfl]
    · rw [if_neg e]
      cases valV kvs j with
      | none => rfl
      | some x => rw [Option.map_some, if_neg e]
  · rw [if_neg a]
    refine valV_snoc k j y kvs ?_
    rw [valV_any] at a
    cases q : valV kvs k with
    | none => rfl
    | some x => rw [q] at a; exact (a rfl).elim
theorem length_putK (kvs : List (κ × V)) (k : κ) (v : V) : (putK kvs k v).length ≤ kvs.length + 1 := by
  unfold putK
  split
  · rw [List.length_map]; omega
  · rw [List.length_append, List.length_cons, List.length_nil]; omega
/-- raw tables of the same keys -/
theorem KV.val {kvs : List (κ × V)} {vs : List (κ × Value)} (r : KV kvs vs) (k : κ) : RelO (valV kvs k) (valueAt vs k) := by
  unfold KV at r
  induction r with
  | nil => exact True.intro
  | @cons p q ps qs h t ih =>
    obtain ⟨h1, h2⟩ := h
    by_cases e : p.1 = k
    · have e' : q.1 = k := h1.symm.trans e
      have b : valueAt (q :: qs) k = some q.2 := by simp [valueAt, List.find?_cons, e']
      rw [valV_pos e, b]; exact h2
    · have e' : ¬ q.1 = k := fun z => e (h1.trans z)
      have b : valueAt (q :: qs) k = valueAt qs k := by simp [valueAt, List.find?_cons, e']
      rw [valV_neg e, b]; exact ih
theorem KV.any {kvs : List (κ × V)} {vs : List (κ × Value)} (r : KV kvs vs) (k : κ) : (kvs.any fun kv => decide (kv.1 = k)) = vs.any fun kv => decide (kv.1 = k) := by
  unfold KV at r
  induction r with
  | nil => rfl
  | cons h t ih => rw [List.any_cons, List.any_cons, ih, h.1]
theorem KV.repl {kvs : List (κ × V)} {vs : List (κ × Value)} (r : KV kvs vs) (k : κ) {y : V} {u : Value} (ry : RelV y u) :
    KV (kvs.map fun kv => if kv.1 = k then (kv.1, y) else kv) (vs.map fun kv => if kv.1 = k then (kv.1, u) else kv) := by
  unfold KV at r ⊢
  induction r with
  | nil => exact .nil
  | @cons p q ps qs h t ih =>
    rw [List.map_cons, List.map_cons]
    refine .cons ?_ ih
    obtain ⟨h1, h2⟩ := h
    by_cases e : p.1 = k
    · rw [if_pos e, if_pos (h1.symm.trans e)]; exact ⟨h1, ry⟩
    · rw [if_neg e, if_neg (fun z => e (h1.trans z))]; exact ⟨h1, h2⟩
theorem KV.put {kvs : List (κ × V)} {vs : List (κ × Value)} (r : KV kvs vs) (k : κ) {y : V} {u : Value} (ry : RelV y u) : KV (putK kvs k y) (stored vs k u) := by
  unfold putK stored
  rw [r.any k]
  by_cases e : (vs.any fun kv => decide (kv.1 = k)) = true
  · rw [if_pos e, if_pos e]; exact r.repl k ry
  · rw [if_neg e, if_neg e]; exact Paired.snoc r ⟨rfl, ry⟩
theorem KV.length {kvs : List (κ × V)} {vs : List (κ × Value)} (r : KV kvs vs) : kvs.length = vs.length := Paired.length r
end


/-! ### a tracked dict, its keys ints and texts or tuples of these -/
theorem kV_is {P : Program} {w : World} {k : Key} {u : Value} (r : RelV (kV k) u) : (mixKind P w).is k u = true := by
  cases k with
  | inl i => obtain ⟨t, e⟩ := (show ∃ t, u = Value.int i t from r); subst e; exact mixKind_int P w i t
  | inr x => obtain ⟨t, e⟩ := (show ∃ t, u = Value.str x t from r); subst e; exact mixKind_str P w x t
theorem items_are {P : Program} {w : World} : ∀ {ks : List Key} {us : List Value}, Vals (ks.map kV) us → ItemsAre (mixKind P w) ks us
  | [], _, r => by rw [List.map_nil] at r; cases r; exact .nil
  | k :: ks, _, r => by
    rw [List.map_cons] at r
    cases r with
    | cons h t => exact .cons (kV_is h) (items_are t)

/-- raw entries of a dict with tuple keys -/
noncomputable abbrev KT (H : Hp) : List (List Key × V) → List (List Key × Addr × Value) → Prop := Paired fun p q => p.1 = q.1 ∧ H q.2.1 = some (.tup (p.1.map kV)) ∧ RelV p.2 q.2.2
theorem KT.val {H : Hp} {kvs : List (List Key × V)} {xs : List (List Key × Addr × Value)} (r : KT H kvs xs) (k : List Key) : RelO (valV kvs k) ((atKey xs k).map (·.2)) := by
  induction r with
  | nil => exact True.intro
  | @cons p q ps qs h t ih =>
    obtain ⟨h1, _, h2⟩ := h
    by_cases e : p.1 = k
    · have e' : q.1 = k := h1.symm.trans e
      have b : atKey (q :: qs) k = some q.2 := by simp [atKey, List.find?_cons, e']
      rw [valV_pos e, b]; exact h2
    · have e' : ¬ q.1 = k := fun z => e (h1.trans z)
      have b : atKey (q :: qs) k = atKey qs k := by simp [atKey, List.find?_cons, e']
      rw [valV_neg e, b]; exact ih
section
variable {P : Program} {w : World} {H : Hp} {h : Heap} {a : Addr}
theorem rd_of {u : HO} (ok : HOk P w H h) (e : Rd H a u) : ObjOk P w H h a u := e.ok ok
theorem dk_rd {kvs : List (Key × V)} (ok : HOk P w H h) (e : Rd H a (.dK kvs)) : kvs.length ≤ sizeLine ∧ (a == sysModules) = false ∧ ∃ vs, KV kvs vs ∧ h.DictOf (mixKind P w) a vs :=
  show ObjOk P w H h a (.dK kvs) from rd_of ok e
theorem dk_of {kvs : List (Key × V)} (ok : HOk P w H h) (e : H a = some (.dK kvs)) : kvs.length ≤ sizeLine ∧ (a == sysModules) = false ∧ ∃ vs, KV kvs vs ∧ h.DictOf (mixKind P w) a vs := dk_rd ok (.inl e)
/-- a tracked tuple of ints and texts is a key -/
theorem key_of {ks : List Key} (ok : HOk P w H h) (e : H a = some (.tup (ks.map kV))) : (tupleKind (mixKind P w)).is h ks a := by
  obtain ⟨_, its, r, o, h1, h2, n, h3⟩ := (show ObjOk P w H h a (.tup (ks.map kV)) from ok a _ e)
  exact ⟨o, its.toArray, n, h1, h2, h3, by simpa using items_are r⟩
theorem dt_rd {kvs : List (List Key × V)} (ok : HOk P w H h) (e : Rd H a (.dT kvs)) : kvs.length ≤ sizeLine ∧ (a == sysModules) = false ∧
    ∃ xs, KT H kvs xs ∧ h.DictOfH (tupleKind (mixKind P w)) a xs := by
  obtain ⟨z, y, xs, r, o, es, ep, h1, h2, h3, h4, h5⟩ := (show ObjOk P w H h a (.dT kvs) from rd_of ok e)
  refine ⟨z, y, xs, r, o, es, ep, h1, h2, h3, h4, fun x hx => ?_, h5⟩
  have all : ∀ {l : List (List Key × V)} {m : List (List Key × Addr × Value)}, KT H l m → ∀ x ∈ m, (tupleKind (mixKind P w)).is h x.1 x.2.1 := by
    intro l m q
    induction q with
    | nil => intro x hx; exact nomatch hx
    | @cons p q ps qs hq t ih =>
      intro x hx
      rcases List.mem_cons.mp hx with e | hx
      · subst e
        exact key_of ok (by rw [← hq.1]; exact hq.2.1)
      · exact ih x hx
  exact all r x hx
end

/-- what the dict at a holds at the key y -/
noncomputable def DGet (H : Hp) (a : Addr) (y : V) (r : Option V) : Prop :=
  (∃ kvs k, Rd H a (.dK kvs) ∧ y = kV k ∧ r = valV kvs k) ∨ ∃ kvs k b, Rd H a (.dT kvs) ∧ y = .ref b ∧ H b = some (.tup (k.map kV)) ∧ r = valV kvs k
theorem DGet.k {H : Hp} {a : Addr} {kvs : List (Key × V)} {k : Key} (e : H a = some (.dK kvs)) : DGet H a (kV k) (valV kvs k) := .inl ⟨kvs, k, .inl e, rfl, rfl⟩
section
variable {X : Cx} {pins : List (Addr × Obj)} {σ : St} {H : Hp} {s : Shared} {a : Addr} {y v : V} {u r : Value} {o : Option V} {A : Around} {E : Value → Shared → Prop}

theorem Inv.big (I : Inv X pins σ H s) : sysModules < s.heap.objs.size := by
  have h : mainGlobals < s.heap.objs.size := (I.mod.glob.keeps I.bk).lt
  exact Nat.lt_trans (by decide) h

/-- d[y], there -/
theorem d_getItem {Q : Value → Shared → Prop} (hu : A.units + 1 < cLine) (I : Inv X pins σ H s) (g : DGet H a y (some v)) (ry : RelV y u) (h : ∀ w' s', Inv X pins σ H s' → RelV v w' → Q w' s') :
    wpAny (model X.prog X.w) A (getItem (.ref a) u) Q E s := by
  rcases g with ⟨kvs, k, e, ey, l⟩ | ⟨kvs, k, b, e, ey, eb, l⟩
  · subst ey
    obtain ⟨z, hd, vs, rel, dd⟩ := dk_rd I.hok e
    obtain ⟨w', hw, rw'⟩ := RelO.some_of (v := v) (o := valueAt vs k) (by rw [l]; exact rel.val k)
    exact wpAny_getItem_of (kV_is ry) dd.mapOf hw (h w' _ (I.tok _) rw')
  · subst ey
    cases (show u = Value.ref b from ry)
    obtain ⟨z, hd, xs, rel, dd⟩ := dt_rd I.hok e
    obtain ⟨w', hw, rw'⟩ := RelO.some_of (v := v) (o := (atKey xs k).map (·.2)) (by rw [l]; exact rel.val k)
    obtain ⟨p, hp, hp2⟩ := Option.map_eq_some_iff.mp hw
    refine wpAny_getItem_heap (tupleKind_room_in1 hu) (key_of I.hok eb) dd hp ?_
    rw [hp2]
    exact h w' _ (I.tok _) rw'
/-- a dict's object is replaced -/
theorem d_write {h' : Heap} {t' : Nat} {ob : HO} (I : Inv X pins σ H s) (mu : Mut (H a)) (hs : Heap.SameBut a s.heap h') (he : ∃ q, h'.get? a = some q) (new : ObjOk X.prog X.w (upd H a ob) h' a ob) :
    Inv X pins σ (upd H a ob) { s with heap := h', toks := t' } :=
  I.write (x := a) (e := a) mu (.inl rfl) (fun b q hb z => (hs.2 b hb).trans z) he new
theorem dk_new {P : Program} {w : World} {H' : Hp} {h' : Heap} {kvs : List (Key × V)} {vs : List (Key × Value)} (z : kvs.length ≤ sizeLine) (hd : (a == sysModules) = false) (rel : KV kvs vs) (dd : h'.DictOf (mixKind P w) a vs) :
    ObjOk P w H' h' a (.dK kvs) := ⟨z, hd, vs, rel, dd⟩
end

section
variable {X : Cx} {pins : List (Addr × Obj)} {σ : St} {H : Hp} {s : Shared} {a : Addr} {kvs : List (Key × V)} {k : Key} {u : Value} {A : Around} {E : Value → Shared → Prop}
end


/-! ### readings and rules -/
/-- the element of a subscription, not a slice -/
noncomputable def NoSl (i : Expr) : Prop := ∀ ov iv, subscripted i false ov iv = operate [ov, iv] (getItem ov iv)
theorem subD_of {prog : Program} {w : World} {A : Around} {E : Value → Shared → Prop} {s : Shared} {env : Env} {value slice : Expr} {pos : Pos} {T id : String} {Q : Value → Shared → Prop}
    (hl : typeLookup (.type T) "__getitem__" = pure (some (.builtin id))) (hs : NoSl slice)
    (h : wpAny (model prog w) A (eval value env) (fun o s₁ => wpAny (model prog w) A (eval slice env) (fun i s₂ => s₂.TypeIs o T ∧ wpAny (model prog w) A (getItem o i) Q E s₂) E s₁) E s) :
    wpAny (model prog w) A (eval (.Subscript value slice pos) env) Q E s := by
  refine Subscript_ (wpAny_mono h (fun o s₁ h₁ => wpAny_mono h₁ (fun i s₂ h₂ => ?_) fun _ _ x => x) fun _ _ x => x)
  obtain ⟨hT, h₂⟩ := h₂
  unfold subscriptTail
  refine wpAny_bind ?_
  rw [getitemInPython_of_ne hT.not_modules]
  refine wpAny_bind (wpAny_specialOf hT hl ?_)
  have fin : wpAny (model prog w) A (subscripted slice false o i) (fun r s₃ => wpAny (model prog w) A (letTemporaryGo value o r >>= fun _ => pure r) Q E s₃) E s₂ := by
    rw [hs o i]
    exact wpAny_operating (wpAny_mono h₂ (fun r s₃ h₃ => wpAny_bind (wpAny_letTemporaryGo (wpAny_pure h₃))) fun _ _ x => x)
  first
    | exact wpAny_pure (wpAny_bind fin)
    | exact wpAny_bind (wpAny_pure (wpAny_bind fin))
    | exact wpAny_bind fin

theorem dict_typeIs {X : Cx} {pins : List (Addr × Obj)} {σ : St} {H : Hp} {s : Shared} {a : Addr} {y : V} {o : Option V} (I : Inv X pins σ H s) (g : DGet H a y o) : s.TypeIs (.ref a) "dict" := by
  rcases g with ⟨kvs, k, e, _, _⟩ | ⟨kvs, k, b, e, _, _, _⟩
  · obtain ⟨_, _, vs, _, dd⟩ := dk_rd I.hok e
    exact dd.typeIs
  · obtain ⟨_, _, xs, _, dd⟩ := dt_rd I.hok e
    exact dd.typeIs
/-- d[y] -/
noncomputable def tDGet (td ty : TE) : TE := fun σ H Q => td σ H fun x H1 => ty σ H1 fun y H2 => ∃ a v, x = .ref a ∧ DGet H2 a y (some v) ∧ Q v H2
section
variable {X : Cx} {o i e value : Expr} {pos pos' tpos : Pos} {td ty tv : TE}
theorem pe_dget (hu : X.A.units + 1 < cLine) (ho : PE X o td) (hi : PE X i ty) (hs : NoSl i) : PE X (.Subscript o i pos) (tDGet td ty) := by
  intro pins s σ H Q I h
  refine subD_of PySem.F.slot_dict_getitem.lookup hs (thn (ho pins s σ H _ I h) fun u s1 ⟨x, H1, I1, rx, q1⟩ => thn (hi pins s1 σ H1 _ I1 q1) fun iv s2 ⟨y, H2, I2, ry, a, v, ex, g, q2⟩ => ?_)
  subst ex
  obtain rfl : u = Value.ref a := rx
  exact ⟨dict_typeIs I2 g, d_getItem hu I2 g ry fun w' s3 I3 rw' => ⟨v, H2, I3, rw', q2⟩⟩
end


/-! ### displays -/
theorem dk_empty {P : Program} {w : World} {H : Hp} (h : Heap) (hb : sysModules < h.objs.size) : ObjOk P w H (h.push { cls := .type "dict", data := .dict #[] }) h.objs.size (.dK []) :=
  ⟨Nat.zero_le _, beq_eq_false_iff_ne.mpr (Ne.symm (Nat.ne_of_lt hb)), [], .nil, Heap.DictOf.new h⟩
section
variable {X : Cx} {pos : Pos}
end

/-! ### methods -/
section
variable {X : Cx} {pins : List (Addr × Obj)} {σ : St} {H : Hp} {s : Shared} {a : Addr} {y d : V} {u r : Value} {o : Option V} {A : Around} {E : Value → Shared → Prop}
end

section
variable {X : Cx} {o e f : Expr} {apos cpos : Pos} {td ty tx : TE}
end

/-! ### dict(d): a copy -/
section
variable {X : Cx} {pins : List (Addr × Obj)} {σ : St} {H : Hp} {s : Shared} {a : Addr} {kvs : List (Key × V)} {A : Around} {E : Value → Shared → Prop}
end


section
variable {X : Cx} {pins : List (Addr × Obj)} {σ : St} {H : Hp} {s : Shared} {a : Addr} {y : V} {u : Value} {A : Around} {E : Value → Shared → Prop}
end
end L2

namespace L2
open PySem PySem.Spec PyProof.Rows
/-! ### d.setdefault(k, x), the keys tuples -/
section
variable {prog : Program} {w : World} {A : Around} {E : Value → Shared → Prop} {s : Shared} {κ : Type} [DecidableEq κ] {kd : HeapKind prog w κ}
end
section
variable {X : Cx} {o e f : Expr} {apos cpos : Pos} {td ty tx : TE}
end
end L2

namespace L2
open PySem PySem.Spec PyProof.Rows
/-! ### for v in d.values(), whatever the keys -/
section
variable {prog : Program} {w : World} {A : Around} {E : Value → Shared → Prop} {s : Shared}
end
section
variable {X : Cx} {pins : List (Addr × Obj)} {σ : St} {H : Hp} {s : Shared}
/-! ### the forms one uses -/
end
end L2

namespace L2
open PySem PySem.Spec PyProof.Rows
/-! ### dict of a list of pairs, the keys tuples -/
section
variable {prog : Program} {w : World} {A : Around} {E : Value → Shared → Prop} {s : Shared}
theorem noKeys : typeLookup (.type "list") "keys" = pure none := by rw [typeLookup_type, builtinLookup_eq_fast]; kernel_rfl
theorem noGetattr : typeLookup (.type "list") "__getattr__" = pure none := by rw [typeLookup_type, builtinLookup_eq_fast]; kernel_rfl
theorem lacksKeys (a : Addr) (u : Tok) (its : Array Value) (n : Nat) (sl : Array (Option Value)) :
    Meets (Builtin.«object.__getattribute__» ⟨[.ref a, .str "keys" u], []⟩) (fun A R s => s.heap.get? a = some { cls := .type "list", dict := none, data := .seq its n, slots := sl } ∧ raisesAttr (.ref a) "keys" A R s) :=
  Meets.of_wp fun prog w A R s hs => by
    obtain ⟨hp, g, d, tk, os⟩ := s
    obtain ⟨hx, hs⟩ := hs
    have hT : (⟨hp, g, d, tk, os⟩ : Shared).TypeIs (.ref a) "list" := ⟨_, hx, rfl⟩
    have f1 := noKeys
    unfold Builtin.«object.__getattribute__»
    repeat (any_goals (first | assumption | wp_step))
    exact wpAny_raiseAttrError hs.1 hs.2 (attrMsg_fits (by decide +kernel) (by size_fits))
theorem keysNone {a : Addr} {its : Array Value} {n : Nat} {sl : Array (Option Value)} {Q : Option Value → Shared → Prop} (hA : A.handled = none) (hx : s.heap.get? a = some { cls := .type "list", dict := none, data := .seq its n, slots := sl })
    (k : ∀ g tk, (∀ b ob, s.heap.get? b = some ob → g.get? b = some ob) → Q none { s with heap := g, toks := tk }) : wpAny (model prog w) A (getAttr? (.ref a) "keys") Q E s := by
  obtain ⟨hp, g, d, tk, os⟩ := s
  have hT : (⟨hp, g, d, tk, os⟩ : Shared).TypeIs (.ref a) "list" := ⟨_, hx, rfl⟩
  have hT' : ∀ t' : Nat, (⟨hp, g, d, t', os⟩ : Shared).TypeIs (.ref a) "list" := fun _ => ⟨_, hx, rfl⟩
  have f1 := sub_AttributeError
  have f3 := F.slot_list_getattribute.lookup
  have f4 := F.slot_list_getattribute.bind (.ref a)
  have f5 := noGetattr
  unfold getAttr? getAttrBy? getAttrBy
  repeat (any_goals (first | assumption | ((with_reducible show wpAny _ _ (call (Value.builtin "list.__getattribute__") _ _) _ _ _); refine call_meets F.slot_list_getattribute (hT' _) F.entry_list_ga (F.args_list_getattribute_2 _ _) (lacksKeys a _ its n sl) ⟨hx, hA, fun h' tk' e he => ?_⟩) | wp_step))
  obtain ⟨t', u', ee⟩ := he.there
  refine (show wpAny _ _ (getattributeRaised _ _ _ _ _ _ _) _ _ _ from ?_)
  unfold getattributeRaised
  repeat (any_goals (first | assumption | wp_step))
  exact k _ _ he.keeps
end
end L2

namespace L2
open PySem PySem.Spec PyProof.Rows
/-! ### dict of a list of pairs: the loop, the call -/
theorem entry_updLoop : entryFor table "dict.update.loop" = some Builtin.«dict.update.loop» := entryFor_of_fast (by kernel_rfl)
theorem plain_updLoop : plainId "dict.update.loop" = true := by decide +kernel
section
variable {X : Cx} {pins : List (Addr × Obj)} {σ : St} {H : Hp}
end
end L2

namespace L2
open PySem PySem.Spec PyProof.Rows
/-! ### (x,) * n -/
end L2

namespace L2
open PySem PySem.Spec PyProof.Rows
/-! ### books: rows with their places, groups of rows -/
/-! ### what a group is -/
end L2

namespace L2
open PySem PySem.Spec PyProof.Rows
/-! ### the promises of the program's own defs about books -/
end L2

namespace L2
open PySem PySem.Spec PyProof.Rows
/-! ### rows alike and mixed: the mathematics -/
/-! ### the promises -/
/-- a rule in the heap: its word (settle or not), its sets -/
noncomputable def wordS (st : Bool) : Str := if st = true then "settle" else "deal"
noncomputable def RuleAt (H : Hp) (r : Addr) (st : Bool) (x y : Nat) : Prop := H r = some (.tup [.str (wordS st), vN x, vN y])
structure Rl where
  r : Addr
  st : Bool
  x : Nat
  y : Nat
end L2

namespace L2
open PySem PySem.Spec PyProof.Rows
/-! ### the book of a set -/
end L2

namespace L2
open PySem PySem.Spec PyProof.Rows
/-! ### tuples in lists, lists of lists compared -/
section
variable {X : Cx} {K : PySem.W.Frag} {pins : List (Addr × Obj)} {σ : St} {H : Hp} {s : Shared}
end
end L2

namespace L2
open PySem PySem.Spec PyProof.Rows
/-! ### k11: what two rows show -/
end L2

namespace L2
open PySem PySem.Spec PyProof.Rows
/-! ### paths joined -/
section
variable {X : Cx} {st : Stmt} {rest : List Stmt} {t u : TS}
theorem pss_cut (P : St → Hp → Prop) (h1 : PS X st t) (h2 : PSs X rest u) : PSs X (st :: rest) (fun D σ H => t { D with nx := P } σ H ∧ ∀ σ' H', P σ' H' → u D σ' H') := by
  intro pins s σ H D I h
  refine wpAny_execs_cons (thn (h1 pins s σ H { D with nx := P } I h.1) fun f s1 q => ?_)
  cases f with
  | next =>
    obtain ⟨σ', H', I', q⟩ := q
    exact h2 pins s1 σ' H' D I' (h.2 σ' H' q)
  | ret v => exact q
  | brk => exact q
  | cont => exact q
end
/-! ### truths told one by one -/
end L2

namespace L2
open PySem PySem.Spec PyProof.Rows
/-! ### for i, x in enumerate(a list) -/
section
variable {X : Cx} {pins : List (Addr × Obj)} {σ : St} {H : Hp} {s : Shared}
noncomputable def Itn (K : PySem.W.Frag) (l : Addr) : It :=
  ⟨fun i H => ∃ xs x, SqL K H l xs ∧ xs[i]? = some x,
   fun i H v H' => ∃ t x, v = .ref t ∧ H t = none ∧ (∀ xs, SqL K H l xs → xs[i]? = some x) ∧ H' = upd H t (.tup [.int (i : Int), x]),
   fun i H => ∃ xs, SqL K H l xs ∧ xs.length ≤ i⟩
noncomputable def tnN (e it l : Addr) (i : Nat) (h : Heap) : Prop := (∃ old, IsEnum h e it (i : Int) old) ∧ h.IsListIter it l i
theorem turn_enum {P : Program} {w : World} {K : PySem.W.Frag} {es : List Expr} {n : Nat} {tp : Pos} {e it l : Addr} (hne : e ≠ it) : Turn P w K (.Tuple es n tp) (Itn K l) [e, it] e (tnN e it l) where
  mem := by simp
  obj := fun i h st c hc => by
    obtain ⟨⟨old, hE⟩, ⟨oa, ea, _, da⟩⟩ := st
    simp only [List.mem_cons, List.not_mem_nil, or_false] at hc
    rcases hc with rfl | rfl
    · exact ⟨_, hE, fun v r => by cases r⟩
    · exact ⟨_, ea, fun v r => by rw [da] at r; cases r⟩
  keep := fun i h h' st k => by
    obtain ⟨⟨old, hE⟩, ha⟩ := st
    exact ⟨⟨old, k e (by simp) _ hE⟩, ha.at fun o z => k it (by simp) o z⟩
  item := by
    intro X hP hw hK hc i pins s σ H E I hf st hg
    subst hP hw hK
    obtain ⟨xs, x, hx, ex⟩ := hg
    obtain ⟨⟨old, hE⟩, ha⟩ := st
    obtain ⟨i1, r1, t1, _⟩ := I.list hx
    obtain ⟨x', ex', rx⟩ := r1.get ex
    refine wpAny_pyNext_enum_item hE ha t1.isList (x := x') (by simpa using ex') hne fun g c1 c2 c3 c4 c5 => ⟨_, rfl, ?_⟩
    refine wpAny_letOwnedTupleGo_enum c1 fun g' z' k' => ?_
    have nT : H s.heap.objs.size = none := I.fresh
    have lz : s.heap.objs.size ≠ e := Nat.ne_of_gt (Heap.lt_size hE)
    have IA : Inv X pins σ (upd H s.heap.objs.size (.tup [.int (i : Int), x])) { s with heap := s.heap.push { cls := .type "tuple", data := .seq #[.int (i : Int) s.toks, x'] }, toks := s.toks + 1 } :=
      I.laid (t' := s.toks + 1) (fun c o z => Heap.get?_push_of_some _ z) (Nat.le_refl _) (show ObjOk X.prog X.w _ _ _ (.tup [.int (i : Int), x]) from ⟨by show 2 ≤ sizeLine; decide, [.int (i : Int) s.toks, x'], .cons ⟨_, rfl⟩ (.cons rx .nil), ⟨_, Heap.get?_push_size _ rfl, rfl, _, rfl⟩⟩)
    have fp : ∀ c ∈ [e, it], FpOk X pins (upd H s.heap.objs.size (.tup [.int (i : Int), x])) c := fun c hc' => by
      obtain ⟨f0, f1, f2, f3, f4, f5⟩ := hf c hc'
      refine ⟨?_, f1, f2, f3, f4, f5⟩
      rw [upd_ne]
      · exact f0
      · have lt : c < s.heap.objs.size := by
          simp only [List.mem_cons, List.not_mem_nil, or_false] at hc'
          rcases hc' with rfl | rfl
          · exact Heap.lt_size hE
          · obtain ⟨_, z, _⟩ := ha; exact Heap.lt_size z
        exact Nat.ne_of_lt lt
    have IB : Inv X pins σ (upd H s.heap.objs.size (.tup [.int (i : Int), x])) { s with heap := g', toks := s.toks + 1 } := by
      refine IA.turnedL (t' := s.toks + 1) (h' := g') (fun c o hc' z => ?_) fp
      simp only [List.mem_cons, List.not_mem_nil, or_false, not_or] at hc'
      refine k'.extBut _ _ hc'.1 ?_
      by_cases hcT : c = s.heap.objs.size
      · subst hcT
        have e1 : (s.heap.push { cls := .type "tuple", data := .seq #[.int (i : Int) s.toks, x'] }).get? s.heap.objs.size = some { cls := .type "tuple", data := .seq #[.int (i : Int) s.toks, x'] } := Heap.get?_push_size _ rfl
        have e2 := e1.symm.trans z
        rw [← Option.some.inj e2]
        exact c3
      · exact c5 c o hc'.1 hc'.2 (by
          have e1 : (s.heap.push { cls := .type "tuple", data := .seq #[.int (i : Int) s.toks, x'] }).get? c = s.heap.get? c := Heap.get?_push_ne _ _ _ hcT
          rw [← e1]; exact z)
    refine ⟨.ref s.heap.objs.size, _, IB, rfl, ⟨_, x, rfl, nT, fun zs hz => by rw [I.list_inj hz hx]; exact ex, rfl⟩, ⟨⟨x', ?_⟩, c2.extBut k'.extBut hne.symm⟩, fun c hc' => (fp c hc').1⟩
    have ei : ((i + 1 : Nat) : Int) = (i : Int) + 1 := Int.natCast_succ i
    rw [ei]
    exact z'
  done := by
    intro X hP hw hK hc i pins s σ H E I hf st hg
    subst hP hw hK
    obtain ⟨xs, hx, hl⟩ := hg
    obtain ⟨⟨old, hE⟩, ha⟩ := st
    obtain ⟨i1, r1, t1, _⟩ := I.list hx
    have len := r1.length
    refine wpAny_pyNext_enum_end (I.ok.hd hc) hE ha t1.isList (by simp; omega) fun g hk => ⟨rfl, ?_⟩
    refine I.turnedL (t' := s.toks) (h' := g) (ch := [e, it]) (fun c o hc' z => ?_) hf
    simp only [List.mem_cons, List.not_mem_nil, or_false, not_or] at hc'
    exact hk c o hc'.2 z
  self := fun _ _ _ _ _ st h => by
    obtain ⟨⟨old, hE⟩, _⟩ := st
    exact wpAny_pyIter_enum hE h
noncomputable def iEnum (K : PySem.W.Frag) (ta : TA) : TI := fun σ H R => ta σ H fun vs H1 => ∃ (l : Addr) (xs : List V), vs = [.ref l] ∧ SqL K H1 l xs ∧ R (Itn K l) H1
theorem pi_enum {K : PySem.W.Frag} {es : List Expr} {n : Nat} {tp : Pos} {e1 : Expr} {ta : TA} {np pos : Pos} (hK : X.K = K) (hg : Gl X "enumerate") (hm : X.mg "enumerate" = none) (ha : PA X [e1] ta)
    (hs : starEach [e1] X.env = [(false, eval e1 X.env)] := by rfl) :
    PI X (.Tuple es n tp) (.Call (.Name "enumerate" np) [e1] [] pos) (iEnum K ta) := by
  subst hK
  intro pins s σ H R I h
  refine Call_ (ld_blt I hg hm boot_enumerate (PyProof.Rows.callWith_type1 (thn (ha pos pins s σ H _ I h) fun us s1 ⟨vs, H1, I1, r1, q1⟩ => ?_) (by rw [hs]; rfl) (by rfl)))
  obtain ⟨l, xs, rfl, hl, r⟩ := q1
  obtain ⟨u1, rfl, ru1⟩ := r1.one
  cases ru1
  obtain ⟨i1, v1, t1, _⟩ := I1.list hl
  refine call_enumerate_list t1.isList fun g hE hi hz hk => ?_
  refine wpAny_pyIter_enum hE ⟨s1.heap.objs.size + 1, [s1.heap.objs.size + 1, s1.heap.objs.size], tnN (s1.heap.objs.size + 1) s1.heap.objs.size l, Itn X.K l, H1, rfl, I1.kept (t' := s1.toks) hk, turn_enum (Nat.succ_ne_self _), ⟨⟨_, hE⟩, hi⟩, fun c hc => ?_, r⟩
  have lc : s1.heap.objs.size ≤ c := by
    simp only [List.mem_cons, List.not_mem_nil, or_false] at hc
    rcases hc with rfl | rfl <;> omega
  exact I1.fpOk lc (I1.hok.fresh lc)
theorem for_enum {K : PySem.W.Frag} {l : Addr} {xs : List V} {g : TG} {tb : TS} {D : Ends} {σ : St} {H : Hp} (Pv : Nat → St → Hp → Prop) (h0 : Pv 0 σ H) (hl : ∀ i σ H, i ≤ xs.length → Pv i σ H → SqL K H l xs)
    (hs : ∀ i x σ H t, xs[i]? = some x → Pv i σ H → H t = none → g (.ref t) σ (upd H t (.tup [.int (i : Int), x])) fun σ2 H2 => tb { D with nx := Pv (i + 1), ct := Pv (i + 1), bk := D.nx } σ2 H2) (hd : ∀ σ H, Pv xs.length σ H → D.nx σ H) :
    ∃ W : Nat → Nat → St → Hp → Prop, (∃ m, W 0 m σ H) ∧ ∀ i m σ H, W i m σ H →
      ((Itn K l).stop i H ∧ D.nx σ H) ∨ ((Itn K l).go i H ∧ ∃ N : St → Hp → Prop, (∀ σ' H', N σ' H' → ∃ m', m' < m ∧ W (i + 1) m' σ' H') ∧ ∀ x H', (Itn K l).yld i H x H' → g x σ H' fun σ2 H2 => tb { D with nx := N, ct := N, bk := D.nx } σ2 H2) := by
  refine ⟨fun i m σ H => m = xs.length - i ∧ i ≤ xs.length ∧ Pv i σ H, ⟨xs.length, by simp, Nat.zero_le _, h0⟩, ?_⟩
  rintro i m σ H ⟨rfl, hi, pv⟩
  have h1 := hl i σ H hi pv
  by_cases lt : i < xs.length
  · refine .inr ⟨⟨xs, xs[i], h1, by simp [lt]⟩, Pv (i + 1), fun σ' H' p' => ⟨xs.length - (i + 1), by omega, rfl, lt, p'⟩, fun v H' yv => ?_⟩
    obtain ⟨t, x, rfl, nt, a3, rfl⟩ := yv
    exact hs i x σ H t (a3 xs h1) pv nt
  · obtain rfl : i = xs.length := by omega
    exact .inl ⟨⟨xs, h1, Nat.le_refl _⟩, hd σ H pv⟩
end
end L2

namespace L2
open PySem PySem.Spec PyProof.Rows
/-! ### == and != of values told as data -/
mutual
inductive DV (K : PySem.W.Frag) (H : Hp) : V → PyData → Prop
  | non : DV K H .non .none
  | bl (b : Bool) : DV K H (.bl b) (.bool b)
  | int (i : Int) : DV K H (.int i) (.int i)
  | str (x : Str) : DV K H (.str x) (.str x)
  | lst {a : Addr} {xs : List V} {ds : List PyData} : SqL K H a xs → DVs K H xs ds → DV K H (.ref a) (.list ds)
  | tup {a : Addr} {xs : List V} {ds : List PyData} : SqT K H a xs → DVs K H xs ds → DV K H (.ref a) (.tuple ds)
inductive DVs (K : PySem.W.Frag) (H : Hp) : List V → List PyData → Prop
  | nil : DVs K H [] []
  | cons {x : V} {xs : List V} {d : PyData} {ds : List PyData} : DV K H x d → DVs K H xs ds → DVs K H (x :: xs) (d :: ds)
end
section
variable {X : Cx} {K : PySem.W.Frag} {pins : List (Addr × Obj)} {σ : St} {H : Hp} {s : Shared}
mutual
theorem DV.reads (I : Inv X pins σ H s) : ∀ {v : V} {d : PyData} {u : Value}, DV X.K H v d → RelV v u → ∃ as, Reads s.heap u d as
  | _, _, _, .non, r => by obtain rfl := (show _ = Value.none from r); exact ⟨_, Reads.none⟩
  | _, _, _, .bl b, r => by obtain rfl := (show _ = Value.bool b from r); exact ⟨_, Reads.bool b⟩
  | _, _, _, .int i, r => by obtain ⟨t, rfl⟩ := r; exact ⟨_, .int i t⟩
  | _, _, _, .str x, r => by obtain ⟨t, rfl⟩ := r; exact ⟨_, .str x t⟩
  | _, _, _, .lst (a := a) hx hs, r => by
    obtain rfl := (show _ = Value.ref a from r)
    obtain ⟨its, rv, pl, _⟩ := I.list hx
    obtain ⟨as, ra⟩ := DVs.reads I hs rv
    obtain ⟨o, ho, hc, n, hd⟩ := pl.isList
    exact ⟨_, .list ho hc hd ra⟩
  | _, _, _, .tup (a := a) hx hs, r => by
    obtain rfl := (show _ = Value.ref a from r)
    obtain ⟨its, rv, pl, _⟩ := I.tuple hx
    obtain ⟨as, ra⟩ := DVs.reads I hs rv
    obtain ⟨o, ho, hc, n, hd⟩ := pl
    exact ⟨_, .tuple ho hc hd ra⟩
theorem DVs.reads (I : Inv X pins σ H s) : ∀ {vs : List V} {ds : List PyData} {us : List Value}, DVs X.K H vs ds → Vals vs us → ∃ as, ReadsAll s.heap us ds as
  | _, _, _, .nil, .nil => ⟨_, .nil⟩
  | _, _, _, .cons h hs, .cons r rs => by
    obtain ⟨as, ra⟩ := DV.reads I h r
    obtain ⟨bs, rb⟩ := DVs.reads I hs rs
    exact ⟨_, .cons ra rb⟩
end
noncomputable def rEqD (K : PySem.W.Frag) (neg : Bool) : R2 := fun x y H Q => ∃ d1 d2 : PyData, DV K H x d1 ∧ DV K H y d2 ∧ SeqAt.shaped d1 = true ∧ SeqAt.shaped d2 = true ∧ SeqAt.noMix d1 d2 = true ∧ Q (.bl (if neg then !same d1 d2 else same d1 d2)) H
theorem op_eqD (h : X.K = K) (hu : X.A.units + 64 < cLine) : OpR X (compareOp .Eq) (rEqD K false) := by
  subst h
  intro pins s σ H x y v u Q I rx ry h
  obtain ⟨d1, d2, h1, h2, s1, s2, nm, q⟩ := h
  obtain ⟨as, ra⟩ := h1.reads I rx
  obtain ⟨bs, rb⟩ := h2.reads I ry
  exact eq_dataH_same ra rb s1 s2 hu nm ⟨.bl _, H, I, rfl, q⟩
end
/-! lists of data of one form -/
section
variable {α : Type} {f : α → PyData}
theorem sameAll_map [DecidableEq α] (h : ∀ a b, same (f a) (f b) = decide (a = b)) : ∀ xs ys : List α, sameAll (xs.map f) (ys.map f) = decide (xs = ys)
  | [], [] => by simp [sameAll]
  | [], _ :: _ => by simp [sameAll]
  | _ :: _, [] => by simp [sameAll]
  | x :: xs, y :: ys => by
    simp only [List.map_cons, sameAll, h, sameAll_map h xs ys]
    by_cases e : x = y <;> simp [e]
theorem noMixAll_map (h : ∀ a b, SeqAt.noMix (f a) (f b) = true) : ∀ xs ys : List α, SeqAt.noMixAll (xs.map f) (ys.map f) = true
  | [], [] => by simp [SeqAt.noMixAll]
  | [], _ :: _ => by simp [SeqAt.noMixAll]
  | _ :: _, [] => by simp [SeqAt.noMixAll]
  | x :: xs, y :: ys => by simp [SeqAt.noMixAll, h, noMixAll_map h xs ys]
theorem canLayAll_map (h : ∀ a, PyData.canLay0 (f a) = true) : ∀ xs : List α, PyData.canLayAll0 (xs.map f) = true
  | [] => by simp [PyData.canLayAll0]
  | x :: xs => by simp [PyData.canLayAll0, h, canLayAll_map h xs]
theorem depthAll_map {n : Nat} (h : ∀ a, PyData.depth (f a) ≤ n) : ∀ xs : List α, PyData.depthAll (xs.map f) ≤ n
  | [] => by simp [PyData.depthAll]
  | x :: xs => by
    have h1 := h x
    have h2 := depthAll_map h xs
    simp only [List.map_cons, PyData.depthAll]
    omega
theorem shaped_map (h : ∀ a, PyData.canLay0 (f a) = true) (hd : ∀ a, PyData.depth (f a) ≤ 10) (xs : List α) : SeqAt.shaped (.list (xs.map f)) = true := by
  have h2 : PyData.depth (.list (xs.map f)) ≤ 64 := by
    have := depthAll_map hd xs
    simp only [PyData.depth]
    omega
  show (PyData.canLay0 (.list (xs.map f)) && decide (PyData.depth (.list (xs.map f)) ≤ 64)) = true
  rw [Bool.and_eq_true]
  exact ⟨by simp only [PyData.canLay0]; exact canLayAll_map h xs, decide_eq_true h2⟩
end
/-- rules -/
noncomputable def dR (r : Bool × Nat × Nat) : PyData := .tuple [.str (wordS r.1), .int (r.2.1 : Int), .int (r.2.2 : Int)]
theorem noMix_dR (a b : Bool × Nat × Nat) : SeqAt.noMix (dR a) (dR b) = true := by unfold dR; simp [SeqAt.noMix, SeqAt.noMixAll]
theorem canLay_dR (a : Bool × Nat × Nat) : PyData.canLay0 (dR a) = true := by
  unfold dR
  obtain ⟨b, x, y⟩ := a
  have h1 : PyData.strOk (wordS true) = true := by decide +kernel
  have h2 : PyData.strOk (wordS false) = true := by decide +kernel
  cases b <;> simp only [PyData.canLay0, PyData.canLayAll0, h1, h2, Bool.and_true]
theorem depth_dR (a : Bool × Nat × Nat) : PyData.depth (dR a) ≤ 10 := by unfold dR; simp [PyData.depth, PyData.depthAll]
/-! xs[::-1] -/
section
variable {X : Cx} {K : PySem.W.Frag} {e : Expr} {te : TE} {ste : Expr} {tst : TO} {pos p2 : Pos}
end
/-! slices told in naturals -/
theorem cut_take (xs : List V) (k : Nat) : cutV xs none (some (k : Int)) = xs.take k := by
  unfold cutV
  show (xs.drop 0).take (HT.sIx xs.length xs.length (some ((k : Nat) : Int)) - 0) = _
  rw [HT.sIx_nat, List.drop_zero, Nat.sub_zero, List.take_eq_take_iff]
  omega
theorem cut_drop (xs : List V) (k : Nat) : cutV xs (some (k : Int)) none = xs.drop k := by
  unfold cutV
  rw [HT.sIx_nat, HT.sIx_none]
  by_cases h : k ≤ xs.length
  · rw [Nat.min_eq_left h, List.take_of_length_le (by rw [List.length_drop]; exact Nat.le_refl _)]
  · rw [Nat.min_eq_right (by omega), List.drop_eq_nil_of_le (Nat.le_refl _), List.drop_eq_nil_of_le (by omega), List.take_nil]
end L2

namespace L2
open PySem PySem.Spec PyProof.Rows
theorem Same.none {H H' : Hp} {p : Addr} (e : Same H H') (h : H' p = none) : H p = none := by
  cases z : H p with
  | none => rfl
  | some o => rw [e _ _ z] at h; cases h
/-! ### stage 2's laws: what their shared defs promise -/
noncomputable def usableB (st : Bool) (x y b : Nat) : Bool := decide (x &&& b = 0) && !decide (y &&& b = 0) && (st || !decide (y &&& b = b))
noncomputable def spUsable : Sp := fun vs H Q _ => ∃ (r : Addr) (st : Bool) (x y b : Nat), vs = [.ref r, vN b] ∧ RuleAt H r st x y ∧ Q (.bl (usableB st x y b)) H
noncomputable def inN (y : Nat) (bs : List Nat) (at_ : Nat) : Nat := bs.getD at_ 0 &&& y
noncomputable def outN (y : Nat) (bs : List Nat) (at_ : Nat) : Nat := bs.getD at_ 0 - inN y bs at_
noncomputable def behindFx (st : Bool) (y fx : Nat) (bs : List Nat) (at_ : Nat) : Nat := if st = true then fx + inN y bs at_ else fx
noncomputable def behindBs (st : Bool) (y : Nat) (bs : List Nat) (at_ : Nat) : List Nat :=
  bs.take at_ ++ (if st = true then (if 0 < outN y bs at_ then [outN y bs at_] else []) else [inN y bs at_, outN y bs at_]) ++ bs.drop (at_ + 1)
end L2

namespace L2
/-! ### why a draw by 48271 comes to a multiple of four -/
end L2

namespace L2
/-! ### the mathematics of unfolding -/
theorem or_add : ∀ (a b : Nat), a &&& b = 0 → a ||| b = a + b := by
  intro a
  induction a using Nat.strongRecOn with
  | _ a ih =>
    intro b h
    by_cases a0 : a = 0
    · subst a0; simp
    have i := ih (a / 2) (by omega) (b / 2) (by rw [← Nat.and_div_two, h])
    rw [← Nat.or_div_two] at i
    have m1 := Nat.and_mod_two_eq_one (a := a) (b := b)
    have m2 := Nat.or_mod_two_eq_one (a := a) (b := b)
    rw [h] at m1
    omega
theorem dis_iff {a b : Nat} : a &&& b = 0 ↔ ∀ k, a.testBit k = true → b.testBit k = false := by
  constructor
  · intro h k ha
    have e : (a &&& b).testBit k = (0 : Nat).testBit k := by rw [h]
    rw [Nat.testBit_and, Nat.zero_testBit, ha, Bool.true_and] at e
    exact e
  · intro h
    refine Nat.eq_of_testBit_eq fun k => ?_
    rw [Nat.testBit_and, Nat.zero_testBit]
    cases ha : a.testBit k with
    | false => rfl
    | true => rw [h k ha]; rfl
theorem dis_comm {a b : Nat} (h : a &&& b = 0) : b &&& a = 0 := by rw [Nat.and_comm]; exact h
noncomputable def SubN (c b : Nat) : Prop := ∀ k, c.testBit k = true → b.testBit k = true
theorem dis_sub {a b c : Nat} (h : a &&& b = 0) (s : SubN c b) : a &&& c = 0 := dis_iff.mpr fun k ha => by
  cases hc : c.testBit k with
  | false => rfl
  | true => have := dis_iff.mp h k ha; rw [s k hc] at this; exact this
theorem dis_sub' {a b c : Nat} (h : b &&& a = 0) (s : SubN c b) : c &&& a = 0 := dis_comm (dis_sub (dis_comm h) s)
theorem sub_xor (b y : Nat) : b - (b &&& y) = b ^^^ (b &&& y) := by
  have h0 : (b ^^^ (b &&& y)) &&& (b &&& y) = 0 := dis_iff.mpr fun k h => by
    rw [Nat.testBit_xor, Nat.testBit_and] at h
    rw [Nat.testBit_and]
    cases hb : b.testBit k <;> cases hy : y.testBit k <;> rw [hb, hy] at h <;> first | rfl | (simp at h)
  have h1 : (b ^^^ (b &&& y)) ||| (b &&& y) = b := by
    refine Nat.eq_of_testBit_eq fun k => ?_
    rw [Nat.testBit_or, Nat.testBit_xor, Nat.testBit_and]
    cases hb : b.testBit k <;> cases hy : y.testBit k <;> rfl
  have h2 := or_add _ _ h0
  omega
theorem tb_out (b y k : Nat) : (b - (b &&& y)).testBit k = (b.testBit k && !y.testBit k) := by
  rw [sub_xor, Nat.testBit_xor, Nat.testBit_and]
  cases b.testBit k <;> cases y.testBit k <;> rfl
theorem sub_in (b y : Nat) : SubN (b &&& y) b := fun k h => by
  rw [Nat.testBit_and, Bool.and_eq_true] at h
  exact h.1
theorem sub_out (b y : Nat) : SubN (b - (b &&& y)) b := fun k h => by
  rw [tb_out, Bool.and_eq_true] at h
  exact h.1
theorem dis_in_out (b y : Nat) : (b &&& y) &&& (b - (b &&& y)) = 0 := dis_iff.mpr fun k h => by
  rw [Nat.testBit_and, Bool.and_eq_true] at h
  rw [tb_out, h.1, h.2]; rfl
theorem full_dis {m x : Nat} (h : x < 2 ^ m) : x &&& (2 ^ m - 1 - x) = 0 := dis_iff.mpr fun k hk => by
  have e : 2 ^ m - 1 - x = 2 ^ m - (x + 1) := by omega
  rw [e, Nat.testBit_two_pow_sub_succ h, hk]
  simp
structure Good (m fx : Nat) (bs : List Nat) : Prop where
  sum : fx + bs.sum = 2 ^ m - 1
  pos : ∀ b ∈ bs, 0 < b
  dis : ∀ b ∈ bs, fx &&& b = 0
  pw : bs.Pairwise fun a b => a &&& b = 0
theorem len_sum : ∀ {bs : List Nat}, (∀ b ∈ bs, 0 < b) → bs.length ≤ bs.sum
  | [], _ => Nat.le_refl _
  | b :: bs, h => by
    have h1 := h b (List.mem_cons_self ..)
    have h2 := len_sum (bs := bs) fun c hc => h c (List.mem_cons_of_mem _ hc)
    rw [List.length_cons, List.sum_cons]
    omega
theorem mem_sum : ∀ {bs : List Nat} {b : Nat}, b ∈ bs → b ≤ bs.sum
  | c :: bs, b, h => by
    rw [List.sum_cons]
    rcases List.mem_cons.mp h with rfl | h
    · omega
    · have := mem_sum h
      omega
theorem pow7 {m : Nat} (h : m ≤ 7) : 2 ^ m ≤ 128 := Nat.pow_le_pow_right (by decide) h
theorem Good.len {m fx : Nat} {bs : List Nat} (g : Good m fx bs) (h : m ≤ 7) : bs.length ≤ 127 := by
  have h1 := len_sum g.pos
  have h2 := g.sum
  have h3 := pow7 h
  omega
theorem Good.lt {m fx : Nat} {bs : List Nat} (g : Good m fx bs) {b : Nat} (hb : b ∈ bs) : b < 2 ^ m := by
  have h1 := mem_sum hb
  have h2 := g.sum
  have h3 := Nat.two_pow_pos m
  omega
theorem split_at {bs : List Nat} {i : Nat} (h : i < bs.length) : bs = bs.take i ++ bs.getD i 0 :: bs.drop (i + 1) := by
  have e : bs.getD i 0 = bs[i] := by rw [List.getD_eq_getElem?_getD, List.getElem?_eq_getElem h]; rfl
  rw [e, ← List.drop_eq_getElem_cons h, List.take_append_drop]
theorem usable_in {st : Bool} {x y b : Nat} (h : usableB st x y b = true) : x &&& b = 0 ∧ 0 < b &&& y ∧ (st = true ∨ b &&& y < b) := by
  unfold usableB at h
  rw [Bool.and_eq_true, Bool.and_eq_true] at h
  obtain ⟨⟨h1, h2⟩, h3⟩ := h
  have e1 := of_decide_eq_true h1
  have e2 : ¬ (y &&& b = 0) := by
    intro z; rw [decide_eq_true z] at h2; cases h2
  rw [Nat.and_comm] at e2
  refine ⟨e1, by omega, ?_⟩
  rw [Bool.or_eq_true] at h3
  rcases h3 with h3 | h3
  · exact .inl h3
  · right
    have e3 : ¬ (y &&& b = b) := by
      intro z; rw [decide_eq_true z] at h3; cases h3
    rw [Nat.and_comm] at e3
    have := Nat.and_le_left (n := b) (m := y)
    omega
theorem Good.use {m fx : Nat} {bs : List Nat} (g : Good m fx bs) {st : Bool} {x y i : Nat} (hi : i < bs.length) (hu : usableB st x y (bs.getD i 0) = true) :
    Good m (behindFx st y fx bs i) (behindBs st y bs i) ∧ 2 * (behindBs st y bs i).sum - (behindBs st y bs i).length < 2 * bs.sum - bs.length := by
  obtain ⟨_, hin, hout⟩ := usable_in hu
  have e := split_at hi
  have ls := len_sum g.pos
  unfold behindFx behindBs outN inN
  generalize bs.getD i 0 = b at e hin hout
  generalize bs.take i = p at e
  generalize bs.drop (i + 1) = q at e
  subst e
  have le : b &&& y ≤ b := Nat.and_le_left
  obtain ⟨sm, ps, ds, pw⟩ := g
  have hb : b ∈ p ++ b :: q := List.mem_append_right _ (List.mem_cons_self ..)
  have hp : ∀ c ∈ p, c ∈ p ++ b :: q := fun c hc => List.mem_append_left _ hc
  have hq : ∀ c ∈ q, c ∈ p ++ b :: q := fun c hc => List.mem_append_right _ (List.mem_cons_of_mem _ hc)
  have db := ds b hb
  rw [List.pairwise_append, List.pairwise_cons] at pw
  obtain ⟨pp, ⟨bq, qq⟩, pq⟩ := pw
  have pb : ∀ c ∈ p, c &&& b = 0 := fun c hc => pq c hc b (List.mem_cons_self ..)
  have pq' : ∀ c ∈ p, ∀ d ∈ q, c &&& d = 0 := fun c hc d hd => pq c hc d (List.mem_cons_of_mem _ hd)
  have sm' : (p ++ b :: q).sum = p.sum + (b + q.sum) := by rw [List.sum_append, List.sum_cons]
  have ln' : (p ++ b :: q).length = p.length + (q.length + 1) := by rw [List.length_append, List.length_cons]
  rw [sm'] at sm ls
  rw [sm', ln']
  rw [ln'] at ls
  have lp : p.length ≤ p.sum := len_sum fun c hc => ps c (hp c hc)
  have lq : q.length ≤ q.sum := len_sum fun c hc => ps c (hq c hc)
  have orfx : ∀ c, fx &&& c = 0 → (b &&& y) &&& c = 0 → (fx + (b &&& y)) &&& c = 0 := fun c h1 h2 => by
    rw [← or_add _ _ (dis_sub db (sub_in b y))]
    refine dis_iff.mpr fun k hk => ?_
    rw [Nat.testBit_or, Bool.or_eq_true] at hk
    rcases hk with hk | hk
    · exact dis_iff.mp h1 k hk
    · exact dis_iff.mp h2 k hk
  have inp : ∀ c ∈ p, (b &&& y) &&& c = 0 := fun c hc => dis_comm (dis_sub (pb c hc) (sub_in b y))
  have inq : ∀ c ∈ q, (b &&& y) &&& c = 0 := fun c hc => dis_sub' (bq c hc) (sub_in b y)
  have outp : ∀ c ∈ p, c &&& (b - (b &&& y)) = 0 := fun c hc => dis_sub (pb c hc) (sub_out b y)
  have outq : ∀ c ∈ q, (b - (b &&& y)) &&& c = 0 := fun c hc => dis_sub' (bq c hc) (sub_out b y)
  cases st with
  | true =>
    simp only [if_true]
    by_cases ho : 0 < b - (b &&& y)
    · rw [if_pos ho]
      refine ⟨⟨?_, ?_, ?_, ?_⟩, ?_⟩
      · rw [List.append_assoc, List.sum_append, List.singleton_append, List.sum_cons]; omega
      · intro c hc
        rcases List.mem_append.mp hc with hc | hc
        · rcases List.mem_append.mp hc with hc | hc
          · exact ps c (hp c hc)
          · rw [List.mem_singleton.mp hc]; exact ho
        · exact ps c (hq c hc)
      · intro c hc
        rcases List.mem_append.mp hc with hc | hc
        · rcases List.mem_append.mp hc with hc | hc
          · exact orfx c (ds c (hp c hc)) (inp c hc)
          · rw [List.mem_singleton.mp hc]; exact orfx _ (dis_sub db (sub_out b y)) (dis_in_out b y)
        · exact orfx c (ds c (hq c hc)) (inq c hc)
      · rw [List.append_assoc, List.singleton_append, List.pairwise_append, List.pairwise_cons]
        refine ⟨pp, ⟨outq, qq⟩, fun c hc d hd => ?_⟩
        rcases List.mem_cons.mp hd with rfl | hd
        · exact outp c hc
        · exact pq' c hc d hd
      · rw [List.append_assoc, List.sum_append, List.singleton_append, List.sum_cons, List.length_append, List.length_cons]; omega
    · rw [if_neg ho, List.append_nil]
      refine ⟨⟨?_, ?_, ?_, ?_⟩, ?_⟩
      · rw [List.sum_append]; omega
      · intro c hc
        rcases List.mem_append.mp hc with hc | hc
        · exact ps c (hp c hc)
        · exact ps c (hq c hc)
      · intro c hc
        rcases List.mem_append.mp hc with hc | hc
        · exact orfx c (ds c (hp c hc)) (inp c hc)
        · exact orfx c (ds c (hq c hc)) (inq c hc)
      · rw [List.pairwise_append]
        exact ⟨pp, qq, pq'⟩
      · rw [List.sum_append, List.length_append]; omega
  | false =>
    have ho : 0 < b - (b &&& y) := by
      rcases hout with h | h
      · cases h
      · omega
    simp only [Bool.false_eq_true, if_false]
    rw [List.append_assoc, List.cons_append, List.cons_append, List.nil_append]
    refine ⟨⟨?_, ?_, ?_, ?_⟩, ?_⟩
    · rw [List.sum_append, List.sum_cons, List.sum_cons]; omega
    · intro c hc
      rcases List.mem_append.mp hc with hc | hc
      · exact ps c (hp c hc)
      · rcases List.mem_cons.mp hc with rfl | hc
        · exact hin
        · rcases List.mem_cons.mp hc with rfl | hc
          · exact ho
          · exact ps c (hq c hc)
    · intro c hc
      rcases List.mem_append.mp hc with hc | hc
      · exact ds c (hp c hc)
      · rcases List.mem_cons.mp hc with rfl | hc
        · exact dis_sub db (sub_in b y)
        · rcases List.mem_cons.mp hc with rfl | hc
          · exact dis_sub db (sub_out b y)
          · exact ds c (hq c hc)
    · rw [List.pairwise_append, List.pairwise_cons, List.pairwise_cons]
      refine ⟨pp, ⟨fun d hd => ?_, outq, qq⟩, fun c hc d hd => ?_⟩
      · rcases List.mem_cons.mp hd with rfl | hd
        · exact dis_in_out b y
        · exact inq d hd
      · rcases List.mem_cons.mp hd with rfl | hd
        · exact dis_comm (inp c hc)
        · rcases List.mem_cons.mp hd with rfl | hd
          · exact outp c hc
          · exact pq' c hc d hd
    · rw [List.sum_append, List.sum_cons, List.sum_cons, List.length_append, List.length_cons, List.length_cons]; omega
/-- the blocks at the beginning -/
noncomputable def beginBs (m x : Nat) : List Nat := if x < 2 ^ m - 1 then [2 ^ m - 1 - x] else []
theorem Good.begin {m x : Nat} (h : x < 2 ^ m) : Good m x (beginBs m x) := by
  unfold beginBs
  split
  · refine ⟨by simp; omega, fun b hb => ?_, fun b hb => ?_, List.pairwise_singleton _ _⟩
    · rw [List.mem_singleton.mp hb]; omega
    · rw [List.mem_singleton.mp hb]; exact full_dis h
  · exact ⟨by simp; omega, fun b hb => absurd hb List.not_mem_nil, fun b hb => absurd hb List.not_mem_nil, List.Pairwise.nil⟩
/-! uses, in their order -/
noncomputable abbrev RD := Bool × Nat × Nat
noncomputable def usB (r : RD) (b : Nat) : Bool := usableB r.1 r.2.1 r.2.2 b
noncomputable def usesR (r : RD) (k : Nat) (bs : List Nat) (n : Nat) : List (Nat × Nat) := ((List.range n).filter fun a => usB r (bs.getD a 0)).map fun a => (k, a)
noncomputable def rdAt (rs : List RD) (k : Nat) : RD := rs.getD k (false, 0, 0)
noncomputable def usesN (rs : List RD) (bs : List Nat) (i : Nat) : List (Nat × Nat) := (List.range i).flatMap fun k => usesR (rdAt rs k) k bs bs.length
theorem usesR_succ (r : RD) (k : Nat) (bs : List Nat) (n : Nat) : usesR r k bs (n + 1) = usesR r k bs n ++ (if usB r (bs.getD n 0) = true then [(k, n)] else []) := by
  unfold usesR
  rw [List.range_succ, List.filter_append, List.map_append]
  congr 1
  cases h : usB r (bs.getD n 0) <;> simp only [List.filter_cons, List.filter_nil, h] <;> rfl
theorem usesN_succ (rs : List RD) (bs : List Nat) (i : Nat) : usesN rs bs (i + 1) = usesN rs bs i ++ usesR (rdAt rs i) i bs bs.length := by
  unfold usesN
  rw [List.range_succ, List.flatMap_append, List.flatMap_cons, List.flatMap_nil, List.append_nil]
theorem mem_usesR {r : RD} {k n : Nat} {bs : List Nat} {u : Nat × Nat} (h : u ∈ usesR r k bs n) : u.1 = k ∧ u.2 < n ∧ usB r (bs.getD u.2 0) = true := by
  unfold usesR at h
  obtain ⟨a, ha, rfl⟩ := List.mem_map.mp h
  obtain ⟨h1, h2⟩ := List.mem_filter.mp ha
  exact ⟨rfl, List.mem_range.mp h1, h2⟩
theorem mem_usesN {rs : List RD} {bs : List Nat} {i : Nat} {u : Nat × Nat} (h : u ∈ usesN rs bs i) : u.1 < i ∧ u.2 < bs.length ∧ usB (rdAt rs u.1) (bs.getD u.2 0) = true := by
  unfold usesN at h
  obtain ⟨k, hk, hu⟩ := List.mem_flatMap.mp h
  obtain ⟨rfl, h2, h3⟩ := mem_usesR hu
  exact ⟨List.mem_range.mp hk, h2, h3⟩
theorem uses_nil {rs : List RD} {bs : List Nat} (h : usesN rs bs rs.length = []) {r : RD} (hr : r ∈ rs) {b : Nat} (hb : b ∈ bs) : usB r b = false := by
  cases e : usB r b with
  | false => rfl
  | true =>
    exfalso
    obtain ⟨k, hk, rfl⟩ := List.getElem_of_mem hr
    obtain ⟨a, ha, rfl⟩ := List.getElem_of_mem hb
    have e1 : rdAt rs k = rs[k] := by unfold rdAt; rw [List.getD_eq_getElem?_getD, List.getElem?_eq_getElem hk]; rfl
    have e2 : bs.getD a 0 = bs[a] := by rw [List.getD_eq_getElem?_getD, List.getElem?_eq_getElem ha]; rfl
    have : (k, a) ∈ usesN rs bs rs.length := by
      unfold usesN
      refine List.mem_flatMap.mpr ⟨k, List.mem_range.mpr hk, ?_⟩
      unfold usesR
      refine List.mem_map.mpr ⟨a, List.mem_filter.mpr ⟨List.mem_range.mpr ha, ?_⟩, rfl⟩
      rw [e1, e2]; exact e
    rw [h] at this
    exact absurd this List.not_mem_nil
/-! a run -/
structure US where
  fx : Nat
  bs : List Nat
  st : List (Nat × Nat)
noncomputable def stepS (rs : List RD) (s : US) (u : Nat × Nat) : US :=
  ⟨behindFx (rdAt rs u.1).1 (rdAt rs u.1).2.2 s.fx s.bs u.2, behindBs (rdAt rs u.1).1 (rdAt rs u.1).2.2 s.bs u.2, s.st ++ [(u.1, s.bs.getD u.2 0)]⟩
inductive Run (rs : List RD) : US → US → Prop
  | done {s : US} : usesN rs s.bs rs.length = [] → Run rs s s
  | step {s t : US} {u : Nat × Nat} {us : List (Nat × Nat)} : usesN rs s.bs rs.length = u :: us → Run rs (stepS rs s u) t → Run rs s t
noncomputable def muS (bs : List Nat) : Nat := 2 * bs.sum - bs.length
theorem step_good {rs : List RD} {s : US} {u : Nat × Nat} {m : Nat} (g : Good m s.fx s.bs) (h : u ∈ usesN rs s.bs rs.length) : Good m (stepS rs s u).fx (stepS rs s u).bs ∧ muS (stepS rs s u).bs < muS s.bs := by
  obtain ⟨_, h2, h3⟩ := mem_usesN h
  exact g.use h2 h3
theorem step_st (rs : List RD) (s : US) (u : Nat × Nat) : (stepS rs s u).st.length = s.st.length + 1 := by
  unfold stepS
  rw [List.length_append]; rfl
theorem usesR_pre (r : RD) (k : Nat) (bs : List Nat) (j : Nat) : ∀ d, ∃ z, usesR r k bs (j + d) = usesR r k bs j ++ z
  | 0 => ⟨[], by rw [List.append_nil]; rfl⟩
  | d + 1 => by
    obtain ⟨z, e⟩ := usesR_pre r k bs j d
    exact ⟨_, by rw [← Nat.add_assoc, usesR_succ, e, List.append_assoc]⟩
theorem usesN_pre (rs : List RD) (bs : List Nat) (i : Nat) : ∀ d, ∃ z, usesN rs bs (i + d) = usesN rs bs i ++ z
  | 0 => ⟨[], by rw [List.append_nil]; rfl⟩
  | d + 1 => by
    obtain ⟨z, e⟩ := usesN_pre rs bs i d
    exact ⟨_, by rw [← Nat.add_assoc, usesN_succ, e, List.append_assoc]⟩
theorem uses_first {rs : List RD} {bs : List Nat} {i j n : Nat} (h0 : usesN rs bs i = []) (h1 : usesR (rdAt rs i) i bs j = []) (hi : i < n) (hj : j < bs.length) (hu : usB (rdAt rs i) (bs.getD j 0) = true) : ∃ us, usesN rs bs n = (i, j) :: us := by
  obtain ⟨z, e⟩ := usesN_pre rs bs (i + 1) (n - (i + 1))
  obtain ⟨z', e'⟩ := usesR_pre (rdAt rs i) i bs (j + 1) (bs.length - (j + 1))
  rw [show i + 1 + (n - (i + 1)) = n by omega] at e
  rw [show j + 1 + (bs.length - (j + 1)) = bs.length by omega, usesR_succ, h1, if_pos hu] at e'
  rw [e, usesN_succ, h0, e']
  exact ⟨_, rfl⟩
/-! the parts drawn by k20's law -/
/-! every column is fixed or in a block -/
noncomputable def orL (bs : List Nat) : Nat := bs.foldr (· ||| ·) 0
theorem orL_dis {c : Nat} : ∀ {bs : List Nat}, (∀ b ∈ bs, c &&& b = 0) → c &&& orL bs = 0
  | [], _ => by simp [orL]
  | b :: bs, h => by
    show c &&& (b ||| orL bs) = 0
    have h1 := h b (List.mem_cons_self ..)
    have h2 := orL_dis (bs := bs) fun d hd => h d (List.mem_cons_of_mem _ hd)
    refine dis_iff.mpr fun k hk => ?_
    rw [Nat.testBit_or, dis_iff.mp h1 k hk, dis_iff.mp h2 k hk]; rfl
theorem orL_sum : ∀ {bs : List Nat}, (bs.Pairwise fun a b => a &&& b = 0) → orL bs = bs.sum
  | [], _ => rfl
  | b :: bs, h => by
    rw [List.pairwise_cons] at h
    show b ||| orL bs = _
    rw [or_add _ _ (orL_dis h.1), orL_sum h.2, List.sum_cons]
theorem tb_orL {k : Nat} : ∀ {bs : List Nat}, (orL bs).testBit k = true ↔ ∃ b ∈ bs, b.testBit k = true
  | [] => by simp [orL]
  | b :: bs => by
    show (b ||| orL bs).testBit k = true ↔ _
    rw [Nat.testBit_or, Bool.or_eq_true, tb_orL (bs := bs)]
    constructor
    · rintro (h | ⟨c, hc, h⟩)
      · exact ⟨b, List.mem_cons_self .., h⟩
      · exact ⟨c, List.mem_cons_of_mem _ hc, h⟩
    · rintro ⟨c, hc, h⟩
      rcases List.mem_cons.mp hc with rfl | hc
      · exact .inl h
      · exact .inr ⟨c, hc, h⟩
theorem Good.col {m fx : Nat} {bs : List Nat} (g : Good m fx bs) {k : Nat} : fx.testBit k = true ↔ k < m ∧ ∀ b ∈ bs, b.testBit k = false := by
  have e : fx ||| orL bs = 2 ^ m - 1 := by rw [or_add _ _ (orL_dis g.dis), orL_sum g.pw, g.sum]
  have t : (fx ||| orL bs).testBit k = decide (k < m) := by rw [e, Nat.testBit_two_pow_sub_one]
  rw [Nat.testBit_or] at t
  constructor
  · intro h
    rw [h, Bool.true_or] at t
    exact ⟨of_decide_eq_true t.symm, fun b hb => dis_iff.mp (g.dis b hb) k h⟩
  · rintro ⟨hk, h⟩
    rw [decide_eq_true hk, Bool.or_eq_true] at t
    rcases t with t | t
    · exact t
    · obtain ⟨b, hb, hbk⟩ := tb_orL.mp t
      rw [h b hb] at hbk; cases hbk
/-! a set whose book keeps the rules stays within one block -/
theorem usable_sub {st : Bool} {x y b d : Nat} (hu : usableB st x y b = true) (hd : usableB st x y d = false) (s : SubN d b) : y &&& d = 0 ∨ (st = false ∧ y &&& d = d) := by
  obtain ⟨h1, _, _⟩ := usable_in hu
  have h2 : x &&& d = 0 := dis_sub h1 s
  unfold usableB at hd
  rw [decide_eq_true h2, Bool.true_and] at hd
  by_cases h3 : y &&& d = 0
  · exact .inl h3
  · right
    rw [decide_eq_false h3, Bool.not_false, Bool.true_and, Bool.or_eq_false_iff] at hd
    refine ⟨hd.1, ?_⟩
    by_cases h4 : y &&& d = d
    · exact h4
    · rw [decide_eq_false h4] at hd; cases hd.2
theorem keep_in {st : Bool} {x y d i : Nat} {bs : List Nat} (hi : i < bs.length) (hu : usableB st x y (bs.getD i 0) = true) (hd : usableB st x y d = false) (d0 : d ≠ 0) (h : ∃ b ∈ bs, SubN d b) : ∃ b ∈ behindBs st y bs i, SubN d b := by
  obtain ⟨b, hb, hs⟩ := h
  have e := split_at hi
  unfold behindBs outN inN
  generalize bs.getD i 0 = c at e hu
  generalize bs.take i = p at e
  generalize bs.drop (i + 1) = q at e
  subst e
  rcases List.mem_append.mp hb with hb | hb
  · exact ⟨b, List.mem_append_left _ (List.mem_append_left _ hb), hs⟩
  rcases List.mem_cons.mp hb with rfl | hb
  · have so : y &&& d = 0 → SubN d (b - (b &&& y)) := fun z k hk => by
      rw [tb_out, hs k hk, dis_iff.mp (dis_comm z) k hk]; rfl
    have si : y &&& d = d → SubN d (b &&& y) := fun z k hk => by
      have : (y &&& d).testBit k = true := by rw [z]; exact hk
      rw [Nat.testBit_and, Bool.and_eq_true] at this
      rw [Nat.testBit_and, hs k hk, this.1]; rfl
    have ne : SubN d (b - (b &&& y)) → 0 < b - (b &&& y) := fun z => by
      apply Nat.pos_of_ne_zero
      intro e0
      apply d0
      refine Nat.eq_of_testBit_eq fun k => ?_
      rw [Nat.zero_testBit]
      cases hk : d.testBit k with
      | false => rfl
      | true => have := z k hk; rw [e0, Nat.zero_testBit] at this; cases this
    rcases usable_sub hu hd hs with z | ⟨rfl, z⟩
    · refine ⟨b - (b &&& y), List.mem_append_left _ (List.mem_append_right _ ?_), so z⟩
      cases st with
      | true => rw [if_pos rfl, if_pos (ne (so z))]; exact List.mem_singleton.mpr rfl
      | false => rw [if_neg Bool.false_ne_true]; exact List.mem_cons_of_mem _ (List.mem_singleton.mpr rfl)
    · exact ⟨b &&& y, List.mem_append_left _ (List.mem_append_right _ (List.mem_cons_self ..)), si z⟩
  · exact ⟨b, List.mem_append_right _ hb, hs⟩
theorem rd_mem {rs : List RD} {k : Nat} (h : k < rs.length) : rdAt rs k ∈ rs := by
  unfold rdAt
  rw [List.getD_eq_getElem?_getD, List.getElem?_eq_getElem h]
  exact List.getElem_mem h
/-- what a run comes to -/
theorem Run.good {rs : List RD} {s t : US} {m : Nat} (h : Run rs s t) : Good m s.fx s.bs → Good m t.fx t.bs ∧ usesN rs t.bs rs.length = [] := by
  induction h with
  | done h => exact fun g => ⟨g, h⟩
  | step e _ ih => exact fun g => ih (step_good g (by rw [e]; exact List.mem_cons_self ..)).1
theorem Run.keep {rs : List RD} {s t : US} {d : Nat} (h : Run rs s t) (d0 : d ≠ 0) (hd : ∀ r ∈ rs, usB r d = false) : (∃ b ∈ s.bs, SubN d b) → ∃ b ∈ t.bs, SubN d b := by
  induction h with
  | done h => exact id
  | step e _ ih =>
    intro z
    obtain ⟨h1, h2, h3⟩ := mem_usesN (rs := rs) (by rw [e]; exact List.mem_cons_self ..)
    exact ih (keep_in h2 h3 (hd _ (rd_mem h1)) d0 z)
theorem begin_sub {m x d : Nat} (hx : x < 2 ^ m) (hd : d < 2 ^ m) (d0 : d ≠ 0) (z : d &&& x = 0) : ∃ b ∈ beginBs m x, SubN d b := by
  have s : SubN d (2 ^ m - 1 - x) := fun k hk => by
    have e : 2 ^ m - 1 - x = 2 ^ m - (x + 1) := by omega
    rw [e, Nat.testBit_two_pow_sub_succ hx, dis_iff.mp z k hk]
    have : k < m := by
      apply Nat.lt_of_not_le
      intro le
      have : d.testBit k = false := Nat.testBit_lt_two_pow (Nat.lt_of_lt_of_le hd (Nat.pow_le_pow_right (by decide) le))
      rw [this] at hk; cases hk
    rw [decide_eq_true this]; rfl
  have lt : x < 2 ^ m - 1 := by
    apply Nat.lt_of_not_le
    intro le
    apply d0
    have e : 2 ^ m - 1 - x = 0 := by omega
    refine Nat.eq_of_testBit_eq fun k => ?_
    rw [Nat.zero_testBit]
    cases hk : d.testBit k with
    | false => rfl
    | true => have := s k hk; rw [e, Nat.zero_testBit] at this; cases this
  unfold beginBs
  rw [if_pos lt]
  exact ⟨_, List.mem_singleton.mpr rfl, s⟩
theorem behind_sub {st : Bool} {y i k : Nat} {bs : List Nat} (hi : i < bs.length) (h : ∃ b ∈ behindBs st y bs i, b.testBit k = true) : ∃ b ∈ bs, b.testBit k = true := by
  obtain ⟨b, hb, hk⟩ := h
  have e := split_at hi
  unfold behindBs outN inN at hb
  generalize bs.getD i 0 = c at e hb
  generalize bs.take i = p at e hb
  generalize bs.drop (i + 1) = q at e hb
  subst e
  rcases List.mem_append.mp hb with hb | hb
  · rcases List.mem_append.mp hb with hb | hb
    · exact ⟨b, List.mem_append_left _ hb, hk⟩
    · refine ⟨c, List.mem_append_right _ (List.mem_cons_self ..), ?_⟩
      cases st with
      | true =>
        rw [if_pos rfl] at hb
        split at hb
        · rw [List.mem_singleton.mp hb] at hk; exact sub_out c y k hk
        · exact absurd hb List.not_mem_nil
      | false =>
        rw [if_neg Bool.false_ne_true] at hb
        rcases List.mem_cons.mp hb with rfl | hb
        · exact sub_in c y k hk
        · rw [List.mem_singleton.mp hb] at hk; exact sub_out c y k hk
  · exact ⟨b, List.mem_append_right _ (List.mem_cons_of_mem _ hb), hk⟩
/-- no block at the end has a column that no block had -/
theorem Run.sub {rs : List RD} {s t : US} {k : Nat} (h : Run rs s t) : (∃ b ∈ t.bs, b.testBit k = true) → ∃ b ∈ s.bs, b.testBit k = true := by
  induction h with
  | done h => exact id
  | step e _ ih =>
    intro z
    obtain ⟨_, h2, _⟩ := mem_usesN (rs := rs) (by rw [e]; exact List.mem_cons_self ..)
    exact behind_sub h2 (ih z)
end L2

namespace L2
open PySem PySem.Spec PyProof.Rows
/-! ### what is not in a set, min, an object of one's own written -/
theorem Same.own {H H' : Hp} {p : Addr} {o : HO} (e : Same H H') (h : H p = Option.none) : Same H (upd H' p o) := fun c u z => by
  rw [upd_ne (ne_of_none z h)]
  exact e c u z
theorem and_not (b y : Nat) : Builtin.bitAnd (b : Int) (Builtin.bitNot (y : Int)) = ((b - (b &&& y) : Nat) : Int) := by
  have hy : ¬ 0 ≤ Builtin.bitNot (y : Int) := by unfold Builtin.bitNot; omega
  have hb : 0 ≤ (b : Int) := by omega
  have le := Nat.and_le_left (n := b) (m := y)
  simp only [Builtin.bitAnd, hy, hb, decide_false, decide_true, bitNot_not, Int.toNat_natCast]
  omega
section
variable {X : Cx} {K : PySem.W.Frag}
theorem op_andInv : OpR X (binaryOp .BitAnd) (fun x y H Q => ∃ a b : Nat, x = vN a ∧ y = .int (Builtin.bitNot (b : Int)) ∧ Q (vN (a - (a &&& b))) H) := op_and.mono fun x y H Q ⟨a, b, h1, h2, q⟩ => ⟨a, _, h1, h2, by
  show Q (V.int (Builtin.bitAnd (a : Int) (Builtin.bitNot (b : Int)))) H
  rw [and_not]; exact q⟩
/-- an item that is written out (the rest of the list stays shut) -/
theorem pa_consC {c : Const} {k : Nat} {pos : Pos} {es : List Expr} {te : TE} {t : TA} (ha : PE X (.Constant c k pos) te) (hr : PA X es t) : PA X (.Constant c k pos :: es) (tCons te t) := pa_cons ha hr rfl
end
/-! ### what the unfolding's defs promise -/
noncomputable def spListed : Sp := fun vs H Q _ => ∃ b : Nat, vs = [vN b] ∧ ∀ p, H p = none → Q (.ref p) (upd H p (.lst ((if 0 < b then [b] else []).map vN)))
noncomputable def spUsed (K : PySem.W.Frag) : Sp := fun vs H Q _ => ∃ (r l : Addr) (st : Bool) (x y fx at_ : Nat) (bs : List Nat), vs = [.ref r, vN fx, .ref l, vN at_] ∧ RuleAt H r st x y ∧ SqL K H l (bs.map vN) ∧ at_ < bs.length ∧ bs.length ≤ 200 ∧ fx &&& bs.getD at_ 0 = 0 ∧
  ∀ (t p : Addr) (H' : Hp), Same H H' → H t = none → H' t = some (.tup [vN (behindFx st y fx bs at_), .ref p]) → H p = none → H' p = some (.lst ((behindBs st y bs at_).map vN)) → Q (.ref t) H'
noncomputable def spBegun (K : PySem.W.Frag) : Sp := fun vs H Q _ => ∃ m x : Nat, vs = [vN m, vN x] ∧ m ≤ 7 ∧ x < 2 ^ m ∧
  ∀ (t p : Addr) (H' : Hp), Same H H' → H t = none → H' t = some (.tup [vN x, .ref p]) → H p = none → H' p = some (.lst ((beginBs m x).map vN)) → Q (.ref t) H'
noncomputable def Rl.d (r : Rl) : RD := (r.st, r.x, r.y)
theorem rd_at {rs : List Rl} {k : Nat} {r : Rl} (h : rs[k]? = some r) : rdAt (rs.map Rl.d) k = r.d := by
  unfold rdAt
  rw [List.getD_eq_getElem?_getD, List.getElem?_map, h]; rfl
noncomputable def RulesAt (H : Hp) (m : Nat) (rs : List Rl) : Prop := ∀ r ∈ rs, RuleAt H r.r r.st r.x r.y ∧ r.x < 2 ^ m ∧ r.y < 2 ^ m
theorem RulesAt.same {H H' : Hp} {m : Nat} {rs : List Rl} (h : RulesAt H m rs) (e : Same H H') : RulesAt H' m rs := fun r hr => ⟨e _ _ (h r hr).1, (h r hr).2⟩
noncomputable def spFirstUse (K : PySem.W.Frag) : Sp := fun vs H Q _ => ∃ (rl bl : Addr) (rs : List Rl) (bs : List Nat) (m : Nat), vs = [.ref rl, .ref bl] ∧ SqL K H rl (rs.map fun r => V.ref r.r) ∧ RulesAt H m rs ∧ SqL K H bl (bs.map vN) ∧ rs.length ≤ 200 ∧ bs.length ≤ 200 ∧
  (∀ H', Same H H' → usesN (rs.map Rl.d) bs rs.length = [] → Q .non H') ∧
  ∀ (u : Nat × Nat) (us : List (Nat × Nat)) (t : Addr) (H' : Hp), Same H H' → usesN (rs.map Rl.d) bs rs.length = u :: us → H t = none → H' t = some (.tup [vN u.1, vN u.2]) → Q (.ref t) H'
/-- tuples of two numbers in the heap -/
noncomputable abbrev SW := Addr × (Nat × Nat)
noncomputable def StepsAt (H : Hp) (sw : List SW) : Prop := ∀ w ∈ sw, H w.1 = some (.tup [vN w.2.1, vN w.2.2])
theorem StepsAt.same {H H' : Hp} {sw : List SW} (h : StepsAt H sw) (e : Same H H') : StepsAt H' sw := fun w hw => e _ _ (h w hw)
theorem StepsAt.put {H : Hp} {sw : List SW} {q : Addr} {xs ys : List V} (h : StepsAt H sw) (hq : H q = some (.lst xs)) : StepsAt (upd H q (.lst ys)) sw := fun w hw => by
  rw [upd_ne (ne_of (h w hw) hq (by intro z; cases z))]
  exact h w hw
theorem StepsAt.snoc {H : Hp} {sw : List SW} {w : SW} (h : StepsAt H sw) (hw : H w.1 = some (.tup [vN w.2.1, vN w.2.2])) : StepsAt H (sw ++ [w]) := fun v hv => by
  rcases List.mem_append.mp hv with hv | hv
  · exact h v hv
  · rw [List.mem_singleton.mp hv]; exact hw
theorem rd_len (rs : List Rl) : (rs.map Rl.d).length = rs.length := List.length_map ..
noncomputable def spUnfolded (K : PySem.W.Frag) : Sp := fun vs H Q _ => ∃ (m x : Nat) (rl : Addr) (rs : List Rl), vs = [vN m, .ref rl, vN x] ∧ m ≤ 7 ∧ x < 2 ^ m ∧ SqL K H rl (rs.map fun r => V.ref r.r) ∧ RulesAt H m rs ∧ rs.length ≤ 200 ∧
  ∀ (t p q : Addr) (s : US) (sw : List SW) (H' : Hp), Run (rs.map Rl.d) ⟨x, beginBs m x, []⟩ s → Same H H' → H t = none → H' t = some (.tup [vN s.fx, .ref p, .ref q]) → H p = none → H' p = some (.lst (s.bs.map vN)) → H q = none → H' q = some (.lst (sw.map fun w => V.ref w.1)) → StepsAt H' sw → sw.map (·.2) = s.st → sw.length ≤ 300 → p ≠ q → Q (.ref t) H'
/-! data -/
theorem same_list {α : Type} [DecidableEq α] {f : α → PyData} (h : ∀ a b, same (f a) (f b) = decide (a = b)) (xs ys : List α) : same (.list (xs.map f)) (.list (ys.map f)) = decide (xs = ys) := by
  simp only [same]
  exact sameAll_map h xs ys
theorem noMix_list {α : Type} {f : α → PyData} (h : ∀ a b, SeqAt.noMix (f a) (f b) = true) (xs ys : List α) : SeqAt.noMix (.list (xs.map f)) (.list (ys.map f)) = true := by
  simp only [SeqAt.noMix]
  exact noMixAll_map h xs ys
theorem same_dR (a b : RD) : same (dR a) (dR b) = decide (a = b) := by
  unfold dR
  obtain ⟨a1, a2, a3⟩ := a
  obtain ⟨b1, b2, b3⟩ := b
  have hw : (wordS a1 = wordS b1) ↔ a1 = b1 := by
    constructor
    · intro h
      cases a1 <;> cases b1 <;> first | rfl | (exact absurd h (by decide))
    · rintro rfl; rfl
  by_cases h1 : a1 = b1 <;> by_cases h2 : a2 = b2 <;> by_cases h3 : a3 = b3 <;> simp [same, sameAll, hw, h1, h2, h3, Int.ofNat_inj]
theorem rules_dv {K : PySem.W.Frag} {H : Hp} {m : Nat} : ∀ {rs : List Rl}, RulesAt H m rs → DVs K H (rs.map fun r => V.ref r.r) ((rs.map Rl.d).map dR)
  | [], _ => .nil
  | r :: rs, h => .cons (.tup (SqT.of (h r (List.mem_cons_self ..)).1) (.cons (.str _) (.cons (.int _) (.cons (.int _) .nil)))) (rules_dv fun v hv => h v (List.mem_cons_of_mem _ hv))
end L2

namespace L2
open PySem PySem.Spec PyProof.Rows
/-! ### an unfolding under way, in the heap -/
structure UCore (H : Hp) (m x : Nat) (rs : List Rl) (s : US) (p qa : Addr) (sw : List SW) (H' : Hp) : Prop where
  same : Same H H'
  hp0 : H p = none
  hp : H' p = some (.lst (s.bs.map vN))
  npq : p ≠ qa
  hq0 : H qa = none
  hq : H' qa = some (.lst (sw.map fun w => V.ref w.1))
  st : StepsAt H' sw
  est : sw.map (·.2) = s.st
  good : Good m s.fx s.bs
  run : ∀ z, Run (rs.map Rl.d) s z → Run (rs.map Rl.d) ⟨x, beginBs m x, []⟩ z
  len : s.st.length + muS s.bs ≤ 254
theorem UCore.mono {H : Hp} {m x : Nat} {rs : List Rl} {s : US} {p qa : Addr} {sw : List SW} {H' H'' : Hp} (c : UCore H m x rs s p qa sw H') (e : Same H' H'') : UCore H m x rs s p qa sw H'' :=
  ⟨c.same.trans e, c.hp0, e _ _ c.hp, c.npq, c.hq0, e _ _ c.hq, c.st.same e, c.est, c.good, c.run, c.len⟩
theorem UCore.begin {H H' : Hp} {m x : Nat} {rs : List Rl} {p qa : Addr} (m7 : m ≤ 7) (hx : x < 2 ^ m) (e : Same H H') (hp0 : H p = none) (hp : H' p = some (.lst ((beginBs m x).map vN))) (hq : H' qa = none) : UCore H m x rs ⟨x, beginBs m x, []⟩ p qa [] (upd H' qa (.lst [])) := by
  have g := Good.begin hx
  refine ⟨e.trans (Same.new hq), hp0, Same.new hq _ _ hp, ne_of_none hp hq, e.none hq, upd_same, fun w h => absurd h List.not_mem_nil, rfl, g, fun z h => h, ?_⟩
  have e := g.sum
  have p7 := pow7 m7
  show 0 + muS (beginBs m x) ≤ 254
  unfold muS
  omega
theorem UCore.slen {H : Hp} {m x : Nat} {rs : List Rl} {s : US} {p qa : Addr} {sw : List SW} {H' : Hp} (c : UCore H m x rs s p qa sw H') : sw.length ≤ 254 := by
  have := c.len
  have e := congrArg List.length c.est
  rw [List.length_map] at e
  omega
theorem UCore.next {H : Hp} {m x : Nat} {rs : List Rl} {s : US} {p p' qa : Addr} {sw : List SW} {w : SW} {H1 H3 : Hp} {u : Nat × Nat} {us : List (Nat × Nat)} (c : UCore H m x rs s p qa sw H1) (hu : usesN (rs.map Rl.d) s.bs rs.length = u :: us) (ew : w.2 = (u.1, s.bs.getD u.2 0)) (hw : H1 w.1 = some (.tup [vN w.2.1, vN w.2.2]))
    (s3 : Same (upd H1 qa (.lst ((sw.map fun w => V.ref w.1) ++ [V.ref w.1]))) H3) (hp' : (upd H1 qa (.lst ((sw.map fun w => V.ref w.1) ++ [V.ref w.1]))) p' = none) (hp3 : H3 p' = some (.lst ((stepS (rs.map Rl.d) s u).bs.map vN))) :
    UCore H m x rs (stepS (rs.map Rl.d) s u) p' qa (sw ++ [w]) H3 ∧ muS (stepS (rs.map Rl.d) s u).bs < muS s.bs := by
  rw [← rd_len] at hu
  obtain ⟨g, mu⟩ := step_good (m := m) (rs := rs.map Rl.d) (s := s) (u := u) c.good (by rw [hu]; exact List.mem_cons_self ..)
  have sH : Same H (upd H1 qa (.lst ((sw.map fun w => V.ref w.1) ++ [V.ref w.1]))) := c.same.own c.hq0
  refine ⟨⟨sH.trans s3, sH.none hp', hp3, Ne.symm (ne_of_none upd_same hp'), c.hq0, ?_, ?_, ?_, g, fun z h => c.run z (Run.step hu h), ?_⟩, mu⟩
  · rw [s3 _ _ upd_same, List.map_append]; rfl
  · refine ((c.st.put c.hq).snoc ?_).same s3
    rw [upd_ne (ne_of hw c.hq (by intro z; cases z))]
    exact hw
  · rw [List.map_append, c.est]
    show s.st ++ [w.2] = s.st ++ [(u.1, s.bs.getD u.2 0)]
    rw [ew]
  · rw [step_st]
    have := c.len
    omega
noncomputable def UInv (H : Hp) (m x : Nat) (rl : Addr) (rs : List Rl) (n : Nat) (σ : St) (H' : Hp) : Prop :=
  ∃ (s : US) (t p qa : Addr) (sw : List SW) (v : V), σ = [some (vN m), some (.ref rl), some (vN x), some (.ref t), some (.ref qa), some v] ∧ n = muS s.bs ∧ H' t = some (.tup [vN s.fx, .ref p]) ∧ UCore H m x rs s p qa sw H' ∧
    ((usesN (rs.map Rl.d) s.bs rs.length = [] ∧ v = .non) ∨ ∃ u us t5, usesN (rs.map Rl.d) s.bs rs.length = u :: us ∧ v = .ref t5 ∧ H' t5 = some (.tup [vN u.1, vN u.2]))
/-- what a use of the law's list gives -/
theorem uses_at {rs : List Rl} {bs : List Nat} {u : Nat × Nat} {m : Nat} {H : Hp} (hu : u ∈ usesN (rs.map Rl.d) bs rs.length) (hR : RulesAt H m rs) : ∃ r : Rl, rs[u.1]? = some r ∧ rdAt (rs.map Rl.d) u.1 = r.d ∧ u.2 < bs.length ∧ bs[u.2]? = some (bs.getD u.2 0) ∧ (RuleAt H r.r r.st r.x r.y ∧ r.x < 2 ^ m ∧ r.y < 2 ^ m) := by
  obtain ⟨h1, h2, _⟩ := mem_usesN hu
  have e : rs[u.1]? = some rs[u.1] := List.getElem?_eq_getElem h1
  exact ⟨rs[u.1], e, rd_at e, h2, by rw [List.getD_eq_getElem?_getD, List.getElem?_eq_getElem h2]; rfl, hR _ (List.getElem_mem h1)⟩
end L2

namespace L2
open PySem PySem.Spec PyProof.Rows
/-! ### what follows -/
section
variable {X : Cx} {K : PySem.W.Frag}
end
end L2

namespace L2
/-! ### the settled columns, found by books of two rows -/
open PySem PySem.Spec PyProof.Rows
noncomputable def spSettled (K : PySem.W.Frag) : Sp := fun vs H Q _ => ∃ (m x : Nat) (rl : Addr) (rs : List Rl), vs = [vN m, .ref rl, vN x] ∧ m ≤ 7 ∧ x < 2 ^ m ∧ SqL K H rl (rs.map fun r => V.ref r.r) ∧ RulesAt H m rs ∧ rs.length ≤ 200 ∧
  ∀ (s : US) (H' : Hp), Run (rs.map Rl.d) ⟨x, beginBs m x, []⟩ s → Same H H' → Q (vN s.fx) H'
end L2

namespace L2
/-! ### what follows, told by the sets whose books keep the rules -/
theorem Run.apart0 {rs : List RD} {m x : Nat} {s : US} (hx : x < 2 ^ m) (h : Run rs ⟨x, beginBs m x, []⟩ s) {b : Nat} (hb : b ∈ s.bs) : x &&& b = 0 := by
  refine dis_iff.mpr fun k hk => ?_
  cases hbk : b.testBit k with
  | false => rfl
  | true =>
    obtain ⟨c, hc, hck⟩ := h.sub ⟨b, hb, hbk⟩
    have := (Good.begin hx).dis c hc
    rw [dis_iff.mp this k hk] at hck
    cases hck
noncomputable def KeptS (m : Nat) (rs : List RD) (d : Nat) : Prop := 1 ≤ d ∧ d < 2 ^ m ∧ ∀ r ∈ rs, usB r d = false
noncomputable def HasB (a k : Nat) : Prop := a.testBit k = true
theorem bit_of_ne {a : Nat} (h : a ≠ 0) : ∃ k, HasB a k := by
  by_cases z : ∃ k, HasB a k
  · exact z
  · exfalso
    apply h
    refine Nat.eq_of_testBit_eq fun k => ?_
    rw [Nat.zero_testBit]
    cases e : a.testBit k with
    | false => rfl
    | true => exact absurd ⟨k, e⟩ z
theorem hasb_and (a b k : Nat) : HasB (a &&& b) k ↔ HasB a k ∧ HasB b k := by unfold HasB; rw [Nat.testBit_and, Bool.and_eq_true]
theorem hasb_out (b y k : Nat) : HasB (b - (b &&& y)) k ↔ HasB b k ∧ ¬ HasB y k := by
  unfold HasB
  rw [tb_out, Bool.and_eq_true]
  cases y.testBit k <;> simp
theorem hasb_lt {m a k : Nat} (ha : a < 2 ^ m) (h : HasB a k) : k < m := by
  apply Nat.lt_of_not_le
  intro le
  have : a.testBit k = false := Nat.testBit_lt_two_pow (Nat.lt_of_lt_of_le ha (Nat.pow_le_pow_right (by decide) le))
  unfold HasB at h
  rw [this] at h; cases h
theorem and_ne {a b : Nat} : a &&& b ≠ 0 ↔ ∃ k, HasB a k ∧ HasB b k := by
  constructor
  · intro h
    obtain ⟨k, hk⟩ := bit_of_ne h
    exact ⟨k, (hasb_and a b k).mp hk⟩
  · rintro ⟨k, h1, h2⟩ e
    have := (hasb_and a b k).mpr ⟨h1, h2⟩
    unfold HasB at this
    rw [e, Nat.zero_testBit] at this
    cases this
theorem Run.kept {rs : List RD} {m x : Nat} {s : US} (hx : x < 2 ^ m) (R : Run rs ⟨x, beginBs m x, []⟩ s) {b : Nat} (hb : b ∈ s.bs) : KeptS m rs b := by
  obtain ⟨g, un⟩ := R.good (m := m) (Good.begin hx)
  exact ⟨g.pos b hb, g.lt hb, fun r hr => uses_nil un hr hb⟩
theorem Run.holds {rs : List RD} {m x d : Nat} {s : US} (hx : x < 2 ^ m) (R : Run rs ⟨x, beginBs m x, []⟩ s) (hd : KeptS m rs d) (ha : ∀ k, HasB d k → ¬ HasB x k) : ∃ b ∈ s.bs, SubN d b := by
  have h0 := hd.1
  refine R.keep (by omega) hd.2.2 (begin_sub hx hd.2.1 (by omega) ?_)
  by_cases z : d &&& x = 0
  · exact z
  · obtain ⟨k, a, b⟩ := and_ne.mp z
    exact absurd b (ha k a)
end L2
namespace L2
/-! ### the rules of following -/
section
variable {m : Nat} {rs : List RD} {x y z v : Nat}
end
open PySem PySem.Spec PyProof.Rows
theorem RulesAt.put {H : Hp} {m : Nat} {rs : List Rl} {q : Addr} {xs ys : List V} (h : RulesAt H m rs) (hq : H q = some (.lst xs)) : RulesAt (upd H q (.lst ys)) m rs := fun r hr => by
  refine ⟨?_, (h r hr).2⟩
  have h1 := (h r hr).1
  unfold RuleAt at h1 ⊢
  rw [upd_ne (ne_of h1 hq (by intro z; cases z))]
  exact h1
end L2

namespace L2
/-! ### which sets are blocks; more rules -/
noncomputable def Apart (x d : Nat) : Prop := ∀ k, HasB d k → ¬ HasB x k
theorem apart_of {x b : Nat} (h : x &&& b = 0) : Apart x b := fun k h1 h2 => by
  have := dis_iff.mp h k h2
  unfold HasB at h1
  rw [this] at h1; cases h1
theorem sub_eq {a b : Nat} (h1 : SubN a b) (h2 : SubN b a) : a = b := Nat.eq_of_testBit_eq fun k => by
  rw [Bool.eq_iff_iff]
  exact ⟨h1 k, h2 k⟩
theorem pw_ne : ∀ {bs : List Nat}, (bs.Pairwise fun a b => a &&& b = 0) → ∀ {a b}, a ∈ bs → b ∈ bs → a ≠ b → a &&& b = 0
  | c :: bs, h, a, b, ha, hb, hn => by
    rw [List.pairwise_cons] at h
    rcases List.mem_cons.mp ha with rfl | ha'
    · rcases List.mem_cons.mp hb with rfl | hb'
      · exact absurd rfl hn
      · exact h.1 b hb'
    · rcases List.mem_cons.mp hb with rfl | hb'
      · exact dis_comm (h.1 a ha')
      · exact pw_ne h.2 ha' hb' hn
theorem Good.nodup {m fx : Nat} {bs : List Nat} (g : Good m fx bs) : bs.Nodup := by
  refine g.pw.imp_of_mem fun {a b} ha hb h e => ?_
  subst e
  rw [Nat.and_self] at h
  have := g.pos a ha
  omega
structure Blocks (m : Nat) (rs : List RD) (x fx : Nat) (bs : List Nat) : Prop where
  good : Good m fx bs
  kept : ∀ b ∈ bs, KeptS m rs b
  apart : ∀ b ∈ bs, Apart x b
  holds : ∀ d, KeptS m rs d → Apart x d → ∃ b ∈ bs, SubN d b
theorem Run.blocks {rs : List RD} {m x : Nat} {s : US} (hx : x < 2 ^ m) (R : Run rs ⟨x, beginBs m x, []⟩ s) : Blocks m rs x s.fx s.bs :=
  ⟨(R.good (m := m) (Good.begin hx)).1, fun b hb => R.kept hx hb, fun b hb => apart_of (R.apart0 hx hb), fun d hd ha => R.holds hx hd ha⟩
theorem Blocks.one {m x fx : Nat} {rs : List RD} {bs : List Nat} (B : Blocks m rs x fx bs) {b c : Nat} (hb : b ∈ bs) (hc : c ∈ bs) (h : SubN b c) : b = c := by
  by_cases e : b = c
  · exact e
  · exfalso
    have := pw_ne B.good.pw hb hc e
    obtain ⟨k, hk⟩ := bit_of_ne (a := b) (by have := B.good.pos b hb; omega)
    have h2 := dis_iff.mp this k hk
    rw [h k hk] at h2; cases h2
theorem Blocks.mem {m x fx : Nat} {rs : List RD} {bs : List Nat} (B : Blocks m rs x fx bs) {b : Nat} : b ∈ bs ↔ KeptS m rs b ∧ Apart x b ∧ ∀ d, KeptS m rs d → Apart x d → SubN b d → SubN d b := by
  constructor
  · intro hb
    refine ⟨B.kept b hb, B.apart b hb, fun d hd ha hs => ?_⟩
    obtain ⟨c, hc, hs2⟩ := B.holds d hd ha
    have e := B.one hb hc fun k hk => hs2 k (hs k hk)
    rw [e]; exact hs2
  · rintro ⟨hk, ha, hm⟩
    obtain ⟨c, hc, hs⟩ := B.holds b hk ha
    have := hm c (B.kept c hc) (B.apart c hc) hs
    rw [sub_eq hs this]; exact hc
theorem Blocks.fix {m x fx : Nat} {rs : List RD} {bs : List Nat} (B : Blocks m rs x fx bs) {k : Nat} : HasB fx k ↔ k < m ∧ ∀ d, KeptS m rs d → Apart x d → ¬ HasB d k := by
  unfold HasB
  rw [B.good.col]
  constructor
  · rintro ⟨h1, h2⟩
    refine ⟨h1, fun d hd ha hk => ?_⟩
    obtain ⟨b, hb, hs⟩ := B.holds d hd ha
    have := hs k hk
    rw [h2 b hb] at this; cases this
  · rintro ⟨h1, h2⟩
    refine ⟨h1, fun b hb => ?_⟩
    cases e : b.testBit k with
    | false => rfl
    | true => exact absurd e (h2 b (B.kept b hb) (B.apart b hb))
theorem Blocks.same {m x fx fx' : Nat} {rs rs' : List RD} {bs bs' : List Nat} (B : Blocks m rs x fx bs) (B' : Blocks m rs' x fx' bs') (h : ∀ d, KeptS m rs d ↔ KeptS m rs' d) : fx = fx' ∧ bs.Perm bs' := by
  constructor
  · refine Nat.eq_of_testBit_eq fun k => ?_
    rw [Bool.eq_iff_iff]
    show HasB fx k ↔ HasB fx' k
    rw [B.fix, B'.fix]
    exact ⟨fun ⟨a, b⟩ => ⟨a, fun d hd => b d ((h d).mpr hd)⟩, fun ⟨a, b⟩ => ⟨a, fun d hd => b d ((h d).mp hd)⟩⟩
  · rw [List.perm_ext_iff_of_nodup B.good.nodup B'.good.nodup]
    intro b
    rw [B.mem, B'.mem, h b]
    exact ⟨fun ⟨a, c, e⟩ => ⟨a, c, fun d hd => e d ((h d).mpr hd)⟩, fun ⟨a, c, e⟩ => ⟨a, c, fun d hd => e d ((h d).mp hd)⟩⟩
end L2
namespace L2
open PySem PySem.Spec PyProof.Rows
end L2

namespace L2
/-! ### covers -/
open PySem PySem.Spec PyProof.Rows
theorem cols_has : ∀ a, a < 128 → ∀ k, k < 8 → (k ∈ colsN a ↔ a.testBit k = true) := by decide +kernel
theorem cols_mem {a : Nat} (ha : a < 128) (k : Nat) : k ∈ colsN a ↔ HasB a k := by
  by_cases hk : k < 8
  · exact cols_has a ha k hk
  · constructor
    · intro h
      have h1 := List.mem_range.mp (List.mem_filter.mp h).1
      have h2 : bitsN a ≤ 7 := by
        unfold bitsN Builtin.Int.intBits
        split
        · omega
        · rename_i z
          have h0 : a ≠ 0 := by intro e; subst e; exact z rfl
          have : a.log2 < 7 := (Nat.log2_lt h0).mpr ha
          show (a : Int).natAbs.log2 + 1 ≤ 7
          rw [Int.natAbs_natCast]
          omega
      omega
    · intro h
      have := hasb_lt (m := 7) ha h
      omega
noncomputable def spPCell (K : PySem.W.Frag) : Sp := fun vs H Q _ => ∃ (sc : Addr) (ns : List Int) (k : Nat), vs = [.ref sc, vN k] ∧ SqL K H sc (ns.map V.int) ∧ k ≤ 1000000 ∧ ∀ v : Int, Q (.int v) H
end L2

namespace L2
open PySem PySem.Spec PyProof.Rows
structure PR (K : PySem.W.Frag) (H : Hp) (st : Addr) (ns : List Int) (m : Nat) (g : Addr) (rs : List Rl) (k : Nat) (H' : Hp) : Prop where
  at_ : RulesAt H' m rs
  hg : H' g = some (.lst (rs.map fun r => V.ref r.r))
  S : STF K H' st ns k
  B : But st H H'
  hg0 : H g = none
  hgs : g ≠ st
noncomputable def spPRules (K : PySem.W.Frag) : Sp := fun vs H Q _ => ∃ (st : Addr) (ns : List Int) (k m mo : Nat), vs = [.ref st, vN m, vN mo] ∧ STF K H st ns k ∧ k ≤ 1000 ∧ ns.length ≤ 63 ∧ 1 ≤ m ∧ m ≤ 7 ∧ mo ≤ 4 ∧
  ∀ (rs : List Rl) (p : Addr) (k' : Nat) (H' : Hp), PR K H st ns m p rs k' H' → rs.length ≤ 20 → k' ≤ k + 200 → Q (.ref p) H'
noncomputable def spLKeeps : Sp := fun vs H Q _ => ∃ (r : Addr) (st : Bool) (x y d : Nat), vs = [vN d, .ref r] ∧ RuleAt H r st x y ∧ Q (.bl (!usableB st x y d)) H
noncomputable def spLBooks (K : PySem.W.Frag) : Sp := fun vs H Q _ => ∃ (m : Nat) (rl : Addr) (rs : List Rl), vs = [vN m, .ref rl] ∧ m ≤ 7 ∧ SqL K H rl (rs.map fun r => V.ref r.r) ∧ RulesAt H m rs ∧ rs.length ≤ 200 ∧
  ∀ (ks : List Nat) (p : Addr) (H' : Hp), (∀ d, d ∈ ks ↔ d < 2 ^ m ∧ ∀ r ∈ rs.map Rl.d, usB r d = false) → ks.length ≤ 128 → Same H H' → H p = none → H' p = some (.lst (ks.map vN)) → Q (.ref p) H'
end L2

namespace L2
open PySem PySem.Spec PyProof.Rows
/-! ### sorted(.., reverse=True) of what stands so already: one run, of any length -/
section
variable {prog : Program} {w : World} {A : Around} {E : Value → Shared → Prop} {s : Shared} {a₀ : Array Keyed} {κ : KeyKind}
end
section
variable {X : Cx} {K : PySem.W.Frag}
end
end L2

namespace L2
open PySem PySem.Spec PyProof.Rows
/-! ### a rule in a list of rules; covers say the same (k42) -/
section
variable {X : Cx} {K : PySem.W.Frag}
end
end L2

namespace L2
/-! ### any steps lead to the same blocks -/
open PySem PySem.Spec PyProof.Rows
end L2

namespace L2
open PySem PySem.Spec PyProof.Rows
/-! ### all blocks at once -/
/-! ### covers, rule by rule -/
end L2

namespace L2
open PySem PySem.Spec PyProof.Rows
/-! ### two lists walked side by side -/
section
variable {X : Cx} {pins : List (Addr × Obj)} {σ : St} {H : Hp} {s : Shared}
end
end L2

namespace L2
open PySem PySem.Spec PyProof.Rows
/-! ### covers told exactly -/
end L2

namespace L2
open PySem PySem.Spec PyProof.Rows
theorem shr_bit (z k : Nat) : decide (z / 2 ^ k &&& 1 = 1) = z.testBit k := by
  rw [Nat.and_one_is_mod, Nat.testBit_eq_decide_div_mod_eq]
end L2

namespace L2
open PySem PySem.Spec PyProof.Rows PySem.W
/-! ### all sets within a set, size by size -/
noncomputable def manyN (a : Nat) : Nat := ((List.range 7).filter (hasB a)).length
noncomputable def rowN (a m : Nat) : List Nat := (List.range (a + 1)).filter fun x => decide (x &&& a = x) && decide (manyN x = m)
noncomputable def dueM (a m : Nat) : List Nat := (List.range m).flatMap (rowN a)
noncomputable def dueN (a : Nat) : List Nat := dueM a 8
/-- one column more for one set -/
noncomputable def upOf (a x : Nat) : List Nat := ((colsN a).filter fun c => decide (x < 2 ^ c)).map fun c => x ||| 2 ^ c
noncomputable def moreN (a : Nat) (l : List Nat) : List Nat := l.flatMap (upOf a)
theorem more_perm : ∀ a, a < 128 → ∀ i, i < 8 → (moreN a (rowN a i)).isPerm (rowN a (i + 1)) = true := by decide +kernel
theorem row_len : ∀ a, a < 128 → ∀ i, i < 9 → (rowN a i).length ≤ 35 := by decide +kernel
theorem row_zero : ∀ a, a < 128 → rowN a 0 = [0] := by decide +kernel
theorem row_last : ∀ a, a < 128 → rowN a 8 = [] := by decide +kernel
theorem row_due : ∀ a, a < 128 → ∀ i, i < 9 → rowN a i = [] → dueM a i = dueN a := by decide +kernel
theorem due_len : ∀ a, a < 128 → 1 ≤ (dueN a).length ∧ (dueN a).length ≤ 128 := by decide +kernel
theorem cols7 : ∀ a, a < 128 → (colsN a).length ≤ 7 ∧ (colsN a).all (fun c => decide (c < 7)) = true := by decide +kernel
theorem row_up (a m : Nat) : (rowN a m).Pairwise (· ≤ ·) := by
  have h : ∀ n, (List.range n).Pairwise (· ≤ ·) := fun n => List.Pairwise.imp Nat.le_of_lt List.pairwise_lt_range
  exact (h _).filter _
theorem row_is {a i : Nat} (ha : a < 128) (hi : i < 8) {ns : List Int} (p : ns.Perm ((moreN a (rowN a i)).map fun (k : Nat) => (k : Int))) (s : ns.Pairwise (· ≤ ·)) : ns = (rowN a (i + 1)).map fun (k : Nat) => (k : Int) := by
  have p2 := p.trans ((List.isPerm_iff.mp (more_perm a ha i hi)).map fun (k : Nat) => (k : Int))
  refine List.Perm.eq_of_pairwise (le := fun (x y : Int) => x ≤ y) (fun x y _ _ h1 h2 => Int.le_antisymm h1 h2) s ?_ p2
  rw [List.pairwise_map]
  exact (row_up a (i + 1)).imp fun h => Int.ofNat_le.mpr h
theorem dueM_succ (a m : Nat) : dueM a (m + 1) = dueM a m ++ rowN a m := by
  unfold dueM
  rw [List.range_succ, List.flatMap_append]
  simp
theorem dueM_len (a m : Nat) (ha : a < 128) (hm : m < 9) : (dueM a m).length ≤ 35 * m := by
  induction m with
  | zero => exact Nat.zero_le _
  | succ m ih =>
    rw [dueM_succ, List.length_append]
    have h1 := row_len a ha m (by omega)
    have h2 := ih (by omega)
    omega
theorem upOf_len (a x : Nat) (ha : a < 128) : (upOf a x).length ≤ 7 := by
  unfold upOf
  rw [List.length_map]
  exact Nat.le_trans (List.length_filter_le _ _) (cols7 a ha).1
theorem moreN_len (a : Nat) (ha : a < 128) : ∀ l : List Nat, (moreN a l).length ≤ 7 * l.length
  | [] => Nat.zero_le _
  | x :: l => by
    have h1 := moreN_len a ha l
    have h2 := upOf_len a x ha
    show (upOf a x ++ moreN a l).length ≤ _
    rw [List.length_append, List.length_cons]
    omega
theorem moreN_succ {a i x : Nat} {l : List Nat} (h : l[i]? = some x) : moreN a (l.take (i + 1)) = moreN a (l.take i) ++ upOf a x := by
  unfold moreN
  rw [List.take_succ, h, List.flatMap_append]
  simp
theorem Same.own3 {H H' : Hp} {p : Addr} {o : HO} (e : Same H H') (h : H p = Option.none) : Same H (upd H' p o) := fun c u z => by
  rw [upd_ne (ne_of_none z h)]; exact e _ _ z
noncomputable def spOneUp : Sp := fun vs H Q _ => ∃ (p : Addr) (a i : Nat), vs = [.ref p, vN a] ∧ a < 128 ∧ i < 8 ∧ H p = some (.lst ((rowN a i).map vN)) ∧ ∀ (l : Addr) (H' : Hp), Same H H' → H l = none → H' l = some (.lst ((rowN a (i + 1)).map vN)) → Q (.ref l) H'
noncomputable def spSetsW : Sp := fun vs H Q _ => ∃ a : Nat, vs = [vN a] ∧ a < 128 ∧ ∀ (l : Addr) (H' : Hp), Same H H' → H l = none → H' l = some (.lst ((dueN a).map vN)) → Q (.ref l) H'
end L2

namespace L2
open PySem PySem.Spec PyProof.Rows
section
variable {X : Cx} {K : PySem.W.Frag}
theorem any_range (bs : List Bool) : ((List.range bs.length).any fun i => bs.getD i true) = bs.any id := by
  rw [Bool.eq_iff_iff, List.any_eq_true, List.any_eq_true]
  constructor
  · rintro ⟨i, hi, h⟩
    have hi' := List.mem_range.mp hi
    rw [List.getD_eq_getElem?_getD, List.getElem?_eq_getElem hi'] at h
    exact ⟨_, List.getElem_mem hi', h⟩
  · rintro ⟨b, hb, h⟩
    obtain ⟨i, hi, rfl⟩ := List.getElem_of_mem hb
    refine ⟨i, List.mem_range.mpr hi, ?_⟩
    rw [List.getD_eq_getElem?_getD, List.getElem?_eq_getElem hi]
    exact h
theorem call_anyK (h : X.K = K) (hc : X.calm = true) : CallR X (.builtin "any") (fun xs H Q => ∃ (p : Addr) (bs : List Bool), xs = [.ref p] ∧ SqL K H p (bs.map V.bl) ∧ Q (.bl (bs.any id)) H) := by
  subst h
  intro pins s σ H xs us Q I r h
  obtain ⟨p, bs, rfl, hq, q⟩ := h
  obtain ⟨u, rfl, rx⟩ := vals1 r
  cases rx
  obtain ⟨its, rv, pl, hz⟩ := I.list hq
  have len : its.length = bs.length := by rw [← rv.length, List.length_map]
  refine call_any_walk (wpAny_pyIter_list pl.isList ⟨s.heap.objs.size, [s.heap.objs.size, p], [s.heap.objs.size], its.toArray.size, _, _, fun i => bs.getD i true, rfl, Walks.list (A := X.A.in1) (I.ok.hd hc) _ p (Nat.ne_of_lt pl.lt) its.toArray, ⟨⟨_, Heap.get?_push_size _ rfl, rfl, rfl⟩, pl.isList.push _⟩, fun i v s' Q' E' hP hQ => ?_, fun h' tk hk => ?_⟩)
  · have hP' : its[i]? = some v := by simpa using hP
    have hi : i < bs.length := by rw [← len]; exact (List.getElem?_eq_some_iff.mp hP').1
    obtain ⟨c, e1, r1⟩ := rv.get (i := i) (x := V.bl bs[i]) (by rw [List.getElem?_map, List.getElem?_eq_getElem hi]; rfl)
    rw [hP'] at e1
    obtain rfl := Option.some.inj e1
    obtain rfl : v = Value.bool bs[i] := r1
    refine wpAny_truthy_bool ?_
    have hQ' : Q' (bs.getD i true) s' := hQ
    rwa [List.getD_eq_getElem?_getD, List.getElem?_eq_getElem hi] at hQ'
  · refine ⟨.bl (bs.any id), H, I.kept fun b o e => hk b o (fun hm => ?_) (Heap.get?_push_of_some _ e), ?_, q⟩
    · rw [List.mem_singleton.mp hm] at e
      exact Nat.lt_irrefl _ (Heap.lt_size e)
    · show _ = Value.bool _
      rw [List.size_toArray, len, any_range]
end
/-! ### what a set settles, told by the sets that keep the rules; keys -/
theorem hasb_pos {a k : Nat} (h : HasB a k) : a ≠ 0 := fun e => by
  rw [e] at h
  unfold HasB at h
  rw [Nat.zero_testBit] at h
  cases h
/-! keys -/
noncomputable def wiB (x : Nat) (f : List Nat) : Bool := f.any fun y => decide (y &&& x = y)
theorem wiB_map (x : Nat) (f : List Nat) : (f.map fun y => decide (y &&& x = y)).any id = wiB x f := by
  unfold wiB
  rw [List.any_map]; rfl
/-- all sets, by how many columns they have -/
noncomputable def sumB (m x : Nat) : Nat := ((List.range m).map fun k => x / 2 ^ k &&& 1).sum
noncomputable def setsM (m s : Nat) : List Nat := (List.range s).flatMap fun n => (List.range (2 ^ m)).filter fun x => decide (sumB m x = n)
noncomputable def setsN (m : Nat) : List Nat := setsM m (m + 1)
end L2

namespace L2
open PySem PySem.Spec PyProof.Rows
/-! ### what a set settles, as a number; gains part by part -/
open Classical in
noncomputable def fixF (m : Nat) (rs : List RD) (x : Nat) : Nat := if h : ∃ fx bs, Blocks m rs x fx bs then h.choose else 0
theorem Blocks.fixF {m x fx : Nat} {rs : List RD} {bs : List Nat} (B : Blocks m rs x fx bs) : L2.fixF m rs x = fx := by
  have h : ∃ fx bs, Blocks m rs x fx bs := ⟨fx, bs, B⟩
  obtain ⟨bs', B'⟩ := h.choose_spec
  unfold L2.fixF
  rw [dif_pos h]
  exact (B'.same B fun d => Iff.rfl).1
theorem fixF_lt (m : Nat) (rs : List RD) (x : Nat) : fixF m rs x < 2 ^ m := by
  have pw : 0 < 2 ^ m := Nat.two_pow_pos m
  unfold fixF
  by_cases h : ∃ fx bs, Blocks m rs x fx bs
  · rw [dif_pos h]
    obtain ⟨bs', B'⟩ := h.choose_spec
    have := B'.good.sum
    omega
  · rw [dif_neg h]; exact pw
end L2

namespace L2
open PySem PySem.Spec PyProof.Rows
/-! ### the laws of cuts: their rules and parts; a cut in two -/
section
variable {K : PySem.W.Frag} {H H1 H2 : Hp} {st g p : Addr} {ns : List Int} {m k k' : Nat} {rs rs' : List Rl} {o : HO} {ys : List V}
theorem PR.take (R : PR K H st ns m g rs k H1) (S : STF K H2 st ns k') (B : But st H1 H2) : PR K H st ns m g rs k' H2 :=
  ⟨fun r hr => ⟨stf_tup R.S B (R.at_ r hr).1, (R.at_ r hr).2⟩, B _ _ R.hg R.hgs, S, R.B.trans B, R.hg0, R.hgs⟩
end
theorem bits_eq {a b : Nat} (h : ∀ k, HasB a k ↔ HasB b k) : a = b := Nat.eq_of_testBit_eq fun k => by
  rw [Bool.eq_iff_iff]; exact h k
end L2

namespace L2
open PySem PySem.Spec PyProof.Rows
end L2

namespace L2
open PySem PySem.Spec PyProof.Rows
section
variable {X : Cx} {K : PySem.W.Frag}
end
/-! ### keys told by the sets that keep the rules -/
theorem sets_all : ∀ m, m < 8 → ∀ x, x < 2 ^ m → (setsN m).contains x = true := by decide +kernel
theorem apart_iff {x d : Nat} : Apart x d ↔ d &&& x = 0 := by
  constructor
  · intro h
    refine Nat.eq_of_testBit_eq fun k => ?_
    rw [Nat.zero_testBit]
    cases z : (d &&& x).testBit k with
    | false => rfl
    | true =>
      obtain ⟨h1, h2⟩ := (hasb_and d x k).mp z
      exact absurd h2 (h k h1)
  · intro h k h1 h2
    have := (hasb_and d x k).mpr ⟨h1, h2⟩
    rw [h] at this
    exact hasb_pos this rfl
theorem hasb_pow (j k : Nat) : HasB (2 ^ j) k ↔ j = k := by
  unfold HasB
  rw [Nat.testBit_two_pow, decide_eq_true_iff]
end L2

namespace L2
open PySem PySem.Spec PyProof.Rows
/-! ### every set is unfolded; gains told by the sets that keep the rules -/
theorem run_ex {rs : List RD} {m : Nat} : ∀ (n : Nat) (s : US), muS s.bs ≤ n → Good m s.fx s.bs → ∃ t, Run rs s t
  | 0, s, hn, g => by
    cases e : usesN rs s.bs rs.length with
    | nil => exact ⟨s, .done e⟩
    | cons u us =>
      have := (step_good (m := m) (rs := rs) (s := s) (u := u) g (by rw [e]; exact List.mem_cons_self ..)).2
      omega
  | n + 1, s, hn, g => by
    cases e : usesN rs s.bs rs.length with
    | nil => exact ⟨s, .done e⟩
    | cons u us =>
      obtain ⟨g', mu⟩ := step_good (m := m) (rs := rs) (s := s) (u := u) g (by rw [e]; exact List.mem_cons_self ..)
      obtain ⟨t, R⟩ := run_ex n (stepS rs s u) (by omega) g'
      exact ⟨t, .step e R⟩
theorem fix_iff {m x : Nat} {rs : List RD} (hx : x < 2 ^ m) (k : Nat) : HasB (fixF m rs x) k ↔ k < m ∧ ∀ d, KeptS m rs d → Apart x d → ¬ HasB d k := by
  obtain ⟨t, R⟩ := run_ex (rs := rs) (m := m) _ ⟨x, beginBs m x, []⟩ (Nat.le_refl _) (Good.begin hx)
  have B := R.blocks hx
  rw [B.fixF]
  exact B.fix
noncomputable def Kept0 (m : Nat) (rs : List RD) (ks : List Nat) : Prop := ∀ d, d ∈ ks ↔ d < 2 ^ m ∧ ∀ r ∈ rs, usB r d = false
theorem hasb_zero {k : Nat} (h : HasB 0 k) : False := by
  unfold HasB at h
  rw [Nat.zero_testBit] at h
  cases h
theorem zero_of {a : Nat} (h : ∀ k, ¬ HasB a k) : a = 0 := Classical.byContradiction fun ne => by
  obtain ⟨k, hk⟩ : ∃ k, HasB a k := Nat.exists_testBit_of_ne_zero ne
  exact h k hk
theorem sub_and {a b : Nat} (h : ∀ k, HasB a k → HasB b k) : a &&& b = a := bits_eq fun k => by
  rw [hasb_and]
  exact ⟨fun z => z.1, fun z => ⟨z, h k z⟩⟩
noncomputable def spLFol (K : PySem.W.Frag) : Sp := fun vs H Q _ => ∃ (kb : Addr) (ks : List Nat) (l c : Nat), vs = [.ref kb, vN l, vN c] ∧ SqL K H kb (ks.map vN) ∧ ks.length ≤ 128 ∧ ∀ (b : Bool) (H' : Hp), (b = true ↔ ∀ d ∈ ks, d &&& l = 0 → d &&& c = 0) → Same H H' → Q (.bl b) H'
end L2

namespace L2
open PySem PySem.Spec PyProof.Rows
/-! ### dict of a list of pairs whose keys are whole numbers or texts -/
/-- a pair in the list: its tuple, its key, its value -/
structure Pk where
  t : Addr
  k : Key
  v : V
noncomputable def Pk.At (H : Hp) (p : Pk) : Prop := H p.t = some (.tup [kV p.k, p.v])
noncomputable def putAllK (kvs : List (Key × V)) (ps : List Pk) : List (Key × V) := ps.foldl (fun acc p => putK acc p.k p.v) kvs
section
variable {X : Cx} {pins : List (Addr × Obj)} {σ : St} {H : Hp}
theorem updLoopK {A : Around} {E : Value → Shared → Prop} {R : Result → Shared → Prop} {d it l : Addr} {ps : List Pk} (hh : A.handled = none) (hu : A.units + 1 < cLine) (hl : H l = some (.lst (ps.map fun p => V.ref p.t))) (hp : ∀ p ∈ ps, p.At H) (hd : H d = none) (hit : H it = none) (hdi : d ≠ it) :
    ∀ (n i : Nat) (s : Shared) (kvs : List (Key × V)), ps.length - i = n → i ≤ ps.length → kvs.length + n ≤ sizeLine → Inv X pins σ (upd H d (.dK kvs)) s → FpOk X pins (upd H d (.dK kvs)) it → s.heap.IsListIter it l i →
      (∀ s', Inv X pins σ (upd H d (.dK (putAllK kvs (ps.drop i)))) s' → R (.ok (.ret .none)) s') →
      codeAny (model X.prog X.w) A (.builtin "dict.update.loop" ⟨[.ref d, .ref it, rawInt i, .none], []⟩) R s := by
  intro n
  induction n with
  | zero =>
    intro i s kvs hn hi hz I fp st k
    have e : i = ps.length := by omega
    refine codeAny_builtin entry_updLoop ?_
    rw [Around.under_plainId plain_updLoop _]
    have hl' : (upd H d (.dK kvs)) l = some (.lst (ps.map fun p => V.ref p.t)) := (Same.new hd) _ _ hl
    obtain ⟨z, its, m, r, len, el⟩ := I.lstM hl'
    refine (show wpAny _ A.in1 (pyNext (.ref it) >>= _) _ _ s from wpAny_bind (wpAny_pyNext_list_end (show A.in1.handled = none from hh) st ⟨_, el, rfl, _, rfl⟩ (by rw [List.length_map] at len; simp; omega) fun g eb => ?_))
    have I1 := I.turned (t' := s.toks) (h' := g) (fun b o hb e => eb b o hb e) fp.1 fp.2.1 fp.2.2.2.1 fp.2.2.2.2.1 fp.2.2.2.2.2
    rw [e, List.drop_length] at k
    exact wpAny_bind (wpAny_pure (wpAny_pure (k _ I1)))
  | succ n ih =>
    intro i s kvs hn hi hz I fp st k
    have lt : i < ps.length := by omega
    have ei : ps[i]? = some ps[i] := List.getElem?_eq_getElem lt
    have ht : H ps[i].t = some (.tup [kV ps[i].k, ps[i].v]) := hp ps[i] (List.getElem_mem lt)
    refine codeAny_builtin entry_updLoop ?_
    rw [Around.under_plainId plain_updLoop _]
    have hl' : (upd H d (.dK kvs)) l = some (.lst (ps.map fun p => V.ref p.t)) := (Same.new hd) _ _ hl
    have ht' : (upd H d (.dK kvs)) ps[i].t = some (.tup [kV ps[i].k, ps[i].v]) := (Same.new hd) _ _ ht
    obtain ⟨z, its, m, r, len, el⟩ := I.lstM hl'
    obtain ⟨u, eu, ru⟩ := r.get (i := i) (x := V.ref ps[i].t) (by rw [List.getElem?_map, ei]; rfl)
    obtain rfl : u = Value.ref ps[i].t := ru
    refine (show wpAny _ A.in1 (pyNext (.ref it) >>= _) _ _ s from wpAny_bind (wpAny_pyNext_list_item st ⟨_, el, rfl, _, rfl⟩ (x := Value.ref ps[i].t) (by simpa using eu) fun g st' sb => ?_))
    have I1 : Inv X pins σ (upd H d (.dK kvs)) { s with heap := g } := I.turned (t' := s.toks) (fun b o hb e => sb.extBut b o hb e) fp.1 fp.2.1 fp.2.2.2.1 fp.2.2.2.2.1 fp.2.2.2.2.2
    obtain ⟨_, prs, rp, ot, eo, co, nt, dt⟩ := (show ObjOk X.prog X.w _ g ps[i].t (.tup [kV ps[i].k, ps[i].v]) from I1.hok _ _ ht')
    obtain ⟨u1, u2, rfl, r1, r2⟩ := vals2 rp
    refine wpAny_bind (wpAny_holding (wpAny_bind (wpAny_tryCatch ?_)))
    unfold Builtin.Dict.pairItems
    refine wpAny_bind (wpAny_typeOf (T := "tuple") ⟨ot, eo, co⟩ ?_)
    rw [if_pos (by decide)]
    refine wpAny_bind (wpAny_seqItems eo dt (wpAny_pure ?_))
    obtain ⟨zz, hd2, vs, rel, dd⟩ := dk_of I1.hok (show (upd H d (.dK kvs)) d = some (.dK kvs) from upd_same)
    have xl : vs.length = kvs.length := rel.length.symm
    refine wpAny_holding (wpAny_dictSet_pairs (knd := mixKind X.prog X.w) (hsz := by rw [xl]; omega) (kV_is r1) dd fun g2 dd2 sb2 => ?_)
    have hl2 : (putK kvs ps[i].k ps[i].v).length ≤ sizeLine := by have := length_putK kvs ps[i].k ps[i].v; omega
    have he2 : ∃ q, g2.get? d = some q := let ⟨q, _, _, hq, _⟩ := dd2; ⟨q, hq⟩
    have I2 := d_write (ob := .dK (putK kvs ps[i].k ps[i].v)) (t' := s.toks + 1) I1 (by rw [upd_same]; exact True.intro) sb2 he2 (dk_new hl2 hd2 (rel.put ps[i].k r2) dd2)
    rw [upd_upd] at I2
    have fp2 : FpOk X pins (upd H d (.dK (putK kvs ps[i].k ps[i].v))) it := ⟨by rw [upd_ne (Ne.symm hdi)]; exact hit, fp.2⟩
    refine wpAny_pure ⟨plainId_quiet plain_updLoop _, ?_⟩
    have st2 : g2.IsListIter it l (i + 1) := st'.extBut sb2.extBut (Ne.symm hdi)
    refine ih (i + 1) _ (putK kvs ps[i].k ps[i].v) (by omega) lt ?_ I2 fp2 st2 fun s' I' => k s' ?_
    · have := length_putK kvs ps[i].k ps[i].v; omega
    · rw [List.drop_eq_getElem_cons lt]
      exact I'
theorem call_dictPks (hc : X.calm = true) (hu : X.A.units + 64 < cLine) : CallR X (.type "dict") (fun xs H Q => ∃ (l : Addr) (ps : List Pk), xs = [.ref l] ∧ H l = some (.lst (ps.map fun p => V.ref p.t)) ∧ (∀ p ∈ ps, p.At H) ∧ ps.length ≤ 1000 ∧ ∀ d, H d = none → Q (.ref d) (upd H d (.dK (putAllK [] ps)))) := by
  intro pins s σ H xs us Q I r h
  obtain ⟨l, ps, rfl, hl, hp, hz, q⟩ := h
  obtain ⟨u, rfl, rx⟩ := vals1 r
  cases rx
  have nd : H s.heap.objs.size = none := I.fresh
  have I1 : Inv X pins σ (upd H s.heap.objs.size (.dK [])) { s with heap := s.heap.push { cls := .type "dict", data := .dict #[] } } := I.laid (t' := s.toks) (fun b o e => Heap.get?_push_of_some _ e) (Nat.le_refl _) (dk_empty _ I.big)
  obtain ⟨_, its, m, rv, len, el⟩ := I1.lstM ((Same.new nd) _ _ hl)
  have ty : Shared.TypeIs { s with heap := s.heap.push { cls := .type "dict", data := .dict #[] } } (.ref s.heap.objs.size) "dict" := ⟨_, Heap.get?_push_size _ rfl, rfl⟩
  refine callType_codes (Q₁ := fun obj s₁ => obj = .ref s.heap.objs.size ∧ s₁ = { s with heap := s.heap.push { cls := .type "dict", data := .dict #[] } }) F.kt_called_dict (F.kt_typeCall_dict_1 _) F.entry_dict_init (kt_code_dict_new _ ⟨rfl, rfl⟩) ?_
  rintro obj s₁ ⟨rfl, rfl⟩
  refine ⟨ty, F.args_dict_init_2 _ _, ?_⟩
  unfold Builtin.«dict.__init__» Builtin.Dict.selfAndRest
  refine wpAny_bind (wpAny_bind (wpAny_notOrdered_dict ty (wpAny_pure ?_)))
  refine (show wpAny _ _ (Builtin.Dict.updateFrom "dict.__init__" s.heap.objs.size (.ref l) [] .none) _ _ _ from ?_)
  unfold Builtin.Dict.updateFrom
  refine wpAny_bind (wpAny_typeOf (T := "list") ⟨_, el, rfl⟩ ?_)
  rw [if_pos (by decide)]
  refine wpAny_bind (keysNone (show X.A.in1.in1.handled = none from I.ok.hd hc) el fun g tk kp => ?_)
  have I2 : Inv X pins σ (upd H s.heap.objs.size (.dK [])) { s with heap := g, toks := tk } := I1.kept kp
  have el2 := kp _ _ el
  rw [if_pos (by rfl)]
  refine wpAny_bind (wpAny_rule (wpAny_bind (wpAny_pyIter_list (s := { s with heap := g, toks := tk }) ⟨_, el2, rfl, _, rfl⟩ ?_)))
  have nit : (upd H s.heap.objs.size (.dK [])) g.objs.size = none := I2.hok.fresh (Nat.le_refl _)
  have hne : s.heap.objs.size ≠ g.objs.size := fun z => by rw [← z, upd_same] at nit; cases nit
  have I3 := I2.kept (t' := tk) (h' := g.push { cls := .type "list_iterator", data := .fields #[.ref l, .int 0 0] }) fun b o e => Heap.get?_push_of_some _ e
  refine wpAny_pure ⟨plainId_quiet plain_updLoop _, ?_⟩
  refine updLoopK (E := X.xe) (H := H) (ps := ps) (l := l) (show X.A.in1.handled = none from I.ok.hd hc) (show X.A.units + 1 + 1 < cLine by omega) hl hp nd (by rw [upd_ne (Ne.symm hne)] at nit; exact nit) hne ps.length 0 _ [] rfl (Nat.zero_le _) (Nat.le_of_lt (small1000 (by simpa using hz))) I3 (I2.fpOk (Nat.le_refl _) nit) ⟨_, Heap.get?_push_size _ rfl, rfl, rfl⟩ fun s' I' => ?_
  exact ⟨rfl, .ref s.heap.objs.size, _, I', rfl, q _ nd⟩
end
end L2

namespace L2
open PySem PySem.Spec PyProof.Rows
/-! ### own rules of a part -/
theorem within_due : ∀ m, m < 8 → ∀ p, p < 2 ^ m → (setsN m).filter (fun x => decide (x &&& p = x)) = dueN p := by decide +kernel
theorem cols_seven : ∀ m, m < 8 → ∀ a, a < 2 ^ m → colsN a = (List.range m).filter (hasB a) := by decide +kernel
theorem due_in : ∀ p, p < 128 → (dueN p).all (fun x => decide (x &&& p = x) && decide (x < 128)) = true := by decide +kernel
/-- the columns of the part that the set settles and has not -/
noncomputable def freshN (m : Nat) (rs : List RD) (p x : Nat) : Nat := (fixF m rs x &&& p) - ((fixF m rs x &&& p) &&& x)
theorem fresh_lt (m : Nat) (rs : List RD) (p x : Nat) : freshN m rs p x < 2 ^ m := by
  have h1 := fixF_lt m rs x
  have h2 : fixF m rs x &&& p ≤ fixF m rs x := Nat.and_le_left
  unfold freshN
  omega
theorem fresh_bits {m p x : Nat} {rs : List RD} (k : Nat) : HasB (freshN m rs p x) k ↔ HasB (fixF m rs x) k ∧ HasB p k ∧ ¬ HasB x k := by
  unfold freshN
  rw [hasb_out, hasb_and, and_assoc]
noncomputable def heldB (f : List RD) (x c : Nat) : Bool := f.any fun r => decide (r.2.2 = 2 ^ c) && decide (r.2.1 &&& x = r.2.1)
noncomputable def ownC (m : Nat) (rs : List RD) (p x : Nat) (f : List RD) (c : Nat) : List RD := if (hasB (freshN m rs p x) c && !heldB f x c) = true then f ++ [(true, x, 2 ^ c)] else f
noncomputable def ownX (m : Nat) (rs : List RD) (p : Nat) (f : List RD) (x : Nat) : List RD := (List.range m).foldl (ownC m rs p x) f
noncomputable def ownL (m : Nat) (rs : List RD) (p : Nat) : List RD := (dueN p).foldl (ownX m rs p) []
theorem fold_filter {α β : Type} (g : β → α → β) (P : α → Bool) (h : ∀ b a, P a = false → g b a = b) : ∀ (l : List α) (b : β), (l.filter P).foldl g b = l.foldl g b
  | [], b => rfl
  | a :: l, b => by
    cases e : P a with
    | true => rw [List.filter_cons_of_pos e, List.foldl_cons, List.foldl_cons]; exact fold_filter g P h l _
    | false => rw [List.filter_cons_of_neg (by rw [e]; exact Bool.false_ne_true), List.foldl_cons, h b a e]; exact fold_filter g P h l b
theorem ownX_cols {m p x : Nat} {rs : List RD} (m7 : m ≤ 7) (f : List RD) : (colsN (freshN m rs p x)).foldl (ownC m rs p x) f = ownX m rs p f x := by
  rw [cols_seven m (by omega) _ (fresh_lt m rs p x)]
  exact fold_filter _ _ (fun b a e => by unfold ownC; rw [e]; rfl) _ _
theorem ownC_len (m : Nat) (rs : List RD) (p x : Nat) (f : List RD) (c : Nat) : (ownC m rs p x f c).length ≤ f.length + 1 := by
  unfold ownC
  split
  · rw [List.length_append]; exact Nat.le_refl _
  · exact Nat.le_succ _
theorem fold_len {α β : Type} (g : List β → α → List β) (k : Nat) (h : ∀ f a, (g f a).length ≤ f.length + k) : ∀ (l : List α) (f : List β), (l.foldl g f).length ≤ f.length + k * l.length
  | [], f => by simp
  | a :: l, f => by
    have h1 := fold_len g k h l (g f a)
    have h2 := h f a
    rw [List.foldl_cons, List.length_cons, Nat.mul_succ]
    omega
theorem ownX_len (m : Nat) (rs : List RD) (p : Nat) (f : List RD) (x : Nat) : (ownX m rs p f x).length ≤ f.length + m := by
  have := fold_len _ 1 (ownC_len m rs p x) (List.range m) f
  rw [List.length_range, Nat.one_mul] at this
  exact this
theorem ownT_len {m p : Nat} {rs : List RD} (m7 : m ≤ 7) (hp : p < 128) (i : Nat) : (((dueN p).take i).foldl (ownX m rs p) []).length ≤ 896 := by
  have h1 := fold_len _ m (ownX_len m rs p) ((dueN p).take i) []
  have h2 : ((dueN p).take i).length ≤ (dueN p).length := List.length_take_le' i _
  have h3 := (due_len p hp).2
  have h4 : m * ((dueN p).take i).length ≤ 7 * 128 := Nat.mul_le_mul m7 (by omega)
  rw [List.length_nil] at h1
  omega
theorem own_succ {m p i x : Nat} {rs : List RD} (h : (dueN p)[i]? = some x) : ((dueN p).take (i + 1)).foldl (ownX m rs p) [] = ownX m rs p (((dueN p).take i).foldl (ownX m rs p) []) x := by
  rw [List.take_succ, h, List.foldl_append]; rfl
/-- the lefts found so far for a column -/
noncomputable def leftsOf (f : List RD) (c : Nat) : List Nat := (f.filter fun r => decide (r.2.2 = 2 ^ c)).map (·.2.1)
theorem lefts_held (f : List RD) (x c : Nat) : wiB x (leftsOf f c) = heldB f x c := by
  unfold wiB leftsOf heldB
  rw [List.any_map]
  induction f with
  | nil => rfl
  | cons r f ih =>
    rw [List.any_cons, ← ih]
    cases e : decide (r.2.2 = 2 ^ c) with
    | true => rw [List.filter_cons_of_pos (p := fun r : RD => decide (r.2.2 = 2 ^ c)) e, List.any_cons]; rfl
    | false => rw [List.filter_cons_of_neg (p := fun r : RD => decide (r.2.2 = 2 ^ c)) (by rw [e]; exact Bool.false_ne_true)]; rfl
theorem lefts_len (f : List RD) (c : Nat) : (leftsOf f c).length ≤ f.length := by
  unfold leftsOf
  rw [List.length_map]
  exact List.length_filter_le _ _
theorem lefts_snoc (f : List RD) (x c : Nat) (c' : Nat) : leftsOf (f ++ [(true, x, 2 ^ c)]) c' = if c = c' then leftsOf f c' ++ [x] else leftsOf f c' := by
  unfold leftsOf
  rw [List.filter_append, List.map_append]
  by_cases e : c = c'
  · subst e
    rw [if_pos rfl, List.filter_cons_of_pos (p := fun r : RD => decide (r.2.2 = 2 ^ c)) (decide_eq_true rfl)]; rfl
  · have : ¬ 2 ^ c = 2 ^ c' := fun z => e ((Nat.pow_right_inj (by decide)).mp z)
    rw [if_neg e, List.filter_cons_of_neg (p := fun r : RD => decide (r.2.2 = 2 ^ c')) (by show ¬ decide (2 ^ c = 2 ^ c') = true; rw [decide_eq_false this]; exact Bool.false_ne_true), List.filter_nil, List.map_nil, List.append_nil]
theorem valV_other {k : Key} : ∀ (ps : List Pk) (kvs : List (Key × V)), (∀ p ∈ ps, p.k ≠ k) → valV (putAllK kvs ps) k = valV kvs k
  | [], kvs, _ => rfl
  | p :: ps, kvs, h => by
    show valV (putAllK (putK kvs p.k p.v) ps) k = _
    rw [valV_other ps _ fun q hq => h q (List.mem_cons_of_mem _ hq), valV_put, if_neg fun z => h p (List.mem_cons_self ..) z.symm]
theorem valV_all : ∀ (ps : List Pk) (kvs : List (Key × V)), ps.Pairwise (fun a b => a.k ≠ b.k) → ∀ p ∈ ps, valV (putAllK kvs ps) p.k = some p.v
  | p :: ps, kvs, h, q, hq => by
    obtain ⟨h1, h2⟩ := List.pairwise_cons.mp h
    show valV (putAllK (putK kvs p.k p.v) ps) q.k = _
    rcases List.mem_cons.mp hq with rfl | hq
    · rw [valV_other ps _ fun a ha => Ne.symm (h1 a ha), valV_put, if_pos rfl]
    · exact valV_all ps _ h2 q hq
/-- the dict of lefts beside the rules found -/
structure LeftsA (H : Hp) (p : Nat) (dA fp : Addr) (kvs : List (Key × V)) (la : Nat → Addr) (f : List RD) (H' : Hp) : Prop where
  d : H' dA = some (.dK kvs)
  val : ∀ c ∈ colsN p, valV kvs (.inl (c : Int)) = some (.ref (la c))
  own : ∀ c ∈ colsN p, H' (la c) = some (.lst ((leftsOf f c).map vN))
  new : ∀ c ∈ colsN p, H (la c) = none
  nfp : ∀ c ∈ colsN p, la c ≠ fp
  inj : ∀ c ∈ colsN p, ∀ c' ∈ colsN p, la c = la c' → c = c'
theorem LeftsA.same {H H1 H2 : Hp} {p : Nat} {dA fp : Addr} {kvs : List (Key × V)} {la : Nat → Addr} {f : List RD} (L : LeftsA H p dA fp kvs la f H1) (e : Same H1 H2) : LeftsA H p dA fp kvs la f H2 :=
  ⟨e _ _ L.d, L.val, fun c hc => e _ _ (L.own c hc), L.new, L.nfp, L.inj⟩
theorem LeftsA.put {H H1 : Hp} {p : Nat} {dA fp : Addr} {kvs : List (Key × V)} {la : Nat → Addr} {f : List RD} {xs ys : List V} (L : LeftsA H p dA fp kvs la f H1) (hf : H1 fp = some (.lst xs)) : LeftsA H p dA fp kvs la f (upd H1 fp (.lst ys)) :=
  ⟨by rw [upd_ne (ne_of L.d hf (by intro z; cases z))]; exact L.d, L.val, fun c hc => by rw [upd_ne (L.nfp c hc)]; exact L.own c hc, L.new, L.nfp, L.inj⟩
theorem LeftsA.add {H H1 : Hp} {p : Nat} {dA fp : Addr} {kvs : List (Key × V)} {la : Nat → Addr} {f : List RD} {x c : Nat} (L : LeftsA H p dA fp kvs la f H1) (hc : c ∈ colsN p) : LeftsA H p dA fp kvs la (f ++ [(true, x, 2 ^ c)]) (upd H1 (la c) (.lst ((leftsOf f c).map vN ++ [vN x]))) := by
  refine ⟨by rw [upd_ne (ne_of L.d (L.own c hc) (by intro z; cases z))]; exact L.d, L.val, fun c' hc' => ?_, L.new, L.nfp, L.inj⟩
  rw [lefts_snoc]
  by_cases e : c = c'
  · subst e
    rw [upd_same, if_pos rfl, List.map_append]; rfl
  · rw [upd_ne fun z => e (L.inj c' hc' c hc z).symm, if_neg e]
    exact L.own c' hc'
noncomputable def spHoldsW (K : PySem.W.Frag) : Sp := fun vs H Q _ => ∃ (x : Nat) (p : Addr) (f : List Nat), vs = [vN x, .ref p] ∧ SqL K H p (f.map vN) ∧ f.length ≤ 1000 ∧ ∀ H', Same H H' → Q (.bl (wiB x f)) H'
noncomputable def spOwn (K : PySem.W.Frag) : Sp := fun vs H Q _ => ∃ (m p : Nat) (rl : Addr) (rs : List Rl), vs = [vN m, .ref rl, vN p] ∧ m ≤ 7 ∧ p < 2 ^ m ∧ SqL K H rl (rs.map fun r => V.ref r.r) ∧ RulesAt H m rs ∧ rs.length ≤ 200 ∧
  ∀ (fp : Addr) (ss : List Rl) (H' : Hp), Same H H' → H fp = none → H' fp = some (.lst (ss.map fun r => V.ref r.r)) → RulesAt H' m ss → ss.map Rl.d = ownL m (rs.map Rl.d) p → Q (.ref fp) H'
noncomputable def spPart70 (K : PySem.W.Frag) : Sp := fun vs H Q _ => ∃ (st : Addr) (ns : List Int) (k m : Nat), vs = [.ref st, vN m] ∧ STF K H st ns k ∧ k ≤ 900000 ∧ ns.length ≤ 63 ∧ 1 ≤ m ∧ m ≤ 7 ∧
  ∀ (r k' : Nat) (H' : Hp), r < 2 ^ m → k' ≤ k + 3 → STF K H' st ns k' → But st H H' → Q (vN r) H'
end L2

namespace L2
open PySem PySem.Spec PyProof.Rows
/-! ### what own rules hold; books evened out -/
theorem held_more {f g : List RD} {x c : Nat} (h : heldB f x c = true) (hp : f <+: g) : heldB g x c = true := by
  obtain ⟨t, rfl⟩ := hp
  unfold heldB at h ⊢
  rw [List.any_append, h, Bool.true_or]
theorem ownC_pre (m : Nat) (rs : List RD) (p x : Nat) (f : List RD) (c : Nat) : f <+: ownC m rs p x f c := by
  unfold ownC
  split
  · exact List.prefix_append _ _
  · exact List.prefix_rfl
theorem fold_pre {α β : Type} (g : List β → α → List β) (h : ∀ f a, f <+: g f a) : ∀ (l : List α) (f : List β), f <+: l.foldl g f
  | [], f => List.prefix_rfl
  | a :: l, f => (h f a).trans (fold_pre g h l _)
theorem ownX_pre (m : Nat) (rs : List RD) (p : Nat) (f : List RD) (x : Nat) : f <+: ownX m rs p f x := fold_pre _ (ownC_pre m rs p x) _ _
theorem fold_hit {α β : Type} (g : List β → α → List β) (h : ∀ f a, f <+: g f a) {a : α} : ∀ (l : List α) (f : List β), a ∈ l → ∃ f', g f' a <+: l.foldl g f
  | b :: l, f, hm => by
    rcases List.mem_cons.mp hm with rfl | hm
    · exact ⟨f, fold_pre g h l _⟩
    · exact fold_hit g h l _ hm
theorem own_held {m p x c : Nat} {rs : List RD} (hx : x ∈ dueN p) (hc : c < m) (hf : hasB (freshN m rs p x) c = true) : heldB (ownL m rs p) x c = true := by
  obtain ⟨f1, h1⟩ := fold_hit _ (ownX_pre m rs p) (dueN p) [] hx
  obtain ⟨f2, h2⟩ := fold_hit _ (ownC_pre m rs p x) (List.range m) f1 (List.mem_range.mpr hc)
  refine held_more (held_more (f := ownC m rs p x f2 c) ?_ h2) h1
  unfold ownC
  cases e : heldB f2 x c with
  | true => rw [hf]; exact e
  | false =>
    rw [hf]
    show heldB (f2 ++ [(true, x, 2 ^ c)]) x c = true
    unfold heldB
    rw [List.any_append]
    simp
theorem fold_all {α β : Type} (g : List β → α → List β) (P : β → Prop) (l0 : List α) (h : ∀ f a, a ∈ l0 → (∀ b ∈ f, P b) → ∀ b ∈ g f a, P b) : ∀ (l : List α) (f : List β), (∀ a ∈ l, a ∈ l0) → (∀ b ∈ f, P b) → ∀ b ∈ l.foldl g f, P b
  | [], f, _, hf => hf
  | a :: l, f, hl, hf => fold_all g P l0 h l _ (fun b hb => hl b (List.mem_cons_of_mem _ hb)) (h f a (hl a (List.mem_cons_self ..)) hf)
/-- what each own rule is -/
noncomputable def OwnP (m : Nat) (rs : List RD) (p : Nat) (r : RD) : Prop := ∃ x c, r = (true, x, 2 ^ c) ∧ x ∈ dueN p ∧ c < m ∧ HasB (freshN m rs p x) c
theorem own_mem {m p : Nat} {rs : List RD} (m7 : m ≤ 7) : ∀ r ∈ ownL m rs p, OwnP m rs p r := by
  refine fold_all _ (OwnP m rs p) (dueN p) (fun f x hx hf => ?_) (dueN p) [] (fun _ h => h) fun b h => absurd h List.not_mem_nil
  refine fold_all _ (OwnP m rs p) (List.range m) (fun f c hc hf b hb => ?_) (List.range m) f (fun _ h => h) hf
  unfold ownC at hb
  split at hb
  · rename_i e
    rcases List.mem_append.mp hb with hb | hb
    · exact hf b hb
    · rw [Bool.and_eq_true] at e
      have flt := fresh_lt m rs p x
      have p7 := pow7 m7
      have h1 : c ∈ colsN (freshN m rs p x) := by
        rw [cols_seven m (by omega) _ flt]
        exact List.mem_filter.mpr ⟨hc, e.1⟩
      exact ⟨x, c, List.mem_singleton.mp hb, hx, List.mem_range.mp hc, (cols_mem (by omega) c).mp h1⟩
  · exact hf b hb
theorem due_mem {m p x : Nat} (m7 : m ≤ 7) (hp : p < 2 ^ m) : x ∈ dueN p ↔ x < 2 ^ m ∧ x &&& p = x := by
  rw [← within_due m (by omega) p hp, List.mem_filter, decide_eq_true_iff]
  constructor
  · rintro ⟨_, h⟩
    exact ⟨Nat.lt_of_le_of_lt (by rw [← h]; exact Nat.and_le_right) hp, h⟩
  · rintro ⟨h1, h2⟩
    exact ⟨List.contains_iff_mem.mp (sets_all m (by omega) x h1), h2⟩
/-! rows in the heap -/
end L2

namespace L2
open PySem PySem.W PyProof.Rows
namespace ST
/-! ### what the library's tree of questions comes to, where each question has an answer -/
/-! the order asked for -/
section
variable {lt : Nat → Nat → Bool}
/-! what is asked for -/
section
variable {N : Nat} (h0 : 0 < N)
include h0
end
end
end ST
end L2

namespace L2
open PySem PySem.W PyProof.Rows
namespace ST
/-! ### rows in their order -/
section
variable {prog : Program} {w : World} {A : Around} {E : Value → Shared → Prop} {s : Shared}
end
end ST
end L2

namespace L2
open PySem PySem.W PyProof.Rows
namespace SR
/-! ### the pieces of list.sort by their names -/
/-- an order: its questions and what follows from the answers -/
structure TO (L : Keyed → Keyed → Bool) : Prop where
  as_ : ∀ {x y}, L x y = true → L y x = false
  tr : ∀ {x y z}, L y x = false → L z y = false → L z x = false
section
variable {prog : Program} {w : World} {A : Around} {E : Value → Shared → Prop} {s : Shared} {κ : SortKind} {U : Keyed → Prop} {L : Keyed → Keyed → Bool}
/-! what galloping asks, as truths -/
end
end SR
end L2

namespace L2
open PySem PySem.W PyProof.Rows
namespace SR
/-! ### two sorted lists made one: mathematics -/
section
variable {L : Keyed → Keyed → Bool} {la lb out ro : List Keyed} {ia ib na nb k : Nat}
/-- not after -/
noncomputable abbrev Le (L : Keyed → Keyed → Bool) (x y : Keyed) : Prop := L y x = false
noncomputable abbrev Inc (L : Keyed → Keyed → Bool) (l : List Keyed) : Prop := l.Pairwise (Le L)
theorem Le.trans (O : TO L) {x y z : Keyed} (h : Le L x y) (g : Le L y z) : Le L x z := O.tr h g
theorem Inc.le (S : Inc L la) {i j : Nat} {x y : Keyed} (hi : la[i]? = some x) (hj : la[j]? = some y) (h : i < j) : Le L x y := by
  obtain ⟨h1, e1⟩ := List.getElem?_eq_some_iff.mp hi
  obtain ⟨h2, e2⟩ := List.getElem?_eq_some_iff.mp hj
  have := List.pairwise_iff_getElem.mp S i j h1 h2 h
  rw [e1, e2] at this
  exact this
theorem irr (O : TO L) (x : Keyed) : Le L x x := by
  show L x x = false
  cases c : L x x with
  | false => rfl
  | true => have := O.as_ c; rw [c] at this; exact this
theorem Inc.le' (O : TO L) (S : Inc L la) {i j : Nat} {x y : Keyed} (hi : la[i]? = some x) (hj : la[j]? = some y) (h : i ≤ j) : Le L x y := by
  rcases Nat.lt_or_ge i j with c | c
  · exact S.le hi hj c
  · have : i = j := by omega
    subst this
    rw [hi] at hj
    cases hj
    exact irr O x
theorem mem_drop {l : List Keyed} {i : Nat} {y : Keyed} (h : y ∈ l.drop i) : ∃ j, i ≤ j ∧ l[j]? = some y := by
  obtain ⟨j, hj⟩ := List.mem_iff_getElem?.mp h
  rw [List.getElem?_drop] at hj
  exact ⟨i + j, by omega, hj⟩
theorem mem_take {l : List Keyed} {n : Nat} {y : Keyed} (h : y ∈ l.take n) : ∃ j, j < n ∧ l[j]? = some y := by
  obtain ⟨j, hj⟩ := List.mem_iff_getElem?.mp h
  rw [List.getElem?_take] at hj
  split at hj
  · exact ⟨j, by assumption, hj⟩
  · cases hj
structure LI (L : Keyed → Keyed → Bool) (la lb out : List Keyed) (ia ib : Nat) : Prop where
  perm : out.Perm (la.take ia ++ lb.take ib)
  srt : Inc L out
  ha : ∀ x ∈ out, ∀ y ∈ la.drop ia, Le L x y
  hb : ∀ x ∈ out, ∀ y ∈ lb.drop ib, Le L x y
theorem LI.swap (I : LI L la lb out ia ib) : LI L lb la out ib ia := ⟨I.perm.trans List.perm_append_comm, I.srt, I.hb, I.ha⟩
theorem LI.take (Sa : Inc L la) (I : LI L la lb out ia ib) (k : Nat) (h : ∀ x ∈ (la.drop ia).take k, ∀ y ∈ lb.drop ib, Le L x y) : LI L la lb (out ++ (la.drop ia).take k) (ia + k) ib := by
  have sd : Inc L (la.drop ia) := List.Pairwise.sublist (List.drop_sublist ..) Sa
  have sc : Inc L ((la.drop ia).take k ++ (la.drop ia).drop k) := by rw [List.take_append_drop]; exact sd
  have sp := List.pairwise_append.mp sc
  refine ⟨?_, List.pairwise_append.mpr ⟨I.srt, sp.1, fun x hx y hy => I.ha x hx y (List.mem_of_mem_take hy)⟩, fun x hx y hy => ?_, fun x hx y hy => ?_⟩
  · rw [List.take_add]
    refine (I.perm.append_right _).trans ?_
    rw [List.append_assoc, List.append_assoc]
    exact List.Perm.append_left _ List.perm_append_comm
  · rw [← List.drop_drop] at hy
    rcases List.mem_append.mp hx with hx | hx
    · exact I.ha x hx y (List.mem_of_mem_drop hy)
    · exact sp.2.2 x hx y hy
  · rcases List.mem_append.mp hx with hx | hx
    · exact I.hb x hx y hy
    · exact h x hx y hy
theorem LI.fin (Sa : Inc L la) (Sb : Inc L lb) (I : LI L la lb out ia ib) (h : ∀ x ∈ la.drop ia, ∀ y ∈ lb.drop ib, Le L x y) : (out ++ la.drop ia ++ lb.drop ib).Perm (la ++ lb) ∧ Inc L (out ++ la.drop ia ++ lb.drop ib) := by
  have J := I.take Sa (la.length - ia) fun x hx y hy => h x (List.mem_of_mem_take hx) y hy
  have e1 : (la.drop ia).take (la.length - ia) = la.drop ia := List.take_of_length_le (by simp)
  rw [e1] at J
  have J2 := J.swap.take Sb (lb.length - ib) fun x hx y hy => by
    rw [List.drop_eq_nil_of_le (by omega)] at hy; cases hy
  rw [List.take_of_length_le (by simp)] at J2
  refine ⟨J2.perm.trans ?_, J2.srt⟩
  rw [List.take_of_length_le (by omega), List.take_of_length_le (by omega)]
  exact List.perm_append_comm
structure HI (L : Keyed → Keyed → Bool) (la lb ro : List Keyed) (na nb : Nat) : Prop where
  perm : ro.Perm (la.drop na ++ lb.drop nb)
  srt : Inc L ro
  ha : ∀ x ∈ la.take na, ∀ y ∈ ro, Le L x y
  hb : ∀ x ∈ lb.take nb, ∀ y ∈ ro, Le L x y
theorem HI.swap (I : HI L la lb ro na nb) : HI L lb la ro nb na := ⟨I.perm.trans List.perm_append_comm, I.srt, I.hb, I.ha⟩
theorem HI.drop (Sa : Inc L la) (I : HI L la lb ro na nb) (k : Nat) (hk : k ≤ na) (h : ∀ x ∈ lb.take nb, ∀ y ∈ (la.take na).drop k, Le L x y) : HI L la lb ((la.take na).drop k ++ ro) k nb := by
  have sd : Inc L (la.take na) := List.Pairwise.sublist (List.take_sublist ..) Sa
  have sc : Inc L ((la.take na).take k ++ (la.take na).drop k) := by rw [List.take_append_drop]; exact sd
  have sp := List.pairwise_append.mp sc
  have ek : (la.take na).take k = la.take k := by rw [List.take_take, Nat.min_eq_left hk]
  refine ⟨?_, List.pairwise_append.mpr ⟨sp.2.1, I.srt, fun x hx y hy => I.ha x (List.mem_of_mem_drop hx) y hy⟩, fun x hx y hy => ?_, fun x hx y hy => ?_⟩
  · have e : la.drop k = (la.take na).drop k ++ la.drop na := by
      rcases Nat.lt_or_ge la.length na with c | c
      · rw [List.take_of_length_le (by omega), List.drop_eq_nil_of_le (i := na) (by omega), List.append_nil]
      · conv => lhs; rw [← List.take_append_drop na la]
        rw [List.drop_append_of_le_length (by rw [List.length_take]; omega)]
    rw [e, List.append_assoc]
    exact I.perm.append_left _
  · rw [← ek] at hx
    rcases List.mem_append.mp hy with hy | hy
    · exact sp.2.2 x hx y hy
    · exact I.ha x (List.mem_of_mem_take hx) y hy
  · rcases List.mem_append.mp hy with hy | hy
    · exact h x hx y hy
    · exact I.hb x hx y hy
theorem HI.fin (Sa : Inc L la) (Sb : Inc L lb) (I : HI L la lb ro na nb) (h : ∀ x ∈ la.take na, ∀ y ∈ lb.take nb, Le L x y) : (la.take na ++ lb.take nb ++ ro).Perm (la ++ lb) ∧ Inc L (la.take na ++ lb.take nb ++ ro) := by
  have J := I.swap.drop Sb 0 (Nat.zero_le _) fun x hx y hy => h x hx y (List.mem_of_mem_drop hy)
  have J2 := J.swap.drop Sa 0 (Nat.zero_le _) fun x hx y hy => by rw [List.take_zero] at hx; cases hx
  rw [List.drop_zero, List.drop_zero] at J2
  rw [List.append_assoc]
  refine ⟨J2.perm.trans ?_, J2.srt⟩
  rw [List.drop_zero, List.drop_zero]
end
end SR
end L2

namespace L2
open PySem PySem.W PyProof.Rows
namespace SR
section
variable {L : Keyed → Keyed → Bool} {a b out : Array Keyed} {ia ib k : Nat} {x y : Keyed}
/-- what merging leaves alone -/
structure Kp (st st' : SortSt) : Prop where
  kind : kindOf st' = kindOf st
  arr : arrOf st' = arrOf st
  pend : pendingOf st' = pendingOf st
  failed : failedOf st' = failedOf st
theorem Kp.refl (st : SortSt) : Kp st st := ⟨rfl, rfl, rfl, rfl⟩
theorem ex_toList {a : Array Keyed} {i j : Nat} : (a.extract i j).toList = (a.toList.drop i).take (j - i) := by
  simp
theorem ex_all {a : Array Keyed} {i : Nat} : (a.extract i a.size).toList = a.toList.drop i := by
  rw [ex_toList]; exact List.take_of_length_le (by simp)
theorem get_l {a : Array Keyed} {i : Nat} : a.toList[i]? = a[i]? := by simp
theorem up (O : TO L) (Sa : Inc L a.toList) (h : a[ia]? = some x) (g : Le L y x) : ∀ z ∈ a.toList.drop ia, Le L y z := fun z hz => by
  obtain ⟨j, hj, ej⟩ := mem_drop hz
  rw [← get_l] at h
  exact g.trans O (Sa.le' O h ej hj)
noncomputable abbrev Fin (L : Keyed → Keyed → Bool) (a b r : Array Keyed) : Prop := r.toList.Perm (a.toList ++ b.toList) ∧ Inc L r.toList
noncomputable abbrev Lo (L : Keyed → Keyed → Bool) (a b out : Array Keyed) (ia ib : Nat) : Prop := LI L a.toList b.toList out.toList ia ib
theorem Lo.done (Sa : Inc L a.toList) (Sb : Inc L b.toList) (I : Lo L a b out ia ib) (h : ia = a.size ∨ ib = b.size) : Fin L a b (out ++ a.extract ia a.size ++ b.extract ib b.size) := by
  have := LI.fin Sa Sb I fun x hx y hy => by
    rcases h with h | h
    · rw [h, List.drop_eq_nil_of_le (by simp)] at hx; cases hx
    · rw [h, List.drop_eq_nil_of_le (by simp)] at hy; cases hy
  unfold Fin
  rw [Array.toList_append, Array.toList_append, ex_all, ex_all]
  exact this
theorem Lo.last (Sa : Inc L a.toList) (Sb : Inc L b.toList) (h1 : ∀ y ∈ b.toList, ∀ x, a[a.size - 1]? = some x → Le L y x) (I : Lo L a b out ia ib) (h : ia + 1 = a.size) : Fin L a b (out ++ b.extract ib b.size ++ a.extract ia a.size) := by
  have := LI.fin Sb Sa I.swap fun y hy x hx => by
    obtain ⟨j, hj, ej⟩ := mem_drop hx
    have hl := (List.getElem?_eq_some_iff.mp ej).1
    rw [Array.length_toList] at hl
    rw [get_l] at ej
    exact h1 y (List.mem_of_mem_drop hy) x (by rw [← ej]; congr 1; omega)
  unfold Fin
  rw [Array.toList_append, Array.toList_append, ex_all, ex_all]
  exact ⟨this.1.trans List.perm_append_comm, this.2⟩
end
section
variable {prog : Program} {w : World} {A : Around} {E : Value → Shared → Prop} {s : Shared} {κ : SortKind} {U : Keyed → Prop} {L : Keyed → Keyed → Bool}
end
end SR
end L2

set_option maxHeartbeats 1000000
namespace L2
open PySem PySem.W PyProof.Rows
namespace SR
section
variable {prog : Program} {w : World} {A : Around} {E : Value → Shared → Prop} {s : Shared} {κ : SortKind} {U : Keyed → Prop} {L : Keyed → Keyed → Bool}
end
end SR
end L2

set_option maxHeartbeats 1000000
namespace L2
open PySem PySem.W PyProof.Rows
namespace SR
section
variable {L : Keyed → Keyed → Bool} {a b out : Array Keyed} {na nb k : Nat} {x y : Keyed}
theorem dn (O : TO L) (Sa : Inc L a.toList) (h : a[na - 1]? = some x) (g : Le L x y) : ∀ z ∈ a.toList.take na, Le L z y := fun z hz => by
  obtain ⟨j, hj, ej⟩ := mem_take hz
  rw [← get_l] at h
  exact (Sa.le' O ej h (by omega)).trans O g
noncomputable abbrev Hi (L : Keyed → Keyed → Bool) (a b out : Array Keyed) (na nb : Nat) : Prop := HI L a.toList b.toList out.toList.reverse na nb
theorem ex0 {a : Array Keyed} {n : Nat} : (a.extract 0 n).toList = a.toList.take n := by rw [ex_toList]; rfl
theorem Hi.done (Sa : Inc L a.toList) (Sb : Inc L b.toList) (I : Hi L a b out na nb) (h : na = 0 ∨ nb = 0) : Fin L a b (a.extract 0 na ++ b.extract 0 nb ++ out.reverse) := by
  have := HI.fin Sa Sb I fun x hx y hy => by
    rcases h with h | h
    · rw [h] at hx; cases hx
    · rw [h] at hy; cases hy
  unfold Fin
  rw [Array.toList_append, Array.toList_append, ex0, ex0, Array.toList_reverse]
  exact this
theorem Hi.first (Sa : Inc L a.toList) (Sb : Inc L b.toList) (h0 : ∀ x ∈ a.toList, ∀ y, b[0]? = some y → Le L y x) (I : Hi L a b out na nb) (h : nb = 1) : Fin L a b (b.extract 0 nb ++ a.extract 0 na ++ out.reverse) := by
  have := HI.fin Sb Sa I.swap fun y hy x hx => by
    obtain ⟨j, hj, ej⟩ := mem_take hy
    rw [get_l] at ej
    exact h0 x (List.mem_of_mem_take hx) y (by rw [← ej]; congr 1; omega)
  unfold Fin
  rw [Array.toList_append, Array.toList_append, ex0, ex0, Array.toList_reverse]
  exact ⟨this.1.trans List.perm_append_comm, this.2⟩
end
section
variable {prog : Program} {w : World} {A : Around} {E : Value → Shared → Prop} {s : Shared} {κ : SortKind} {U : Keyed → Prop} {L : Keyed → Keyed → Bool}
end
end SR
end L2

set_option maxHeartbeats 1000000
namespace L2
open PySem PySem.W PyProof.Rows
namespace SR
/-! ### two neighbouring runs made one -/
section
variable {L : Keyed → Keyed → Bool}
end
section
variable {prog : Program} {w : World} {A : Around} {E : Value → Shared → Prop} {s : Shared} {κ : SortKind} {U : Keyed → Prop} {L : Keyed → Keyed → Bool}
end
end SR
end L2

set_option maxHeartbeats 1000000
namespace L2
open PySem PySem.W PyProof.Rows
namespace SR
/-! ### a run found and a run made longer, from any place on -/
section
variable {L : Keyed → Keyed → Bool} {xs : Array Keyed} {lo n q : Nat}
noncomputable def at_ (xs : Array Keyed) (k : Nat) : Keyed := (xs[k]?).getD (Value.none, Value.none)
theorem at_some {k : Nat} (h : k < xs.size) : xs[k]? = some (at_ xs k) := by
  unfold at_
  rw [Array.getElem?_eq_getElem h]
  rfl
theorem at_mir {i j : Nat} (hj : j ≤ xs.size) (k : Nat) : at_ (mirror xs i j ((j - i) / 2)) k = if i ≤ k ∧ k < j then at_ xs (i + j - 1 - k) else at_ xs k := by
  unfold at_
  rw [getElem?_mirror_all hj]
  split <;> rfl
noncomputable def Up (L : Keyed → Keyed → Bool) (xs : Array Keyed) (lo n : Nat) : Prop := ∀ i j, i < j → j < n → Le L (at_ xs (lo + i)) (at_ xs (lo + j))
noncomputable def Dn (L : Keyed → Keyed → Bool) (xs : Array Keyed) (lo n : Nat) : Prop := ∀ i j, i < j → j < n → Le L (at_ xs (lo + j)) (at_ xs (lo + i))
theorem Up.more (O : TO L) (h : Up L xs lo n) (h1 : 1 ≤ n) (g : Le L (at_ xs (lo + n - 1)) (at_ xs (lo + n))) : Up L xs lo (n + 1) := fun i j hij hj => by
  by_cases c : j < n
  · exact h i j hij c
  · have e : j = n := by omega
    subst e
    by_cases d : i = j - 1
    · rw [d, show lo + (j - 1) = lo + j - 1 by omega]; exact g
    · have := h i (j - 1) (by omega) (by omega)
      rw [show lo + (j - 1) = lo + j - 1 by omega] at this
      exact this.trans O g
theorem Dn.more (O : TO L) (h : Dn L xs lo n) (h1 : 1 ≤ n) (g : Le L (at_ xs (lo + n)) (at_ xs (lo + n - 1))) : Dn L xs lo (n + 1) := fun i j hij hj => by
  by_cases c : j < n
  · exact h i j hij c
  · have e : j = n := by omega
    subst e
    by_cases d : i = j - 1
    · rw [d, show lo + (j - 1) = lo + j - 1 by omega]; exact g
    · have := h i (j - 1) (by omega) (by omega)
      rw [show lo + (j - 1) = lo + j - 1 by omega] at this
      exact g.trans O this
structure DI (L : Keyed → Keyed → Bool) (xs : Array Keyed) (lo n q : Nat) : Prop where
  q1 : q + 1 ≤ n
  dn : Dn L xs lo n
  eq : ∀ i j, n - (q + 1) ≤ i → i < n → n - (q + 1) ≤ j → j < n → Le L (at_ xs (lo + i)) (at_ xs (lo + j))
theorem DI.one (O : TO L) (h1 : 1 ≤ n) (h : Dn L xs lo n) : DI L xs lo n 0 := ⟨by omega, h, fun i j a b c d => by
  have : i = j := by omega
  rw [this]; exact irr O _⟩
theorem Dn.turn (D : Dn L xs lo n) (hs : lo + n ≤ xs.size) : Up L (mirror xs lo (lo + n) ((lo + n - lo) / 2)) lo n := fun i j hij hj => by
  rw [at_mir hs, at_mir hs, if_pos (by omega), if_pos (by omega)]
  have := D (n - 1 - j) (n - 1 - i) (by omega) (by omega)
  rw [show lo + (n - 1 - j) = lo + (lo + n) - 1 - (lo + j) by omega, show lo + (n - 1 - i) = lo + (lo + n) - 1 - (lo + i) by omega] at this
  exact this
theorem Up.same (O : TO L) (h : Up L xs lo n) (h1 : 1 ≤ n) (g : Le L (at_ xs (lo + n - 1)) (at_ xs lo)) : ∀ i j, i < n → j < n → Le L (at_ xs (lo + i)) (at_ xs (lo + j)) := fun i j hi hj => by
  have top : Le L (at_ xs (lo + i)) (at_ xs (lo + n - 1)) := by
    by_cases c : i = n - 1
    · rw [c, show lo + (n - 1) = lo + n - 1 by omega]; exact irr O _
    · have := h i (n - 1) (by omega) (by omega)
      rwa [show lo + (n - 1) = lo + n - 1 by omega] at this
  have low : Le L (at_ xs lo) (at_ xs (lo + j)) := by
    by_cases c : j = 0
    · rw [c]; exact irr O _
    · exact h 0 j (by omega) hj
  exact (top.trans O g).trans O low
end
section
variable {prog : Program} {w : World} {A : Around} {E : Value → Shared → Prop} {s : Shared} {κ : SortKind} {U : Keyed → Prop} {L : Keyed → Keyed → Bool} {lo : Nat} {st0 st : SortSt}
structure Sg (κ : SortKind) (lo : Nat) (st0 st : SortSt) : Prop where
  kind : kindOf st = κ
  failed : failedOf st = none
  pend : pendingOf st = pendingOf st0
  perm : (arrOf st).Perm (arrOf st0)
  pre : ∀ k, k < lo → (arrOf st)[k]? = (arrOf st0)[k]?
theorem Sg.size (G : Sg κ lo st0 st) : (arrOf st).size = (arrOf st0).size := G.perm.size_eq
theorem Sg.u (G : Sg κ lo st0 st) (u0 : ∀ x ∈ (arrOf st0).toList, U x) {k : Nat} (h : k < (arrOf st).size) : U (at_ (arrOf st) k) := by
  have := at_some h
  exact u0 _ ((Array.perm_iff_toList_perm.mp G.perm).mem_iff.mp (by rw [← Array.getElem?_toList] at this; exact List.mem_of_getElem? this))
end
end SR
end L2

set_option maxHeartbeats 1000000
namespace L2
open PySem PySem.W PyProof.Rows
namespace SR
/-! ### the runs waiting, and the whole of the sort -/
section
variable {L : Keyed → Keyed → Bool}
noncomputable def Runs (L : Keyed → Keyed → Bool) : Nat → List (Nat × Nat × Nat) → List (List Keyed) → Prop
  | _, [], [] => True
  | o, p :: ps, r :: rs => p.1 = o ∧ p.2.1 = r.length ∧ 1 ≤ r.length ∧ Inc L r ∧ Runs L (o + r.length) ps rs
  | _, _, _ => False
theorem Runs.len : ∀ {o : Nat} {ps : List (Nat × Nat × Nat)} {rs : List (List Keyed)}, Runs L o ps rs → ps.length = rs.length ∧ rs.length ≤ rs.flatten.length
  | _, [], [], _ => ⟨rfl, Nat.le_refl _⟩
  | _, p :: ps, r :: rs, h => by
    obtain ⟨_, _, h3, _, h5⟩ := h
    obtain ⟨e1, e2⟩ := h5.len
    rw [List.length_cons, List.length_cons, e1, List.flatten_cons, List.length_append]
    exact ⟨rfl, by omega⟩
  | _, [], _ :: _, h => h.elim
  | _, _ :: _, [], h => h.elim
theorem Runs.push : ∀ {o : Nat} {ps : List (Nat × Nat × Nat)} {rs : List (List Keyed)} {r : List Keyed} {z : Nat}, Runs L o ps rs → 1 ≤ r.length → Inc L r → Runs L o (ps ++ [(o + rs.flatten.length, r.length, z)]) (rs ++ [r])
  | o, [], [], r, z, _, h1, h2 => ⟨by simp, rfl, h1, h2, trivial⟩
  | o, p :: ps, q :: rs, r, z, h, h1, h2 => by
    obtain ⟨a1, a2, a3, a4, a5⟩ := h
    have := a5.push (z := z) h1 h2
    refine ⟨a1, a2, a3, a4, ?_⟩
    show Runs L (o + q.length) (ps ++ _) (rs ++ [r])
    rw [List.flatten_cons, List.length_append, ← Nat.add_assoc]
    exact this
  | _, [], _ :: _, _, _, h, _, _ => h.elim
  | _, _ :: _, [], _, _, h, _, _ => h.elim
/-- the last number of each is nobody's business -/
theorem Runs.alike : ∀ {o : Nat} {ps ps' : List (Nat × Nat × Nat)} {rs : List (List Keyed)}, Runs L o ps rs → ps'.map (fun p => (p.1, p.2.1)) = ps.map (fun p => (p.1, p.2.1)) → Runs L o ps' rs
  | _, [], [], [], _, _ => trivial
  | o, p :: ps, p' :: ps', r :: rs, h, e => by
    obtain ⟨a1, a2, a3, a4, a5⟩ := h
    rw [List.map_cons, List.map_cons] at e
    injection e with e1 e2
    injection e1 with e3 e4
    exact ⟨e3.trans a1, e4.trans a2, a3, a4, a5.alike e2⟩
  | _, p :: ps, [], _, _, e => by simp at e
  | _, [], p' :: ps', _, _, e => by simp at e
  | _, [], _, _ :: _, h, _ => h.elim
  | _, _ :: _, _, [], h, _ => h.elim
theorem Runs.cut : ∀ {i o : Nat} {ps : List (Nat × Nat × Nat)} {rs : List (List Keyed)}, Runs L o ps rs → i + 1 < ps.length → ∃ ps1 u v ps2 rs1 ra rb rs2, ps = ps1 ++ u :: v :: ps2 ∧ i = ps1.length ∧ rs = rs1 ++ ra :: rb :: rs2 ∧ u.1 = o + rs1.flatten.length ∧ u.2.1 = ra.length ∧ v.1 = o + rs1.flatten.length + ra.length ∧ v.2.1 = rb.length ∧ 1 ≤ ra.length ∧ 1 ≤ rb.length ∧ Inc L ra ∧ Inc L rb ∧
    ∀ m : List Keyed, m.length = ra.length + rb.length → Inc L m → Runs L o (ps1 ++ (u.1, u.2.1 + v.2.1, u.2.2) :: ps2) (rs1 ++ m :: rs2)
  | 0, o, u :: v :: ps, ra :: rb :: rs, h, _ => by
    obtain ⟨a1, a2, a3, a4, b1, b2, b3, b4, b5⟩ := h
    refine ⟨[], u, v, ps, [], ra, rb, rs, rfl, rfl, rfl, by simpa using a1, a2, by simpa using b1, b2, a3, b3, a4, b4, fun m e hm => ⟨a1, by rw [e, a2, b2], by omega, hm, ?_⟩⟩
    rw [e, ← Nat.add_assoc]
    exact b5
  | i + 1, o, p :: ps, r :: rs, h, hi => by
    obtain ⟨a1, a2, a3, a4, a5⟩ := h
    obtain ⟨ps1, u, v, ps2, rs1, ra, rb, rs2, e1, e2, e3, c1, c2, c3, c4, c5, c6, c7, c8, c9⟩ := a5.cut (i := i) (by rw [List.length_cons] at hi; omega)
    refine ⟨p :: ps1, u, v, ps2, r :: rs1, ra, rb, rs2, by rw [e1]; rfl, by rw [List.length_cons, e2], by rw [e3]; rfl, ?_, c2, ?_, c4, c5, c6, c7, c8, fun m e hm => ⟨a1, a2, a3, a4, c9 m e hm⟩⟩
    · rw [c1, List.flatten_cons, List.length_append, Nat.add_assoc]
    · rw [c3, List.flatten_cons, List.length_append, Nat.add_assoc o]
  | _, _, [], _, _, hi => by simp at hi
  | 0, _, [_], _, _, hi => by simp at hi
  | 0, _, _ :: _ :: _, [], h, _ => h.elim
  | 0, _, _ :: _ :: _, [_], h, _ => h.2.2.2.2.elim
  | _ + 1, _, _ :: _, [], h, _ => h.elim
end
section
variable {prog : Program} {w : World} {A : Around} {E : Value → Shared → Prop} {s : Shared} {κ : SortKind} {U : Keyed → Prop} {L : Keyed → Keyed → Bool} {a₀ : Array Keyed} {R : List Keyed} {st : SortSt}
structure St (L : Keyed → Keyed → Bool) (κ : SortKind) (a₀ : Array Keyed) (R : List Keyed) (st : SortSt) : Prop where
  kind : kindOf st = κ
  failed : failedOf st = none
  perm : (arrOf st).Perm a₀
  ex : ∃ rs, (arrOf st).toList = rs.flatten ++ R ∧ Runs L 0 (pendingOf st).toList rs
theorem St.u (S : St L κ a₀ R st) (u0 : ∀ x ∈ a₀.toList, U x) : ∀ x ∈ (arrOf st).toList, U x := fun x hx => u0 x ((Array.perm_iff_toList_perm.mp S.perm).mem_iff.mp hx)
theorem St.push (S : St L κ a₀ R st) {lo n : Nat} (e : lo + R.length = a₀.size) (h1 : 1 ≤ n) (h2 : n ≤ R.length) (hi : Inc L (R.take n)) : St L κ a₀ (R.drop n) (setPending st ((pendingOf st).push (lo, n, 0))) := by
  obtain ⟨rs, e1, r⟩ := S.ex
  have hl : lo = rs.flatten.length := by
    have := S.perm.size_eq
    rw [← Array.length_toList, e1, List.length_append] at this
    omega
  refine ⟨S.kind, S.failed, S.perm, rs ++ [R.take n], ?_, ?_⟩
  · show (arrOf st).toList = _
    rw [e1]
    simp
  · show Runs L 0 ((pendingOf st).push (lo, n, 0)).toList _
    have hn : (R.take n).length = n := by rw [List.length_take]; omega
    have := r.push (r := R.take n) (z := 0) (by omega) hi
    rw [Nat.zero_add, ← hl, hn] at this
    rw [Array.toList_push]
    exact this
theorem St.mod (S : St L κ a₀ R st) (k pw : Nat) : St L κ a₀ R (setPending st ((pendingOf st).modify k fun x => (x.1, x.2.1, pw))) := by
  obtain ⟨rs, e1, r⟩ := S.ex
  refine ⟨S.kind, S.failed, S.perm, rs, e1, r.alike ?_⟩
  show List.map _ ((pendingOf st).modify k fun x => (x.1, x.2.1, pw)).toList = _
  apply List.ext_getElem?
  intro j
  rw [List.getElem?_map, List.getElem?_map, Array.getElem?_toList, Array.getElem?_toList, Array.getElem?_modify]
  split
  · cases (pendingOf st)[j]? <;> rfl
  · rfl
end
end SR
end L2

namespace L2
open PySem PySem.Spec PySem.W PyProof.Rows
namespace ST
/-! ### list.sort of rows -/
section
variable {prog : Program} {w : World} {A : Around} {E : Value → Shared → Prop} {s : Shared} {L a : Addr} {mm : Str → Option Value} {m : Nat} {rows : List (Addr × List Int)}
end
end ST
end L2

namespace L2
open PySem PySem.Spec PySem.W PyProof.Rows
namespace ST
/-! ### sorted(..) of whatever gives rows -/
section
variable {prog : Program} {w : World} {A : Around} {E : Value → Shared → Prop} {s : Shared} {m : Nat} {S : List (Addr × List Int) → Prop}
end
end ST
end L2

namespace L2
open PySem
namespace ST
/-! ### the walk through a set's table: every slot is met -/
/-- the n-th place that is looked at -/
noncomputable def nth (t : SetTable) (p : SetTable.Probe) : Nat → SetTable.Probe
  | 0 => p
  | n + 1 => nth t (t.advance p) n
theorem nth_succ (t : SetTable) : ∀ (n : Nat) (p : SetTable.Probe), nth t p (n + 1) = t.advance (nth t p n)
  | 0, _ => rfl
  | n + 1, p => nth_succ t n (t.advance p)
theorem nth_add (t : SetTable) : ∀ (a b : Nat) (p : SetTable.Probe), nth t p (a + b) = nth t (nth t p a) b
  | 0, b, p => by rw [Nat.zero_add]; rfl
  | a + 1, b, p => by rw [show a + 1 + b = (a + b) + 1 by omega]; exact nth_add t a b (t.advance p)
/-- the beginning of a run -/
noncomputable def beg (t : SetTable) (i q : Nat) : SetTable.Probe := ⟨i, SetTable.runEnd t.mask i - i, i, q, none⟩
theorem start_beg (t : SetTable) (h : Int) : t.probeStart h = beg t (SetTable.bits h % (t.mask + 1)) (SetTable.bits h) := rfl
theorem run_le (m i : Nat) : SetTable.runEnd m i - i ≤ 9 := by
  unfold SetTable.runEnd
  split <;> omega
theorem adv_in {t : SetTable} {p : SetTable.Probe} (h : 0 < p.more) : t.advance p = { p with j := p.j + 1, more := p.more - 1 } := by
  unfold SetTable.advance
  rw [if_pos h]
theorem adv_out {t : SetTable} {p : SetTable.Probe} (h : p.more = 0) (d : p.dummy = none) : t.advance p = beg t ((p.i * 5 + 1 + p.perturb / 32) % (t.mask + 1)) (p.perturb / 32) := by
  unfold SetTable.advance
  rw [if_neg (by omega)]
  unfold SetTable.leap beg
  rw [d]
/-- within a run -/
theorem nth_run (t : SetTable) (i q : Nat) : ∀ k, k ≤ SetTable.runEnd t.mask i - i → nth t (beg t i q) k = ⟨i + k, SetTable.runEnd t.mask i - i - k, i, q, none⟩
  | 0, _ => rfl
  | k + 1, h => by
    rw [nth_succ, nth_run t i q k (by omega), adv_in (by show 0 < SetTable.runEnd t.mask i - i - k; omega)]
    show (⟨i + k + 1, SetTable.runEnd t.mask i - i - k - 1, i, q, none⟩ : SetTable.Probe) = _
    rw [show i + k + 1 = i + (k + 1) by omega, show SetTable.runEnd t.mask i - i - k - 1 = SetTable.runEnd t.mask i - i - (k + 1) by omega]
/-- one run, and on to the next -/
theorem nth_leap (t : SetTable) (i q : Nat) : nth t (beg t i q) (SetTable.runEnd t.mask i - i + 1) = beg t ((i * 5 + 1 + q / 32) % (t.mask + 1)) (q / 32) := by
  rw [nth_succ, nth_run t i q _ (Nat.le_refl _), adv_out (by show SetTable.runEnd t.mask i - i - (SetTable.runEnd t.mask i - i) = 0; omega) rfl]
theorem leaps (t : SetTable) : ∀ (k i q : Nat), i ≤ t.mask → ∃ n i', n ≤ 10 * k ∧ i' ≤ t.mask ∧ nth t (beg t i q) n = beg t i' (q / 32 ^ k)
  | 0, i, q, hi => ⟨0, i, Nat.zero_le _, hi, by rw [Nat.pow_zero, Nat.div_one]; rfl⟩
  | k + 1, i, q, hi => by
    have h1 := run_le t.mask i
    have h2 : (i * 5 + 1 + q / 32) % (t.mask + 1) ≤ t.mask := Nat.le_of_lt_succ (Nat.mod_lt _ (Nat.succ_pos _))
    obtain ⟨n, i', hn, hi', e⟩ := leaps t k _ (q / 32) h2
    refine ⟨SetTable.runEnd t.mask i - i + 1 + n, i', by omega, hi', ?_⟩
    rw [nth_add, nth_leap, e, Nat.div_div_eq_div_mul, Nat.pow_succ, Nat.mul_comm 32]
theorem adv_mask {t u : SetTable} (h : t.mask = u.mask) (p : SetTable.Probe) : t.advance p = u.advance p := by
  unfold SetTable.advance
  rw [h]
theorem nth_mask {t u : SetTable} (h : t.mask = u.mask) : ∀ (n : Nat) (p : SetTable.Probe), nth t p n = nth u p n
  | 0, _ => rfl
  | n + 1, p => by
    show nth t (t.advance p) n = nth u (u.advance p) n
    rw [adv_mask h, nth_mask h n]
/-! with nothing left of the hash: from place to place by 5 i + 1 -/
noncomputable def it (m : Nat) : Nat → Nat → Nat
  | 0, i => i
  | k + 1, i => it m k ((i * 5 + 1) % (m + 1))
theorem it_add (m : Nat) : ∀ (a b i : Nat), it m (a + b) i = it m b (it m a i)
  | 0, b, i => by rw [Nat.zero_add]; rfl
  | a + 1, b, i => by rw [show a + 1 + b = (a + b) + 1 by omega]; exact it_add m a b _
/-- is j met within so many places from i on -/
noncomputable def meets (m j : Nat) : Nat → Nat → Bool
  | 0, _ => false
  | n + 1, i => Nat.beq i j || meets m j n ((i * 5 + 1) % (m + 1))
theorem meets_it (m j : Nat) : ∀ (n i : Nat), meets m j n i = true → ∃ k, k < n ∧ it m k i = j
  | 0, i, h => by cases h
  | n + 1, i, h => by
    unfold meets at h
    rcases Bool.or_eq_true_iff.mp h with h | h
    · exact ⟨0, Nat.succ_pos _, Nat.eq_of_beq_eq_true h⟩
    · obtain ⟨k, hk, e⟩ := meets_it m j n _ h
      exact ⟨k + 1, Nat.succ_lt_succ hk, e⟩
noncomputable def whole (m : Nat) : Bool := (List.range (m + 1)).all (fun j => meets m j (m + 1) 0) && Nat.beq (it m (m + 1) 0) 0
theorem whole7 : whole 7 = true := by decide +kernel
theorem whole31 : whole 31 = true := by decide +kernel
theorem whole127 : whole 127 = true := by decide +kernel
theorem whole511 : whole 511 = true := by decide +kernel
/-- the tables of up to three hundred things -/
noncomputable def Small (t : SetTable) : Prop := t.mask = 7 ∨ t.mask = 31 ∨ t.mask = 127 ∨ t.mask = 511
theorem whole_of {m : Nat} (h : m = 7 ∨ m = 31 ∨ m = 127 ∨ m = 511) : whole m = true := by
  rcases h with rfl | rfl | rfl | rfl
  · exact whole7
  · exact whole31
  · exact whole127
  · exact whole511
theorem it_all {m : Nat} (h : whole m = true) {i j : Nat} (hi : i ≤ m) (hj : j ≤ m) : ∃ k, k ≤ m ∧ it m k i = j := by
  obtain ⟨h1, h2⟩ := Bool.and_eq_true_iff.mp h
  have per : it m (m + 1) 0 = 0 := Nat.eq_of_beq_eq_true h2
  obtain ⟨a, ha, ea⟩ := meets_it m i _ _ (List.all_eq_true.mp h1 i (List.mem_range.mpr (Nat.lt_succ_of_le hi)))
  obtain ⟨b, hb, eb⟩ := meets_it m j _ _ (List.all_eq_true.mp h1 j (List.mem_range.mpr (Nat.lt_succ_of_le hj)))
  by_cases c : a ≤ b
  · refine ⟨b - a, by omega, ?_⟩
    rw [← ea, ← it_add, show a + (b - a) = b by omega, eb]
  · refine ⟨b + (m + 1) - a, by omega, ?_⟩
    rw [← ea, ← it_add, show a + (b + (m + 1) - a) = (m + 1) + b by omega, it_add, per, eb]
theorem leaps0 (t : SetTable) : ∀ (k i : Nat), ∃ n, n ≤ 10 * k ∧ nth t (beg t i 0) n = beg t (it t.mask k i) 0
  | 0, i => ⟨0, Nat.zero_le _, rfl⟩
  | k + 1, i => by
    have h1 := run_le t.mask i
    obtain ⟨n, hn, e⟩ := leaps0 t k ((i * 5 + 1) % (t.mask + 1))
    refine ⟨SetTable.runEnd t.mask i - i + 1 + n, by omega, ?_⟩
    rw [nth_add, nth_leap, Nat.zero_div, Nat.add_zero, e]
    rfl
theorem bits_lt (h : Int) : SetTable.bits h < 2 ^ 64 := by
  unfold SetTable.bits
  have h1 := Int.emod_nonneg h (show (2 ^ 64 : Int) ≠ 0 by decide)
  have h2 := Int.emod_lt_of_pos h (show (0 : Int) < 2 ^ 64 by decide)
  omega
theorem covers {t : SetTable} (s : Small t) (h : Int) {j : Nat} (hj : j ≤ t.mask) : ∃ n, n < 10 * SetTable.turns t.mask ∧ (nth t (t.probeStart h) n).j = j := by
  obtain ⟨n, i, hn, hi, e⟩ := leaps t 13 (SetTable.bits h % (t.mask + 1)) (SetTable.bits h) (Nat.le_of_lt_succ (Nat.mod_lt _ (Nat.succ_pos _)))
  have q0 : SetTable.bits h / 32 ^ 13 = 0 := Nat.div_eq_of_lt (Nat.lt_of_lt_of_le (bits_lt h) (by decide))
  rw [q0] at e
  obtain ⟨k, hk, ek⟩ := it_all (whole_of s) hi hj
  obtain ⟨n', hn', e'⟩ := leaps0 t k i
  refine ⟨n + n', ?_, ?_⟩
  · unfold SetTable.turns
    omega
  · rw [start_beg, nth_add, e, e', ek]
    rfl
end ST
end L2

namespace L2
open PySem
namespace ST
/-! ### places in their order -/
noncomputable def Rise (xs : Array Nat) : Prop := ∀ a b, a < b → b < xs.size → xs.getD a 0 < xs.getD b 0
theorem getD_any {xs : Array Nat} {k : Nat} (h : k < xs.size) (a b : Nat) : xs.getD k a = xs.getD k b := by
  rw [Array.getD_eq_getD_getElem?, Array.getD_eq_getD_getElem?, Array.getElem?_eq_getElem h]
  rfl
theorem getD_at {xs : Array Nat} {k j : Nat} (h : xs[k]? = some j) (a : Nat) : xs.getD k a = j := by
  rw [Array.getD_eq_getD_getElem?, h]
  rfl
theorem at_getD {xs : Array Nat} {k : Nat} (h : k < xs.size) : xs[k]? = some (xs.getD k 0) := by
  rw [Array.getD_eq_getD_getElem?, Array.getElem?_eq_getElem h]
  rfl
structure Bel (xs : Array Nat) (j r : Nat) : Prop where
  le : r ≤ xs.size
  lo : ∀ k, k < r → xs.getD k 0 < j
  hi : ∀ k, r ≤ k → k < xs.size → j ≤ xs.getD k 0
theorem below_go {xs : Array Nat} (R : Rise xs) {j : Nat} : ∀ (n lo hi : Nat), hi - lo ≤ n → lo ≤ hi → hi ≤ xs.size → (∀ k, k < lo → xs.getD k 0 < j) → (∀ k, hi ≤ k → k < xs.size → j ≤ xs.getD k 0) → Bel xs j (SetTable.below.go xs j n lo hi)
  | 0, lo, hi, h1, h2, h3, h4, h5 => by
    unfold SetTable.below.go
    exact ⟨by omega, h4, fun k a b => h5 k (by omega) b⟩
  | n + 1, lo, hi, h1, h2, h3, h4, h5 => by
    unfold SetTable.below.go
    by_cases c : lo < hi
    · rw [if_pos c]
      have hm : (lo + hi) / 2 < xs.size := by omega
      dsimp only
      rw [getD_any hm j 0]
      by_cases d : xs.getD ((lo + hi) / 2) 0 < j
      · rw [if_pos d]
        refine below_go R n _ hi (by omega) (by omega) h3 (fun k hk => ?_) h5
        by_cases e : k = (lo + hi) / 2
        · rw [e]; exact d
        · exact Nat.lt_trans (R k _ (by omega) hm) d
      · rw [if_neg d]
        refine below_go R n lo _ (by omega) (by omega) (by omega) h4 fun k a b => ?_
        by_cases e : k = (lo + hi) / 2
        · rw [e]; omega
        · have := R ((lo + hi) / 2) k (by omega) b
          omega
    · rw [if_neg c]
      exact ⟨by omega, h4, fun k a b => h5 k (by omega) b⟩
theorem below_ok {xs : Array Nat} (R : Rise xs) (j : Nat) : Bel xs j (SetTable.below xs j) :=
  below_go R _ 0 _ (by omega) (Nat.zero_le _) (Nat.le_refl _) (fun k h => absurd h (Nat.not_lt_zero _)) fun k a b => by omega
theorem below_at {xs : Array Nat} (R : Rise xs) {i j : Nat} (h : xs[i]? = some j) : SetTable.below xs j = i := by
  have B := below_ok R j
  have hi : i < xs.size := (Array.getElem?_eq_some_iff.mp h).1
  have e := getD_at h 0
  rcases Nat.lt_trichotomy (SetTable.below xs j) i with c | c | c
  · have h1 := B.hi _ (Nat.le_refl _) (by omega)
    have h2 := R _ _ c hi
    omega
  · exact c
  · have := B.lo i c
    omega
noncomputable def On (t : SetTable) (j : Nat) : Prop := ∃ i : Nat, t.place[i]? = some j
theorem slot_on {t : SetTable} (R : Rise t.place) {i j : Nat} (h : t.place[i]? = some j) : t.slot j = .live i := by
  unfold SetTable.slot
  dsimp only
  rw [below_at R h, h, if_pos (by simp)]
theorem has_nil (j : Nat) : SetTable.has #[] j = false := by
  unfold SetTable.has
  rfl
theorem slot_off {t : SetTable} (d : t.dummies = #[]) {j : Nat} (h : ¬ On t j) : t.slot j = .empty := by
  unfold SetTable.slot
  dsimp only
  have : (t.place[SetTable.below t.place j]? == some j) = false := by
    rw [beq_eq_false_iff_ne]
    exact fun e => h ⟨_, e⟩
  rw [this, d, has_nil]
  rfl
/-! ### one look through the table -/
theorem nth_dummy {t : SetTable} : ∀ (n : Nat) {p : SetTable.Probe}, p.dummy = none → (nth t p n).dummy = none
  | 0, _, h => h
  | n + 1, p, h => by
    refine nth_dummy n ?_
    unfold SetTable.advance
    split
    · exact h
    · exact h
theorem go_empty {t : SetTable} {hashAt : Nat → Int} {h : Int} (R : Rise t.place) (d : t.dummies = #[]) : ∀ (fuel e : Nat) (p : SetTable.Probe), p.dummy = none → e < fuel → ¬ On t (nth t p e).j → (∀ m, m < e → ∃ i, t.place[i]? = some (nth t p m).j ∧ hashAt i ≠ h) →
    SetTable.probe.go t hashAt h fuel p = some (.empty (nth t p e).j none)
  | 0, _, _, _, hf, _, _ => absurd hf (Nat.not_lt_zero _)
  | fuel + 1, 0, p, hd, _, he, _ => by
    unfold SetTable.probe.go
    rw [slot_off d (show ¬ On t p.j from he)]
    show some (SetTable.Met.empty p.j p.dummy) = _
    rw [hd]
    rfl
  | fuel + 1, e + 1, p, hd, hf, he, hm => by
    obtain ⟨i, hi, hh⟩ := hm 0 (Nat.succ_pos _)
    unfold SetTable.probe.go
    rw [slot_on R (show t.place[i]? = some p.j from hi)]
    show (if (hashAt i == h) = true then _ else _) = _
    rw [if_neg (by rw [beq_iff_eq]; exact hh)]
    exact go_empty R d fuel e (t.advance p) (nth_dummy 1 hd) (Nat.lt_of_succ_lt_succ hf) he fun m h' => hm (m + 1) (Nat.succ_lt_succ h')
theorem go_cand {t : SetTable} {hashAt : Nat → Int} {h : Int} (R : Rise t.place) : ∀ (fuel k i : Nat) (p : SetTable.Probe), k < fuel → t.place[i]? = some (nth t p k).j → hashAt i = h → (∀ m, m < k → ∃ i, t.place[i]? = some (nth t p m).j ∧ hashAt i ≠ h) →
    SetTable.probe.go t hashAt h fuel p = some (.candidate (nth t p k).j i (nth t p (k + 1)))
  | 0, _, _, _, hf, _, _, _ => absurd hf (Nat.not_lt_zero _)
  | fuel + 1, 0, i, p, _, hi, hh, _ => by
    unfold SetTable.probe.go
    rw [slot_on R (show t.place[i]? = some p.j from hi)]
    show (if (hashAt i == h) = true then _ else _) = _
    rw [if_pos (by rw [beq_iff_eq]; exact hh)]
    rfl
  | fuel + 1, k + 1, i, p, hf, hi, hh, hm => by
    obtain ⟨i', hi', hh'⟩ := hm 0 (Nat.succ_pos _)
    unfold SetTable.probe.go
    rw [slot_on R (show t.place[i']? = some p.j from hi')]
    show (if (hashAt i' == h) = true then _ else _) = _
    rw [if_neg (by rw [beq_iff_eq]; exact hh')]
    exact go_cand R fuel k i (t.advance p) (Nat.lt_of_succ_lt_succ hf) hi hh fun m h' => hm (m + 1) (Nat.succ_lt_succ h')
/-! ### a table in order -/
structure TB (t : SetTable) (hs : List Int) : Prop where
  dum : t.dummies = #[]
  len : t.place.size = hs.length
  rise : Rise t.place
  top : ∀ (i j : Nat), t.place[i]? = some j → j ≤ t.mask
  reach : ∀ (i : Nat) (h : Int), hs[i]? = some h → ∃ n, t.place[i]? = some (nth t (t.probeStart h) n).j ∧ ∀ m, m < n → On t (nth t (t.probeStart h) m).j
structure TOk (t : SetTable) (hs : List Int) : Prop extends TB t hs where
  small : t.mask = 7 ∧ hs.length ≤ 4 ∨ t.mask = 31 ∧ hs.length ≤ 18 ∨ t.mask = 127 ∧ hs.length ≤ 76 ∨ t.mask = 511 ∧ hs.length ≤ 306
theorem TOk.sm {t : SetTable} {hs : List Int} (T : TOk t hs) : Small t := by
  rcases T.small with ⟨h, _⟩ | ⟨h, _⟩ | ⟨h, _⟩ | ⟨h, _⟩
  · exact Or.inl h
  · exact Or.inr (Or.inl h)
  · exact Or.inr (Or.inr (Or.inl h))
  · exact Or.inr (Or.inr (Or.inr h))
theorem nd_sub {α : Type} [DecidableEq α] : ∀ {A B : List α}, A.Nodup → (∀ x ∈ A, x ∈ B) → A.length ≤ B.length
  | [], _, _, _ => Nat.zero_le _
  | a :: A, B, nd, h => by
    obtain ⟨n1, n2⟩ := List.nodup_cons.mp nd
    have h1 : a ∈ B := h a (List.mem_cons_self ..)
    have h2 : A.length ≤ (B.erase a).length := nd_sub n2 fun x hx => (List.mem_erase_of_ne (fun (e : x = a) => n1 (e ▸ hx))).mpr (h x (List.mem_cons_of_mem _ hx))
    rw [List.length_erase_of_mem h1] at h2
    have h3 : 0 < B.length := List.length_pos_of_mem h1
    rw [List.length_cons]
    omega
theorem TOk.free {t : SetTable} {hs : List Int} (T : TOk t hs) : ∃ j, j ≤ t.mask ∧ ¬ On t j := Classical.byContradiction fun no => by
  have all : ∀ x ∈ List.range (t.mask + 1), x ∈ t.place.toList := fun x hx => Classical.byContradiction fun n => no ⟨x, Nat.le_of_lt_succ (List.mem_range.mp hx), fun ⟨i, hi⟩ => n (by
    rw [← Array.getElem?_toList] at hi
    exact List.mem_of_getElem? hi)⟩
  have := nd_sub List.nodup_range all
  rw [List.length_range, Array.length_toList, T.len] at this
  rcases T.small with ⟨h1, h2⟩ | ⟨h1, h2⟩ | ⟨h1, h2⟩ | ⟨h1, h2⟩ <;> omega
theorem least {P : Nat → Prop} : ∀ (N n : Nat), n < N → P n → ∃ k, k ≤ n ∧ P k ∧ ∀ m, m < k → ¬ P m
  | 0, _, h, _ => absurd h (Nat.not_lt_zero _)
  | N + 1, n, hn, hp => by
    by_cases c : ∃ m, m < n ∧ P m
    · obtain ⟨m, hm, pm⟩ := c
      obtain ⟨k, a, b, e⟩ := least N m (by omega) pm
      exact ⟨k, by omega, b, e⟩
    · exact ⟨n, Nat.le_refl _, hp, fun m hm pm => c ⟨m, hm, pm⟩⟩
/-- the first free place on a hash's way -/
theorem TOk.first {t : SetTable} {hs : List Int} (T : TOk t hs) (h : Int) : ∃ e, e < 10 * SetTable.turns t.mask ∧ ¬ On t (nth t (t.probeStart h) e).j ∧ (nth t (t.probeStart h) e).j ≤ t.mask ∧ ∀ m, m < e → On t (nth t (t.probeStart h) m).j := by
  obtain ⟨j, hj, nj⟩ := T.free
  obtain ⟨n, hn, en⟩ := covers T.sm h hj
  obtain ⟨k, h1, h2, h3⟩ := least (P := fun n => ¬ On t (nth t (t.probeStart h) n).j) _ n (Nat.lt_succ_self n) (by rw [en]; exact nj)
  refine ⟨k, by omega, h2, nth_le t k h, fun m hm => Classical.byContradiction fun z => h3 m hm z⟩
where
  nth_le (t : SetTable) (k : Nat) (h : Int) : (nth t (t.probeStart h) k).j ≤ t.mask := by
    have key : ∀ (k : Nat) (p : SetTable.Probe), p.j + p.more ≤ t.mask → (nth t p k).j ≤ t.mask := fun k => by
      induction k with
      | zero => intro p hp; exact Nat.le_trans (Nat.le_add_right _ _) hp
      | succ k ih =>
        intro p hp
        refine ih (t.advance p) ?_
        unfold SetTable.advance
        split
        · show p.j + 1 + (p.more - 1) ≤ t.mask
          omega
        · show (SetTable.leap t.mask p.i p.perturb).1 + (SetTable.runEnd t.mask (SetTable.leap t.mask p.i p.perturb).1 - (SetTable.leap t.mask p.i p.perturb).1) ≤ t.mask
          have : (SetTable.leap t.mask p.i p.perturb).1 ≤ t.mask := Nat.le_of_lt_succ (Nat.mod_lt _ (Nat.succ_pos _))
          generalize (SetTable.leap t.mask p.i p.perturb).1 = i at this ⊢
          unfold SetTable.runEnd
          split <;> omega
    refine key k _ ?_
    show SetTable.bits h % (t.mask + 1) + (SetTable.runEnd t.mask (SetTable.bits h % (t.mask + 1)) - SetTable.bits h % (t.mask + 1)) ≤ t.mask
    have : SetTable.bits h % (t.mask + 1) ≤ t.mask := Nat.le_of_lt_succ (Nat.mod_lt _ (Nat.succ_pos _))
    generalize SetTable.bits h % (t.mask + 1) = i at this ⊢
    unfold SetTable.runEnd
    split <;> omega
end ST
end L2

namespace L2
open PySem
namespace ST
/-! ### one thing more -/
noncomputable def insL {α : Type} (l : List α) (p : Nat) (x : α) : List α := l.take p ++ x :: l.drop p
theorem insL_get {α : Type} {l : List α} {p : Nat} (hp : p ≤ l.length) (x : α) (k : Nat) : (insL l p x)[k]? = if k < p then l[k]? else if k = p then some x else l[k - 1]? := by
  unfold insL
  have lt : (l.take p).length = p := by rw [List.length_take]; omega
  by_cases c : k < p
  · rw [if_pos c, List.getElem?_append_left (by omega), List.getElem?_take_of_lt c]
  · rw [if_neg c, List.getElem?_append_right (by omega), lt]
    by_cases d : k = p
    · rw [if_pos d, d, Nat.sub_self]; rfl
    · rw [if_neg d]
      obtain ⟨m, rfl⟩ : ∃ m, k = p + 1 + m := ⟨k - (p + 1), by omega⟩
      rw [show p + 1 + m - p = m + 1 by omega, List.getElem?_cons_succ, List.getElem?_drop, show p + 1 + m - 1 = p + m by omega]
theorem insL_len {α : Type} {l : List α} {p : Nat} (hp : p ≤ l.length) (x : α) : (insL l p x).length = l.length + 1 := by
  unfold insL
  rw [List.length_append, List.length_take, List.length_cons, List.length_drop]
  omega
theorem insL_perm {α : Type} (l : List α) (p : Nat) (x : α) : (insL l p x).Perm (x :: l) := by
  unfold insL
  refine List.perm_middle.trans ?_
  rw [List.take_append_drop]
theorem insL_map {α β : Type} (f : α → β) (l : List α) (p : Nat) (x : α) : (insL l p x).map f = insL (l.map f) p (f x) := by
  unfold insL
  rw [List.map_append, List.map_cons, List.map_take, List.map_drop]
theorem ins_list {α : Type} (xs : Array α) (p : Nat) (x : α) : (SetTable.insertAt xs p x).toList = insL xs.toList p x := SetTable.toList_insertAt xs p x
theorem ins_get {xs : Array Nat} {p : Nat} (hp : p ≤ xs.size) (x k : Nat) : (SetTable.insertAt xs p x)[k]? = if k < p then xs[k]? else if k = p then some x else xs[k - 1]? := by
  rw [← Array.getElem?_toList, ins_list, insL_get (by rw [Array.length_toList]; exact hp), Array.getElem?_toList, Array.getElem?_toList]
theorem ins_size {α : Type} {xs : Array α} {p : Nat} (hp : p ≤ xs.size) (x : α) : (SetTable.insertAt xs p x).size = xs.size + 1 := by
  rw [← Array.length_toList, ins_list, insL_len (by rw [Array.length_toList]; exact hp), Array.length_toList]
/-- rising, told by the places -/
theorem rise_iff {xs : Array Nat} : Rise xs ↔ ∀ (a b x y : Nat), a < b → xs[a]? = some x → xs[b]? = some y → x < y := by
  constructor
  · intro R a b x y h hx hy
    have := R a b h (Array.getElem?_eq_some_iff.mp hy).1
    rw [getD_at hx, getD_at hy] at this
    exact this
  · intro h a b hab hb
    exact h a b _ _ hab (at_getD (by omega)) (at_getD hb)
theorem rise_ins {xs : Array Nat} (R : Rise xs) {j : Nat} (no : ∀ i : Nat, xs[i]? ≠ some j) : Rise (SetTable.insertAt xs (SetTable.below xs j) j) := by
  have B := below_ok R j
  rw [rise_iff] at R ⊢
  intro a b x y hab hx hy
  rw [ins_get B.le] at hx hy
  generalize SetTable.below xs j = p at B hx hy
  have lo : ∀ (k z : Nat), k < p → xs[k]? = some z → z < j := fun k z hk hz => by
    have := B.lo k hk
    rwa [getD_at hz] at this
  have hi : ∀ (k z : Nat), p ≤ k → xs[k]? = some z → j < z := fun k z hk hz => by
    have := B.hi k hk (Array.getElem?_eq_some_iff.mp hz).1
    rw [getD_at hz] at this
    exact Nat.lt_of_le_of_ne this fun e => no k (e ▸ hz)
  by_cases c1 : a < p
  · rw [if_pos c1] at hx
    by_cases c2 : b < p
    · rw [if_pos c2] at hy
      exact R a b x y hab hx hy
    · rw [if_neg c2] at hy
      by_cases c3 : b = p
      · rw [if_pos c3] at hy
        cases hy
        exact lo a x c1 hx
      · rw [if_neg c3] at hy
        exact R a (b - 1) x y (by omega) hx hy
  · rw [if_neg c1] at hx
    rw [if_neg (by omega), if_neg (by omega)] at hy
    by_cases c2 : a = p
    · rw [if_pos c2] at hx
      cases hx
      exact hi (b - 1) y (by omega) hy
    · rw [if_neg c2] at hx
      exact R (a - 1) (b - 1) x y (by omega) hx hy
theorem put_dum {t : SetTable} (d : t.dummies = #[]) (j : Nat) : (t.put j).1 = { t with place := SetTable.insertAt t.place (SetTable.below t.place j) j } := by
  unfold SetTable.put
  dsimp only
  rw [d, has_nil]
  simp
theorem put_at (t : SetTable) (j : Nat) : (t.put j).2 = SetTable.below t.place j := rfl
theorem on_ins {t : SetTable} {p j k : Nat} (hp : p ≤ t.place.size) (h : On t k) : On { t with place := SetTable.insertAt t.place p j } k := by
  obtain ⟨i, hi⟩ := h
  by_cases c : i < p
  · exact ⟨i, by show (SetTable.insertAt t.place p j)[i]? = _; rw [ins_get hp, if_pos c]; exact hi⟩
  · exact ⟨i + 1, by show (SetTable.insertAt t.place p j)[i + 1]? = _; rw [ins_get hp, if_neg (by omega), if_neg (by omega)]; exact hi⟩
/-- a new thing is put at the first free place on its way -/
theorem TB.put {t : SetTable} {hs : List Int} (T : TB t hs) {h : Int} {e : Nat} (h1 : ¬ On t (nth t (t.probeStart h) e).j) (h2 : (nth t (t.probeStart h) e).j ≤ t.mask) (h3 : ∀ m, m < e → On t (nth t (t.probeStart h) m).j) :
    TB (t.put (nth t (t.probeStart h) e).j).1 (insL hs (t.put (nth t (t.probeStart h) e).j).2 h) := by
  have B := below_ok T.rise (nth t (t.probeStart h) e).j
  rw [put_dum T.dum, put_at]
  obtain ⟨j, ej⟩ : ∃ j, j = (nth t (t.probeStart h) e).j := ⟨_, rfl⟩
  rw [← ej] at B h1 h2 ⊢
  obtain ⟨p, ep⟩ : ∃ p, p = SetTable.below t.place j := ⟨_, rfl⟩
  rw [← ep] at B ⊢
  have hp := B.le
  have hp' : p ≤ hs.length := by rw [← T.len]; exact hp
  refine ⟨T.dum, ?_, ?_, ?_, ?_⟩
  · show (SetTable.insertAt t.place p j).size = _
    rw [ins_size hp, insL_len hp', T.len]
  · show Rise (SetTable.insertAt t.place p j)
    rw [ep]
    exact rise_ins T.rise fun i hi => h1 ⟨i, hi⟩
  · intro i k hk
    have hk' : (SetTable.insertAt t.place p j)[i]? = some k := hk
    rw [ins_get hp] at hk'
    split at hk'
    · exact T.top _ _ hk'
    · split at hk'
      · cases hk'; exact h2
      · exact T.top _ _ hk'
  · intro i g hg
    rw [insL_get hp'] at hg
    have same : ∀ n p', nth { t with place := SetTable.insertAt t.place p j } p' n = nth t p' n := fun n p' => nth_mask (t := { t with place := SetTable.insertAt t.place p j }) (u := t) rfl n p'
    have old : ∀ i', hs[i']? = some g → ∀ i : Nat, (SetTable.insertAt t.place p j)[i]? = t.place[i']? → ∃ n, ({ t with place := SetTable.insertAt t.place p j } : SetTable).place[i]? = some (nth { t with place := SetTable.insertAt t.place p j } (SetTable.probeStart { t with place := SetTable.insertAt t.place p j } g) n).j ∧ ∀ m, m < n → On { t with place := SetTable.insertAt t.place p j } (nth { t with place := SetTable.insertAt t.place p j } (SetTable.probeStart { t with place := SetTable.insertAt t.place p j } g) m).j := fun i' hi' i ei => by
      obtain ⟨n, a, b⟩ := T.reach i' g hi'
      refine ⟨n, ?_, fun m hm => ?_⟩
      · rw [same]
        exact ei.trans a
      · rw [same]
        exact on_ins hp (b m hm)
    by_cases c1 : i < p
    · rw [if_pos c1] at hg
      exact old i hg i (by rw [ins_get hp, if_pos c1])
    · rw [if_neg c1] at hg
      by_cases c2 : i = p
      · rw [if_pos c2] at hg
        cases hg
        refine ⟨e, ?_, fun m hm => ?_⟩
        · rw [same]
          show (SetTable.insertAt t.place p j)[i]? = some (nth t (t.probeStart h) e).j
          rw [ins_get hp, if_neg c1, if_pos c2, ej]
        · rw [same]
          exact on_ins hp (h3 m hm)
      · rw [if_neg c2] at hg
        exact old (i - 1) hg i (by rw [ins_get hp, if_neg c1, if_neg c2])
end ST
end L2

namespace L2
open PySem
namespace ST
/-! ### a table laid anew, of 32 places -/
noncomputable abbrev tM (M : Nat) : SetTable := ⟨M, #[], #[], 0, true, 0, true⟩
/-- the masks of such tables -/
noncomputable abbrev Big (M : Nat) : Prop := M = 7 ∨ M = 31 ∨ M = 127 ∨ M = 511
section
variable {M : Nat}
noncomputable def lp (M : Nat) : Nat → Nat → Nat → Nat × Nat
  | 0, i, q => (i, q)
  | k + 1, i, q => lp M k ((i * 5 + 1 + q / 32) % (M + 1)) (q / 32)
theorem lp_add : ∀ (a b i q : Nat), lp M (a + b) i q = lp M b (lp M a i q).1 (lp M a i q).2
  | 0, b, i, q => by rw [Nat.zero_add]; rfl
  | a + 1, b, i, q => by rw [show a + 1 + b = (a + b) + 1 by omega]; exact lp_add a b _ _
theorem lp_q : ∀ (k i q : Nat), (lp M k i q).2 = q / 32 ^ k
  | 0, i, q => by rw [Nat.pow_zero, Nat.div_one]; rfl
  | k + 1, i, q => by
    show (lp M k _ (q / 32)).2 = _
    rw [lp_q, Nat.div_div_eq_div_mul, Nat.pow_succ, Nat.mul_comm 32]
theorem lp_lt : ∀ (k i q : Nat), i < M + 1 → (lp M k i q).1 < M + 1
  | 0, i, q, h => h
  | k + 1, i, q, h => lp_lt k _ _ (Nat.mod_lt _ (Nat.succ_pos _))
theorem lp_it : ∀ (k i : Nat), (lp M k i 0).1 = it M k i
  | 0, i => rfl
  | k + 1, i => by
    show (lp M k ((i * 5 + 1 + 0 / 32) % (M + 1)) (0 / 32)).1 = _
    rw [Nat.zero_div, Nat.add_zero, lp_it]
    rfl
theorem lp_covers (hM : Big M) (h : Int) {j : Nat} (hj : j < M + 1) : ∃ k, k < SetTable.turns M ∧ (lp M k (SetTable.bits h % (M + 1)) (SetTable.bits h)).1 = j := by
  have q0 : SetTable.bits h / 32 ^ 13 = 0 := Nat.div_eq_of_lt (Nat.lt_of_lt_of_le (bits_lt h) (by decide))
  have l1 := lp_lt (M := M) 13 (SetTable.bits h % (M + 1)) (SetTable.bits h) (Nat.mod_lt _ (Nat.succ_pos _))
  have e1 := lp_q (M := M) 13 (SetTable.bits h % (M + 1)) (SetTable.bits h)
  rw [q0] at e1
  obtain ⟨k, hk, e⟩ := it_all (whole_of hM) (Nat.le_of_lt_succ l1) (Nat.le_of_lt_succ hj)
  refine ⟨13 + k, by unfold SetTable.turns; omega, ?_⟩
  rw [lp_add, e1, lp_it]
  exact e
theorem runM (i : Nat) (h : i < M + 1) : SetTable.runEnd M i < M + 1 ∧ i ≤ SetTable.runEnd M i := by
  unfold SetTable.runEnd
  split <;> omega
theorem free_ok {owner : Array (Option Nat)} (sz : owner.size = M + 1) : ∀ (fuel i q : Nat), i < M + 1 → (∃ k, k < fuel ∧ owner[(lp M k i q).1]? = some none) →
    ∃ e, SetTable.layClean.free M owner fuel i q = some (nth (tM M) (beg (tM M) i q) e).j ∧ owner[(nth (tM M) (beg (tM M) i q) e).j]? = some none ∧ ∀ m, m < e → ∃ k : Nat, owner[(nth (tM M) (beg (tM M) i q) m).j]? = some (some k)
  | 0, i, q, hi, ⟨k, hk, _⟩ => absurd hk (Nat.not_lt_zero _)
  | fuel + 1, i, q, hi, ⟨k, hk, ek⟩ => by
    obtain ⟨r1, r2⟩ := runM i hi
    have pos : ∀ c, c ≤ SetTable.runEnd M i - i → (nth (tM M) (beg (tM M) i q) c).j = i + c := fun c hc => by rw [nth_run (tM M) i q c hc]
    have val : ∀ c, c ≤ SetTable.runEnd M i - i → ∃ o, owner[i + c]? = some o ∧ owner.getD (i + c) (some 0) = o := fun c hc => by
      have hb : i + c < owner.size := by omega
      exact ⟨owner[i + c], Array.getElem?_eq_getElem hb, by rw [Array.getD_eq_getD_getElem?, Array.getElem?_eq_getElem hb]; rfl⟩
    unfold SetTable.layClean.free
    cases hf : (List.range (SetTable.runEnd M i + 1 - i)).find? fun k => (owner.getD (i + k) (some 0)).isNone with
    | some c =>
      obtain ⟨a, b, d⟩ := List.find?_range_eq_some.mp hf
      have hc : c ≤ SetTable.runEnd M i - i := by have := List.mem_range.mp b; omega
      refine ⟨c, ?_, ?_, fun m hm => ?_⟩
      · show some (i + c) = _
        rw [pos c hc]
      · rw [pos c hc]
        obtain ⟨o, e1, e2⟩ := val c hc
        rw [e2] at a
        rw [e1, Option.isNone_iff_eq_none.mp a]
      · rw [pos m (by omega)]
        obtain ⟨o, e1, e2⟩ := val m (by omega)
        have := d m hm
        rw [e2] at this
        cases o with
        | none => simp at this
        | some k => exact ⟨k, e1⟩
    | none =>
      have no := List.find?_range_eq_none.mp hf
      have full : ∀ c, c ≤ SetTable.runEnd M i - i → ∃ k : Nat, owner[i + c]? = some (some k) := fun c hc => by
        obtain ⟨o, e1, e2⟩ := val c hc
        have := no c (by omega)
        rw [e2] at this
        cases o with
        | none => simp at this
        | some k => exact ⟨k, e1⟩
      have k1 : k ≠ 0 := fun z => by
        subst z
        obtain ⟨k', e'⟩ := full 0 (Nat.zero_le _)
        have e2 : owner[i]? = some none := ek
        rw [Nat.add_zero] at e'
        rw [e'] at e2
        cases e2
      obtain ⟨k', rfl⟩ : ∃ k', k = k' + 1 := ⟨k - 1, by omega⟩
      obtain ⟨e, a, b, d⟩ := free_ok sz fuel ((i * 5 + 1 + q / 32) % (M + 1)) (q / 32) (Nat.mod_lt _ (Nat.succ_pos _)) ⟨k', by omega, ek⟩
      have jump : ∀ m, nth (tM M) (beg (tM M) i q) (SetTable.runEnd M i - i + 1 + m) = nth (tM M) (beg (tM M) ((i * 5 + 1 + q / 32) % (M + 1)) (q / 32)) m := fun m => by
        rw [nth_add]
        show nth (tM M) (nth (tM M) (beg (tM M) i q) (SetTable.runEnd (tM M).mask i - i + 1)) m = _
        rw [nth_leap]
      refine ⟨SetTable.runEnd M i - i + 1 + e, ?_, ?_, fun m hm => ?_⟩
      · rw [jump]
        exact a
      · rw [jump]
        exact b
      · by_cases c : m ≤ SetTable.runEnd M i - i
        · rw [pos m c]
          exact full m c
        · obtain ⟨m', rfl⟩ : ∃ m', m = SetTable.runEnd M i - i + 1 + m' := ⟨m - (SetTable.runEnd M i - i + 1), by omega⟩
          rw [jump]
          exact d m' (by omega)
structure LInv (M : Nat) (owner : Array (Option Nat)) (l : List Int) : Prop where
  size : owner.size = M + 1
  val : ∀ (j k : Nat), owner[j]? = some (some k) → k < l.length
  uni : ∀ (j j' k : Nat), owner[j]? = some (some k) → owner[j']? = some (some k) → j = j'
  rch : ∀ (k : Nat) (h : Int), l[k]? = some h → ∃ n, owner[(nth (tM M) ((tM M).probeStart h) n).j]? = some (some k) ∧ ∀ m, m < n → ∃ k' : Nat, owner[(nth (tM M) ((tM M).probeStart h) m).j]? = some (some k')
theorem LInv.begin : LInv M (Array.replicate (M + 1) none) [] := by
  have no : ∀ j k : Nat, (Array.replicate (M + 1) (none : Option Nat))[j]? ≠ some (some k) := fun j k e => by
    rw [Array.getElem?_replicate] at e
    split at e <;> cases e
  exact ⟨by simp, fun j k h => absurd h (no j k), fun j _ k h _ => absurd h (no j k), fun k h e => by cases e⟩
theorem LInv.room {owner : Array (Option Nat)} {l : List Int} (L : LInv M owner l) (hl : l.length < M + 1) : ∃ j, j < M + 1 ∧ owner[j]? = some none := Classical.byContradiction fun no => by
  have all : ∀ j, j < M + 1 → ∃ k, owner[j]? = some (some k) := fun j hj => by
    have hb : j < owner.size := by rw [L.size]; exact hj
    cases e : owner[j] with
    | none => exact absurd ⟨j, hj, by rw [Array.getElem?_eq_getElem hb, e]⟩ no
    | some k => exact ⟨k, by rw [Array.getElem?_eq_getElem hb, e]⟩
  have key : ∀ j, j < M + 1 → ∀ k, owner[j]? = some (some k) → (owner.getD j none).getD 0 = k := fun j _ k e => by rw [Array.getD_eq_getD_getElem?, e]; rfl
  have nd : ((List.range (M + 1)).map fun j => (owner.getD j none).getD 0).Nodup := by
    unfold List.Nodup
    rw [List.pairwise_map]
    refine List.Pairwise.imp_of_mem ?_ (List.pairwise_lt_range (n := M + 1))
    intro a b ha hb hab e
    obtain ⟨ka, ea⟩ := all a (List.mem_range.mp ha)
    obtain ⟨kb, eb⟩ := all b (List.mem_range.mp hb)
    rw [key a (List.mem_range.mp ha) ka ea, key b (List.mem_range.mp hb) kb eb] at e
    subst e
    have := L.uni a b ka ea eb
    omega
  have sub : ∀ x ∈ (List.range (M + 1)).map (fun j => (owner.getD j none).getD 0), x ∈ List.range l.length := fun x hx => by
    obtain ⟨j, hj, rfl⟩ := List.mem_map.mp hx
    obtain ⟨k, e⟩ := all j (List.mem_range.mp hj)
    rw [key j (List.mem_range.mp hj) k e]
    exact List.mem_range.mpr (L.val j k e)
  have := nd_sub nd sub
  rw [List.length_map, List.length_range, List.length_range] at this
  omega
theorem LInv.next (hM : Big M) {owner : Array (Option Nat)} {l : List Int} (L : LInv M owner l) (hl : l.length < M + 1) (h : Int) : ∃ j, SetTable.layClean.free M owner (SetTable.turns M) (SetTable.bits h % (M + 1)) (SetTable.bits h) = some j ∧ LInv M (owner.setIfInBounds j (some l.length)) (l ++ [h]) := by
  obtain ⟨j, hj, ej⟩ := L.room hl
  obtain ⟨k, hk, e⟩ := lp_covers hM h hj
  obtain ⟨n, a, b, d⟩ := free_ok L.size (SetTable.turns M) _ _ (Nat.mod_lt _ (Nat.succ_pos _)) ⟨k, hk, by rw [e]; exact ej⟩
  refine ⟨_, a, ?_⟩
  have st : (tM M).probeStart h = beg (tM M) (SetTable.bits h % (M + 1)) (SetTable.bits h) := rfl
  rw [← st] at a b d ⊢
  generalize hs : (nth (tM M) ((tM M).probeStart h) n).j = s at a b
  have sb : s < owner.size := (Array.getElem?_eq_some_iff.mp b).1
  have get : ∀ c, (owner.setIfInBounds s (some l.length))[c]? = if c = s then some (some l.length) else owner[c]? := fun c => by
    rw [Array.getElem?_setIfInBounds]
    by_cases z : s = c
    · subst z; simp [sb]
    · rw [if_neg z, if_neg (Ne.symm z)]
  have keep : ∀ c k', owner[c]? = some (some k') → (owner.setIfInBounds s (some l.length))[c]? = some (some k') := fun c k' e' => by
    rw [get, if_neg (fun z => by rw [z, b] at e'; cases e')]
    exact e'
  refine ⟨by rw [Array.size_setIfInBounds]; exact L.size, fun c k' e' => ?_, fun c c' k' e1 e2 => ?_, fun k' g e' => ?_⟩
  · rw [get] at e'
    rw [List.length_append, List.length_singleton]
    split at e'
    · cases e'; omega
    · have := L.val c k' e'; omega
  · rw [get] at e1 e2
    split at e1
    · rename_i z1
      cases e1
      split at e2
      · rename_i z2; omega
      · have := L.val _ _ e2; omega
    · split at e2
      · cases e2
        have := L.val _ _ e1; omega
      · exact L.uni _ _ _ e1 e2
  · by_cases c : k' < l.length
    · rw [List.getElem?_append_left c] at e'
      obtain ⟨n', x, y⟩ := L.rch k' g e'
      exact ⟨n', keep _ _ x, fun m hm => (y m hm).imp fun k e => keep _ _ e⟩
    · have hk' : k' = l.length := by
        have := (List.getElem?_eq_some_iff.mp e').1
        rw [List.length_append, List.length_singleton] at this
        omega
      subst hk'
      rw [List.getElem?_append_right (Nat.le_refl _), Nat.sub_self] at e'
      cases e'
      exact ⟨n, by rw [hs, get, if_pos rfl], fun m hm => (d m hm).imp fun k e => keep _ _ e⟩
/-- one hash behind the other, by any step that does so -/
theorem lay_list (hM : Big M) {f : Option (Array (Option Nat) × Nat) → Int → Option (Array (Option Nat) × Nat)} (hf : ∀ owner k h j, SetTable.layClean.free M owner (SetTable.turns M) (SetTable.bits h % (M + 1)) (SetTable.bits h) = some j → f (some (owner, k)) h = some (owner.setIfInBounds j (some k), k + 1)) :
    ∀ (rest done : List Int) (owner : Array (Option Nat)), LInv M owner done → done.length + rest.length ≤ M → ∃ owner', rest.foldl f (some (owner, done.length)) = some (owner', (done ++ rest).length) ∧ LInv M owner' (done ++ rest)
  | [], done, owner, L, _ => ⟨owner, by rw [List.append_nil]; rfl, by rw [List.append_nil]; exact L⟩
  | h :: rest, done, owner, L, hl => by
    rw [List.length_cons] at hl
    obtain ⟨j, a, b⟩ := L.next hM (by omega) h
    obtain ⟨o', c, d⟩ := lay_list hM hf rest (done ++ [h]) _ b (by rw [List.length_append, List.length_singleton]; omega)
    rw [List.append_assoc] at c d
    refine ⟨o', ?_, d⟩
    rw [List.foldl_cons, hf _ _ _ _ a]
    rw [List.length_append, List.length_singleton] at c
    exact c
theorem lay_map (hM : Big M) {f : Option (Array (Option Nat) × Nat) → Int → Option (Array (Option Nat) × Nat)} (hf : ∀ owner k h j, SetTable.layClean.free M owner (SetTable.turns M) (SetTable.bits h % (M + 1)) (SetTable.bits h) = some j → f (some (owner, k)) h = some (owner.setIfInBounds j (some k), k + 1))
    (hs : List Int) (hl : hs.length ≤ M) : ∃ owner, Option.map (fun x => x.fst) (hs.foldl f (some (Array.replicate (M + 1) none, 0))) = some owner ∧ LInv M owner hs := by
  obtain ⟨o, a, b⟩ := lay_list hM hf hs [] _ LInv.begin (by simpa using hl)
  exact ⟨o, by rw [show (some (Array.replicate (M + 1) (none : Option Nat), 0)) = some (Array.replicate (M + 1) none, ([] : List Int).length) from rfl, a]; rfl, b⟩
theorem lay_ok (hM : Big M) (hs : List Int) (hl : hs.length ≤ M) : ∃ owner, SetTable.layClean M hs.toArray = some owner ∧ LInv M owner hs := by
  unfold SetTable.layClean
  rw [← Array.foldl_toList, List.toList_toArray]
  refine lay_map hM (fun owner k h j e => ?_) hs hl
  show Option.bind (SetTable.layClean.free M owner (SetTable.turns M) (SetTable.bits h % (M + 1)) (SetTable.bits h)) _ = _
  rw [e]
  rfl
/-! what comes of it -/
theorem laid_of {owner : Array (Option Nat)} {hs : List Int} (L : LInv M owner hs) {f : Nat → Option (Nat × Nat)} (hf : ∀ j x, j < M + 1 → (f j = some x ↔ x.1 = j ∧ owner[j]? = some (some x.2))) (finger moves : Nat) (led plain : Bool) :
    ((((List.range (M + 1)).filterMap f).map (·.2)).toArray).toList.Perm (List.range hs.length) ∧ TB ⟨M, (((List.range (M + 1)).filterMap f).map (·.1)).toArray, #[], finger, led, moves, plain⟩ (((((List.range (M + 1)).filterMap f).map (·.2)).toArray).toList.map fun k => hs.getD k 0) := by
  have mem : ∀ j k, (j, k) ∈ (List.range (M + 1)).filterMap f ↔ owner[j]? = some (some k) := fun j k => by
    rw [List.mem_filterMap]
    constructor
    · rintro ⟨a, ha, e⟩
      obtain ⟨e1, e2⟩ := (hf a _ (List.mem_range.mp ha)).mp e
      have e1' : j = a := e1
      rw [e1']
      exact e2
    · intro e
      have hb : j < M + 1 := by have := (Array.getElem?_eq_some_iff.mp e).1; rwa [L.size] at this
      exact ⟨j, List.mem_range.mpr hb, (hf j _ hb).mpr ⟨rfl, e⟩⟩
  have up : ((List.range (M + 1)).filterMap f).Pairwise fun a b => a.1 < b.1 := by
    rw [List.pairwise_filterMap]
    refine List.Pairwise.imp_of_mem ?_ (List.pairwise_lt_range (n := M + 1))
    intro a b ha hb hab x hx y hy
    rw [((hf a _ (List.mem_range.mp ha)).mp hx).1, ((hf b _ (List.mem_range.mp hb)).mp hy).1]
    exact hab
  generalize (List.range (M + 1)).filterMap f = live at mem up
  constructor
  · show ((live.map (·.2)).toArray).toList.Perm _
    rw [List.toList_toArray, List.perm_ext_iff_of_nodup]
    · intro k
      rw [List.mem_map, List.mem_range]
      constructor
      · rintro ⟨⟨j, k'⟩, h1, rfl⟩
        exact L.val j k' ((mem j k').mp h1)
      · intro hk
        obtain ⟨n, h1, _⟩ := L.rch k hs[k] (List.getElem?_eq_getElem hk)
        exact ⟨_, (mem _ _).mpr h1, rfl⟩
    · unfold List.Nodup
      rw [List.pairwise_map]
      refine List.Pairwise.imp_of_mem ?_ up
      rintro ⟨j, k⟩ ⟨j', k'⟩ h1 h2 hlt (z : k = k')
      subst z
      have := L.uni j j' k ((mem _ _).mp h1) ((mem _ _).mp h2)
      have hlt' : j < j' := hlt
      omega
    · exact List.nodup_range
  · refine ⟨rfl, ?_, ?_, ?_, ?_⟩
    · show ((live.map (·.1)).toArray).size = _
      simp
    · show Rise ((live.map (·.1)).toArray)
      rw [rise_iff]
      intro a b x y hab hx hy
      rw [List.getElem?_toArray, List.getElem?_map] at hx hy
      obtain ⟨u, hu, rfl⟩ := Option.map_eq_some_iff.mp hx
      obtain ⟨v, hv', rfl⟩ := Option.map_eq_some_iff.mp hy
      obtain ⟨la, ea⟩ := List.getElem?_eq_some_iff.mp hu
      obtain ⟨lb, eb⟩ := List.getElem?_eq_some_iff.mp hv'
      have := List.pairwise_iff_getElem.mp up a b la lb hab
      rw [ea, eb] at this
      exact this
    · intro i j hj
      have hj' : ((live.map (·.1)).toArray)[i]? = some j := hj
      rw [List.getElem?_toArray, List.getElem?_map] at hj'
      obtain ⟨u, hu, rfl⟩ := Option.map_eq_some_iff.mp hj'
      have h1 := (mem u.1 u.2).mp (List.mem_of_getElem? hu)
      have := (Array.getElem?_eq_some_iff.mp h1).1
      rw [L.size] at this
      show u.1 ≤ M
      omega
    · intro i h hi
      rw [List.toList_toArray, List.getElem?_map, List.getElem?_map] at hi
      obtain ⟨k, h1, h2⟩ := Option.map_eq_some_iff.mp hi
      obtain ⟨u, hu, h3⟩ := Option.map_eq_some_iff.mp h1
      have ou := (mem u.1 u.2).mp (List.mem_of_getElem? hu)
      have ku := L.val _ _ ou
      subst h3
      have eh : hs[u.2]? = some h := by
        rw [List.getElem?_eq_getElem ku, ← h2, List.getD_eq_getElem?_getD, List.getElem?_eq_getElem ku]
        rfl
      obtain ⟨n, a, b⟩ := L.rch _ _ eh
      have es := L.uni _ _ _ a ou
      have sm : ∀ (T : SetTable), T.mask = M → ∀ m p, nth T p m = nth (tM M) p m := fun T hT m p => nth_mask (t := T) (u := (tM M)) hT m p
      refine ⟨n, ?_, fun m hm => ?_⟩
      · rw [sm _ rfl]
        show ((live.map (·.1)).toArray)[i]? = some (nth (tM M) ((tM M).probeStart h) n).j
        rw [List.getElem?_toArray, List.getElem?_map, hu, es]
        rfl
      · rw [sm _ rfl]
        obtain ⟨k', e'⟩ := b m hm
        have hm' := (mem _ _).mpr e'
        obtain ⟨i', hi', ei'⟩ := List.getElem_of_mem hm'
        refine ⟨i', ?_⟩
        show ((live.map (·.1)).toArray)[i']? = some (nth (tM M) ((tM M).probeStart h) m).j
        rw [List.getElem?_toArray, List.getElem?_map, List.getElem?_eq_getElem hi', ei']
        rfl
theorem laid_ok (hM : Big M) (hs : List Int) (hl : hs.length ≤ M) (finger moves : Nat) (led plain : Bool) :
    ∃ (t : SetTable) (order : Array Nat), SetTable.laid M finger moves led plain hs.toArray = some (t, order) ∧ t.mask = M ∧ t.led = led ∧ t.plain = plain ∧ order.toList.Perm (List.range hs.length) ∧ TB t (order.toList.map fun k => hs.getD k 0) := by
  obtain ⟨owner, e, L⟩ := lay_ok hM hs hl
  unfold SetTable.laid
  rw [e]
  refine ⟨_, _, rfl, rfl, rfl, rfl, laid_of L (fun j x hj => ?_) finger moves led plain⟩
  have hb : j < owner.size := by rw [L.size]; exact hj
  rw [Option.map_eq_some_iff, Array.getD_eq_getD_getElem?, Array.getElem?_eq_getElem hb]
  constructor
  · rintro ⟨k, e1, rfl⟩
    exact ⟨rfl, congrArg some e1⟩
  · rintro ⟨e1, e2⟩
    exact ⟨x.2, Option.some.inj e2, by rw [← e1]⟩
end
end ST
end L2

namespace L2
open PySem PySem.Spec
namespace ST
/-! ### a set of tuples in the heap -/
section
variable {prog : Program} {w : World} {K : Type} [DecidableEq K] (knd : PySem.KeyKind prog w K)
noncomputable def ent (p : List K × Addr) : Int × Value := (tupleKeyHash knd p.1, .ref p.2)
structure Els (Pl : Prop) (h : Heap) (a : Addr) (xs : List (List K × Addr)) (led : Bool) (o : Obj) (ep : Nat) (t : SetTable) : Prop where
  at_ : h.get? a = some o
  ex : o.ExactSet
  data : o.data = .set ((xs.map (ent knd)).toArray) ep t
  tab : TOk t (xs.map fun p => tupleKeyHash knd p.1)
  plain : Pl → t.plain = true
  led_ : t.led = led
  keys : ∀ p ∈ xs, IsTupleKey knd h p.1 p.2
  nd : (xs.map (·.1)).Nodup
noncomputable def TSet (Pl : Prop) (h : Heap) (a : Addr) (xs : List (List K × Addr)) (led : Bool) : Prop := ∃ o ep t, Els knd Pl h a xs led o ep t
end
section
variable {prog : Program} {w : World} {K : Type} [DecidableEq K] {knd : PySem.KeyKind prog w K} {A : Around} {E : Value → Shared → Prop} {s : Shared} {a b : Addr} {xs : List (List K × Addr)} {led : Bool} {o : Obj} {ep : Nat} {t : SetTable} {k : List K} {Pl : Prop}
theorem Els.size (S : Els knd Pl s.heap a xs led o ep t) : ((xs.map (ent knd)).toArray).size = xs.length := by simp
theorem TB.fits {hs : List Int} {t : SetTable} (T : TB t hs) (n : Nat) (hn : n = hs.length) (room : hs.length ≤ t.mask) : t.fits n = true := by
  unfold SetTable.fits SetTable.fill
  rw [T.len, T.dum, hn]
  simp
  exact room
theorem TOk.room {hs : List Int} {t : SetTable} (T : TOk t hs) : hs.length ≤ t.mask := by
  rcases T.small with ⟨h1, h2⟩ | ⟨h1, h2⟩ | ⟨h1, h2⟩ | ⟨h1, h2⟩ <;> omega
theorem Els.fits (S : Els knd Pl s.heap a xs led o ep t) : t.fits ((xs.map (ent knd)).toArray).size = true := S.tab.toTB.fits _ (by simp) S.tab.room
theorem Els.state {Q : (Array (Int × Value) × Nat × SetTable) → Shared → Prop} (S : Els knd Pl s.heap a xs led o ep t) (h : Q ((xs.map (ent knd)).toArray, ep, t) s) : wpAny (model prog w) A (setState a) Q E s :=
  wpAny_setState_of S.at_ S.data S.fits h
theorem odd_mask (T : TOk t (xs.map fun p => tupleKeyHash knd p.1)) : t.gaveWay = false := by
  unfold SetTable.gaveWay
  rcases T.small with ⟨h, _⟩ | ⟨h, _⟩ | ⟨h, _⟩ | ⟨h, _⟩ <;> rw [h] <;> rfl
/-- a tuple of such things is none of a class of one's own -/
theorem not_own {n : Nat} {Q : Bool → Shared → Prop} (hk : IsTupleKey knd s.heap k b) (h : Q false s) : wpAny (model prog w) A (ofAClassStatement (n + 1) (.ref b)) Q E s := by
  have hT := hk.typeIs
  obtain ⟨ob, items, c, hb, hc, hd, hi⟩ := hk
  unfold ofAClassStatement
  refine wpAny_bind (wpAny_typeOf hT ?_)
  dsimp only
  rw [if_pos (by rfl)]
  refine wpAny_bind (wpAny_pure ?_)
  simp only [Bool.not_true, Bool.false_eq_true, if_false]
  refine wpAny_bind (wpAny_seqItems hb hd ?_)
  dsimp only
  refine wpAny_bind ?_
  rw [← Array.forIn_toList]
  refine wpAny_forIn_list _ (fun rest r s' => r.1 = none ∧ s' = s ∧ ∀ v ∈ rest, carriedByValue v = true) _ (fun v rest r s' h1 => ?_) (fun r s' h1 => ?_) _ _ ⟨rfl, rfl, hi.byValue⟩
  · obtain ⟨_, rfl, h3⟩ := h1
    have hv := h3 v (List.mem_cons_self ..)
    have e : ofAClassStatement n v = pure false := by
      cases v with
      | ref _ => cases hv
      | _ => unfold ofAClassStatement; rfl
    rw [e]
    refine wpAny_bind (wpAny_pure ?_)
    simp only [Bool.false_eq_true, if_false]
    exact wpAny_pure ⟨rfl, rfl, fun u hu => h3 u (List.mem_cons_of_mem _ hu)⟩
  · obtain ⟨h1, rfl, _⟩ := h1
    obtain ⟨r1, r2⟩ := r
    dsimp only at h1
    subst h1
    exact wpAny_pure h
/-- and the search for it is seen by nobody -/
theorem unseen {ys : List Value} {Q : Bool → Shared → Prop} (hk : IsTupleKey knd s.heap k b) (hy : ∀ y ∈ ys, ∃ k' b', y = .ref b' ∧ IsTupleKey knd s.heap k' b') (h : Q false s) : wpAny (model prog w) A (searchCouldBeSeen (.ref b) ys) Q E s := by
  unfold searchCouldBeSeen
  refine wpAny_bind ?_
  refine wpAny_forIn_list _ (fun rest r s' => r.1 = none ∧ s' = s ∧ ∀ y ∈ rest, ∃ k' b', y = .ref b' ∧ IsTupleKey knd s.heap k' b') _ (fun y rest r s' h1 => ?_) (fun r s' h1 => ?_) _ _ ⟨rfl, rfl, hy⟩
  · obtain ⟨_, rfl, h3⟩ := h1
    obtain ⟨k', b', rfl, hb'⟩ := h3 y (List.mem_cons_self ..)
    have next : ∀ y ∈ rest, ∃ k' b', y = .ref b' ∧ IsTupleKey knd s'.heap k' b' := fun u hu => h3 u (List.mem_cons_of_mem _ hu)
    dsimp only
    split
    · exact wpAny_pure ⟨rfl, rfl, next⟩
    · refine wpAny_bind (wpAny_eqIsQuiet_tuple hk ?_)
      simp only [Bool.not_true, Bool.false_eq_true, if_false]
      refine wpAny_bind (wpAny_eqIsQuiet_tuple hb' ?_)
      simp only [Bool.not_true, Bool.false_eq_true, if_false]
      refine wpAny_bind (not_own hk ?_)
      simp only [Bool.false_eq_true, if_false]
      refine wpAny_bind (not_own hb' ?_)
      simp only [Bool.false_eq_true, if_false]
      exact wpAny_pure ⟨rfl, rfl, next⟩
  · obtain ⟨h1, rfl, _⟩ := h1
    obtain ⟨r1, r2⟩ := r
    dsimp only at h1
    subst h1
    exact wpAny_pure h
/-- whether its hash hangs on nothing but its values -/
theorem by_value {n : Nat} {Q : Bool → Shared → Prop} (hv : ∀ (k : K) (v : Value), knd.is k v = true → hashByValue n v = pure true ∨ (¬ Pl ∧ hashByValue n v = pure false)) (hk : IsTupleKey knd s.heap k b) (h : ∀ c, (Pl → c = true) → Q c s) : wpAny (model prog w) A (hashByValue (n + 1) (.ref b)) Q E s := by
  have hT := hk.typeIs
  obtain ⟨ob, items, c, hb, hc, hd, hi⟩ := hk
  have hv' : ∀ v ∈ items.toList, hashByValue n v = pure true ∨ (¬ Pl ∧ hashByValue n v = pure false) := by
    have : ∀ {ks : List K} {vs : List Value}, ItemsAre knd ks vs → ∀ v ∈ vs, hashByValue n v = pure true ∨ (¬ Pl ∧ hashByValue n v = pure false) := fun {ks vs} h => by
      induction h with
      | nil => intro v h; cases h
      | cons h1 _ ih =>
        intro v h
        rcases List.mem_cons.mp h with rfl | h
        · exact hv _ _ h1
        · exact ih v h
    exact this hi
  unfold hashByValue
  refine wpAny_bind (wpAny_specialOf hT F.slot_tuple_hash.lookup ?_)
  dsimp only
  refine wpAny_bind (wpAny_seqItems hb hd ?_)
  simp only [Option.getD_some]
  refine wpAny_bind ?_
  rw [← Array.forIn_toList]
  refine wpAny_mono (wpAny_forIn_list _ (fun rest r s' => r.1 = none ∧ s' = s ∧ ∀ v ∈ rest, hashByValue n v = pure true ∨ (¬ Pl ∧ hashByValue n v = pure false)) (fun r s' => (r.1 = none ∨ (¬ Pl ∧ r.1 = some false)) ∧ s' = s) (fun v rest r s' h1 => ?_) (fun r s' h1 => ⟨.inl h1.1, h1.2.1⟩) _ _ ⟨rfl, rfl, hv'⟩) (fun r s' h1 => ?_) fun _ _ e => e
  · obtain ⟨_, rfl, h3⟩ := h1
    rcases h3 v (List.mem_cons_self ..) with e | ⟨np, e⟩
    · rw [e]
      refine wpAny_bind (wpAny_pure ?_)
      simp only [Bool.not_true, Bool.false_eq_true, if_false]
      exact wpAny_pure ⟨rfl, rfl, fun u hu => h3 u (List.mem_cons_of_mem _ hu)⟩
    · rw [e]
      refine wpAny_bind (wpAny_pure ?_)
      simp only [Bool.not_false, if_true]
      exact wpAny_pure ⟨.inr ⟨np, rfl⟩, rfl⟩
  · obtain ⟨h1, rfl⟩ := h1
    obtain ⟨r1, r2⟩ := r
    dsimp only at h1
    rcases h1 with rfl | ⟨np, rfl⟩
    · exact wpAny_pure (h true fun _ => rfl)
    · exact wpAny_pure (h false fun p => absurd p np)
theorem TB.setPlain {hs : List Int} {t : SetTable} (T : TB t hs) (b : Bool) : TB { t with plain := b } hs := by
  have e : ∀ n p, nth { t with plain := b } p n = nth t p n := fun n p => nth_mask (t := { t with plain := b }) (u := t) rfl n p
  refine ⟨T.dum, T.len, T.rise, T.top, fun i h hi => ?_⟩
  obtain ⟨n, h1, h2⟩ := T.reach i h hi
  refine ⟨n, ?_, fun m hm => ?_⟩
  · rw [e]; exact h1
  · rw [e]; exact h2 m hm
/-! the search -/
theorem probe_eq (f : Nat → Int) (h : Int) (p : SetTable.Probe) : t.probe f h p = SetTable.probe.go t f h (10 * SetTable.turns t.mask) p := rfl
theorem same_mem (t : SetTable) : t.sameMemory t.moves t.mask = some true := by
  unfold SetTable.sameMemory
  rw [if_pos (beq_self_eq_true _)]
/-- a look that is made or not, and shows nothing -/
theorem maybe_seen {α : Type} {M : Model} {c : Bool} {sc : Sem Bool} {bad m : Sem α} {Q : α → Shared → Prop} (h1 : ∀ Q' : Bool → Shared → Prop, Q' false s → wpAny M A sc Q' E s) (h : wpAny M A m Q E s) :
    wpAny M A (if c = true then sc >>= fun x => if x = true then bad else m else m) Q E s := by
  cases c with
  | true =>
    rw [if_pos rfl]
    refine wpAny_bind (h1 _ ?_)
    rw [if_neg Bool.false_ne_true]
    exact h
  | false =>
    rw [if_neg Bool.false_ne_true]
    exact h
theorem is_self {M : Model} {b : Addr} {Q : Bool → Shared → Prop} (h : Q true s) : wpAny M A (isSame (.ref b) (.ref b)) Q E s := by
  unfold isSame
  dsimp only
  rw [if_pos (beq_self_eq_true _)]
  exact wpAny_pure h
/-- from the k-th place on: a free one, or the thing itself -/
theorem search_from {h : Int} {e : Nat} {Q : SetFound → Shared → Prop} (S : Els knd Pl s.heap a xs led o ep t) (hk : IsTupleKey knd s.heap k b) (eh : h = tupleKeyHash knd k) (hu : A.units < cLine)
    (he : e < 10 * SetTable.turns t.mask) (h1 : ¬ On t (nth t (t.probeStart h) e).j) (h3 : ∀ m, m < e → On t (nth t (t.probeStart h) m).j)
    (yes : (∃ b', (k, b') ∈ xs) → Q (.there none) s) (no : (∀ b', (k, b') ∉ xs) → Q (.free (nth t (t.probeStart h) e).j false) s) :
    ∀ (d c fuel : Nat) (st : Option SetTable.Probe), d = e - c → c ≤ e → d < fuel → st.getD (t.probeStart h) = nth t (t.probeStart h) c →
      (∀ m, m < c → ∀ (i : Nat), t.place[i]? = some (nth t (t.probeStart h) m).j → ∀ b' : Addr, xs[i]? ≠ some (k, b')) →
      wpAny (model prog w) A (setSearchFrom a (.ref b) h true fuel st) Q E s := by
  intro d
  induction d using Nat.strongRecOn with
  | ind d ih =>
    intro c fuel st hd hc hf hst hno
    match fuel, hf with
    | fuel + 1, hf =>
      have T := S.tab.toTB
      unfold setSearchFrom
      refine wpAny_bind (S.state ?_)
      dsimp only
      rw [odd_mask S.tab]
      simp only [Bool.false_eq_true, if_false]
      rw [hst, probe_eq]
      -- what lies at a place
      have idx : ∀ m, m < e → ∃ (i : Nat) (p : List K × Addr), t.place[i]? = some (nth t (t.probeStart h) m).j ∧ xs[i]? = some p := fun m hm => by
        obtain ⟨i, hi⟩ := h3 m hm
        have hl : i < xs.length := by
          have := (Array.getElem?_eq_some_iff.mp hi).1
          rw [T.len, List.length_map] at this
          exact this
        exact ⟨i, xs[i], hi, List.getElem?_eq_getElem hl⟩
      have sub : ∀ m, nth t (nth t (t.probeStart h) c) m = nth t (t.probeStart h) (c + m) := fun m => (nth_add t c m _).symm
      have dn : (nth t (t.probeStart h) c).dummy = none := nth_dummy c rfl
      by_cases any : ∃ m, m < e - c ∧ ∃ (i : Nat) (p : List K × Addr), t.place[i]? = some (nth t (t.probeStart h) (c + m)).j ∧ xs[i]? = some p ∧ tupleKeyHash knd p.1 = h
      · obtain ⟨m0, hm0, w0⟩ := any
        obtain ⟨m, hm, ⟨hme, i, p, hi, hp, hh⟩, least'⟩ := least (P := fun m => m < e - c ∧ ∃ (i : Nat) (p : List K × Addr), t.place[i]? = some (nth t (t.probeStart h) (c + m)).j ∧ xs[i]? = some p ∧ tupleKeyHash knd p.1 = h) _ m0 (Nat.lt_succ_self _) ⟨hm0, w0⟩
        have gi : ∀ (i : Nat) (p : List K × Addr), xs[i]? = some p → ((xs.map (ent knd)).toArray)[i]? = some (ent knd p) := fun i p hp => by rw [List.getElem?_toArray, List.getElem?_map, hp]; rfl
        rw [go_cand T.rise _ m i _ (by omega) (by rw [sub]; exact hi) (by show ((((xs.map (ent knd)).toArray)[i]?).map _).getD 0 = h; rw [gi i p hp]; exact hh) (fun m' hm' => by
          obtain ⟨i', p', hi', hp'⟩ := idx (c + m') (by omega)
          refine ⟨i', by rw [sub]; exact hi', ?_⟩
          show ((((xs.map (ent knd)).toArray)[i']?).map _).getD 0 ≠ h
          rw [gi i' p' hp']
          exact fun z => least' m' hm' ⟨by omega, i', p', hi', hp', z⟩)]
        dsimp only
        have pm : p ∈ xs := List.mem_of_getElem? hp
        refine maybe_seen (fun Q' q' => unseen hk (fun y hy => ?_) q') ?_
        · obtain ⟨u, hu', rfl⟩ := List.mem_map.mp hy
          rw [Array.toList_filter] at hu'
          obtain ⟨v, hv, rfl⟩ := List.mem_map.mp (List.mem_filter.mp hu').1
          exact ⟨v.1, v.2, rfl, S.keys v hv⟩
        rw [gi i p hp]
        dsimp only [ent]
        refine wpAny_bind (wpAny_holding (wpAny_eqBool_tuple hu (S.keys p pm) hk ?_))
        refine wpAny_bind (S.state ?_)
        dsimp only
        by_cases sk : p.1 = k
        · rw [decide_eq_true sk]
          simp only [Bool.and_self, if_true]
          exact wpAny_pure (yes ⟨p.2, by rw [← sk]; exact pm⟩)
        · rw [decide_eq_false sk]
          simp only [Bool.and_false, Bool.false_eq_true, if_false]
          rw [same_mem]
          dsimp only
          rw [if_pos rfl, sub, slot_on T.rise hi]
          dsimp only
          rw [gi i p hp]
          dsimp only [ent]
          refine wpAny_bind (is_self ?_)
          refine wpAny_bind (wpAny_pure ?_)
          simp only [if_true]
          refine ih (e - (c + m + 1)) (by omega) (c + m + 1) fuel _ rfl (by omega) (by omega) (by show nth t (nth t (t.probeStart h) c) (m + 1) = _; rw [sub]; rfl) (fun m' hm' i' hi' b' hb' => ?_)
          by_cases cc : m' < c
          · exact hno m' cc i' hi' b' hb'
          · obtain ⟨m2, rfl⟩ : ∃ m2, m' = c + m2 := ⟨m' - c, by omega⟩
            by_cases c2 : m2 < m
            · exact least' m2 c2 ⟨by omega, i', _, hi', hb', eh.symm⟩
            · have : m2 = m := by omega
              subst this
              have ei : i' = i := by rw [← below_at T.rise hi', ← below_at T.rise hi]
              rw [ei, hp] at hb'
              exact sk (by rw [Option.some.inj hb'])
      · rw [go_empty T.rise T.dum _ (e - c) _ dn (by omega) (by rw [sub, show c + (e - c) = e by omega]; exact h1) (fun m hm => by
          obtain ⟨i, p, hi, hp⟩ := idx (c + m) (by omega)
          refine ⟨i, by rw [sub]; exact hi, ?_⟩
          show ((((xs.map (ent knd)).toArray)[i]?).map _).getD 0 ≠ h
          rw [List.getElem?_toArray, List.getElem?_map, hp]
          exact fun z => any ⟨m, hm, i, p, hi, hp, z⟩)]
        rw [sub, show c + (e - c) = e by omega]
        dsimp only
        refine wpAny_pure (no fun b' hb' => ?_)
        obtain ⟨i, hi⟩ := List.getElem?_of_mem hb'
        obtain ⟨n, hn, hon⟩ := T.reach i h (by rw [List.getElem?_map, hi, eh]; rfl)
        have ne : n < e := by
          rcases Nat.lt_trichotomy n e with z | z | z
          · exact z
          · subst z; exact absurd ⟨i, hn⟩ h1
          · exact absurd (hon e z) h1
        by_cases cc : n < c
        · exact hno n cc i hn b' hi
        · exact any ⟨n - c, by omega, i, _, by rw [show c + (n - c) = n by omega]; exact hn, hi, eh.symm⟩
end
end ST
end L2

namespace L2
open PySem PySem.Spec
namespace ST
/-! ### a tuple is put into a set -/
section
variable {prog : Program} {w : World} {K : Type} [DecidableEq K] {knd : PySem.KeyKind prog w K} {A : Around} {E : Value → Shared → Prop} {s : Shared} {a b : Addr} {xs : List (List K × Addr)} {led : Bool} {o : Obj} {ep : Nat} {t : SetTable} {k : List K} {Pl : Prop}
theorem key_but {h h' : Heap} {es : Array (Int × Value)} (x : IsTupleKey knd h k b) (ho : h.get? a = some o) (hd : o.data = .set es ep t) (hs : Heap.SameBut a h h') : IsTupleKey knd h' k b := by
  obtain ⟨ob, items, n, h1, h2, h3, h4⟩ := x
  have ne : b ≠ a := fun z => by
    subst z
    rw [h1] at ho
    cases ho
    rw [h3] at hd
    cases hd
  exact ⟨ob, items, n, by rw [hs.2 b ne]; exact h1, h2, h3, h4⟩
theorem ent_ins (xs : List (List K × Addr)) (p : Nat) (x : List K × Addr) : SetTable.insertAt (xs.map (ent knd)).toArray p (ent knd x) = ((insL xs p x).map (ent knd)).toArray := by
  apply Array.toList_inj.mp
  rw [ins_list, List.toList_toArray, List.toList_toArray, insL_map]
theorem range_get (d : α) : ∀ l : List α, (List.range l.length).map (fun i => l.getD i d) = l := fun l => by
  apply List.ext_getElem?
  intro i
  rw [List.getElem?_map]
  by_cases h : i < l.length
  · rw [List.getElem?_eq_getElem (by rw [List.length_range]; exact h), List.getElem?_eq_getElem h, List.getElem_range]
    show some (l.getD i d) = _
    rw [List.getD_eq_getElem?_getD, List.getElem?_eq_getElem h]
    rfl
  · rw [List.getElem?_eq_none (by rw [List.length_range]; omega), List.getElem?_eq_none (by omega)]
    rfl
theorem relay_list {α β : Type} {f : α → β} {l : List α} (d : α) {order : Array Nat} (h : order.toList.Perm (List.range l.length)) : order.filterMap (fun i => ((l.map f).toArray)[i]?) = ((order.toList.map fun i => l.getD i d).map f).toArray := by
  apply Array.toList_inj.mp
  rw [Array.toList_filterMap, List.toList_toArray, List.map_map]
  have all : ∀ i ∈ order.toList, i < l.length := fun i hi => List.mem_range.mp (h.mem_iff.mp hi)
  generalize order.toList = L at all
  induction L with
  | nil => rfl
  | cons i L ih =>
    have hi := all i (List.mem_cons_self ..)
    rw [List.filterMap_cons, List.map_cons, ih fun j hj => all j (List.mem_cons_of_mem _ hj), List.getElem?_toArray, List.getElem?_map, List.getElem?_eq_getElem hi]
    show f l[i] :: _ = f (l.getD i d) :: _
    rw [List.getD_eq_getElem?_getD, List.getElem?_eq_getElem hi]
    rfl
theorem stored {h : Heap} {es : Array (Int × Value)} (ho : h.get? a = some o) (hd : o.data = .set es ep t) (es' : Array (Int × Value)) (t' : SetTable) : (h.update a (Obj.putSet es' t')).get? a = some { o with data := .set es' (ep + 1) t' } := by
  have e := putSet_of es' t' hd
  exact e ▸ Heap.get?_update_self _ ho (by rw [e]; rfl)
theorem short_line {n : Nat} (h : n ≤ 1000) : n ≤ sizeLine := by rw [sizeLine_eq]; omega
theorem add_ok {Q : Bool → Shared → Prop} (S : Els knd Pl s.heap a xs led o ep t) (hk : IsTupleKey knd s.heap k b) (hu : A.units < cLine) (hv : ∀ (k : K) (v : Value), knd.is k v = true → hashByValue 7 v = pure true ∨ (¬ Pl ∧ hashByValue 7 v = pure false)) (room : xs.length + 1 ≤ 306)
    (yes : (∃ b', (k, b') ∈ xs) → Q false s) (no : (∀ b', (k, b') ∉ xs) → ∀ h' xs', Heap.SameBut a s.heap h' → TSet knd Pl h' a xs' led → xs'.Perm ((k, b) :: xs) → Q true { s with heap := h' }) :
    wpAny (model prog w) A (setAddHashed a (.ref b) (tupleKeyHash knd k)) Q E s := by
  obtain ⟨e, he, h1, h2, h3⟩ := S.tab.first (tupleKeyHash knd k)
  unfold setAddHashed setAddHashedIn
  refine wpAny_holding (wpAny_bind (S.state ?_))
  dsimp only
  have ns : byScan (Value.ref b) ((xs.map (ent knd)).toArray) = false := by unfold byScan; rfl
  rw [ns]
  simp only [Bool.false_eq_true, if_false]
  unfold setSearch
  refine wpAny_bind (search_from S hk rfl hu he h1 h3 (fun y => ?_) (fun n => ?_) e 0 100000 none (by omega) (Nat.zero_le _) (by
    rcases S.tab.sm with f | f | f | f <;> (rw [f] at he; unfold SetTable.turns at he; omega)) rfl (fun m hm => absurd hm (Nat.not_lt_zero _)))
  · exact wpAny_pure (yes y)
  · dsimp only
    refine wpAny_bind (S.state ?_)
    dsimp only
    have B := S.tab.toTB.put h1 h2 h3
    have pl : (t.put (nth t (t.probeStart (tupleKeyHash knd k)) e).j).2 ≤ xs.length := by
      rw [put_at]
      have := (below_ok S.tab.rise (nth t (t.probeStart (tupleKeyHash knd k)) e).j).le
      rw [S.tab.len, List.length_map] at this
      exact this
    have pd := put_dum S.tab.dum (nth t (t.probeStart (tupleKeyHash knd k)) e).j
    generalize t.put (nth t (t.probeStart (tupleKeyHash knd k)) e).j = pp at B pd pl
    obtain ⟨t1, p⟩ := pp
    dsimp only at B pd pl ⊢
    have m1 : t1.mask = t.mask := by rw [pd]
    have l1 : t1.led = led := by rw [pd]; exact S.led_
    have q1 : Pl → t1.plain = true := fun h => by rw [pd]; exact S.plain h
    by_cases cp : t1.plain = true
    case' pos =>
      rw [if_pos cp]
      refine wpAny_bind (by_value (Pl := Pl) hv hk fun bv hbv => ?_)
      rcases bv with _ | _
      case' false =>
        simp only [Bool.false_eq_true, if_false]
        replace B := B.setPlain false
        replace m1 : ({ t1 with plain := false } : SetTable).mask = t.mask := m1
        replace l1 : ({ t1 with plain := false } : SetTable).led = led := l1
        replace q1 : Pl → ({ t1 with plain := false } : SetTable).plain = true := fun h => absurd (hbv h) (by decide)
        clear pd cp hbv
        generalize ({ t1 with plain := false } : SetTable) = T1 at B m1 l1 q1 ⊢
      case' true =>
        simp only [if_true]
        clear pd cp hbv
        generalize t1 = T1 at B m1 l1 q1 ⊢
    case' neg =>
      rw [if_neg cp]
      refine wpAny_bind (wpAny_pure ?_)
      simp only [if_true]
      clear pd cp
      generalize t1 = T1 at B m1 l1 q1 ⊢
    all_goals
      have ei : SetTable.insertAt ((xs.map (ent knd)).toArray) p (tupleKeyHash knd k, Value.ref b) = ((insL xs p (k, b)).map (ent knd)).toArray := ent_ins xs p (k, b)
      rw [ei]
      have xp := insL_perm xs p (k, b)
      have xl := insL_len pl (k, b)
      rw [← insL_map (fun p : List K × Addr => tupleKeyHash knd p.1) xs p (k, b)] at B
      generalize insL xs p (k, b) = xs1 at B xp xl
      have sz1 : ((xs1.map (ent knd)).toArray).size = xs1.length := by simp
      have hl1 : (xs1.map fun p => tupleKeyHash knd p.1).length = xs1.length := List.length_map ..
      refine wpAny_bind (wpAny_storeSet_of S.at_ S.data ?_ (by rw [sz1]; exact short_line (by omega)))
      have ho1 := stored S.at_ S.data ((xs1.map (ent knd)).toArray) T1
      have sb1 := Heap.SameBut.update s.heap a (Obj.putSet ((xs1.map (ent knd)).toArray) T1)
      have ks1 : ∀ h', Heap.SameBut a s.heap h' → ∀ p ∈ xs1, IsTupleKey knd h' p.1 p.2 := fun h' sb p hp => by
        rcases List.mem_cons.mp (xp.mem_iff.mp hp) with rfl | hp
        · exact key_but hk S.at_ S.data sb
        · exact key_but (S.keys p hp) S.at_ S.data sb
      have nd1 : (xs1.map (·.1)).Nodup := by
        rw [(xp.map (·.1)).nodup_iff, List.map_cons, List.nodup_cons]
        refine ⟨fun z => ?_, S.nd⟩
        obtain ⟨q, hq, e'⟩ := List.mem_map.mp z
        have e2 : q.1 = k := e'
        exact n q.2 (e2 ▸ hq)
      have tf : T1.tooFull = decide ((xs.length + 1) * 5 ≥ t.mask * 3) := by
        unfold SetTable.tooFull SetTable.fill
        rw [B.len, B.dum, hl1, xl, m1]
        rfl
      rw [tf]
      simp only [Bool.not_false, Bool.true_and, decide_eq_true_eq]
      by_cases full : (xs.length + 1) * 5 ≥ t.mask * 3
      · rw [if_pos full]
        obtain ⟨W, M, ew, eM, hM, lM, hs2⟩ : ∃ W M, SetTable.grown (((xs.map (ent knd)).toArray).size + 1) = W ∧ SetTable.sizeAbove W = M + 1 ∧ Big M ∧ xs.length + 1 ≤ M ∧ (M = 31 ∧ xs.length + 1 ≤ 18 ∨ M = 127 ∧ xs.length + 1 ≤ 76 ∨ M = 511 ∧ xs.length + 1 ≤ 306) := by
          rw [S.size]
          rcases S.tab.small with ⟨x1, x2⟩ | ⟨x1, x2⟩ | ⟨x1, x2⟩ | ⟨x1, x2⟩ <;> rw [List.length_map] at x2
          · have e : xs.length = 4 := by omega
            rw [e]
            exact ⟨20, 31, rfl, rfl, Or.inr (Or.inl rfl), by omega, Or.inl ⟨rfl, by omega⟩⟩
          · have e : xs.length = 18 := by omega
            rw [e]
            exact ⟨76, 127, rfl, rfl, Or.inr (Or.inr (Or.inl rfl)), by omega, Or.inr (Or.inl ⟨rfl, by omega⟩)⟩
          · have e : xs.length = 76 := by omega
            rw [e]
            exact ⟨308, 511, rfl, rfl, Or.inr (Or.inr (Or.inr rfl)), by omega, Or.inr (Or.inr ⟨rfl, by omega⟩)⟩
          · omega
        rw [ew]
        unfold setRelay
        refine wpAny_bind (wpAny_bind (wpAny_setState_of ho1 rfl (by rw [sz1]; exact B.fits _ (by rw [hl1]) (by rw [hl1, m1, xl]; have := S.tab.room; rw [List.length_map] at this; rcases S.tab.small with ⟨x1, x2⟩ | ⟨x1, x2⟩ | ⟨x1, x2⟩ | ⟨x1, x2⟩ <;> rw [List.length_map] at x2 <;> omega)) ?_))
        dsimp only
        rw [if_neg (by rw [eM]; exact Nat.not_lt.mpr (short_line (by omega)))]
        obtain ⟨t2, order, el, m2, l2, q2, op, B2⟩ := laid_ok hM (xs1.map fun p => tupleKeyHash knd p.1) (by rw [hl1, xl]; exact lM) T1.finger (T1.movedTo M) T1.led T1.plain
        have eh : Array.map (fun x => x.fst) ((xs1.map (ent knd)).toArray) = (xs1.map fun p => tupleKeyHash knd p.1).toArray := by
          apply Array.toList_inj.mp
          rw [Array.toList_map, List.toList_toArray, List.toList_toArray, List.map_map]
          rfl
        have er : T1.relaid (Array.map (fun x => x.fst) ((xs1.map (ent knd)).toArray)) W = some (t2, order) := by
          rw [eh]
          unfold SetTable.relaid
          rw [eM]
          exact el
        rw [er]
        rw [hl1] at op
        have e2 := relay_list (f := ent knd) (([], 0) : List K × Addr) op
        obtain ⟨xs2, hx2⟩ : ∃ xs2, xs2 = order.toList.map fun i => xs1.getD i ([], 0) := ⟨_, rfl⟩
        rw [← hx2] at e2
        have xp2 : xs2.Perm xs1 := by
          rw [hx2]
          have := op.map fun i => xs1.getD i ([], 0)
          rw [range_get] at this
          exact this
        have hh2 : (order.toList.map fun i => (xs1.map fun p => tupleKeyHash knd p.1).getD i 0) = xs2.map fun p => tupleKeyHash knd p.1 := by
          rw [hx2, List.map_map]
          refine List.map_congr_left fun i hi => ?_
          have hl : i < xs1.length := List.mem_range.mp (op.mem_iff.mp hi)
          show _ = tupleKeyHash knd (xs1.getD i ([], 0)).1
          rw [List.getD_eq_getElem?_getD, List.getElem?_map, List.getD_eq_getElem?_getD, List.getElem?_eq_getElem hl]
          rfl
        rw [hh2] at B2
        have hl2 : xs2.length = xs1.length := xp2.length_eq
        have sz2 : ((xs2.map (ent knd)).toArray).size = xs2.length := by simp
        refine wpAny_bind (wpAny_of_eq (a := ((xs2.map (ent knd)).toArray, t2)) ?_ ?_)
        · rw [← e2]
          show (ite _ _ _) = _
          rw [if_neg (by rw [e2, sz2, sz1, hl2]; simp)]
        · dsimp only
          have sb2 := Heap.SameBut.update (s.heap.update a (Obj.putSet ((xs1.map (ent knd)).toArray) T1)) a (Obj.putSet ((xs2.map (ent knd)).toArray) t2)
          refine wpAny_storeSet_of ho1 rfl ?_ (by rw [sz2]; exact short_line (by omega))
          have ho2 := stored ho1 rfl ((xs2.map (ent knd)).toArray) t2
          refine wpAny_pure (no n _ xs2 (sb1.trans sb2) ⟨_, _, t2, ho2, S.ex, rfl, ⟨B2, ?_⟩, fun h => q2.trans (q1 h), l2.trans l1, fun p hp => ks1 _ (sb1.trans sb2) p (xp2.mem_iff.mp hp), ?_⟩ (xp2.trans xp))
          · rw [List.length_map, hl2, xl, m2]
            rcases hs2 with h | h | h
            · exact Or.inr (Or.inl h)
            · exact Or.inr (Or.inr (Or.inl h))
            · exact Or.inr (Or.inr (Or.inr h))
          · rw [(xp2.map (·.1)).nodup_iff]; exact nd1
      · rw [if_neg full]
        refine wpAny_pure (no n _ xs1 sb1 ⟨_, _, T1, ho1, S.ex, rfl, ⟨B, ?_⟩, q1, l1, ks1 _ sb1, nd1⟩ xp)
        rw [hl1, m1]
        rcases S.tab.small with ⟨x1, x2⟩ | ⟨x1, x2⟩ | ⟨x1, x2⟩ | ⟨x1, x2⟩ <;> rw [List.length_map] at x2
        · exact Or.inl ⟨x1, by omega⟩
        · exact Or.inr (Or.inl ⟨x1, by omega⟩)
        · exact Or.inr (Or.inr (Or.inl ⟨x1, by omega⟩))
        · exact Or.inr (Or.inr (Or.inr ⟨x1, by omega⟩))
end
end ST
end L2

namespace L2
open PySem PySem.Spec
namespace ST
/-! ### all tuples of a list are put into a set -/
section
variable {prog : Program} {w : World} {K : Type} [DecidableEq K] {knd : PySem.KeyKind prog w K} {A : Around} {a I : Addr} {fp wr : List Addr} {St : Nat → Heap → Prop} {led : Bool} {ts : List (List K × Addr)} {R : Result → Shared → Prop} {P : Nat → Value → Prop} {N : Nat} {Pl : Prop}
theorem TSet.other {h h' : Heap} {xs : List (List K × Addr)} (S : TSet knd Pl h a xs led) (e : ∀ b o, h.get? b = some o → (∀ p ∈ xs, True) → (b = a ∨ ∃ p ∈ xs, b = p.2) → h'.get? b = some o) : TSet knd Pl h' a xs led := by
  obtain ⟨o, ep, t, S⟩ := S
  refine ⟨o, ep, t, e a o S.at_ (fun _ _ => trivial) (Or.inl rfl), S.ex, S.data, S.tab, S.plain, S.led_, fun p hp => ?_, S.nd⟩
  obtain ⟨ob, items, n, h1, h2⟩ := S.keys p hp
  exact ⟨ob, items, n, e _ _ h1 (fun _ _ => trivial) (Or.inr ⟨p, hp, rfl⟩), h2⟩
theorem key_keep {h h' : Heap} {k : List K} {b : Addr} (x : IsTupleKey knd h k b) (e : ∀ o, h.get? b = some o → h'.get? b = some o) : IsTupleKey knd h' k b := by
  obtain ⟨ob, items, n, h1, h2⟩ := x
  exact ⟨ob, items, n, e _ h1, h2⟩
theorem loop_ok (W : Walks prog w A.in1 I fp wr N P St) (hN : N = ts.length) (hP : ∀ i v, P i v → ∃ p, ts[i]? = some p ∧ v = .ref p.2) (haf : a ∉ fp) (hu : A.in1.units < cLine) (hv : ∀ (k : K) (v : Value), knd.is k v = true → hashByValue 7 v = pure true ∨ (¬ Pl ∧ hashByValue 7 v = pure false)) (l18 : ts.length ≤ 306) (hw : ∀ p ∈ ts, p.2 ∉ wr) :
    ∀ (n i : Nat) (s : Shared) (xs : List (List K × Addr)), n = ts.length - i → i ≤ ts.length → St i s.heap → TSet knd Pl s.heap a xs led → (∀ p ∈ xs, p ∈ ts) → (∀ k, (∃ b, (k, b) ∈ xs) ↔ k ∈ (ts.take i).map (·.1)) → xs.length ≤ i → (∀ p ∈ ts, IsTupleKey knd s.heap p.1 p.2) →
      (∀ h' tk xs', (∀ b o, b ≠ a → b ∉ wr → s.heap.get? b = some o → h'.get? b = some o) → TSet knd Pl h' a xs' led → (∀ p ∈ xs', p ∈ ts) → (∀ k, (∃ b, (k, b) ∈ xs') ↔ k ∈ ts.map (·.1)) → R (.ok (.ret .none)) { s with heap := h', toks := tk }) →
      codeAny (model prog w) A (.builtin "set.update.loop" ⟨[.ref a, .ref I], []⟩) R s := by
  have haw : a ∉ wr := fun h => haf (W.sub _ h)
  subst hN
  intro n
  induction n with
  | zero =>
    intro i s xs hn hi st S sub mem len keys q
    have e : i = ts.length := by omega
    subst e
    refine codeAny_builtin PyProof.Rows.F.entry_set_update_loop ?_
    rw [Around.under_plainId PyProof.Rows.F.plain_set_update_loop _]
    unfold Builtin.«set.update.loop»
    dsimp only
    refine wpAny_bind (W.done s _ _ st fun h' tk keep => ?_)
    dsimp only
    refine wpAny_pure (q h' tk xs (fun b o _ nb e => keep b o nb e) (S.other fun b o e _ hb => keep b o ?_ e) sub (by rw [List.take_length] at mem; exact mem))
    rcases hb with rfl | ⟨p, hp, rfl⟩
    · exact haw
    · exact hw p (sub p hp)
  | succ n ih =>
    intro i s xs hn hi st S sub mem len keys q
    have hlt : i < ts.length := by omega
    refine codeAny_builtin PyProof.Rows.F.entry_set_update_loop ?_
    rw [Around.under_plainId PyProof.Rows.F.plain_set_update_loop _]
    unfold Builtin.«set.update.loop»
    dsimp only
    refine wpAny_bind (W.item i s _ _ hlt st fun v h' tk hv' st' keep => ?_)
    obtain ⟨⟨k, b⟩, hp, rfl⟩ := hP _ _ hv'
    have pm : (k, b) ∈ ts := List.mem_of_getElem? hp
    have keys' : ∀ p ∈ ts, IsTupleKey knd h' p.1 p.2 := fun p hp => key_keep (keys p hp) fun o e => keep _ o (hw p hp) e
    have S' : TSet knd Pl h' a xs led := S.other fun c o e _ hc => keep c o (by
      rcases hc with rfl | ⟨p, hp, rfl⟩
      · exact haw
      · exact hw p (sub p hp)) e
    dsimp only
    refine wpAny_bind (wpAny_holding ?_)
    unfold setAdd
    refine wpAny_holding (wpAny_bind (wpAny_pyHash_tuple hu (keys' _ pm) ?_))
    obtain ⟨o, ep, t, S1⟩ := S'
    have et : (ts.take (i + 1)).map (·.1) = (ts.take i).map (·.1) ++ [k] := by rw [List.take_succ, hp, List.map_append]; rfl
    have go : ∀ (h2 : Heap) (xs2 : List (List K × Addr)), Heap.SameBut a h' h2 → TSet knd Pl h2 a xs2 led → (∀ p ∈ xs2, p ∈ ts) → (∀ k', (∃ b', (k', b') ∈ xs2) ↔ k' ∈ (ts.take (i + 1)).map (·.1)) → xs2.length ≤ i + 1 →
        codeAny (model prog w) A (.builtin "set.update.loop" ⟨[.ref a, .ref I], []⟩) R { s with heap := h2, toks := tk + (k.length + 1) } := fun h2 xs2 sb T2 sub2 mem2 len2 =>
      ih (i + 1) _ xs2 (by omega) hlt (W.frame (i + 1) h' h2 st' fun c hc o e => by rw [sb.2 c (fun z => haf (z ▸ hc))]; exact e) T2 sub2 mem2 len2 (fun p hp => key_but (keys' p hp) S1.at_ S1.data sb)
        fun h3 tk3 xs3 keep3 T3 sub3 mem3 => q h3 tk3 xs3 (fun c o nc nw e => keep3 c o nc nw (by show h2.get? c = some o; rw [sb.2 c nc]; exact keep c o nw e)) T3 sub3 mem3
    refine add_ok (s := { s with heap := h', toks := tk + (k.length + 1) }) S1 (keys' _ pm) hu hv (by omega) (fun y => ?_) (fun n' h2 xs2 sb T2 xp => ?_)
    · refine wpAny_pure ⟨plainId_quiet PyProof.Rows.F.plain_set_update_loop _, go h' xs (Heap.SameBut.refl a h') ⟨o, ep, t, S1⟩ sub (fun k' => ?_) (by omega)⟩
      rw [et, List.mem_append, mem k', List.mem_singleton]
      refine ⟨Or.inl, fun z => ?_⟩
      rcases z with z | rfl
      · exact z
      · exact (mem k').mp y
    · refine wpAny_pure ⟨plainId_quiet PyProof.Rows.F.plain_set_update_loop _, go h2 xs2 sb T2 (fun p hp => ?_) (fun k' => ?_) (by rw [xp.length_eq, List.length_cons]; omega)⟩
      · rcases List.mem_cons.mp (xp.mem_iff.mp hp) with rfl | hp
        · exact pm
        · exact sub p hp
      · rw [et, List.mem_append, ← mem k', List.mem_singleton]
        constructor
        · rintro ⟨b', hb'⟩
          rcases List.mem_cons.mp (xp.mem_iff.mp hb') with z | z
          · exact Or.inr (Prod.mk.inj z).1
          · exact Or.inl ⟨b', z⟩
        · rintro (⟨b', hb'⟩ | rfl)
          · exact ⟨b', xp.mem_iff.mpr (List.mem_cons_of_mem _ hb')⟩
          · exact ⟨b, xp.mem_iff.mpr (List.mem_cons_self ..)⟩
end
end ST
end L2

namespace L2
open PySem PySem.Spec
namespace ST
/-! ### set(a list of tuples) -/
section
variable {prog : Program} {w : World} {K : Type} [DecidableEq K] {knd : PySem.KeyKind prog w K} {A : Around} {E : Value → Shared → Prop} {s : Shared} {Pl : Prop}
noncomputable abbrev ledBy (w : World) : Bool := !w.params.followText "set-order"
noncomputable abbrev bare (w : World) : Obj := { cls := .type "set", data := .set #[] 0 (.fresh 0 0 (ledBy w)) }
theorem new_bare {a : Value} {R : PySem.Fin → Shared → Prop} (h : R (.done (.ret (.ref s.heap.objs.size))) { s with heap := s.heap.push (bare w) }) :
    wpAny (model prog w) A (Builtin.«set.__new__» ⟨[.type "set", a], []⟩) R E s := by
  have hsub := PySem.sub_set_self
  unfold Builtin.«set.__new__» Builtin.Frozenset.newClass
  wp_walk
  refine wpAny_askSetting (wpAny_pure ?_)
  dsimp only
  wp_walk
  exact h
theorem fresh_ok (finger moves : Nat) (led : Bool) : TOk (.fresh finger moves led) [] where
  dum := rfl
  len := rfl
  rise := fun a b h hb => absurd hb (Nat.not_lt_zero _)
  top := fun i j h => by
    have : (#[] : Array Nat)[i]? = some j := h
    simp at this
  reach := fun i h e => by cases e
  small := Or.inl ⟨rfl, by decide⟩
theorem called_bare {l : Addr} {ts : List (List K × Addr)} {Q : Value → Shared → Prop} (hh : A.handled = none) (hl : s.heap.IsList l ((ts.map fun p => Value.ref p.2).toArray)) (keys : ∀ p ∈ ts, IsTupleKey knd s.heap p.1 p.2) (hu : A.in1.in1.in1.units < cLine) (hv : ∀ (k : K) (v : Value), knd.is k v = true → hashByValue 7 v = pure true ∨ (¬ Pl ∧ hashByValue 7 v = pure false)) (l18 : ts.length ≤ 306)
    (h : ∀ h' tk xs, TSet knd Pl h' s.heap.objs.size xs (ledBy w) → (∀ p ∈ xs, p ∈ ts) → (∀ k, (∃ b, (k, b) ∈ xs) ↔ k ∈ ts.map (·.1)) → (∀ b o, b < s.heap.objs.size → s.heap.get? b = some o → h'.get? b = some o) → Q (.ref s.heap.objs.size) { s with heap := h', toks := tk }) :
    wpAny (model prog w) A (call (.type "set") [.ref l]) Q E s := by
  refine wpAny_call ?_
  refine codeAny_of_tree ?_
  wp_walk
  have C := PySem.F.called_set
  obtain ⟨c, tl, hm⟩ := C.mro
  have n1 := C.notType
  have n2 := C.canCreate
  have n3 := C.made
  have n4 := C.sub
  have chk := PySem.F.typeCall_set_1 (.ref l)
  constructor
  · exact Code.quiet_builtin _ (by decide +kernel)
  refine codeAny_builtin PySem.F.entry_type_call ?_
  rw [Around.under_plain (weight_type_call_type "set" [.ref l] []) rfl]
  unfold Builtin.«type.__call__»
  wp_walk
  refine codeAny_call_builtin PySem.F.plain_set_new PySem.F.entry_set_new (wpAny_of_eq (PySem.F.newCall_set_1 (.ref l)) (new_bare ?_))
  have hS : (s.heap.push (bare w)).get? s.heap.objs.size = some (bare w) := Heap.get?_push_size _ rfl
  have ty : Shared.TypeIs { s with heap := s.heap.push (bare w) } (.ref s.heap.objs.size) "set" := ⟨_, hS, rfl⟩
  have li := C.init.lookup
  have bi := C.init.bind (.ref s.heap.objs.size)
  wp_walk
  refine codeAny_call_builtin C.init.plain PySem.F.entry_set_init (check_set_init_1 ty ?_)
  have hl1 : (s.heap.push (bare w)).IsList l ((ts.map fun p => Value.ref p.2).toArray) := hl.push _
  have lty : Shared.TypeIs { s with heap := s.heap.push (bare w) } (.ref l) "list" := by
    obtain ⟨ol, a1, a2, _⟩ := hl1
    exact ⟨ol, a1, a2⟩
  have s1 := PySem.F.sub_list_set
  have s2 := PySem.F.sub_list_frozenset
  unfold Builtin.«set.__init__» noKeywords Builtin.Frozenset.updateFrom
  wp_walk using wpAny_pyIter_list hl1
  have lt : l < s.heap.objs.size := by obtain ⟨ol, a1, _⟩ := hl; exact Heap.lt_size a1
  have sz : (s.heap.push (bare w)).objs.size = s.heap.objs.size + 1 := Heap.size_push ..
  refine loop_ok (knd := knd) (a := s.heap.objs.size) (led := ledBy w) (Walks.list (A := A.in1.in1.in1) hh _ l (Nat.ne_of_lt (by show l < (s.heap.push (bare w)).objs.size; rw [sz]; exact Nat.lt_succ_of_lt lt)) ((ts.map fun p => Value.ref p.2).toArray)) (by simp) (fun i v e => ?_) ?_ hu hv l18 (fun p hp => ?_) ts.length 0 _ [] (by omega) (Nat.zero_le _) ⟨⟨_, Heap.get?_push_size _ rfl, rfl, rfl⟩, hl1.push _⟩ ⟨bare w, 0, .fresh 0 0 (ledBy w), Heap.get?_push_of_some _ hS, ⟨rfl, rfl, rfl⟩, rfl, fresh_ok _ _ _, fun _ => rfl, rfl, fun p hp => absurd hp List.not_mem_nil, List.nodup_nil⟩ (fun p hp => absurd hp List.not_mem_nil) (fun k => ?_) (Nat.zero_le _) (fun p hp => ?_) (fun h' tk xs keep T sub mem => ?_)
  · rw [List.getElem?_toArray, List.getElem?_map] at e
    obtain ⟨p, h1, h2⟩ := Option.map_eq_some_iff.mp e
    exact ⟨p, h1, h2.symm⟩
  · show s.heap.objs.size ∉ [(s.heap.push (bare w)).objs.size, l]
    rw [sz]
    intro z
    rcases List.mem_cons.mp z with z | z
    · exact absurd z (Nat.ne_of_lt (Nat.lt_succ_self _))
    · exact absurd (List.mem_singleton.mp z) (Nat.ne_of_gt lt)
  · show p.2 ∉ [(s.heap.push (bare w)).objs.size]
    rw [sz]
    intro z
    obtain ⟨ob, _, _, h1, _⟩ := keys p hp
    exact absurd (List.mem_singleton.mp z) (Nat.ne_of_lt (Nat.lt_succ_of_lt (Heap.lt_size h1)))
  · simp
  · exact key_keep (keys p hp) fun o e => Heap.get?_push_of_some _ (Heap.get?_push_of_some _ e)
  · dsimp only
    wp_walk
    refine h h' tk xs T sub mem fun b o hb e => keep b o (Nat.ne_of_lt hb) ?_ (Heap.get?_push_of_some _ (Heap.get?_push_of_some _ e))
    show b ∉ [(s.heap.push (bare w)).objs.size]
    rw [sz]
    intro z
    exact absurd (List.mem_singleton.mp z) (Nat.ne_of_lt (Nat.lt_succ_of_lt hb))
end
end ST
end L2

namespace L2
open PySem PySem.Spec PySem.W PyProof.Rows
namespace ST
/-! ### the order in which a set gives its members -/
end ST
end L2

namespace L2
open PySem PySem.Spec PySem.W PyProof.Rows
namespace ST
/-! ### a set is walked -/
section
variable {prog : Program} {w : World} {A : Around} {E : Value → Shared → Prop} {s : Shared} {a I : Addr} {o : Obj} {es : Array (Int × Value)} {ep : Nat} {t : SetTable}
end
end ST
end L2

namespace L2
open PySem PySem.Spec PySem.W PyProof.Rows
namespace ST
section
variable {prog : Program} {w : World} {A : Around} {E : Value → Shared → Prop} {s : Shared} {a I : Addr} {o : Obj} {es : Array (Int × Value)} {ep : Nat} {t : SetTable}
end
end ST
end L2

namespace L2
open PySem PySem.Spec PySem.W PyProof.Rows
namespace ST
section
variable {prog : Program} {w : World} {A : Around} {E : Value → Shared → Prop} {s : Shared} {a I : Addr} {o : Obj} {es : Array (Int × Value)} {ep : Nat} {t : SetTable}
end
end ST
end L2

namespace L2
open PySem PySem.Spec PySem.W PyProof.Rows
namespace ST
/-! ### the keys of any dict in turn -/
section
variable {prog : Program} {w : World} {A : Around} {E : Value → Shared → Prop} {s : Shared} {d I : Addr} {o : Obj} {es : Array DictEntry} {ep : Nat}
end
end ST
end L2

namespace L2
open PySem PySem.Spec PySem.W PyProof.Rows
/-! ### sets of rows, sorted rows -/
section
variable {P : Program} {w : World} {H : Hp} {h : Heap} {m : Nat} {rows : List RW}
end
section
variable {X : Cx} {K : PySem.W.Frag}
end
end L2

namespace L2
open PySem PySem.Spec PySem.W PyProof.Rows
/-! ### a set of tuples in which texts stand, and how many it holds -/
/-- a set of so many members -/
noncomputable def msO (a : Addr) (n : Nat) : HO := .ext fun h => ∃ o es ep t, h.get? a = some o ∧ o.ExactSet ∧ o.data = .set es ep t ∧ t.fits es.size = true ∧ es.size = n
theorem msO_ok {P : Program} {w : World} {H : Hp} {h : Heap} {a : Addr} {n : Nat} {o : Obj} {es : Array (Int × Value)} {ep : Nat} {t : SetTable} (e : h.get? a = some o) (x : o.ExactSet) (d : o.data = .set es ep t) (ft : t.fits es.size = true) (l : es.size = n) : ObjOk P w H h a (msO a n) :=
  ⟨⟨o, es, ep, t, e, x, d, ft, l⟩, ⟨o, e⟩, fun _ _ ⟨o, es, ep, t, e, x⟩ k => ⟨o, es, ep, t, k _ e, x⟩⟩
theorem key_value {P : Program} {w : World} {n : Nat} (k : Key) (v : Value) (e : (mixKind P w).is k v = true) : hashByValue n v = pure true ∨ (¬ False ∧ hashByValue n v = pure false) := by
  rcases keyIs_shape e with ⟨i, t, rfl, rfl⟩ | ⟨x, t, rfl, rfl⟩
  · exact .inl (by cases n <;> rfl)
  · exact .inr ⟨id, by cases n <;> rfl⟩
theorem mix_items {P : Program} {w : World} : ∀ {ks : List Key} {vs : List Value}, Vals (ks.map kV) vs → ItemsAre (mixKind P w) ks vs
  | [], _, h => by cases h; exact .nil
  | .inl i :: ks, _, h => by
    cases h with
    | cons h1 h2 =>
      obtain ⟨t, rfl⟩ := h1
      exact .cons (mixKind_int P w i t) (mix_items h2)
  | .inr x :: ks, _, h => by
    cases h with
    | cons h1 h2 =>
      obtain ⟨t, rfl⟩ := h1
      exact .cons (mixKind_str P w x t) (mix_items h2)
section
variable {X : Cx} {K : PySem.W.Frag}
/-- set(a list of tuples of numbers and texts), no two alike -/
theorem call_setM (hK : X.K = K) (hc : X.calm = true) (hu : X.A.units + 64 < cLine) : CallR X (.type "set") (fun xs H Q => ∃ (p : Addr) (ts : List (List Key × Addr)), xs = [.ref p] ∧ SqL K H p (ts.map fun q => V.ref q.2) ∧ (∀ q ∈ ts, H q.2 = some (.tup (q.1.map kV))) ∧ (ts.map (·.1)).Nodup ∧ ts.length ≤ 300 ∧
    ∀ l : Addr, H l = none → Q (.ref l) (upd H l (msO l ts.length))) := by
  subst hK
  intro pins s σ H xs us Q I r h
  obtain ⟨p, ts, rfl, hq, R, nd, l3, q⟩ := h
  obtain ⟨u, rfl, rx⟩ := vals1 r
  cases rx
  obtain ⟨its, rv, pl, hz⟩ := I.list hq
  have hits : its = ts.map fun p => Value.ref p.2 := by
    have all : ∀ {rs : List (List Key × Addr)} {vs : List Value}, Vals (rs.map fun q => V.ref q.2) vs → vs = rs.map fun p => Value.ref p.2 := by
      intro rs
      induction rs with
      | nil => intro vs h; cases h; rfl
      | cons x rs ih =>
        intro vs h
        cases h with
        | cons h1 h2 =>
          rw [ih h2]
          cases h1
          rfl
    exact all rv
  subst hits
  refine ST.called_bare (Pl := False) (knd := mixKind X.prog X.w) (ts := ts) (I.ok.hd hc) pl.isList (fun x hx => ?_) (by show X.A.units + 3 < cLine; omega) (fun k v e => key_value k v e) (by omega) fun h' tk xs T sub mem keep => ?_
  · obtain ⟨_, its, rv, o, h1, h2, n, h3⟩ := (show ObjOk X.prog X.w H s.heap x.2 (.tup (x.1.map kV)) from I.hok x.2 _ (R x hx))
    exact ⟨o, its.toArray, n, h1, h2, h3, by simpa using mix_items rv⟩
  obtain ⟨o, ep, t, S⟩ := T
  have e1 : xs.length = ts.length := by
    have a := S.nd
    have l1 : (xs.map (·.1)).length ≤ (ts.map (·.1)).length := a.length_le_of_subset fun k hk => by
      obtain ⟨x, hx, rfl⟩ := List.mem_map.mp hk
      exact (mem x.1).mp ⟨x.2, hx⟩
    have l2 : (ts.map (·.1)).length ≤ (xs.map (·.1)).length := nd.length_le_of_subset fun k hk => by
      obtain ⟨b, hb⟩ := (mem k).mpr hk
      exact List.mem_map.mpr ⟨_, hb, rfl⟩
    rw [List.length_map, List.length_map] at l1 l2
    omega
  exact ⟨.ref s.heap.objs.size, _, I.laid (t' := tk) (o := msO s.heap.objs.size ts.length) (fun b o e => keep b o (Heap.lt_size e) e) (Nat.le_refl _) (msO_ok S.at_ S.ex S.data (S.tab.toTB.fits _ (by simp) S.tab.room) (by simp [e1])), rfl, q _ I.fresh⟩
theorem call_lenM : CallR X (.builtin "len") (fun xs H Q => ∃ (p : Addr) (n : Nat), xs = [.ref p] ∧ H p = some (msO p n) ∧ n ≤ 300 ∧ Q (.int (n : Int)) H) := by
  intro pins s σ H xs us Q I r h
  obtain ⟨p, n, rfl, hp, hn, q⟩ := h
  obtain ⟨u, rfl, rx⟩ := vals1 r
  cases rx
  obtain ⟨⟨o, es, ep, t, h1, h2, h3, h7, h4⟩, _⟩ := (show ObjOk X.prog X.w H s.heap p (msO p n) from I.hok p _ hp)
  subst h4
  exact call_len_set h1 h2 h3 h7 (by omega) ⟨.int _, H, I.tok _, ⟨_, rfl⟩, q⟩
end
end L2

namespace L2
open PySem PySem.Spec PyProof.Rows
/-! ### own rules: none within another of its column; how many there can be; what the books say of them -/
theorem pow_same {a b : Nat} (h : 2 ^ a = 2 ^ b) : a = b := (hasb_pow a b).mp (h ▸ (hasb_pow b b).mpr rfl)
theorem hasB_of {s k : Nat} : hasB s k = true ↔ HasB s k := by
  unfold hasB HasB
  rw [Nat.testBit_eq_decide_div_mod_eq]
noncomputable def Unl (a b : RD) : Prop := a.2.2 = b.2.2 → a.2.1 &&& b.2.1 ≠ a.2.1 ∧ b.2.1 &&& a.2.1 ≠ b.2.1
theorem Unl.symm {a b : RD} (h : Unl a b) : Unl b a := fun e => ⟨(h e.symm).2, (h e.symm).1⟩
theorem due_up : ∀ p, p < 128 → (dueN p).Pairwise (fun a b => b &&& a ≠ b) := by decide +kernel
theorem held_no {f : List RD} {x c : Nat} (h : heldB f x c = false) {r : RD} (hr : r ∈ f) (e : r.2.2 = 2 ^ c) : r.2.1 &&& x ≠ r.2.1 := fun z => by
  have : heldB f x c = true := List.any_eq_true.mpr ⟨r, hr, by rw [decide_eq_true e, decide_eq_true z]; rfl⟩
  rw [h] at this
  cases this
section
variable {m p : Nat} {rs : List RD}
theorem ownC_pw {x : Nat} {pre : List Nat} (hx : ∀ a ∈ pre, x &&& a ≠ x) {f : List RD} {c : Nat} (hp : f.Pairwise Unl) (hm : ∀ r ∈ f, r.2.1 ∈ pre ∨ r.2.1 = x) : (ownC m rs p x f c).Pairwise Unl ∧ ∀ r ∈ ownC m rs p x f c, r.2.1 ∈ pre ∨ r.2.1 = x := by
  unfold ownC
  by_cases e : (hasB (freshN m rs p x) c && !heldB f x c) = true
  · rw [if_pos e]
    rw [Bool.and_eq_true, Bool.not_eq_true'] at e
    refine ⟨List.pairwise_append.mpr ⟨hp, List.pairwise_singleton _ _, fun a ha b hb => ?_⟩, fun r hr => ?_⟩
    · obtain rfl := List.mem_singleton.mp hb
      intro ec
      have h1 := held_no e.2 ha ec
      refine ⟨h1, ?_⟩
      rcases hm a ha with h | h
      · exact hx _ h
      · rw [h, Nat.and_self] at h1
        exact absurd rfl h1
    · rcases List.mem_append.mp hr with hr | hr
      · exact hm r hr
      · obtain rfl := List.mem_singleton.mp hr
        exact .inr rfl
  · rw [if_neg e]
    exact ⟨hp, hm⟩
theorem ownCs_pw {x : Nat} {pre : List Nat} (hx : ∀ a ∈ pre, x &&& a ≠ x) : ∀ (cs : List Nat) (f : List RD), f.Pairwise Unl → (∀ r ∈ f, r.2.1 ∈ pre ∨ r.2.1 = x) → (cs.foldl (ownC m rs p x) f).Pairwise Unl ∧ ∀ r ∈ cs.foldl (ownC m rs p x) f, r.2.1 ∈ pre ∨ r.2.1 = x
  | [], f, h1, h2 => ⟨h1, h2⟩
  | c :: cs, f, h1, h2 => by
    obtain ⟨h3, h4⟩ := ownC_pw (m := m) (p := p) (rs := rs) (c := c) hx h1 h2
    exact ownCs_pw hx cs _ h3 h4
theorem ownXs_pw : ∀ (l pre : List Nat) (f : List RD), (pre ++ l).Pairwise (fun a b => b &&& a ≠ b) → f.Pairwise Unl → (∀ r ∈ f, r.2.1 ∈ pre) → (l.foldl (ownX m rs p) f).Pairwise Unl
  | [], pre, f, _, h1, _ => h1
  | x :: l, pre, f, h0, h1, h2 => by
    have hx : ∀ a ∈ pre, x &&& a ≠ x := fun a ha => (List.pairwise_append.mp h0).2.2 a ha x (List.mem_cons_self ..)
    obtain ⟨h3, h4⟩ := ownCs_pw (m := m) (p := p) (rs := rs) hx (List.range m) f h1 fun r hr => .inl (h2 r hr)
    refine ownXs_pw l (pre ++ [x]) _ (by rw [List.append_assoc]; exact h0) h3 fun r hr => ?_
    rcases h4 r hr with h | h
    · exact List.mem_append.mpr (.inl h)
    · exact List.mem_append.mpr (.inr (by rw [h]; exact List.mem_singleton.mpr rfl))
theorem own_pw (hp : p < 128) : (ownL m rs p).Pairwise Unl := ownXs_pw _ [] [] (due_up p hp) .nil fun _ h => absurd h List.not_mem_nil
theorem own_nd (hp : p < 128) : (ownL m rs p).Nodup := (own_pw hp).imp fun {a b} h e => by
  subst e
  exact (h rfl).1 (Nat.and_self _)
theorem pw_two {α : Type} {R : α → α → Prop} (hs : ∀ {a b}, R a b → R b a) : ∀ {l : List α}, l.Pairwise R → ∀ a ∈ l, ∀ b ∈ l, a ≠ b → R a b
  | [], _, a, ha, _, _, _ => absurd ha List.not_mem_nil
  | x :: l, h, a, ha, b, hb, ne => by
    obtain ⟨h1, h2⟩ := List.pairwise_cons.mp h
    rcases List.mem_cons.mp ha with rfl | ha'
    · rcases List.mem_cons.mp hb with rfl | hb'
      · exact absurd rfl ne
      · exact h1 b hb'
    · rcases List.mem_cons.mp hb with rfl | hb'
      · exact hs (h1 a ha')
      · exact pw_two hs h2 a ha' b hb' ne
theorem own_apart (hp : p < 128) {x y c : Nat} (hx : ((true, x, 2 ^ c) : RD) ∈ ownL m rs p) (hy : ((true, y, 2 ^ c) : RD) ∈ ownL m rs p) (h : x &&& y = x) : x = y := Classical.byContradiction fun ne =>
  (pw_two (fun h => Unl.symm h) (own_pw hp) _ hx _ hy (fun e => ne (by injection e with _ e; injection e)) rfl).1 h
end
/-! how many -/
noncomputable def offB (c : Nat) : Nat := if c = 0 then 1 else 0
noncomputable def clr (x k : Nat) : Nat := x - (x &&& 2 ^ k)
theorem clr_two : ∀ k, k < 2 → ∀ a, a < 128 → ∀ b, b < 128 → clr a k = clr b k → a &&& b = a ∨ b &&& a = b := by decide +kernel
noncomputable def half (c : Nat) : List Nat := (List.range 128).filter fun a => !hasB a c && !hasB a (offB c)
theorem half_len : ∀ c, c < 7 → (half c).length = 32 := by decide +kernel
theorem half_mem : ∀ c, c < 7 → ∀ a, a < 128 → hasB a c = false → clr a (offB c) ∈ half c := by decide +kernel
theorem buckets {α : Type} (g : α → Nat → Bool) (n : Nat) : ∀ (cs : List Nat) (l : List α), (∀ r ∈ l, ∃ c ∈ cs, g r c = true) → (∀ c ∈ cs, (l.filter fun r => g r c).length ≤ n) → l.length ≤ n * cs.length
  | [], l, h, _ => by
    cases l with
    | nil => exact Nat.zero_le _
    | cons r l => obtain ⟨c, hc, _⟩ := h r (List.mem_cons_self ..); exact absurd hc List.not_mem_nil
  | c :: cs, l, h, hb => by
    have ih := buckets g n cs (l.filter fun r => !g r c) (fun r hr => by
      obtain ⟨h1, h2⟩ := List.mem_filter.mp hr
      obtain ⟨c', hc', h3⟩ := h r h1
      rcases List.mem_cons.mp hc' with rfl | hc'
      · rw [h3] at h2; cases h2
      · exact ⟨c', hc', h3⟩) (fun c' hc' => Nat.le_trans (List.Sublist.length_le (List.Sublist.filter _ List.filter_sublist)) (hb c' (List.mem_cons_of_mem _ hc')))
    have h1 := hb c (List.mem_cons_self ..)
    have h2 : l.length = (l.filter fun r => g r c).length + (l.filter fun r => !g r c).length := by
      clear ih h1 hb h
      induction l with
      | nil => rfl
      | cons r l ih =>
        cases e : g r c <;> simp [List.filter_cons, e] at ih ⊢ <;> omega
    rw [List.length_cons, Nat.mul_succ]
    omega
section
variable {m p : Nat} {rs : List RD}
theorem own_few (m7 : m ≤ 7) (hp : p < 2 ^ m) : (ownL m rs p).length ≤ 224 := by
  have p7 := pow7 m7
  have p8 : p < 128 := by omega
  have := buckets (fun (r : RD) c => decide (r.2.2 = 2 ^ c)) 32 (List.range 7) (ownL m rs p) (fun r hr => ?_) fun c hc => ?_
  · rw [List.length_range] at this
    exact this
  · obtain ⟨x, c, rfl, _, h2, _⟩ := own_mem m7 r hr
    exact ⟨c, List.mem_range.mpr (by omega), decide_eq_true rfl⟩
  · have hc7 := List.mem_range.mp hc
    have nd : (((ownL m rs p).filter fun r => decide (r.2.2 = 2 ^ c)).map fun r => clr r.2.1 (offB c)).Nodup := by
      refine List.pairwise_map.mpr ?_
      refine (List.Pairwise.and_mem.mp ((own_pw (m := m) (rs := rs) p8).filter _)).imp fun {a b} h e => ?_
      obtain ⟨ha, hb, u⟩ := h
      obtain ⟨a1, a2⟩ := List.mem_filter.mp ha
      obtain ⟨b1, b2⟩ := List.mem_filter.mp hb
      obtain ⟨xa, ca, rfl, ha3, _⟩ := own_mem m7 a a1
      obtain ⟨xb, cb, rfl, hb3, _⟩ := own_mem m7 b b1
      have u' := u ((of_decide_eq_true a2).trans (of_decide_eq_true b2).symm)
      have l1 := ((due_mem m7 hp).mp ha3).1
      have l2 := ((due_mem m7 hp).mp hb3).1
      rcases clr_two (offB c) (by unfold offB; split <;> omega) xa (by omega) xb (by omega) e with z | z
      · exact u'.1 z
      · exact u'.2 z
    have := nd.length_le_of_subset (l₂ := half c) fun y hy => by
      obtain ⟨r, hr, rfl⟩ := List.mem_map.mp hy
      obtain ⟨h1, h2⟩ := List.mem_filter.mp hr
      obtain ⟨x, k, rfl, h3, h4, h5⟩ := own_mem m7 r h1
      have ek : k = c := pow_same (of_decide_eq_true h2)
      subst ek
      have l1 := ((due_mem m7 hp).mp h3).1
      refine half_mem k hc7 x (by omega) ?_
      have h6 := ((fresh_bits k).mp h5).2.2
      cases z : hasB x k with
      | false => rfl
      | true => exact absurd (hasB_of.mp z) h6
    rw [List.length_map, half_len c hc7] at this
    exact this
end
/-! what the books say -/
noncomputable def FolK (ks : List Nat) (x y : Nat) : Prop := ∀ d ∈ ks, d &&& x = 0 → d &&& y = 0
section
variable {m p x c : Nat} {rs : List RD} {ks : List Nat}
theorem fol_fix (hk : Kept0 m rs ks) (hx : x < 2 ^ m) (hc : c < m) : FolK ks x (2 ^ c) ↔ HasB (fixF m rs x) c := by
  rw [fix_iff hx c]
  constructor
  · intro h
    refine ⟨hc, fun d hd ha hb => ?_⟩
    have := h d ((hk d).mpr ⟨hd.2.1, hd.2.2⟩) (apart_iff.mp ha)
    have h2 : HasB (d &&& 2 ^ c) c := (hasb_and _ _ _).mpr ⟨hb, (hasb_pow c c).mpr rfl⟩
    rw [this] at h2
    exact hasb_zero h2
  · rintro ⟨_, h⟩ d hd h0
    refine zero_of fun k hb => ?_
    obtain ⟨h1, h2⟩ := (hasb_and _ _ _).mp hb
    obtain rfl := (hasb_pow c k).mp h2
    obtain ⟨h3, h4⟩ := (hk d).mp hd
    refine h d ⟨Nat.pos_of_ne_zero fun e => ?_, h3, h4⟩ (apart_iff.mpr h0) h1
    rw [e] at h1
    exact hasb_zero h1
/-- what each own rule is, by the books -/
structure OwnOk (m : Nat) (ks : List Nat) (p x c : Nat) : Prop where
  xp : x &&& p = x
  cp : 2 ^ c &&& p ≠ 0
  cx : 2 ^ c &&& x = 0
  cm : c < m
  xm : x < 2 ^ m
  fol : FolK ks x (2 ^ c)
  least : ∀ k, HasB x k → ¬ FolK ks (x - 2 ^ k) (2 ^ c)
theorem pow_le {x k : Nat} (h : HasB x k) : 2 ^ k ≤ x := Nat.ge_two_pow_of_testBit h
theorem drop_bits {x k : Nat} (h : HasB x k) (j : Nat) : HasB (x - 2 ^ k) j ↔ HasB x j ∧ j ≠ k := by
  have e : x &&& 2 ^ k = 2 ^ k := bits_eq fun i => by
    rw [hasb_and, hasb_pow]
    constructor
    · exact fun h => h.2
    · rintro rfl
      exact ⟨h, rfl⟩
  have e2 : x - 2 ^ k = x - (x &&& 2 ^ k) := by rw [e]
  rw [e2, hasb_out, hasb_pow]
  constructor
  · exact fun h => ⟨h.1, fun e => h.2 e.symm⟩
  · exact fun h => ⟨h.1, fun e => h.2 e.symm⟩
theorem own_ok (hk : Kept0 m rs ks) (m7 : m ≤ 7) (hp : p < 2 ^ m) (h : ((true, x, 2 ^ c) : RD) ∈ ownL m rs p) : OwnOk m ks p x c := by
  have p7 := pow7 m7
  obtain ⟨x', c', e, h1, h2, h3⟩ := own_mem m7 _ h
  obtain rfl : x = x' := by injection e with _ e; injection e
  have ec : (2 : Nat) ^ c = 2 ^ c' := by injection e with _ e; injection e
  obtain rfl : c = c' := pow_same ec
  obtain ⟨hx, hxp⟩ := (due_mem m7 hp).mp h1
  obtain ⟨f1, f2, f3⟩ := (fresh_bits c).mp h3
  refine ⟨hxp, fun z => ?_, zero_of fun k hb => ?_, h2, hx, (fol_fix hk hx h2).mpr f1, fun k hb hf => ?_⟩
  · have h4 : HasB (2 ^ c &&& p) c := (hasb_and _ _ _).mpr ⟨(hasb_pow c c).mpr rfl, f2⟩
    rw [z] at h4
    exact hasb_zero h4
  · obtain ⟨h4, h5⟩ := (hasb_and _ _ _).mp hb
    obtain rfl := (hasb_pow c k).mp h4
    exact f3 h5
  · have hx2 : x - 2 ^ k < 2 ^ m := Nat.lt_of_le_of_lt (Nat.sub_le ..) hx
    have sub : ∀ j, HasB (x - 2 ^ k) j → HasB x j := fun j h => ((drop_bits hb j).mp h).1
    have subp : ∀ j, HasB x j → HasB p j := fun j h => by
      rw [← hxp] at h
      exact ((hasb_and _ _ _).mp h).2
    have d2 : x - 2 ^ k ∈ dueN p := (due_mem m7 hp).mpr ⟨hx2, sub_and fun j h => subp j (sub j h)⟩
    have f4 : HasB (freshN m rs p (x - 2 ^ k)) c := (fresh_bits c).mpr ⟨(fol_fix hk hx2 h2).mp hf, f2, fun h => f3 (sub c h)⟩
    obtain ⟨r, hr, hb2⟩ := List.any_eq_true.mp (own_held d2 h2 (hasB_of.mpr f4))
    obtain ⟨y, c2, rfl, _⟩ := own_mem m7 r hr
    rw [Bool.and_eq_true, decide_eq_true_iff, decide_eq_true_iff] at hb2
    obtain ⟨e2, e3⟩ := hb2
    have e2' : (2 : Nat) ^ c2 = 2 ^ c := e2
    rw [e2'] at hr
    have hyx : ∀ j, HasB y j → HasB (x - 2 ^ k) j := fun j h => by
      have e3' : y &&& (x - 2 ^ k) = y := e3
      rw [← e3'] at h
      exact ((hasb_and _ _ _).mp h).2
    have := own_apart (by omega) hr h (sub_and fun j h => sub j (hyx j h))
    subst this
    exact ((drop_bits hb k).mp (hyx k hb)).2 rfl
theorem own_all (hk : Kept0 m rs ks) (m7 : m ≤ 7) (hp : p < 2 ^ m) (hx : x < 2 ^ m) (hxp : x &&& p = x) (hc : c < m) (hpc : HasB p c) (hxc : ¬ HasB x c) (hf : FolK ks x (2 ^ c)) : heldB (ownL m rs p) x c = true :=
  own_held ((due_mem m7 hp).mpr ⟨hx, hxp⟩) hc (hasB_of.mpr ((fresh_bits c).mpr ⟨(fol_fix hk hx hc).mp hf, hpc, hxc⟩))
end
end L2
namespace L2
open PySem PySem.Spec PyProof.Rows
noncomputable def spIsOwn (K : PySem.W.Frag) : Sp := fun vs H Q _ => ∃ (kb r : Addr) (ks : List Nat) (m p x c : Nat), vs = [vN m, .ref kb, vN p, .ref r] ∧ SqL K H kb (ks.map vN) ∧ ks.length ≤ 128 ∧ m ≤ 7 ∧ RuleAt H r true x (2 ^ c) ∧ OwnOk m ks p x c ∧ ∀ H', Same H H' → Q (.bl true) H'
/-- a rule as a tuple of a text and two numbers -/
noncomputable def tkR (r : Rl) : List Key := [.inr (wordS r.st), .inl (r.x : Int), .inl (r.y : Int)]
theorem tkR_inj {r s : Rl} (h : tkR r = tkR s) : r.d = s.d := by
  unfold tkR at h
  injection h with h1 h2
  injection h2 with h2 h3
  injection h3 with h3 _
  have e1 : wordS r.st = wordS s.st := Sum.inr.inj h1
  have e2 : (r.x : Int) = (s.x : Int) := Sum.inl.inj h2
  have e3 : (r.y : Int) = (s.y : Int) := Sum.inl.inj h3
  have e4 : r.st = s.st := by
    revert e1
    cases r.st <;> cases s.st <;> first | (intro; rfl) | (intro z; exact absurd z (by decide +kernel))
  unfold Rl.d
  rw [e4, show r.x = s.x by omega, show r.y = s.y by omega]
theorem tkR_nd {fs : List Rl} (h : (fs.map Rl.d).Nodup) : ((fs.map fun r => (tkR r, r.r)).map (·.1)).Nodup := by
  rw [List.map_map]
  refine List.pairwise_map.mpr ((List.pairwise_map.mp h).imp fun {a b} ne e => ne (tkR_inj e))
theorem held_mem {fs : List Rl} {x c : Nat} (h : heldB (fs.map Rl.d) x c = true) : ∃ r ∈ fs, (decide (r.y = 2 ^ c) && decide (r.x &&& x = r.x)) = true := by
  obtain ⟨d, hd, e⟩ := List.any_eq_true.mp h
  obtain ⟨r, hr, rfl⟩ := List.mem_map.mp hd
  exact ⟨r, hr, e⟩
end L2

namespace Own
open PySem L2
noncomputable def top (i : Nat) : Stmt := PySem.Challenge.pw_splithouse_k71_whole_own_rules_by_books.main.body.getD i (.Pass ⟨0, 0, 0, 0⟩)
section
variable {P : Program} {w : World} {K : PySem.W.Frag} {mg : Str → Option Value} {base : Heap}
seal PySem.wpAny
noncomputable abbrev sHas : Stmt := top 1
theorem scHas : FnScope ["some", "column"] ["some", "column"] (defScope sHas) := ⟨rfl, rfl, rfl, by decide +kernel, rfl, by decide +kernel, by decide +kernel⟩
theorem ok_has {f : Addr} {fd : FuncData} (F : Fun K "has_column" "has_column" sHas f fd) : FnOk P w K mg base CX0 1 f fd ["some", "column"] spHas := by
  refine F.ok scHas (fun vs H Q E h => ?_) (fun cdv A outer s H vs Q E hr h => ?_)
  · obtain ⟨a, k, rfl, _⟩ := h
    rfl
  · obtain ⟨a, k, rfl, q⟩ := h
    refine ⟨_, pss_one (ps_ret (pe_cmpR op_eq (pe_op op_and (pe_op op_shr (pv 0) (pv 1)) pe_int) pe_int (nomark _))), ?_⟩
    refine ⟨_, rfl, _, rfl, _, _, rfl, rfl, (by omega), _, _, rfl, rfl, rfl, ?_⟩
    show Q (V.bl (decide (V.int (Builtin.bitAnd ((a : Int) / 2 ^ (k : Int).toNat) 1) = V.int 1))) H
    rw [has_eq]
    exact q
noncomputable abbrev sCols : Stmt := top 2
theorem scCols : FnScope ["some"] ["some"] (defScope sCols) := ⟨rfl, rfl, rfl, by decide +kernel, rfl, by decide +kernel, by decide +kernel⟩
theorem ok_cols {f fH : Addr} {fd fdH : FuncData} (F : Fun K "columns_of" "columns_of" sCols f fd) (GH : FnOk P w K mg base CX0 1 fH fdH ["some", "column"] spHas) (mH : mg "has_column" = some (.ref fH)) (kH : PySem.W.keepIn K (.ref fH) = true) (bH : Binds K fdH ["some", "column"] []) (zR : mg "range" = none) : FnOk P w K mg base CX0 2 f fd ["some"] spCols := by
  refine F.ok scCols (fun vs H Q E h => ?_) (fun cdv A outer s H vs Q E hr h => ?_)
  · obtain ⟨a, rfl, _⟩ := h
    rfl
  · obtain ⟨a, rfl, ha, q⟩ := h
    refine ⟨_, pss_one (ps_ret (pe_comp (xs := ["column"]) (cs ["some"] (defScope sCols) rfl rfl (by decide +kernel)) rfl (pi_range1 rfl zR (pa_cons (pe_bm0 PySem.F.plainAttrs_int PySem.F.slot_int_bit_length PySem.F.type_int_bit_length mt_bitlen (pv 0)) pa_nil))
      (fun _ _ _ => pg_name (i := 0) (show (["column", "some"] : List Str).Nodup by decide +kernel) rfl (Or.inl rfl)) (fun _ _ _ => pts_one (pt_val (pe_call GH hr rfl mH kH bH .nil pass0 (pa_cons (pv 1) (pa_cons (pv 0) pa_nil))))) (fun _ _ _ => pv 0))), ?_⟩
    refine ⟨_, rfl, rfl, (a : Int), rfl, rfl, _, rfl, (by omega), ?_, ?_⟩
    · have := bitsN_le ha
      show ((bitsN a : Nat) : Int) < _
      omega
    · refine lc_range (lo := 0) (k := ((bitsN a : Nat) : Int).toNat) (n := 1) (fun i acc H' => H' = H ∧ acc = ((List.range i).filter (hasB a)).map vN) ?_ ⟨rfl, rfl⟩ (fun i acc H' hi h => ?_) (fun i acc H' hi h => ?_) (fun acc H' h => ?_)
      · have := bitsN_le ha
        omega
      · rw [h.2, List.length_map]
        exact Nat.le_trans (List.length_filter_le _ _) (by simp)
      · obtain ⟨rfl, rfl⟩ := h
        refine ⟨rfl, _, rfl, _, rfl, a, i, ?_, _, rfl, ?_⟩
        · show [vN a, V.int (0 + (i : Int))] = _
          rw [Int.zero_add]; rfl
        · refine ite2 (fun hc => ?_) (fun hc => ?_)
          · refine ⟨_, rfl, rfl, ?_⟩
            rw [filt_succ, if_pos hc, List.map_append, Int.zero_add]
            rfl
          · refine ⟨rfl, ?_⟩
            rw [filt_succ, if_neg hc, List.append_nil]
      · obtain ⟨rfl, rfl⟩ := h
        intro p hp
        exact q p hp
noncomputable abbrev sAll : Stmt := top 3
theorem scAll : FnScope ["many"] ["many"] (defScope sAll) := ⟨rfl, rfl, rfl, by decide +kernel, rfl, by decide +kernel, by decide +kernel⟩
theorem ok_all {f : Addr} {fd : FuncData} (F : Fun K "all_of" "all_of" sAll f fd) : FnOk P w K mg base CX0 1 f fd ["many"] spAllOf := by
  refine F.ok scAll (fun vs H Q E h => ?_) (fun cdv A outer s H vs Q E hr h => ?_)
  · obtain ⟨m, rfl, _⟩ := h
    rfl
  · obtain ⟨m, rfl, hm, q⟩ := h
    refine ⟨_, pss_one (ps_ret (pe_op op_sub (pe_op op_shl pe_int (pv 0)) pe_int)), ?_⟩
    refine ⟨_, rfl, _, _, rfl, rfl, cpow1 hm, _, _, rfl, rfl, ?_⟩
    show Q (V.int (1 * 2 ^ (m : Int).toNat - 1)) H
    have pw : 0 < 2 ^ m := Nat.two_pow_pos m
    have e : (1 : Int) * 2 ^ (m : Int).toNat - 1 = ((2 ^ m - 1 : Nat) : Int) := by rw [shl1]; omega
    rw [e]
    exact q
noncomputable abbrev sWithin : Stmt := top 4
noncomputable def spWithin : Sp := fun vs H Q _ => ∃ a b : Nat, vs = [.int (a : Int), .int (b : Int)] ∧ Q (.bl (decide (a &&& b = a))) H
theorem scWithin : FnScope ["one", "other"] ["one", "other"] (defScope sWithin) := ⟨rfl, rfl, rfl, by decide +kernel, rfl, by decide +kernel, by decide +kernel⟩
theorem ok_within {f : Addr} {fd : FuncData} (F : Fun K "is_within" "is_within" sWithin f fd) : FnOk P w K mg base CX0 1 f fd ["one", "other"] spWithin := by
  refine F.ok scWithin (fun vs H Q E h => ?_) (fun cdv A outer s H vs Q E hr h => ?_)
  · obtain ⟨a, b, rfl, _⟩ := h
    rfl
  · obtain ⟨a, b, rfl, q⟩ := h
    refine ⟨_, pss_one (ps_ret (pe_cmpR op_eq (pe_op op_and (pv 0) (pv 1)) (pv 0) (nomark _))), ?_⟩
    refine ⟨_, rfl, _, rfl, _, _, rfl, rfl, _, rfl, rfl, ?_⟩
    show Q (V.bl (decide (V.int (Builtin.bitAnd (a : Int) (b : Int)) = V.int (a : Int)))) H
    rw [bitAnd_nat, dec_int]
    have e : (((a &&& b : Nat) : Int) == (a : Int)) = decide (a &&& b = a) := by
      rw [Bool.eq_iff_iff, beq_iff_eq, decide_eq_true_iff]
      exact Int.ofNat_inj
    rw [e]
    exact q
noncomputable abbrev sMore : Stmt := top 5
theorem scMore : FnScope ["sets", "some", "found", "inner"] ["sets", "some"] (defScope sMore) := ⟨rfl, rfl, rfl, by decide +kernel, rfl, by decide +kernel, by decide +kernel⟩
theorem ok_more {f fC : Addr} {fd fdC : FuncData} (F : Fun K "with_one_more" "with_one_more" sMore f fd) (GC : FnOk P w K mg base CX0 2 fC fdC ["some"] spCols) (mC : mg "columns_of" = some (.ref fC)) (kC : PySem.W.keepIn K (.ref fC) = true) (bC : Binds K fdC ["some"] []) (zsorted : mg "sorted" = none) : FnOk P w K mg base CX0 3 f fd ["sets", "some"] spOneUp := by
  refine F.ok scMore (fun vs H Q E h => ?_) (fun cdv A outer s H vs Q E hr h => ?_)
  · obtain ⟨p, a, i, rfl, _⟩ := h
    rfl
  · obtain ⟨p, a, i, rfl, ha, hi, hp, q⟩ := h
    have nd := scMore.nd
    have hr2 : Room 2 _ := hr.mono (by decide)
    obtain ⟨c7, cb⟩ := cols7 a ha
    have lr := row_len a ha i (by omega)
    refine ⟨_, (pss_cons (ps_set (i := 2) nd rfl (Or.inl rfl) (pe_lst pa_nil))
      (pss_cons (ps_for PassesOwn.never rfl (pi_listK (K := K) rfl (pv 0)) (pg_name (i := 3) nd rfl (Or.inr rfl)) (pss_one (ps_expr (pe_bm PySem.F.plainAttrs_list PySem.F.slot_list_extend PySem.F.type_list_extend mt_extend (pv 2) (pa_cons (pe_comp (xs := ["column"]) (cs ["sets", "some", "found", "inner"] (defScope sMore) rfl rfl (by decide +kernel)) rfl (pi_listK (K := K) rfl (pe_call GC hr2 rfl mC kC bC .nil pass0 (pa_cons (pv 1) pa_nil))) (fun _ _ _ => pg_name (i := 0) (show (["column", "sets", "some", "found", "inner"] : List Str).Nodup by decide +kernel) rfl (Or.inl rfl)) (fun _ _ _ => (pts_one (pt_cmpR op_gtN (pe_op op_shl1 pe_int (pv 0)) (pv 4) (nomark _)))) (fun _ _ _ => (pe_op op_orN (pv 4) (pe_op op_shl1 pe_int (pv 0))))) pa_nil)))))
      (pss_one (ps_ret (pe_callB (call_sortedK (K := K) rfl) (by rfl) zsorted PyProof.Rows.boot_sorted (pa_cons (pv 2) pa_nil)))))), ?_⟩
    refine ⟨Nat.zero_le _, fun fp hfp => ?_⟩
    have s0 := Same.new (o := .lst []) hfp
    refine ⟨_, rfl, p, rfl, ⟨_, SqL.of (s0 _ _ hp)⟩, for_list (K := K) (xs := (rowN a i).map vN) (fun j σ H' => (∃ v3 : Option V, σ = [some (.ref p), some (vN a), some (.ref fp), v3]) ∧ Same H H' ∧ H' fp = some (.lst ((moreN a ((rowN a i).take j)).map vN))) ⟨⟨_, rfl⟩, s0, upd_same⟩ (fun j σ H' _ h => SqL.of (h.2.1 _ _ hp)) ?_ ?_⟩
    · rintro j v σ H1 hv ⟨⟨v3, rfl⟩, s1, hf1⟩
      rw [List.getElem?_map] at hv
      cases ex : (rowN a i)[j]? with
      | none => rw [ex] at hv; cases hv
      | some x =>
        rw [ex] at hv
        obtain rfl := (Option.some.inj hv).symm
        refine ⟨_, rfl, .inl ⟨rfl, _, SqL.of hf1⟩, _, rfl, a, rfl, by omega, fun cp hcp => ⟨cp, rfl, ⟨_, SqL.of upd_same⟩, ?_⟩⟩
        have sC := Same.new (o := .lst ((colsN a).map vN)) hcp
        have hcp2 : (upd H1 cp (.lst ((colsN a).map vN))) cp = some (.lst ((colsN a).map vN)) := upd_same
        generalize upd H1 cp (.lst ((colsN a).map vN)) = H2 at sC hcp2
        refine lc_list (K := K) (xs := (colsN a).map vN) (fun k acc H3 => H3 = H2 ∧ acc = ((((colsN a).take k).filter fun c => decide (x < 2 ^ c)).map fun c => x ||| 2 ^ c).map vN) (by rw [List.length_map]; omega) ⟨rfl, rfl⟩ (fun k acc H3 hk h => ?_) (fun k u acc H3 hu h => ?_) (fun acc H3 h => ?_)
        · obtain ⟨rfl, rfl⟩ := h
          exact ⟨SqL.of hcp2, by rw [List.length_map, List.length_map]; exact Nat.le_trans (List.length_filter_le _ _) (List.length_take_le _ _)⟩
        · obtain ⟨rfl, rfl⟩ := h
          rw [List.getElem?_map] at hu
          cases ec : (colsN a)[k]? with
          | none => rw [ec] at hu; cases hu
          | some c =>
            rw [ec] at hu
            obtain rfl := (Option.some.inj hu).symm
            have c1 : c < 7 := of_decide_eq_true (List.all_eq_true.mp cb c (List.mem_of_getElem? ec))
            have et : ((colsN a).take (k + 1)).filter (fun c => decide (x < 2 ^ c)) = ((colsN a).take k).filter (fun c => decide (x < 2 ^ c)) ++ [c].filter (fun c => decide (x < 2 ^ c)) := by rw [List.take_succ, ec, ← List.filter_append]; rfl
            refine ⟨rfl, _, rfl, c, rfl, rfl, by omega, _, rfl, 2 ^ c, x, rfl, rfl, _, rfl, ite2 (fun hb => ?_) (fun hb => ?_)⟩
            · refine ⟨_, rfl, _, rfl, c, rfl, rfl, by omega, x, 2 ^ c, rfl, rfl, rfl, ?_⟩
              rw [et, List.filter_cons_of_pos (p := fun c => decide (x < 2 ^ c)) hb, List.map_append, List.map_append]; rfl
            · refine ⟨rfl, ?_⟩
              rw [et, List.filter_cons_of_neg (p := fun c => decide (x < 2 ^ c)) hb, List.filter_nil, List.append_nil]
        · obtain ⟨rfl, rfl⟩ := h
          rw [List.length_map, List.take_length]
          intro ep hep
          have sE := Same.new (o := .lst (((((colsN a).filter fun c => decide (x < 2 ^ c)).map fun c => x ||| 2 ^ c)).map vN)) hep
          have hf3 := (sC.trans sE) _ _ hf1
          have lm := moreN_len a ha ((rowN a i).take j)
          have lt : ((rowN a i).take j).length ≤ (rowN a i).length := List.length_take_le' j _
          have lu := upOf_len a x ha
          refine ⟨fp, ep, _, _, rfl, rfl, hf3, upd_same, Nat.le_of_lt (small1000 ?_), ?_⟩
          · rw [List.length_map, List.length_map]
            have : (((colsN a).filter fun c => decide (x < 2 ^ c)).map fun c => x ||| 2 ^ c).length ≤ 7 := lu
            omega
          · refine ⟨⟨_, rfl⟩, (s1.trans (sC.trans sE)).own3 hfp, ?_⟩
            rw [upd_same, moreN_succ ex, List.map_append]
            rfl
    · rintro σ H1 ⟨⟨v3, rfl⟩, s1, hf1⟩
      rw [List.length_map, List.take_length] at hf1
      have mi := map_int (moreN a (rowN a i))
      have l64 : ((moreN a (rowN a i)).map fun (k : Nat) => (k : Int)).length < 64 := by
        rw [List.length_map, (List.isPerm_iff.mp (more_perm a ha i hi)).length_eq]
        have := row_len a ha (i + 1) (by omega)
        omega
      refine ⟨_, rfl, fp, (moreN a (rowN a i)).map fun (k : Nat) => (k : Int), rfl, SqL.of (by rw [mi]; exact hf1), l64, fun l ns' hl pm pw => ?_⟩
      rw [row_is ha hi pm pw, map_int]
      exact q l _ (s1.trans (Same.new hl)) (s1.free hl) upd_same
noncomputable abbrev sSetsW : Stmt := top 6
theorem scSetsW : FnScope ["some", "found", "level"] ["some"] (defScope sSetsW) := ⟨rfl, rfl, rfl, by decide +kernel, rfl, by decide +kernel, by decide +kernel⟩
theorem ok_setsw {f fMO : Addr} {fd fdMO : FuncData} (F : Fun K "sets_within" "sets_within" sSetsW f fd) (GMO : FnOk P w K mg base CX0 3 fMO fdMO ["sets", "some"] spOneUp) (mMO : mg "with_one_more" = some (.ref fMO)) (kMO : PySem.W.keepIn K (.ref fMO) = true) (bMO : Binds K fdMO ["sets", "some"] []) : FnOk P w K mg base CX0 7 f fd ["some"] spSetsW := by
  refine F.ok scSetsW (fun vs H Q E h => ?_) (fun cdv A outer s H vs Q E hr h => ?_)
  · obtain ⟨a, rfl, _⟩ := h
    rfl
  · obtain ⟨a, rfl, ha, q⟩ := h
    have nd := scSetsW.nd
    have hr3 : Room 3 _ := hr.mono (by decide)
    refine ⟨_, (pss_cons (ps_set (i := 1) nd rfl (Or.inl rfl) (pe_lst pa_nil))
      (pss_cons (ps_set (i := 2) nd rfl (Or.inl rfl) (pe_lst (pa_cons pe_int pa_nil)))
      (pss_cons (ps_while PassesOwn.never (pt_cmpR (op_neLK (K := K) rfl hr.units) (pv 2) (pe_lst pa_nil) (nomark _)) (pss_cons (ps_expr (pe_bm PySem.F.plainAttrs_list PySem.F.slot_list_extend PySem.F.type_list_extend mt_extend (pv 1) (pa_cons (pv 2) pa_nil)))
      (pss_one (ps_set (i := 2) nd rfl (Or.inl rfl) (pe_call GMO hr3 rfl mMO kMO bMO .nil pass0 (pa_cons (pv 2) (pa_cons (pv 0) pa_nil)))))))
      (pss_one (ps_ret (pv 1)))))), ?_⟩
    refine ⟨Nat.zero_le _, fun p hp => ?_⟩
    have s0 := Same.new (o := .lst []) hp
    refine ⟨(by show 1 ≤ sizeLine; decide), fun l0 hl0 => ?_⟩
    have s1 := Same.new (o := .lst [V.int 0]) hl0
    have hp1 : (upd (upd H p (.lst [])) l0 (.lst [V.int 0])) p = some (.lst []) := s1 _ _ upd_same
    have hl1 : (upd (upd H p (.lst [])) l0 (.lst [V.int 0])) l0 = some (.lst ((rowN a 0).map vN)) := by rw [upd_same, row_zero a ha]; rfl
    have n1 : p ≠ l0 := ne_of_none (show (upd H p (.lst [])) p = _ from upd_same) hl0
    refine ⟨fun n σ H' => ∃ (i : Nat) (lp : Addr), σ = [some (vN a), some (.ref p), some (.ref lp)] ∧ n = 8 - i ∧ i ≤ 8 ∧ Same H H' ∧ p ≠ lp ∧ H' p = some (.lst ((dueM a i).map vN)) ∧ H' lp = some (.lst ((rowN a i).map vN)), ⟨_, 0, l0, rfl, rfl, by omega, s0.trans s1, n1, hp1, hl1⟩, ?_⟩
    rintro n _ H1 ⟨i, lp, rfl, en, hi, s2, nn, hp2, hl2⟩
    have mi := map_int (rowN a i)
    refine ⟨_, rfl, Nat.zero_le _, fun np hnp => ?_⟩
    have sN := Same.new (o := .lst []) hnp
    refine ⟨lp, np, (rowN a i).map fun (k : Nat) => (k : Int), [], rfl, rfl, SqL.of (by rw [mi]; exact sN _ _ hl2), SqL.of upd_same, _, rfl, ?_⟩
    have hp3 := sN _ _ hp2
    have hl3 := sN _ _ hl2
    have s3 := s2.trans sN
    generalize upd H1 np (.lst []) = H3 at hp3 hl3 s3
    rw [if_pos rfl]
    refine ite2 (fun hb => ?_) (fun hb => ?_)
    · have hne : rowN a i ≠ [] := fun z => by
        rw [z] at hb
        cases hb
      have hi8 : i < 8 := by
        rcases Nat.lt_or_ge i 8 with h | h
        · exact h
        · have : i = 8 := by omega
          rw [this, row_last a ha] at hne
          exact absurd rfl hne
      have ld := dueM_len a i ha (by omega)
      have lr := row_len a ha i (by omega)
      refine ⟨_, fun _ _ h => h, ?_⟩
      refine ⟨_, rfl, .inl ⟨rfl, _, SqL.of hp3⟩, _, rfl, p, lp, _, _, rfl, rfl, hp3, hl3, Nat.le_of_lt (small1000 (by rw [List.length_map, List.length_map]; omega)), ?_⟩
      have hl4 : (upd H3 p (.lst ((dueM a i).map vN ++ (rowN a i).map vN))) lp = some (.lst ((rowN a i).map vN)) := by rw [upd_ne nn.symm]; exact hl3
      have hp4 : (upd H3 p (.lst ((dueM a i).map vN ++ (rowN a i).map vN))) p = some (.lst ((dueM a (i + 1)).map vN)) := by rw [upd_same, dueM_succ, List.map_append]
      have s4 : Same H (upd H3 p (.lst ((dueM a i).map vN ++ (rowN a i).map vN))) := s3.own3 hp
      generalize upd H3 p (.lst ((dueM a i).map vN ++ (rowN a i).map vN)) = H4 at hl4 hp4 s4
      refine ⟨_, rfl, _, rfl, lp, a, i, rfl, ha, hi8, hl4, fun l H5 s5 hl50 hl5 => ?_⟩
      exact ⟨8 - (i + 1), by omega, i + 1, l, rfl, rfl, by omega, s4.trans s5, ne_of_none hp4 hl50, s5 _ _ hp4, hl5⟩
    · have hz : rowN a i = [] := by
        cases z : rowN a i with
        | nil => rfl
        | cons x xs => exact absurd (by rw [z]; rfl) hb
      rw [row_due a ha i (by omega) hz] at hp3
      exact ⟨_, rfl, q p _ s3 hp hp3⟩
end
end Own

namespace Own
open PySem L2
section
variable {P : Program} {w : World} {K : PySem.W.Frag} {mg : Str → Option Value} {base : Heap}
seal PySem.wpAny
noncomputable abbrev sCanUse : Stmt := top 8
theorem scCanUse : FnScope ["rule", "block", "taken"] ["rule", "block"] (defScope sCanUse) := ⟨rfl, rfl, rfl, by decide +kernel, rfl, by decide +kernel, by decide +kernel⟩
theorem ok_canuse {f : Addr} {fd : FuncData} (F : Fun K "can_use" "can_use" sCanUse f fd) : FnOk P w K mg base CX0 1 f fd ["rule", "block"] spUsable := by
  refine F.ok scCanUse (fun vs H Q E h => ?_) (fun cdv A outer s H vs Q E hr h => ?_)
  · obtain ⟨r, st, x, y, b, rfl, _⟩ := h
    rfl
  · obtain ⟨r, st, x, y, b, rfl, hR, q⟩ := h
    have nd := scCanUse.nd
    refine ⟨_, (pss_cons (ps_if (pt_cmpR op_neN (pe_op op_andN (pe_ix (ix_tupK (K := K) rfl) (pv 0) pe_int (fun _ _ => rfl)) (pv 1)) pe_int (nomark _)) (pss_one (ps_ret pe_bl)) pss_nil)
      (pss_cons (ps_set (i := 2) nd rfl (Or.inl rfl) (pe_op op_andN (pe_ix (ix_tupK (K := K) rfl) (pv 0) pe_int (fun _ _ => rfl)) (pv 1)))
      (pss_cons (ps_if (pt_cmpR op_eq (pe_ix (ix_tupK (K := K) rfl) (pv 0) pe_int (fun _ _ => rfl)) pe_str (nomark _)) (pss_one (ps_ret (pe_cmpR op_neN (pv 2) pe_int (nomark _)))) pss_nil)
      (pss_one (ps_ret (pe_and (pe_cmpR op_neN (pv 2) pe_int (nomark _)) (pe_one (pe_cmpR op_neN (pv 2) (pv 1) (nomark _))))))))), ?_⟩
    refine ⟨_, rfl, r, _, _, _, rfl, rfl, SqT.of hR, atI_nat (j := 1) rfl, _, rfl, x, b, rfl, rfl, x &&& b, 0, rfl, rfl, _, rfl, ?_⟩
    cases c1 : decide (x &&& b = 0) with
    | false =>
      refine iteT ?_
      have : usableB st x y b = false := by unfold usableB; rw [c1]; rfl
      rw [this] at q
      exact q
    | true =>
      refine iteF ?_
      refine ⟨_, rfl, r, _, _, _, rfl, rfl, SqT.of hR, atI_nat (j := 2) rfl, _, rfl, y, b, rfl, rfl, ?_⟩
      refine ⟨_, rfl, r, _, _, _, rfl, rfl, SqT.of hR, atI_nat (j := 0) rfl, rfl, _, rfl, ?_⟩
      cases st with
      | true =>
        refine iteT ?_
        have : usableB true x y b = !decide (y &&& b = 0) := by unfold usableB; rw [c1]; simp
        rw [this] at q
        exact ⟨_, rfl, y &&& b, 0, rfl, rfl, q⟩
      | false =>
        refine ite2 (fun hc => ?_) (fun _ => ?_)
        · exact absurd (of_decide_eq_true hc) (by intro z; injection z with z; revert z; decide)
        refine ⟨_, rfl, y &&& b, 0, rfl, rfl, _, rfl, ?_⟩
        cases c2 : decide (y &&& b = 0) with
        | true =>
          refine iteF ?_
          have : usableB false x y b = false := by unfold usableB; rw [c1, c2]; rfl
          rw [this] at q
          exact q
        | false =>
          refine iteT ?_
          have : usableB false x y b = !decide (y &&& b = b) := by unfold usableB; rw [c1, c2]; simp
          rw [this] at q
          exact ⟨_, rfl, _, rfl, y &&& b, b, rfl, rfl, q⟩
noncomputable abbrev sListed : Stmt := top 9
theorem scListed : FnScope ["block"] ["block"] (defScope sListed) := ⟨rfl, rfl, rfl, by decide +kernel, rfl, by decide +kernel, by decide +kernel⟩
theorem ok_listed {f : Addr} {fd : FuncData} (F : Fun K "listed" "listed" sListed f fd) : FnOk P w K mg base CX0 1 f fd ["block"] spListed := by
  refine F.ok scListed (fun vs H Q E h => ?_) (fun cdv A outer s H vs Q E hr h => ?_)
  · obtain ⟨b, rfl, _⟩ := h
    rfl
  · obtain ⟨b, rfl, q⟩ := h
    refine ⟨_, (pss_cons (ps_if (pt_cmpR op_eqN (pv 0) pe_int (nomark _)) (pss_one (ps_ret (pe_lst pa_nil))) pss_nil)
      (pss_one (ps_ret (pe_lst (pa_cons (pv 0) pa_nil))))), ?_⟩
    refine ⟨_, rfl, b, 0, rfl, rfl, _, rfl, ite2 (fun hc => ?_) (fun hc => ?_)⟩
    · have b0 : b = 0 := of_decide_eq_true hc
      refine ⟨(by show 0 ≤ sizeLine; exact Nat.zero_le _), fun p hp => ?_⟩
      have := q p hp
      rw [if_neg (by omega)] at this
      exact this
    · have b0 : 0 < b := Nat.pos_of_ne_zero fun z => hc (decide_eq_true z)
      refine ⟨_, rfl, (by show 1 ≤ sizeLine; decide), fun p hp => ?_⟩
      have := q p hp
      rw [if_pos b0] at this
      exact this
noncomputable abbrev sUsed : Stmt := top 10
theorem scUsed : FnScope ["rule", "fixed", "blocks", "at", "taken", "rest"] ["rule", "fixed", "blocks", "at"] (defScope sUsed) := ⟨rfl, rfl, rfl, by decide +kernel, rfl, by decide +kernel, by decide +kernel⟩
theorem ok_used {f fI : Addr} {fd fdI : FuncData} (F : Fun K "used" "used" sUsed f fd) (GI : FnOk P w K mg base CX0 1 fI fdI ["block"] spListed) (mI : mg "listed" = some (.ref fI)) (kI : PySem.W.keepIn K (.ref fI) = true) (bI : Binds K fdI ["block"] []) : FnOk P w K mg base CX0 2 f fd ["rule", "fixed", "blocks", "at"] (spUsed K) := by
  refine F.ok scUsed (fun vs H Q E h => ?_) (fun cdv A outer s H vs Q E hr h => ?_)
  · obtain ⟨r, l, st, x, y, fx, at_, bs, rfl, _⟩ := h
    rfl
  · obtain ⟨r, l, st, x, y, fx, at_, bs, rfl, hR, hl, hat, hb, hdis, q⟩ := h
    have nd := scUsed.nd
    refine ⟨_, (pss_cons (ps_set (i := 4) nd rfl (Or.inl rfl) (pe_op op_andN (pe_ix (ix_listK (K := K) rfl) (pv 2) (pv 3) (fun _ _ => rfl)) (pe_ix (ix_tupK (K := K) rfl) (pv 0) pe_int (fun _ _ => rfl))))
      (pss_cons (ps_set (i := 5) nd rfl (Or.inl rfl) (pe_op op_andInv (pe_ix (ix_listK (K := K) rfl) (pv 2) (pv 3) (fun _ _ => rfl)) (pe_un un_inv (pe_ix (ix_tupK (K := K) rfl) (pv 0) pe_int (fun _ _ => rfl)))))
      (pss_cons (ps_if (pt_cmpR op_eq (pe_ix (ix_tupK (K := K) rfl) (pv 0) pe_int (fun _ _ => rfl)) pe_str (nomark _)) (pss_one (ps_ret (pe_tup (pa_cons (pe_op op_orN (pv 1) (pv 4)) (pa_cons (pe_op op_cat (pe_op op_cat (pe_slice sl_list (pv 2) po_none (po_some (pv 3))) (pe_call GI hr rfl mI kI bI .nil pass0 (pa_cons (pv 5) pa_nil))) (pe_slice sl_list (pv 2) (po_some (pe_op op_addN (pv 3) pe_int)) po_none)) pa_nil))))) pss_nil)
      (pss_one (ps_ret (pe_tup (pa_cons (pv 1) (pa_cons (pe_op op_cat (pe_op op_cat (pe_slice sl_list (pv 2) po_none (po_some (pv 3))) (pe_lst (pa_cons (pv 4) (pa_cons (pv 5) pa_nil)))) (pe_slice sl_list (pv 2) (po_some (pe_op op_addN (pv 3) pe_int)) po_none)) pa_nil)))))))), ?_⟩
    have eb : bs[at_]? = some (bs.getD at_ 0) := by rw [List.getD_eq_getElem?_getD, List.getElem?_eq_getElem hat]; rfl
    have ebv : (bs.map vN)[at_]? = some (vN (bs.getD at_ 0)) := by rw [List.getElem?_map, eb]; rfl
    refine ⟨_, rfl, _, rfl, l, _, _, _, rfl, rfl, hl, atI_nat ebv, _, rfl, r, _, _, _, rfl, rfl, SqT.of hR, atI_nat (j := 2) rfl, bs.getD at_ 0, y, rfl, rfl, ?_⟩
    refine ⟨_, rfl, _, rfl, l, _, _, _, rfl, rfl, hl, atI_nat ebv, _, rfl, r, _, _, _, rfl, rfl, SqT.of hR, atI_nat (j := 2) rfl, (y : Int), rfl, bs.getD at_ 0, y, rfl, rfl, ?_⟩
    refine ⟨_, rfl, r, _, _, _, rfl, rfl, SqT.of hR, atI_nat (j := 0) rfl, rfl, _, rfl, ?_⟩
    have lt : (List.take at_ (bs.map vN)).length ≤ 200 := by rw [List.length_take, List.length_map]; omega
    have ld : (List.drop (at_ + 1) (bs.map vN)).length ≤ 200 := by rw [List.length_drop, List.length_map]; omega
    have szc : ∀ n : Nat, n ≤ 1000 → n ≤ sizeLine := fun n h => Nat.le_of_lt (small1000 h)
    have e1 : cutV (bs.map vN) none (some (at_ : Int)) = List.take at_ (bs.map vN) := cut_take _ _
    have e2 : cutV (bs.map vN) (some ((at_ + 1 : Nat) : Int)) none = List.drop (at_ + 1) (bs.map vN) := cut_drop _ _
    cases st with
    | true =>
      refine iteT ?_
      have eo : behindFx true y fx bs at_ = fx ||| inN y bs at_ := by
        unfold behindFx
        rw [if_pos rfl]
        exact (or_add fx (inN y bs at_) (dis_sub hdis (sub_in _ y))).symm
      refine ⟨_, rfl, _, rfl, fx, inN y bs at_, rfl, rfl, ?_⟩
      refine ⟨_, rfl, _, rfl, (at_ : Int), rfl, l, _, rfl, hl, fun p1 hp1 => ?_⟩
      rw [e1]
      have s1 := Same.new (o := .lst (List.take at_ (bs.map vN))) hp1
      refine ⟨_, rfl, outN y bs at_, rfl, fun p3 hp3 => ?_⟩
      have s3 := Same.new (o := .lst ((if 0 < outN y bs at_ then [outN y bs at_] else []).map vN)) hp3
      have l3 : ((if 0 < outN y bs at_ then [outN y bs at_] else []).map vN).length ≤ 1 := by split <;> simp
      refine ⟨p1, p3, List.take at_ (bs.map vN), (if 0 < outN y bs at_ then [outN y bs at_] else []).map vN, rfl, rfl, s3 _ _ upd_same, upd_same, szc _ (by omega), fun p4 hp4 => ?_⟩
      have s4 := Same.new (o := .lst (List.take at_ (bs.map vN) ++ (if 0 < outN y bs at_ then [outN y bs at_] else []).map vN)) hp4
      have s14 := (s1.trans s3).trans s4
      refine ⟨_, rfl, _, rfl, at_, 1, rfl, rfl, ((at_ + 1 : Nat) : Int), rfl, l, _, rfl, s14.seq hl, fun p5 hp5 => ?_⟩
      rw [e2]
      have s5 := Same.new (o := .lst (List.drop (at_ + 1) (bs.map vN))) hp5
      refine ⟨p4, p5, List.take at_ (bs.map vN) ++ (if 0 < outN y bs at_ then [outN y bs at_] else []).map vN, List.drop (at_ + 1) (bs.map vN), rfl, rfl, s5 _ _ upd_same, upd_same, szc _ (by rw [List.length_append]; omega), fun p6 hp6 => ?_⟩
      have e6 : List.take at_ (bs.map vN) ++ (if 0 < outN y bs at_ then [outN y bs at_] else []).map vN ++ List.drop (at_ + 1) (bs.map vN) = (behindBs true y bs at_).map vN := by
        unfold behindBs
        rw [if_pos rfl, List.map_append, List.map_append, List.map_take, List.map_drop]
      rw [e6]
      have s6 := Same.new (o := .lst ((behindBs true y bs at_).map vN)) hp6
      refine ⟨(by show 2 ≤ sizeLine; decide), fun t ht => ?_⟩
      have s7 := Same.new (o := .tup [vN (fx ||| inN y bs at_), V.ref p6]) ht
      have s16 := (s14.trans s5).trans s6
      exact q t p6 _ (s16.trans s7) (s16.none ht) (by rw [eo]; exact upd_same) ((s14.trans s5).none hp6) (s7 _ _ upd_same)
    | false =>
      refine ite2 (fun hc => ?_) (fun _ => ?_)
      · exact absurd (of_decide_eq_true hc) (by intro z; injection z with z; revert z; decide)
      refine ⟨_, rfl, ?_⟩
      refine ⟨_, rfl, _, rfl, (at_ : Int), rfl, l, _, rfl, hl, fun p1 hp1 => ?_⟩
      rw [e1]
      have s1 := Same.new (o := .lst (List.take at_ (bs.map vN))) hp1
      refine ⟨_, rfl, _, rfl, (by show 2 ≤ sizeLine; decide), fun p3 hp3 => ?_⟩
      have s3 := Same.new (o := .lst [vN (inN y bs at_), vN (outN y bs at_)]) hp3
      refine ⟨p1, p3, List.take at_ (bs.map vN), [vN (inN y bs at_), vN (outN y bs at_)], rfl, rfl, s3 _ _ upd_same, upd_same, szc _ (by show _ + 2 ≤ 1000; omega), fun p4 hp4 => ?_⟩
      have s4 := Same.new (o := .lst (List.take at_ (bs.map vN) ++ [vN (inN y bs at_), vN (outN y bs at_)])) hp4
      have s14 := (s1.trans s3).trans s4
      refine ⟨_, rfl, _, rfl, at_, 1, rfl, rfl, ((at_ + 1 : Nat) : Int), rfl, l, _, rfl, s14.seq hl, fun p5 hp5 => ?_⟩
      rw [e2]
      have s5 := Same.new (o := .lst (List.drop (at_ + 1) (bs.map vN))) hp5
      refine ⟨p4, p5, List.take at_ (bs.map vN) ++ [vN (inN y bs at_), vN (outN y bs at_)], List.drop (at_ + 1) (bs.map vN), rfl, rfl, s5 _ _ upd_same, upd_same, szc _ (by rw [List.length_append]; show _ + 2 + _ ≤ 1000; omega), fun p6 hp6 => ?_⟩
      have e6 : List.take at_ (bs.map vN) ++ [vN (inN y bs at_), vN (outN y bs at_)] ++ List.drop (at_ + 1) (bs.map vN) = (behindBs false y bs at_).map vN := by
        unfold behindBs
        rw [if_neg Bool.false_ne_true, List.map_append, List.map_append, List.map_take, List.map_drop]
        rfl
      rw [e6]
      have s6 := Same.new (o := .lst ((behindBs false y bs at_).map vN)) hp6
      refine ⟨(by show 2 ≤ sizeLine; decide), fun t ht => ?_⟩
      have s7 := Same.new (o := .tup [vN fx, V.ref p6]) ht
      have s16 := (s14.trans s5).trans s6
      exact q t p6 _ (s16.trans s7) (s16.none ht) upd_same ((s14.trans s5).none hp6) (s7 _ _ upd_same)
noncomputable abbrev sBegun : Stmt := top 11
theorem scBegun : FnScope ["many", "some"] ["many", "some"] (defScope sBegun) := ⟨rfl, rfl, rfl, by decide +kernel, rfl, by decide +kernel, by decide +kernel⟩
theorem ok_begun {f fI fAL : Addr} {fd fdI fdAL : FuncData} (F : Fun K "begun" "begun" sBegun f fd) (GI : FnOk P w K mg base CX0 1 fI fdI ["block"] spListed) (mI : mg "listed" = some (.ref fI)) (kI : PySem.W.keepIn K (.ref fI) = true) (bI : Binds K fdI ["block"] []) (GAL : FnOk P w K mg base CX0 1 fAL fdAL ["many"] spAllOf) (mAL : mg "all_of" = some (.ref fAL)) (kAL : PySem.W.keepIn K (.ref fAL) = true) (bAL : Binds K fdAL ["many"] []) : FnOk P w K mg base CX0 2 f fd ["many", "some"] (spBegun K) := by
  refine F.ok scBegun (fun vs H Q E h => ?_) (fun cdv A outer s H vs Q E hr h => ?_)
  · obtain ⟨m, x, rfl, _⟩ := h
    rfl
  · obtain ⟨m, x, rfl, m7, hx, q⟩ := h
    have hr1 : Room 1 _ := hr.mono (by decide)
    refine ⟨_, (pss_one (ps_ret (pe_tup (pa_cons (pv 1) (pa_cons (pe_call GI hr1 rfl mI kI bI .nil pass0 (pa_cons (pe_op op_andInv (pe_call GAL hr1 rfl mAL kAL bAL .nil pass0 (pa_cons (pv 0) pa_nil)) (pe_un un_inv (pv 1))) pa_nil)) pa_nil))))), ?_⟩
    refine ⟨_, rfl, _, rfl, m, rfl, by omega, _, rfl, (x : Int), rfl, 2 ^ m - 1, x, rfl, rfl, 2 ^ m - 1 - ((2 ^ m - 1) &&& x), rfl, fun p hp => ?_⟩
    have ea : (2 ^ m - 1) &&& x = x := by rw [Nat.and_comm, Nat.and_two_pow_sub_one_eq_mod, Nat.mod_eq_of_lt hx]
    have e : (if 0 < 2 ^ m - 1 - ((2 ^ m - 1) &&& x) then [2 ^ m - 1 - ((2 ^ m - 1) &&& x)] else []) = beginBs m x := by
      rw [ea]
      unfold beginBs
      by_cases h : x < 2 ^ m - 1
      · rw [if_pos h, if_pos (by omega)]
      · rw [if_neg h, if_neg (by omega)]
    rw [e]
    have s1 := Same.new (o := .lst ((beginBs m x).map vN)) hp
    refine ⟨(by show 2 ≤ sizeLine; decide), fun t ht => ?_⟩
    have s2 := Same.new (o := .tup [vN x, V.ref p]) ht
    exact q t p _ (s1.trans s2) (s1.none ht) upd_same hp (s2 _ _ upd_same)
noncomputable abbrev sFirst : Stmt := top 12
theorem scFirst : FnScope ["rules", "blocks", "number", "rule", "at", "block"] ["rules", "blocks"] (defScope sFirst) := ⟨rfl, rfl, rfl, by decide +kernel, rfl, by decide +kernel, by decide +kernel⟩
theorem ok_first {f fCU : Addr} {fd fdCU : FuncData} (F : Fun K "first_use" "first_use" sFirst f fd) (GCU : FnOk P w K mg base CX0 1 fCU fdCU ["rule", "block"] spUsable) (mCU : mg "can_use" = some (.ref fCU)) (kCU : PySem.W.keepIn K (.ref fCU) = true) (bCU : Binds K fdCU ["rule", "block"] []) (zenumerate : mg "enumerate" = none) : FnOk P w K mg base CX0 2 f fd ["rules", "blocks"] (spFirstUse K) := by
  refine F.ok scFirst (fun vs H Q E h => ?_) (fun cdv A outer s H vs Q E hr h => ?_)
  · obtain ⟨rl, bl, rs, bs, m, rfl, _⟩ := h
    rfl
  · obtain ⟨rl, bl, rs, bs, m, rfl, hrl, hRs, hbl, lr, lb, qn, qs⟩ := h
    have nd := scFirst.nd
    have hr : Room 1 _ := hr.mono (by decide)
    have lrm : (rs.map fun r => V.ref r.r).length = rs.length := List.length_map ..
    have lbm : (bs.map vN).length = bs.length := List.length_map ..
    refine ⟨_, (pss_cons (ps_for PassesOwn.never rfl (pi_enum (K := K) rfl rfl zenumerate (pa_cons (pv 0) pa_nil)) (pg_tup rfl (pgs_cons (pg_name (i := 2) nd rfl (Or.inl rfl)) (pgs_cons (pg_name (i := 3) nd rfl (Or.inl rfl)) pgs_nil))) (pss_one (ps_for PassesOwn.never rfl (pi_enum (K := K) rfl rfl zenumerate (pa_cons (pv 1) pa_nil)) (pg_tup rfl (pgs_cons (pg_name (i := 4) nd rfl (Or.inl rfl)) (pgs_cons (pg_name (i := 5) nd rfl (Or.inl rfl)) pgs_nil))) (pss_one (ps_if (pt_val (pe_call GCU hr rfl mCU kCU bCU .nil pass0 (pa_cons (pv 3) (pa_cons (pv 5) pa_nil)))) (pss_one (ps_ret (pe_tup (pa_cons (pv 2) (pa_cons (pv 4) pa_nil))))) pss_nil)))))
      (pss_one (ps_ret pe_non))), ?_⟩
    refine ⟨_, rfl, rl, _, rfl, hrl, for_enum (xs := rs.map fun r => V.ref r.r) (fun i σ H' => (∃ v2 v3 v4 v5, σ = [some (.ref rl), some (.ref bl), v2, v3, v4, v5]) ∧ Same H H' ∧ usesN (rs.map Rl.d) bs i = []) ⟨⟨none, none, none, none, rfl⟩, Same.refl _, rfl⟩ (fun i σ H' _ h => h.2.1.seq hrl) ?_ ?_⟩
    · rintro i v σ H0 t0 hv ⟨⟨v2, v3, v4, v5, rfl⟩, s0, u0⟩ ht0
      rw [List.getElem?_map] at hv
      cases er : rs[i]? with
      | none => rw [er] at hv; cases hv
      | some r =>
        rw [er] at hv
        obtain rfl := (Option.some.inj hv).symm
        have hi : i < rs.length := (List.getElem?_eq_some_iff.mp er).1
        have hrm := List.mem_of_getElem? er
        have s1 := s0.trans (Same.new (o := .tup [.int (i : Int), V.ref r.r]) ht0)
        refine ⟨t0, _, rfl, SqT.of upd_same, rfl, _, _, rfl, _, _, rfl, rfl, ?_⟩
        generalize upd H0 t0 (.tup [.int (i : Int), V.ref r.r]) = H1 at s1
        refine ⟨_, rfl, bl, _, rfl, s1.seq hbl, for_enum (xs := bs.map vN) (fun j σ H' => (∃ v4 v5, σ = [some (.ref rl), some (.ref bl), some (vN i), some (.ref r.r), v4, v5]) ∧ Same H H' ∧ usesR r.d i bs j = []) ⟨⟨_, _, rfl⟩, s1, rfl⟩ (fun j σ H' _ h => h.2.1.seq hbl) ?_ ?_⟩
        · rintro j v σ H2 t2 hv' ⟨⟨v4', v5', rfl⟩, s2, u2⟩ ht2
          rw [List.getElem?_map] at hv'
          cases eb : bs[j]? with
          | none => rw [eb] at hv'; cases hv'
          | some b =>
            rw [eb] at hv'
            obtain rfl := (Option.some.inj hv').symm
            have hj : j < bs.length := (List.getElem?_eq_some_iff.mp eb).1
            have ebd : bs.getD j 0 = b := by rw [List.getD_eq_getElem?_getD, eb]; rfl
            have s3 := s2.trans (Same.new (o := .tup [.int (j : Int), vN b]) ht2)
            refine ⟨t2, _, rfl, SqT.of upd_same, rfl, _, _, rfl, _, _, rfl, rfl, ?_⟩
            generalize upd H2 t2 (.tup [.int (j : Int), vN b]) = H3 at s3
            refine ⟨_, rfl, _, rfl, r.r, r.st, r.x, r.y, b, rfl, s3 _ _ (hRs r hrm).1, _, rfl, ite2 (fun hu => ?_) (fun hu => ?_)⟩
            · obtain ⟨us, eu⟩ := uses_first (n := rs.length) u0 (by rw [rd_at er]; exact u2) hi hj (by rw [rd_at er, ebd]; exact hu)
              refine ⟨_, rfl, _, rfl, (by show 2 ≤ sizeLine; decide), fun t ht => ?_⟩
              exact qs (i, j) us t _ (s3.trans (Same.new ht)) eu (s3.none ht) upd_same
            · refine ⟨⟨_, _, rfl⟩, s3, ?_⟩
              rw [usesR_succ, u2, ebd, if_neg (show ¬ usB r.d b = true from hu)]; rfl
        · rintro σ H2 ⟨⟨v4', v5', rfl⟩, s2, u2⟩
          rw [lbm] at u2
          refine ⟨⟨_, _, _, _, rfl⟩, s2, ?_⟩
          rw [usesN_succ, u0, rd_at er, u2]; rfl
    · rintro σ H' ⟨⟨v2, v3, v4, v5, rfl⟩, s', u'⟩
      rw [lrm] at u'
      exact qn H' s' u'
end
end Own

namespace Own
open PySem L2
section
variable {P : Program} {w : World} {K : PySem.W.Frag} {mg : Str → Option Value} {base : Heap}
seal PySem.wpAny
noncomputable abbrev sUnf : Stmt := top 13
theorem scUnf : FnScope ["many", "rules", "some", "now", "steps", "use"] ["many", "rules", "some"] (defScope sUnf) := ⟨rfl, rfl, rfl, by decide +kernel, rfl, by decide +kernel, by decide +kernel⟩
theorem ok_unf {f fBG fFU fUD : Addr} {fd fdBG fdFU fdUD : FuncData} (F : Fun K "unfolded" "unfolded" sUnf f fd) (GBG : FnOk P w K mg base CX0 2 fBG fdBG ["many", "some"] (spBegun K)) (mBG : mg "begun" = some (.ref fBG)) (kBG : PySem.W.keepIn K (.ref fBG) = true) (bBG : Binds K fdBG ["many", "some"] []) (GFU : FnOk P w K mg base CX0 2 fFU fdFU ["rules", "blocks"] (spFirstUse K)) (mFU : mg "first_use" = some (.ref fFU)) (kFU : PySem.W.keepIn K (.ref fFU) = true) (bFU : Binds K fdFU ["rules", "blocks"] []) (GUD : FnOk P w K mg base CX0 2 fUD fdUD ["rule", "fixed", "blocks", "at"] (spUsed K)) (mUD : mg "used" = some (.ref fUD)) (kUD : PySem.W.keepIn K (.ref fUD) = true) (bUD : Binds K fdUD ["rule", "fixed", "blocks", "at"] []) : FnOk P w K mg base CX0 3 f fd ["many", "rules", "some"] (spUnfolded K) := by
  refine F.ok scUnf (fun vs H Q E h => ?_) (fun cdv A outer s H vs Q E hr h => ?_)
  · obtain ⟨m, x, rl, rs, rfl, _⟩ := h
    rfl
  · obtain ⟨m, x, rl, rs, rfl, m7, hx, hrl, hRs, lr, qq⟩ := h
    have nd := scUnf.nd
    have hr2 : Room 2 _ := hr.mono (by decide)
    refine ⟨_, (pss_cons (ps_set (i := 3) nd rfl (Or.inl rfl) (pe_call GBG hr2 rfl mBG kBG bBG .nil pass0 (pa_cons (pv 0) (pa_cons (pv 2) pa_nil)))) (pss_cons (ps_set (i := 4) nd rfl (Or.inl rfl) (pe_lst pa_nil)) (pss_cut (fun σ H' => ∃ n, UInv H m x rl rs n σ H') (ps_set (i := 5) nd rfl (Or.inl rfl) (pe_call GFU hr2 rfl mFU kFU bFU .nil pass0 (pa_cons (pv 1) (pa_cons (pe_ix (ix_tupK (K := K) rfl) (pv 3) pe_int (fun _ _ => rfl)) pa_nil)))) (pss_cons (ps_while PassesOwn.never (pt_cmpR op_notN (pv 5) pe_non (nomark _)) (pss_cons (ps_expr (pe_bm PySem.F.plainAttrs_list PySem.F.slot_list_append PySem.F.type_list_append mt_append (pv 4) (pa_cons (pe_tup (pa_cons (pe_ix (ix_tupK (K := K) rfl) (pv 5) pe_int (fun _ _ => rfl)) (pa_cons (pe_ix (ix_listK (K := K) rfl) (pe_ix (ix_tupK (K := K) rfl) (pv 3) pe_int (fun _ _ => rfl)) (pe_ix (ix_tupK (K := K) rfl) (pv 5) pe_int (fun _ _ => rfl)) (fun _ _ => rfl)) pa_nil))) pa_nil)))
      (pss_cons (ps_set (i := 3) nd rfl (Or.inl rfl) (pe_call GUD hr2 rfl mUD kUD bUD .nil pass0 (pa_cons (pe_ix (ix_listK (K := K) rfl) (pv 1) (pe_ix (ix_tupK (K := K) rfl) (pv 5) pe_int (fun _ _ => rfl)) (fun _ _ => rfl)) (pa_cons (pe_ix (ix_tupK (K := K) rfl) (pv 3) pe_int (fun _ _ => rfl)) (pa_cons (pe_ix (ix_tupK (K := K) rfl) (pv 3) pe_int (fun _ _ => rfl)) (pa_cons (pe_ix (ix_tupK (K := K) rfl) (pv 5) pe_int (fun _ _ => rfl)) pa_nil))))))
      (pss_one (ps_set (i := 5) nd rfl (Or.inl rfl) (pe_call GFU hr2 rfl mFU kFU bFU .nil pass0 (pa_cons (pv 1) (pa_cons (pe_ix (ix_tupK (K := K) rfl) (pv 3) pe_int (fun _ _ => rfl)) pa_nil)))))))) (pss_one (ps_ret (pe_tup (pa_cons (pe_ix (ix_tupK (K := K) rfl) (pv 3) pe_int (fun _ _ => rfl)) (pa_cons (pe_ix (ix_tupK (K := K) rfl) (pv 3) pe_int (fun _ _ => rfl)) (pa_cons (pv 4) pa_nil)))))))))), ?_⟩
    refine ⟨_, rfl, _, rfl, m, x, rfl, m7, hx, fun t0 p0 H1 s1 ht0 ht1 hp0 hp1 => ?_⟩
    refine ⟨(by show 0 ≤ sizeLine; exact Nat.zero_le _), fun qa hqa => ?_⟩
    have c2 := UCore.begin (rs := rs) m7 hx s1 hp0 hp1 hqa
    have ht2 := Same.new (o := .lst []) hqa _ _ ht1
    generalize upd H1 qa (.lst []) = H2 at c2 ht2
    refine ⟨⟨_, rfl, _, rfl, t0, _, _, _, rfl, rfl, SqT.of ht2, atI_nat (j := 1) rfl, rl, p0, rs, beginBs m x, m, rfl, c2.same.seq hrl, hRs.same c2.same, SqL.of c2.hp, lr, (by have := c2.good.len m7; exact Nat.le_trans this (by decide)), fun H3 s3 hu => ?_, fun u us t5 H3 s3 hu ht5 ht5' => ?_⟩, ?_⟩
    · exact ⟨_, _, t0, p0, qa, [], .non, rfl, rfl, s3 _ _ ht2, c2.mono s3, .inl ⟨hu, rfl⟩⟩
    · exact ⟨_, _, t0, p0, qa, [], .ref t5, rfl, rfl, s3 _ _ ht2, c2.mono s3, .inr ⟨u, us, t5, hu, rfl, ht5'⟩⟩
    clear c2 ht2 ht1 hp1 hp0 ht0 s1 hqa
    rintro σ H3 ⟨n0, hinv⟩
    refine ⟨UInv H m x rl rs, ⟨n0, hinv⟩, ?_⟩
    rintro n _ H4 ⟨s, t, p, qa, sw, v, rfl, en, ht, c, hv⟩
    refine ⟨_, rfl, rfl, _, rfl, ?_⟩
    rcases hv with ⟨hu, rfl⟩ | ⟨u, us, t5, hu, rfl, ht5⟩
    · refine iteF ?_
      refine ⟨_, rfl, t, _, _, _, rfl, rfl, SqT.of ht, atI_nat (j := 0) rfl, _, rfl, t, _, _, _, rfl, rfl, SqT.of ht, atI_nat (j := 1) rfl, _, rfl, (by show 3 ≤ sizeLine; decide), fun tt htt => ?_⟩
      have s5 := Same.new (o := .tup [vN s.fx, V.ref p, V.ref qa]) htt
      have c5 := c.mono s5
      exact qq tt p qa s sw _ (c.run s (.done (by rw [rd_len]; exact hu))) c5.same (c.same.none htt) upd_same c5.hp0 c5.hp c5.hq0 c5.hq c5.st c5.est (by have := c5.slen; omega) c5.npq
    · refine iteT ?_
      refine ⟨_, fun _ _ h => h, ?_⟩
      obtain ⟨r, er, erd, hu2, ebu, hR⟩ := uses_at (rs := rs) (u := u) (by rw [hu]; exact List.mem_cons_self ..) (hRs.same c.same)
      have ebv : (s.bs.map vN)[u.2]? = some (vN (s.bs.getD u.2 0)) := by rw [List.getElem?_map, ebu]; rfl
      have erv : (rs.map fun r => V.ref r.r)[u.1]? = some (V.ref r.r) := by rw [List.getElem?_map, er]; rfl
      refine ⟨_, rfl, .inl ⟨rfl, _, SqL.of c.hq⟩, _, rfl, t5, _, _, _, rfl, rfl, SqT.of ht5, atI_nat (j := 0) rfl, _, rfl, t, _, _, _, rfl, rfl, SqT.of ht, atI_nat (j := 1) rfl, _, rfl, t5, _, _, _, rfl, rfl, SqT.of ht5, atI_nat (j := 1) rfl, p, _, _, _, rfl, rfl, SqL.of c.hp, atI_nat ebv, (by show 2 ≤ sizeLine; decide), fun w hw => ?_⟩
      have sw1 := Same.new (o := .tup [vN u.1, vN (s.bs.getD u.2 0)]) hw
      have c1 := c.mono sw1
      have hw1 : (upd H4 w (.tup [vN u.1, vN (s.bs.getD u.2 0)])) w = some (.tup [vN u.1, vN (s.bs.getD u.2 0)]) := upd_same
      have ht1 := sw1 _ _ ht
      have ht51 := sw1 _ _ ht5
      generalize upd H4 w (.tup [vN u.1, vN (s.bs.getD u.2 0)]) = H5 at sw1 c1 hw1 ht1 ht51
      refine ⟨qa, _, _, rfl, rfl, c1.hq, (by rw [List.length_map]; exact small1000 (by have := c1.slen; omega)), ?_⟩
      have sq : Same H (upd H5 qa (.lst ((sw.map fun w => V.ref w.1) ++ [V.ref w]))) := c1.same.own c1.hq0
      have ht2 : (upd H5 qa (.lst ((sw.map fun w => V.ref w.1) ++ [V.ref w]))) t = some (.tup [vN s.fx, .ref p]) := by rw [upd_ne (ne_of ht1 c1.hq (by intro z; cases z))]; exact ht1
      have ht52 : (upd H5 qa (.lst ((sw.map fun w => V.ref w.1) ++ [V.ref w]))) t5 = some (.tup [vN u.1, vN u.2]) := by rw [upd_ne (ne_of ht51 c1.hq (by intro z; cases z))]; exact ht51
      have hp2 : (upd H5 qa (.lst ((sw.map fun w => V.ref w.1) ++ [V.ref w]))) p = some (.lst (s.bs.map vN)) := by rw [upd_ne c1.npq]; exact c1.hp
      have hdis : s.fx &&& s.bs.getD u.2 0 = 0 := c.good.dis _ (List.mem_of_getElem? ebu)
      refine ⟨_, rfl, _, rfl, t5, _, _, _, rfl, rfl, SqT.of ht52, atI_nat (j := 0) rfl, rl, _, _, _, rfl, rfl, sq.seq hrl, atI_nat erv, _, rfl, t, _, _, _, rfl, rfl, SqT.of ht2, atI_nat (j := 0) rfl, _, rfl, t, _, _, _, rfl, rfl, SqT.of ht2, atI_nat (j := 1) rfl, _, rfl, t5, _, _, _, rfl, rfl, SqT.of ht52, atI_nat (j := 1) rfl, r.r, p, r.st, r.x, r.y, s.fx, u.2, s.bs, rfl, sq _ _ (hRs r (List.mem_of_getElem? er)).1, SqL.of hp2, hu2, (by have := c.good.len m7; omega), hdis, fun t' p' H6 s6 ht' ht6 hp' hp6 => ?_⟩
      have efx : (stepS (rs.map Rl.d) s u).fx = behindFx r.st r.y s.fx s.bs u.2 := by unfold stepS; rw [erd]; rfl
      have ebs : (stepS (rs.map Rl.d) s u).bs = behindBs r.st r.y s.bs u.2 := by unfold stepS; rw [erd]; rfl
      rw [← efx] at ht6
      rw [← ebs] at hp6
      obtain ⟨c6, mu⟩ := c1.next (w := (w, (u.1, s.bs.getD u.2 0))) hu rfl hw1 s6 hp' hp6
      refine ⟨_, rfl, _, rfl, t', _, _, _, rfl, rfl, SqT.of ht6, atI_nat (j := 1) rfl, rl, p', rs, (stepS (rs.map Rl.d) s u).bs, m, rfl, c6.same.seq hrl, hRs.same c6.same, SqL.of c6.hp, lr, (by have := c6.good.len m7; omega), fun H7 s7 hu' => ?_, fun u' us' t5' H7 s7 hu' ht7 ht7' => ?_⟩
      · exact ⟨_, by rw [en]; exact mu, _, t', p', qa, _, .non, rfl, rfl, s7 _ _ ht6, c6.mono s7, .inl ⟨hu', rfl⟩⟩
      · exact ⟨_, by rw [en]; exact mu, _, t', p', qa, _, .ref t5', rfl, rfl, s7 _ _ ht6, c6.mono s7, .inr ⟨u', us', t5', hu', rfl, ht7'⟩⟩
noncomputable abbrev sSettled : Stmt := top 15
theorem scSettled : FnScope ["many", "rules", "some"] ["many", "rules", "some"] (defScope sSettled) := ⟨rfl, rfl, rfl, by decide +kernel, rfl, by decide +kernel, by decide +kernel⟩
theorem ok_settled {f fUN : Addr} {fd fdUN : FuncData} (F : Fun K "settled" "settled" sSettled f fd) (GUN : FnOk P w K mg base CX0 3 fUN fdUN ["many", "rules", "some"] (spUnfolded K)) (mUN : mg "unfolded" = some (.ref fUN)) (kUN : PySem.W.keepIn K (.ref fUN) = true) (bUN : Binds K fdUN ["many", "rules", "some"] []) : FnOk P w K mg base CX0 4 f fd ["many", "rules", "some"] (spSettled K) := by
  refine F.ok scSettled (fun vs H Q E h => ?_) (fun cdv A outer s H vs Q E hr h => ?_)
  · obtain ⟨m, x, rl, rs, rfl, _⟩ := h
    rfl
  · obtain ⟨m, x, rl, rs, rfl, m7, hx, hrl, hRs, lr, q⟩ := h
    have hr3 : Room 3 _ := hr.mono (by decide)
    refine ⟨_, (pss_one (ps_ret (pe_ix (ix_tupK (K := K) rfl) (pe_call GUN hr3 rfl mUN kUN bUN .nil pass0 (pa_cons (pv 0) (pa_cons (pv 1) (pa_cons (pv 2) pa_nil)))) pe_int (fun _ _ => rfl)))), ?_⟩
    refine ⟨_, rfl, _, rfl, _, rfl, m, x, rl, rs, rfl, m7, hx, hrl, hRs, lr, fun t p qa s sw H1 R s1 ht ht1 hp hp1 hq hq1 st1 e1 l1 n1 => ?_⟩
    exact ⟨t, _, _, _, rfl, rfl, SqT.of ht1, atI_nat (j := 0) rfl, q s H1 R s1⟩
noncomputable abbrev sHoldsOne : Stmt := top 17
theorem scHoldsOne : FnScope ["some", "found"] ["some", "found"] (defScope sHoldsOne) := ⟨rfl, rfl, rfl, by decide +kernel, rfl, by decide +kernel, by decide +kernel⟩
theorem ok_holdsone {f fIW : Addr} {fd fdIW : FuncData} (F : Fun K "holds_one" "holds_one" sHoldsOne f fd) (GIW : FnOk P w K mg base CX0 1 fIW fdIW ["one", "other"] spWithin) (mIW : mg "is_within" = some (.ref fIW)) (kIW : PySem.W.keepIn K (.ref fIW) = true) (bIW : Binds K fdIW ["one", "other"] []) (zany : mg "any" = none) : FnOk P w K mg base CX0 2 f fd ["some", "found"] (spHoldsW K) := by
  refine F.ok scHoldsOne (fun vs H Q E h => ?_) (fun cdv A outer s H vs Q E hr h => ?_)
  · obtain ⟨x, p, f, rfl, _⟩ := h
    rfl
  · obtain ⟨x, p, f, rfl, hp, lf, q⟩ := h
    have hr1 : Room 1 _ := hr.mono (by decide)
    refine ⟨_, (pss_one (ps_ret (pe_callB (call_anyK (K := K) rfl rfl) (by rfl) zany PyProof.Rows.boot_any (pa_cons (pe_comp (xs := ["inner"]) (cs ["some", "found"] (defScope sHoldsOne) rfl rfl (by decide +kernel)) rfl (pi_listK (K := K) rfl (pv 1)) (fun _ _ _ => pg_name (i := 0) (show (["inner", "some", "found"] : List Str).Nodup by decide +kernel) rfl (Or.inl rfl)) (fun _ _ _ => pts_nil) (fun _ _ _ => (pe_call GIW hr1 rfl mIW kIW bIW .nil pass0 (pa_cons (pv 0) (pa_cons (pv 1) pa_nil))))) pa_nil)))), ?_⟩
    refine ⟨_, rfl, p, rfl, ⟨_, hp⟩, lc_list (K := K) (xs := f.map vN) (fun j acc H2 => H2 = H ∧ acc = ((f.take j).map fun y => decide (y &&& x = y)).map V.bl) (by rw [List.length_map]; omega) ⟨rfl, rfl⟩ (fun j acc H2 hj h => ?_) (fun j v acc H2 hx h => ?_) (fun acc H2 h => ?_)⟩
    · obtain ⟨rfl, rfl⟩ := h
      exact ⟨hp, by rw [List.length_map, List.length_map]; exact List.length_take_le _ _⟩
    · obtain ⟨rfl, rfl⟩ := h
      rw [List.getElem?_map] at hx
      cases ey : f[j]? with
      | none => rw [ey] at hx; cases hx
      | some y =>
        rw [ey] at hx
        obtain rfl := (Option.some.inj hx).symm
        refine ⟨rfl, _, rfl, _, rfl, y, x, rfl, rfl, ?_⟩
        rw [List.take_succ, ey, List.map_append, List.map_append]
        rfl
    · obtain ⟨rfl, rfl⟩ := h
      rw [List.length_map, List.take_length]
      intro e he
      refine ⟨e, _, rfl, SqL.of upd_same, ?_⟩
      rw [wiB_map]
      exact q _ (Same.new he)
end
end Own

namespace Own
open PySem L2
section
variable {P : Program} {w : World} {K : PySem.W.Frag} {mg : Str → Option Value} {base : Heap}
seal PySem.wpAny
noncomputable abbrev sOwn : Stmt := top 19
theorem scOwn : FnScope ["many", "rules", "part", "found", "lefts", "some", "column"] ["many", "rules", "part"] (defScope sOwn) := ⟨rfl, rfl, rfl, by decide +kernel, rfl, by decide +kernel, by decide +kernel⟩
theorem noVisO : ¬ Vis (defScope sOwn) "" := by rintro (h | h | h) <;> exact absurd h (by decide +kernel)
theorem ok_own {f fC fSW fSE fHO : Addr} {fd fdC fdSW fdSE fdHO : FuncData} (F : Fun K "own_rules" "own_rules" sOwn f fd) (GC : FnOk P w K mg base CX0 2 fC fdC ["some"] spCols) (mC : mg "columns_of" = some (.ref fC)) (kC : PySem.W.keepIn K (.ref fC) = true) (bC : Binds K fdC ["some"] []) (GSW : FnOk P w K mg base CX0 7 fSW fdSW ["some"] spSetsW) (mSW : mg "sets_within" = some (.ref fSW)) (kSW : PySem.W.keepIn K (.ref fSW) = true) (bSW : Binds K fdSW ["some"] []) (GSE : FnOk P w K mg base CX0 4 fSE fdSE ["many", "rules", "some"] (spSettled K)) (mSE : mg "settled" = some (.ref fSE)) (kSE : PySem.W.keepIn K (.ref fSE) = true) (bSE : Binds K fdSE ["many", "rules", "some"] []) (GHO : FnOk P w K mg base CX0 2 fHO fdHO ["some", "found"] (spHoldsW K)) (mHO : mg "holds_one" = some (.ref fHO)) (kHO : PySem.W.keepIn K (.ref fHO) = true) (bHO : Binds K fdHO ["some", "found"] []) (zdict : mg "dict" = none) : FnOk P w K mg base CX0 8 f fd ["many", "rules", "part"] (spOwn K) := by
  refine F.ok scOwn (fun vs H Q E h => ?_) (fun cdv A outer s H vs Q E hr h => ?_)
  · obtain ⟨m, p, rl, rs, rfl, _⟩ := h
    rfl
  · obtain ⟨m, p, rl, rs, rfl, m7, hp, hrl, hRs, lr, q⟩ := h
    have nd := scOwn.nd
    have hr2 : Room 2 _ := hr.mono (by decide)
    have hr4 : Room 4 _ := hr.mono (by decide)
    have hr7 : Room 7 _ := hr.mono (by decide)
    have p7 := pow7 m7
    have p128 : p < 128 := by omega
    obtain ⟨c7, cb⟩ := cols7 p p128
    have cm := cols_mem (a := p) p128
    have cnd : (colsN p).Nodup := by
      rw [cols_seven m (by omega) p hp]
      exact (List.nodup_range).filter _
    refine ⟨_, (pss_cons (ps_set (i := 3) nd rfl (Or.inl rfl) (pe_lst pa_nil))
      (pss_cons (ps_set (i := 4) nd rfl (Or.inl rfl) (pe_callTy (call_dictPks rfl hr.units) (by rfl) zdict PyProof.Rows.boot_dict (pa_cons (pe_hide 6 (show ¬ Vis (defScope sOwn) "" from noVisO) (pe_comp (xs := ["column"]) (cs ["many", "rules", "part", "found", "lefts", "some", ""] (defScope sOwn) rfl rfl (by decide +kernel)) rfl (pi_listK (K := K) rfl (pe_call GC hr2 rfl mC kC bC .nil pass0 (pa_cons (pv 2) pa_nil))) (fun _ _ _ => pg_name (i := 0) (show (["column", "many", "rules", "part", "found", "lefts", "some", ""] : List Str).Nodup by decide +kernel) rfl (Or.inl rfl)) (fun _ _ _ => pts_nil) (fun _ _ _ => (pe_tup (pa_cons (pv 0) (pa_cons (pe_lst pa_nil) pa_nil)))))) pa_nil)))
      (pss_cons (ps_for PassesOwn.never rfl (pi_listK (K := K) rfl (pe_call GSW hr7 rfl mSW kSW bSW .nil pass0 (pa_cons (pv 2) pa_nil))) (pg_name (i := 5) nd rfl (Or.inl rfl)) (pss_one (ps_for PassesOwn.never rfl (pi_listK (K := K) rfl (pe_call GC hr2 rfl mC kC bC .nil pass0 (pa_cons (pe_op op_andInv (pe_op op_andN (pe_call GSE hr4 rfl mSE kSE bSE .nil pass0 (pa_cons (pv 0) (pa_cons (pv 1) (pa_cons (pv 5) pa_nil)))) (pv 2)) (pe_un un_inv (pv 5))) pa_nil))) (pg_name (i := 6) nd rfl (Or.inl rfl)) (pss_one (ps_if (pt_not (pt_val (pe_call GHO hr2 rfl mHO kHO bHO .nil pass0 (pa_cons (pv 5) (pa_cons (pe_dget (hu_of hr) (pv 4) (pv 6) (fun _ _ => rfl)) pa_nil))))) (pss_cons (ps_expr (pe_bm PySem.F.plainAttrs_list PySem.F.slot_list_append PySem.F.type_list_append mt_append (pe_dget (hu_of hr) (pv 4) (pv 6) (fun _ _ => rfl)) (pa_cons (pv 5) pa_nil)))
      (pss_one (ps_expr (pe_bm PySem.F.plainAttrs_list PySem.F.slot_list_append PySem.F.type_list_append mt_append (pv 3) (pa_cons (pe_tup (pa_cons pe_str (pa_cons (pv 5) (pa_cons (pe_op op_shl1 pe_int (pv 6)) pa_nil)))) pa_nil))))) pss_nil)))))
      (pss_one (ps_ret (pv 3)))))), ?_⟩
    refine ⟨Nat.zero_le _, fun fp hfp => ?_⟩
    have s1 := Same.new (o := .lst []) hfp
    have hfp1 : (upd H fp (.lst [])) fp = some (.lst []) := upd_same
    generalize upd H fp (.lst []) = H1 at s1 hfp1
    refine ⟨(fun v z => by cases z), _, rfl, p, rfl, by omega, fun cp hcp => ⟨cp, rfl, ⟨_, SqL.of upd_same⟩, ?_⟩⟩
    have sC := Same.new (o := .lst ((colsN p).map vN)) hcp
    have hcp2 : (upd H1 cp (.lst ((colsN p).map vN))) cp = some (.lst ((colsN p).map vN)) := upd_same
    generalize upd H1 cp (.lst ((colsN p).map vN)) = H2 at sC hcp2
    refine lc_list (K := K) (xs := (colsN p).map vN) (fun j acc H' => ∃ ps : List (Pk × Addr), acc = ps.map (fun w => V.ref w.1.t) ∧ ps.map (fun w => w.1.k) = ((colsN p).take j).map (fun (c : Nat) => (Sum.inl (c : Int) : Key)) ∧ (∀ w ∈ ps, w.1.At H' ∧ w.1.v = .ref w.2 ∧ H' w.2 = some (.lst []) ∧ H2 w.2 = none) ∧ ps.Pairwise (fun a b => a.2 ≠ b.2) ∧ Same H2 H') (by rw [List.length_map]; omega) ⟨[], rfl, rfl, (fun w h => absurd h List.not_mem_nil), .nil, Same.refl _⟩ (fun j acc H' hj h => ?_) (fun j v acc H' hv h => ?_) (fun acc H' h => ?_)
    · obtain ⟨ps, rfl, ek, _, _, s'⟩ := h
      refine ⟨SqL.of (s' _ _ hcp2), ?_⟩
      have := congrArg List.length ek
      rw [List.length_map, List.length_map] at this
      rw [List.length_map, this]
      exact List.length_take_le _ _
    · obtain ⟨ps, rfl, ek, hps, pw, s'⟩ := h
      rw [List.getElem?_map] at hv
      cases ec : (colsN p)[j]? with
      | none => rw [ec] at hv; cases hv
      | some c =>
        rw [ec] at hv
        obtain rfl := (Option.some.inj hv).symm
        refine ⟨rfl, _, rfl, Nat.zero_le _, fun la hla => ?_⟩
        have sL := Same.new (o := .lst []) hla
        refine ⟨(by show 2 ≤ sizeLine; decide), fun tp htp => ?_⟩
        have sT := Same.new (o := .tup [vN c, V.ref la]) htp
        have sLT := sL.trans sT
        refine ⟨ps ++ [(⟨tp, .inl (c : Int), .ref la⟩, la)], by rw [List.map_append]; rfl, by rw [List.map_append, ek, List.take_succ, ec, List.map_append]; rfl, fun w hw => ?_, ?_, s'.trans sLT⟩
        · rcases List.mem_append.mp hw with hw | hw
          · obtain ⟨a1, a2, a3, a4⟩ := hps w hw
            exact ⟨sLT _ _ a1, a2, sLT _ _ a3, a4⟩
          · rw [List.mem_singleton.mp hw]
            exact ⟨upd_same, rfl, sT _ _ upd_same, s'.none hla⟩
        · refine List.pairwise_append.mpr ⟨pw, List.pairwise_singleton _ _, fun a ha b hb => ?_⟩
          rw [List.mem_singleton.mp hb]
          exact ne_of_none (hps a ha).2.2.1 hla
    obtain ⟨ps, rfl, ek, hps, pw, s'⟩ := h
    rw [List.length_map, List.take_length] at ek
    intro lp hlp
    have sP := Same.new (o := .lst (ps.map fun w => V.ref w.1.t)) hlp
    have lps : ps.length ≤ 7 := by
      have := congrArg List.length ek
      rw [List.length_map, List.length_map] at this
      omega
    have eps : (ps.map fun w => V.ref w.1.t) = (ps.map (·.1)).map fun w => V.ref w.t := by rw [List.map_map]; rfl
    refine ⟨lp, ps.map (·.1), rfl, by rw [upd_same, eps], fun w hw => ?_, by rw [List.length_map]; omega, fun dA hdA => ?_⟩
    · obtain ⟨w', hw', rfl⟩ := List.mem_map.mp hw
      exact sP _ _ (hps w' hw').1
    have sD := Same.new (o := .dK (putAllK [] (ps.map (·.1)))) hdA
    have s23 := s'.trans (sP.trans sD)
    have pwk : (ps.map (·.1)).Pairwise (fun a b => a.k ≠ b.k) := by
      have h1 : (ps.map fun w => w.1.k).Nodup := by
        rw [ek]
        exact cnd.map _ fun a b h z => h (by injection z with z; omega)
      rw [List.pairwise_map]
      have h2 := List.pairwise_map.mp h1
      exact h2
    have find : ∀ c ∈ colsN p, ∃ w ∈ ps, w.1.k = .inl (c : Int) := fun c hc => by
      have : (Sum.inl (c : Int) : Key) ∈ ps.map (fun w => w.1.k) := by rw [ek]; exact List.mem_map.mpr ⟨c, hc, rfl⟩
      obtain ⟨w, hw, e⟩ := List.mem_map.mp this
      exact ⟨w, hw, e⟩
    obtain ⟨la, hla⟩ : ∃ la : Nat → Addr, ∀ c ∈ colsN p, ∃ w ∈ ps, w.1.k = .inl (c : Int) ∧ w.2 = la c := by
      have ex : ∀ c : Nat, ∃ a : Addr, c ∈ colsN p → ∃ w ∈ ps, w.1.k = .inl (c : Int) ∧ w.2 = a := fun c => by
        by_cases hc : c ∈ colsN p
        · obtain ⟨w, hw, e⟩ := find c hc
          exact ⟨w.2, fun _ => ⟨w, hw, e, rfl⟩⟩
        · exact ⟨fp, fun z => absurd z hc⟩
      obtain ⟨la, h⟩ := Classical.axiomOfChoice ex
      exact ⟨la, h⟩
    obtain ⟨kvs, ekv⟩ : ∃ kvs, kvs = putAllK [] (ps.map (·.1)) := ⟨_, rfl⟩
    have L3 : LeftsA H p dA fp kvs la [] (upd (upd H' lp (.lst (ps.map fun w => V.ref w.1.t))) dA (.dK (putAllK [] (ps.map (·.1))))) := by
      have all : ∀ c ∈ colsN p, valV kvs (.inl (c : Int)) = some (.ref (la c)) ∧ H' (la c) = some (.lst []) ∧ H2 (la c) = none := fun c hc => by
        obtain ⟨w, hw, e1, e2⟩ := hla c hc
        obtain ⟨a1, a2, a3, a4⟩ := hps w hw
        have v1 := valV_all (ps.map (·.1)) [] pwk w.1 (List.mem_map.mpr ⟨w, hw, rfl⟩)
        rw [e1, a2, e2, ← ekv] at v1
        rw [e2] at a3 a4
        exact ⟨v1, a3, a4⟩
      refine ⟨by rw [upd_same, ekv], fun c hc => (all c hc).1, fun c hc => (sP.trans sD) _ _ (all c hc).2.1, fun c hc => (s1.trans sC).none (all c hc).2.2, fun c hc z => ?_, fun c hc c' hc' z => ?_⟩
      · have a4 := (all c hc).2.2
        rw [z] at a4
        have := sC _ _ hfp1
        rw [a4] at this
        cases this
      · obtain ⟨w, hw, e1, e2⟩ := hla c hc
        obtain ⟨w', hw', e1', e2'⟩ := hla c' hc'
        rw [← e2, ← e2'] at z
        have ww : w = w' := by
          refine Classical.byContradiction fun ne => ?_
          obtain ⟨i, hi, rfl⟩ := List.getElem_of_mem hw
          obtain ⟨j, hj, rfl⟩ := List.getElem_of_mem hw'
          rcases Nat.lt_trichotomy i j with h | h | h
          · exact List.pairwise_iff_getElem.mp pw i j hi hj h z
          · subst h; exact ne rfl
          · exact List.pairwise_iff_getElem.mp pw j i hj hi h z.symm
        rw [ww, e1'] at e1
        injection e1 with e1
        omega
    have hfp3 := (sC.trans s23) _ _ hfp1
    have s03 := (s1.trans sC).trans s23
    generalize upd (upd H' lp (.lst (ps.map fun w => V.ref w.1.t))) dA (.dK (putAllK [] (ps.map (·.1)))) = H3 at L3 hfp3 s03
    clear s23 sD sP pwk hps pw ek hla find ekv
    refine ⟨_, rfl, p, rfl, p128, fun xp H4 s4 hxp0 hxp => ⟨xp, rfl, ⟨_, SqL.of hxp⟩, for_list (K := K) (xs := (dueN p).map vN) (fun i σ H' => (∃ v5 v6, σ = [some (vN m), some (.ref rl), some (vN p), some (.ref fp), some (.ref dA), v5, v6]) ∧ H' xp = some (.lst ((dueN p).map vN)) ∧ Same H H' ∧ ∃ ss : List Rl, H' fp = some (.lst (ss.map fun (r : Rl) => V.ref r.r)) ∧ RulesAt H' m ss ∧ ss.map Rl.d = ((dueN p).take i).foldl (ownX m (rs.map Rl.d) p) [] ∧ LeftsA H p dA fp kvs la (ss.map Rl.d) H') ⟨⟨_, _, rfl⟩, hxp, s03.trans s4, [], s4 _ _ hfp3, (fun r h => absurd h List.not_mem_nil), rfl, L3.same s4⟩ (fun i σ H' _ h => SqL.of h.2.1) ?_ ?_⟩⟩
    · rintro i v σ H5 hv ⟨⟨v5, v6, rfl⟩, hx5, s5, ss, hf5, hS5, es5, L5⟩
      rw [List.getElem?_map] at hv
      cases ex : (dueN p)[i]? with
      | none => rw [ex] at hv; cases hv
      | some x =>
        rw [ex] at hv
        obtain rfl := (Option.some.inj hv).symm
        have hxin := List.all_eq_true.mp (due_in p p128) x (List.mem_of_getElem? ex)
        rw [Bool.and_eq_true, decide_eq_true_iff, decide_eq_true_iff] at hxin
        have hx : x < 2 ^ m := Nat.lt_of_le_of_lt (by rw [← hxin.1]; exact Nat.and_le_right) hp
        have lt5 := ownT_len (m := m) (rs := rs.map Rl.d) m7 p128 i
        refine ⟨_, rfl, _, rfl, _, rfl, m, x, rl, rs, rfl, m7, hx, s5.seq hrl, hRs.same s5, lr, fun u H6 R s6 => ?_⟩
        have efx := (R.blocks hx).fixF
        rw [← efx]
        refine ⟨_, rfl, fixF m (rs.map Rl.d) x, p, rfl, rfl, _, rfl, (x : Int), rfl, fixF m (rs.map Rl.d) x &&& p, x, rfl, rfl, freshN m (rs.map Rl.d) p x, rfl, (by have := fresh_lt m (rs.map Rl.d) p x; omega), fun cq hcq => ⟨cq, rfl, ⟨_, SqL.of upd_same⟩, ?_⟩⟩
        have sQ := Same.new (o := .lst ((colsN (freshN m (rs.map Rl.d) p x)).map vN)) hcq
        have hcq7 : (upd H6 cq (.lst ((colsN (freshN m (rs.map Rl.d) p x)).map vN))) cq = some (.lst ((colsN (freshN m (rs.map Rl.d) p x)).map vN)) := upd_same
        have s67 := s6.trans sQ
        generalize upd H6 cq (.lst ((colsN (freshN m (rs.map Rl.d) p x)).map vN)) = H7 at hcq7 s67
        have flt := fresh_lt m (rs.map Rl.d) p x
        have cl7 := (cols7 (freshN m (rs.map Rl.d) p x) (by omega)).1
        have nxf : xp ≠ fp := (ne_of_none hfp3 hxp0).symm
        have nqf : cq ≠ fp := (ne_of_none (s6 _ _ hf5) hcq).symm
        have nxl : ∀ c ∈ colsN p, xp ≠ la c := fun c hc => (ne_of_none (L3.own c hc) hxp0).symm
        have nql : ∀ c ∈ colsN p, cq ≠ la c := fun c hc => (ne_of_none (s6 _ _ (L5.own c hc)) hcq).symm
        refine for_list (K := K) (xs := (colsN (freshN m (rs.map Rl.d) p x)).map vN) (fun j σ H' => (∃ v6, σ = [some (vN m), some (.ref rl), some (vN p), some (.ref fp), some (.ref dA), some (vN x), v6]) ∧ H' xp = some (.lst ((dueN p).map vN)) ∧ H' cq = some (.lst ((colsN (freshN m (rs.map Rl.d) p x)).map vN)) ∧ Same H H' ∧ ∃ ss : List Rl, H' fp = some (.lst (ss.map fun (r : Rl) => V.ref r.r)) ∧ RulesAt H' m ss ∧ ss.map Rl.d = ((colsN (freshN m (rs.map Rl.d) p x)).take j).foldl (ownC m (rs.map Rl.d) p x) (((dueN p).take i).foldl (ownX m (rs.map Rl.d) p) []) ∧ LeftsA H p dA fp kvs la (ss.map Rl.d) H' ∧ ss.length ≤ 896 + j) ⟨⟨_, rfl⟩, s67 _ _ hx5, hcq7, s5.trans s67, ss, s67 _ _ hf5, hS5.same s67, es5, L5.same s67, by have := congrArg List.length es5; rw [List.length_map] at this; omega⟩ (fun j σ H' _ h => SqL.of h.2.2.1) ?_ ?_
        · rintro j v σ H8 hv ⟨⟨w6, rfl⟩, hx8, hc8, s8, ss8, hf8, hS8, es8, L8, ls8⟩
          rw [List.getElem?_map] at hv
          cases ec : (colsN (freshN m (rs.map Rl.d) p x))[j]? with
          | none => rw [ec] at hv; cases hv
          | some c =>
            rw [ec] at hv
            obtain rfl := (Option.some.inj hv).symm
            have hj : j < 7 := by have := (List.getElem?_eq_some_iff.mp ec).1; omega
            have hcF := (cols_mem (a := freshN m (rs.map Rl.d) p x) (by omega) c).mp (List.mem_of_getElem? ec)
            have hcB : hasB (freshN m (rs.map Rl.d) p x) c = true := by
              have := List.mem_of_getElem? ec
              rw [cols_seven m (by omega) _ flt] at this
              exact (List.mem_filter.mp this).2
            have hcp' : c ∈ colsN p := (cm c).mpr ((fresh_bits c).mp hcF).2.1
            have hcm : c < m := hasb_lt flt hcF
            have pc2 : 2 ^ c < 2 ^ m := Nat.pow_lt_pow_right (by decide) hcm
            have estep : ((colsN (freshN m (rs.map Rl.d) p x)).take (j + 1)).foldl (ownC m (rs.map Rl.d) p x) (((dueN p).take i).foldl (ownX m (rs.map Rl.d) p) []) = ownC m (rs.map Rl.d) p x (ss8.map Rl.d) c := by
              rw [List.take_succ, ec, List.foldl_append, es8]; rfl
            have ll := lefts_len (ss8.map Rl.d) c
            rw [List.length_map] at ll
            have dg : ∀ {HX : Hp}, HX dA = some (.dK kvs) → DGet HX dA (vN c) (some (.ref (la c))) := fun hX => by
              rw [← L8.val c hcp']
              exact DGet.k (k := .inl (c : Int)) hX
            refine ⟨_, rfl, _, rfl, _, rfl, dA, _, rfl, dg L8.d, x, la c, leftsOf (ss8.map Rl.d) c, rfl, SqL.of (L8.own c hcp'), by omega, fun H9 s9 => ⟨_, rfl, ite2 (fun hb => ?_) (fun hb => ?_)⟩⟩
            · have hw : heldB (ss8.map Rl.d) x c = false := by
                rw [← lefts_held]
                cases z : wiB x (leftsOf (ss8.map Rl.d) c) with
                | false => rfl
                | true => rw [z] at hb; cases hb
              have eo : ownC m (rs.map Rl.d) p x (ss8.map Rl.d) c = ss8.map Rl.d ++ [(true, x, 2 ^ c)] := by
                unfold ownC
                rw [hw, hcB]; rfl
              have L9 := L8.same s9
              have b2 := L9.own c hcp'
              refine ⟨_, rfl, _, rfl, dA, _, rfl, dg L9.d, .inl ⟨rfl, _, SqL.of b2⟩, _, rfl, la c, _, _, rfl, rfl, b2, small1000 (by rw [List.length_map]; omega), ?_⟩
              have LA := L9.add (x := x) hcp'
              have sA : Same H (upd H9 (la c) (.lst ((leftsOf (ss8.map Rl.d) c).map vN ++ [vN x]))) := (s8.trans s9).own (L8.new c hcp')
              have hSA : RulesAt (upd H9 (la c) (.lst ((leftsOf (ss8.map Rl.d) c).map vN ++ [vN x]))) m ss8 := (hS8.same s9).put b2
              have hfA : (upd H9 (la c) (.lst ((leftsOf (ss8.map Rl.d) c).map vN ++ [vN x]))) fp = some (.lst (ss8.map fun (r : Rl) => V.ref r.r)) := by rw [upd_ne (L8.nfp c hcp').symm]; exact s9 _ _ hf8
              have hxA : (upd H9 (la c) (.lst ((leftsOf (ss8.map Rl.d) c).map vN ++ [vN x]))) xp = some (.lst ((dueN p).map vN)) := by rw [upd_ne (nxl c hcp')]; exact s9 _ _ hx8
              have hcA : (upd H9 (la c) (.lst ((leftsOf (ss8.map Rl.d) c).map vN ++ [vN x]))) cq = some (.lst ((colsN (freshN m (rs.map Rl.d) p x)).map vN)) := by rw [upd_ne (nql c hcp')]; exact s9 _ _ hc8
              generalize upd H9 (la c) (.lst ((leftsOf (ss8.map Rl.d) c).map vN ++ [vN x])) = HA at LA sA hSA hfA hxA hcA
              refine ⟨_, rfl, .inl ⟨rfl, _, SqL.of hfA⟩, _, rfl, _, rfl, c, rfl, rfl, by omega, (by show 3 ≤ sizeLine; decide), fun tt htt => ?_⟩
              have sT := Same.new (o := .tup [V.str "settle", vN x, vN (2 ^ c)]) htt
              have htB : (upd HA tt (.tup [V.str "settle", vN x, vN (2 ^ c)])) tt = some (.tup [V.str "settle", vN x, vN (2 ^ c)]) := upd_same
              generalize upd HA tt (.tup [V.str "settle", vN x, vN (2 ^ c)]) = HB at sT htB
              have hfB := sT _ _ hfA
              refine ⟨fp, _, _, rfl, rfl, hfB, small1000 (by rw [List.length_map]; omega), ?_⟩
              have ntf : tt ≠ fp := ne_of htB hfB (by intro z; cases z)
              refine ⟨⟨_, rfl⟩, by rw [upd_ne nxf]; exact sT _ _ hxA, by rw [upd_ne nqf]; exact sT _ _ hcA, (sA.trans sT).own hfp, ss8 ++ [⟨tt, true, x, 2 ^ c⟩], by rw [upd_same, List.map_append]; rfl, fun r' hr' => ?_, by rw [estep, eo, List.map_append]; rfl, by rw [List.map_append]; exact (LA.same sT).put hfB, by rw [List.length_append]; show ss8.length + 1 ≤ _; omega⟩
              rcases List.mem_append.mp hr' with hr' | hr'
              · exact ((hSA.same sT).put hfB) r' hr'
              · rw [List.mem_singleton.mp hr']
                exact ⟨by show (upd HB fp _) tt = _; rw [upd_ne ntf]; exact htB, hx, pc2⟩
            · have hw : heldB (ss8.map Rl.d) x c = true := by
                rw [← lefts_held]
                cases z : wiB x (leftsOf (ss8.map Rl.d) c) with
                | true => rfl
                | false => exact absurd (by rw [z]; rfl) hb
              have eo : ownC m (rs.map Rl.d) p x (ss8.map Rl.d) c = ss8.map Rl.d := by
                unfold ownC
                rw [hw, Bool.not_true, Bool.and_false]; rfl
              exact ⟨⟨_, rfl⟩, s9 _ _ hx8, s9 _ _ hc8, s8.trans s9, ss8, s9 _ _ hf8, hS8.same s9, by rw [estep, eo], L8.same s9, by omega⟩
        · rintro σ H8 ⟨⟨w6, rfl⟩, hx8, hc8, s8, ss8, hf8, hS8, es8, L8, ls8⟩
          rw [List.length_map, List.take_length, ownX_cols m7] at es8
          exact ⟨⟨_, _, rfl⟩, hx8, s8, ss8, hf8, hS8, by rw [own_succ ex]; exact es8, L8⟩
    · rintro σ H5 ⟨⟨v5, v6, rfl⟩, hx5, s5, ss, hf5, hS5, es5, L5⟩
      rw [List.length_map, List.take_length] at es5
      exact ⟨_, rfl, q fp ss H5 s5 hfp hf5 hS5 es5⟩
end
end Own

namespace Own
open PySem L2
section
variable {P : Program} {w : World} {K : PySem.W.Frag} {mg : Str → Option Value} {base : Heap}
seal PySem.wpAny
noncomputable abbrev sPCell : Stmt := top 21
theorem scPCell : FnScope ["_law_script", "_law_k", "_law_number", "_law_spot"] ["_law_script", "_law_k"] (defScope sPCell) := ⟨rfl, rfl, rfl, by decide +kernel, rfl, by decide +kernel, by decide +kernel⟩
theorem ok_pcell {f : Addr} {fd : FuncData} (F : Fun K "_law_cell" "_law_cell" sPCell f fd) (zlen : mg "len" = none) : FnOk P w K mg base CX0 1 f fd ["_law_script", "_law_k"] (spPCell K) := by
  refine F.ok scPCell (fun vs H Q E h => ?_) (fun cdv A outer s H vs Q E hr h => ?_)
  · obtain ⟨sc, ns, k, rfl, _⟩ := h
    rfl
  · obtain ⟨sc, ns, k, rfl, hS, hk, q⟩ := h
    have nd := scPCell.nd
    have kk : k * k ≤ 1000000 * 1000000 := Nat.mul_le_mul hk hk
    have len1 : (ns.map V.int).length = ns.length := List.length_map ..
    refine ⟨_, (pss_cons (ps_if (pt_cmpR op_ltN (pv 1) (pe_callB (call_lenK (K := K) rfl) (by rfl) zlen PySem.boot_len (pa_cons (pv 0) pa_nil)) (nomark _)) (pss_one (ps_ret (pe_ix (ix_listK (K := K) rfl) (pv 0) (pv 1) (fun _ _ => rfl)))) pss_nil)
      (pss_cons (ps_set (i := 2) nd rfl (Or.inl rfl) (pe_op op_addN (pe_op op_mulN (pv 1) pe_int) pe_int))
      (pss_cons (ps_if (pt_cmpR op_gtN (pe_callB (call_lenK (K := K) rfl) (by rfl) zlen PySem.boot_len (pa_cons (pv 0) pa_nil)) pe_int (nomark _)) (pss_cons (ps_set (i := 3) nd rfl (Or.inl rfl) (pe_ix (ix_listK (K := K) rfl) (pv 0) (pe_op op_modN' (pe_op op_mulN (pv 1) pe_int) (pe_callB (call_lenK (K := K) rfl) (by rfl) zlen PySem.boot_len (pa_cons (pv 0) pa_nil))) (fun _ _ => rfl)))
      (pss_one (ps_set (i := 2) nd rfl (Or.inl rfl) (pe_op op_mod (pe_op op_add (pe_op op_add (pe_op op_mul (pv 3) pe_int) (pe_op op_mulN (pe_op op_mulN (pv 1) (pv 1)) pe_int)) (pv 1)) pe_int)))) pss_nil)
      (pss_one (ps_ret (pe_op op_modN' (pe_op op_mulN (pv 2) (pv 2)) pe_int)))))), ?_⟩
    refine ⟨_, rfl, _, rfl, sc, _, rfl, .inl hS, k, _, rfl, rfl, _, rfl, ?_⟩
    refine ite2 (fun hc => ?_) (fun hc => ?_)
    · have hlt : k < ns.length := by
        have := of_decide_eq_true hc
        rwa [len1] at this
      exact ⟨_, rfl, _, rfl, sc, _, _, _, rfl, rfl, hS, atI_nat (j := k) (v := V.int ns[k]) (by simp [hlt]), q _⟩
    · refine ⟨_, rfl, k, 7919, rfl, rfl, by omega, k * 7919, 5, rfl, rfl, ?_⟩
      refine ⟨_, rfl, sc, _, rfl, .inl hS, _, 0, rfl, rfl, _, rfl, ?_⟩
      refine ite2 (fun hc2 => ?_) (fun hc2 => ?_)
      · have hpos : 0 < (ns.map V.int).length := of_decide_eq_true hc2
        have hj : k * 7 % (ns.map V.int).length < ns.length := by
          have := Nat.mod_lt (k * 7) hpos
          rwa [len1] at this ⊢
        refine ⟨_, rfl, _, rfl, k, 7, rfl, rfl, by omega, _, rfl, sc, _, rfl, .inl hS, k * 7, (ns.map V.int).length, rfl, rfl, hpos, sc, _, _, _, rfl, rfl, hS, atI_nat (j := k * 7 % (ns.map V.int).length) (v := V.int ns[k * 7 % (ns.map V.int).length]) (by rw [List.getElem?_map, List.getElem?_eq_getElem hj]; rfl), ?_⟩
        refine ⟨_, rfl, _, _, rfl, rfl, .inr ⟨by decide, by decide⟩, _, rfl, _, rfl, k, k, rfl, rfl, by omega, k * k, 7919, rfl, rfl, by omega, _, _, rfl, rfl, _, rfl, _, _, rfl, rfl, _, _, rfl, rfl, (by show (0 : Int) < 2147483647; decide), ?_⟩
        have p0 : (0 : Int) < 2147483647 := by decide
        dsimp only
        generalize ns[k * 7 % (ns.map V.int).length] * 48271 + ((k * k * 7919 : Nat) : Int) + (k : Int) = z
        obtain ⟨c, e, lt⟩ := nat_of (n := 2147483647) (mod_lo z p0) (mod_hi z p0)
        refine ⟨_, rfl, _, rfl, c, c, congrArg V.int e, congrArg V.int e, by omega, c * c, 2147483629, rfl, rfl, (by show 0 < 2147483629; decide), q _⟩
      · exact ⟨_, rfl, _, rfl, k * 7919 + 5, k * 7919 + 5, rfl, rfl, by omega, _, 2147483629, rfl, rfl, (by show 0 < 2147483629; decide), q _⟩
noncomputable abbrev sPNext : Stmt := top 22
theorem scPNext : FnScope ["_law_pen", "_law_most", "_law_cell_here"] ["_law_pen", "_law_most"] (defScope sPNext) := ⟨rfl, rfl, rfl, by decide +kernel, rfl, by decide +kernel, by decide +kernel⟩
theorem ok_pnext {f fPC : Addr} {fd fdPC : FuncData} (F : Fun K "_law_next" "_law_next" sPNext f fd) (GPC : FnOk P w K mg base CX0 1 fPC fdPC ["_law_script", "_law_k"] (spPCell K)) (mPC : mg "_law_cell" = some (.ref fPC)) (kPC : PySem.W.keepIn K (.ref fPC) = true) (bPC : Binds K fdPC ["_law_script", "_law_k"] []) : FnOk P w K mg base CX0 2 f fd ["_law_pen", "_law_most"] (spTakeF K) := by
  refine F.ok scPNext (fun vs H Q E h => ?_) (fun cdv A outer s H vs Q E hr h => ?_)
  · obtain ⟨st, ns, k, most, rfl, _⟩ := h
    rfl
  · obtain ⟨st, ns, k, most, rfl, S, hk, hl, hm, q⟩ := h
    obtain ⟨sc, hst, hscF⟩ := id S
    have nd := scPNext.nd
    have hr1 : Room 1 _ := hr.mono (by decide)
    refine ⟨_, (pss_cons (ps_set (i := 2) nd rfl (Or.inl rfl) (pe_op op_mod (pe_call GPC hr1 rfl mPC kPC bPC .nil pass0 (pa_cons (pe_ix (ix_listK (K := K) rfl) (pv 0) pe_int (fun _ _ => rfl)) (pa_cons (pe_ix (ix_listK (K := K) rfl) (pv 0) pe_int (fun _ _ => rfl)) pa_nil))) (pv 1)))
      (pss_cons (ps_asg (pe_op op_add (pe_ix (ix_listK (K := K) rfl) (pv 0) pe_int (fun _ _ => rfl)) pe_int) (pg_sub (pv 0) pe_int set_list))
      (pss_one (ps_ret (pv 2))))), ?_⟩
    refine ⟨_, rfl, st, _, _, _, rfl, rfl, SqL.of hst, atI_nat (j := 0) rfl, _, rfl, st, _, _, _, rfl, rfl, SqL.of hst, atI_nat (j := 1) rfl, sc, ns, k, rfl, hscF.sq, hk, fun v => ?_⟩
    refine ⟨_, rfl, _, _, rfl, rfl, hm, ?_⟩
    refine ⟨_, rfl, st, _, _, _, rfl, rfl, SqL.of hst, atI_nat (j := 1) rfl, _, _, rfl, rfl, _, rfl, st, _, 1, 1, rfl, rfl, hst, rfl, ?_⟩
    have bt : But st H (upd H st (.lst [.ref sc, .int ((k : Int) + 1)])) := But.put st H _
    have hscF' : SqF K (upd H st (.lst [.ref sc, .int ((k : Int) + 1)])) sc ns := STF.seq hst hscF bt
    have s' : L2.STF K (upd H st (.lst [.ref sc, .int ((k : Int) + 1)])) st ns (k + 1) := ⟨sc, by rw [upd_same]; rfl, hscF'⟩
    exact ⟨_, rfl, q _ _ (mod_lo _ hm) (mod_hi _ hm) s' bt⟩
noncomputable abbrev sPSome : Stmt := top 23
theorem scPSome : FnScope ["_law_pen", "_law_many", "_law_first", "_law_second", "_law_one", "_law_other"] ["_law_pen", "_law_many"] (defScope sPSome) := ⟨rfl, rfl, rfl, by decide +kernel, rfl, by decide +kernel, by decide +kernel⟩
theorem ok_psome {f fPN : Addr} {fd fdPN : FuncData} (F : Fun K "_law_some" "_law_some" sPSome f fd) (GPN : FnOk P w K mg base CX0 2 fPN fdPN ["_law_pen", "_law_most"] (spTakeF K)) (mPN : mg "_law_next" = some (.ref fPN)) (kPN : PySem.W.keepIn K (.ref fPN) = true) (bPN : Binds K fdPN ["_law_pen", "_law_most"] []) : FnOk P w K mg base CX0 3 f fd ["_law_pen", "_law_many"] (spSetF K) := by
  refine F.ok scPSome (fun vs H Q E h => ?_) (fun cdv A outer s H vs Q E hr h => ?_)
  · obtain ⟨st, ns, k, m, rfl, _⟩ := h
    rfl
  · obtain ⟨st, ns, k, m, rfl, S, hk, hl, hm1, hm7, q⟩ := h
    have nd := scPSome.nd
    have hr2 : Room 2 _ := hr.mono (by decide)
    have pw : 0 < 2 ^ m := Nat.two_pow_pos m
    refine ⟨_, (pss_cons (ps_set (i := 2) nd rfl (Or.inl rfl) (pe_call GPN hr2 rfl mPN kPN bPN .nil pass0 (pa_cons (pv 0) (pa_cons (pe_op op_shl1 pe_int (pv 1)) pa_nil))))
      (pss_cons (ps_set (i := 3) nd rfl (Or.inl rfl) (pe_call GPN hr2 rfl mPN kPN bPN .nil pass0 (pa_cons (pv 0) (pa_cons (pe_op op_shl1 pe_int (pv 1)) pa_nil))))
      (pss_cons (ps_set (i := 4) nd rfl (Or.inl rfl) (pe_op op_shl1 pe_int (pe_op op_modN' (pv 2) (pv 1))))
      (pss_cons (ps_set (i := 5) nd rfl (Or.inl rfl) (pe_op op_shl1 pe_int (pe_op op_modN' (pv 3) (pv 1))))
      (pss_one (ps_ret (pe_ix (ix_listK (K := K) rfl) (pe_lst (pa_cons (pv 2) (pa_cons (pe_op op_andN (pv 2) (pv 3)) (pa_cons (pv 4) (pa_cons (pe_op op_orN (pv 4) (pv 5)) (pa_cons (pv 4) (pa_cons (pe_op op_orN (pv 4) (pv 5)) (pa_cons (pe_op op_andN (pv 2) (pv 3)) (pa_cons pe_int pa_nil))))))))) (pe_call GPN hr2 rfl mPN kPN bPN .nil pass0 (pa_cons (pv 0) (pa_cons pe_int pa_nil))) (fun _ _ => rfl)))))))), ?_⟩
    refine ⟨_, rfl, _, rfl, m, rfl, rfl, by omega, st, ns, k, ((2 ^ m : Nat) : Int), rfl, S, by omega, hl, by omega, fun r1 H1 a1 b1 S1 B1 => ?_⟩
    obtain ⟨n1, rfl, hn1⟩ := nat_of a1 b1
    refine ⟨_, rfl, _, rfl, m, rfl, rfl, by omega, st, ns, k + 1, ((2 ^ m : Nat) : Int), rfl, S1, by omega, hl, by omega, fun r2 H2 a2 b2 S2 B2 => ?_⟩
    obtain ⟨n2, rfl, hn2⟩ := nat_of a2 b2
    have l1 : n1 % m < m := Nat.mod_lt _ (by omega)
    have l2 : n2 % m < m := Nat.mod_lt _ (by omega)
    have p1 : 2 ^ (n1 % m) < 2 ^ m := Nat.pow_lt_pow_right (by decide) l1
    have p2 : 2 ^ (n2 % m) < 2 ^ m := Nat.pow_lt_pow_right (by decide) l2
    refine ⟨_, rfl, _, rfl, n1, m, rfl, rfl, (by show 0 < m; omega), n1 % m, rfl, rfl, by omega, ?_⟩
    refine ⟨_, rfl, _, rfl, n2, m, rfl, rfl, (by show 0 < m; omega), n2 % m, rfl, rfl, by omega, ?_⟩
    refine ⟨_, rfl, _, rfl, _, rfl, n1, n2, rfl, rfl, _, rfl, _, rfl, _, rfl, 2 ^ (n1 % m), 2 ^ (n2 % m), rfl, rfl, _, rfl, _, rfl, _, rfl, 2 ^ (n1 % m), 2 ^ (n2 % m), rfl, rfl, _, rfl, _, rfl, n1, n2, rfl, rfl, (by show 8 ≤ sizeLine; decide), fun g hg => ?_⟩
    have hgs := (stf_fresh S2 (But.refl _ _) hg).2
    refine ⟨_, rfl, st, ns, k + 2, 8, rfl, S2.new hg, by omega, hl, by decide, fun r3 H3 a3 b3 S3 B3 => ?_⟩
    obtain ⟨n3, rfl, hn3⟩ := nat_of (n := 8) a3 b3
    obtain ⟨w, ew, hw⟩ : ∃ w : Nat, ([vN n1, vN (n1 &&& n2), vN (2 ^ (n1 % m)), vN (2 ^ (n1 % m) ||| 2 ^ (n2 % m)), vN (2 ^ (n1 % m)), vN (2 ^ (n1 % m) ||| 2 ^ (n2 % m)), vN (n1 &&& n2), vN 0] : List V)[n3]? = some (vN w) ∧ w < 2 ^ m := by
      have ha : n1 &&& n2 < 2 ^ m := and_lt hn1
      have ho : 2 ^ (n1 % m) ||| 2 ^ (n2 % m) < 2 ^ m := Nat.or_lt_two_pow p1 p2
      match n3, hn3 with
      | 0, _ => exact ⟨_, rfl, hn1⟩
      | 1, _ => exact ⟨_, rfl, ha⟩
      | 2, _ => exact ⟨_, rfl, p1⟩
      | 3, _ => exact ⟨_, rfl, ho⟩
      | 4, _ => exact ⟨_, rfl, p1⟩
      | 5, _ => exact ⟨_, rfl, ho⟩
      | 6, _ => exact ⟨_, rfl, ha⟩
      | 7, _ => exact ⟨0, rfl, pw⟩
    have hg3 := B3 _ _ (upd_same (H := H2) (a := g) (o := .lst [vN n1, vN (n1 &&& n2), vN (2 ^ (n1 % m)), vN (2 ^ (n1 % m) ||| 2 ^ (n2 % m)), vN (2 ^ (n1 % m)), vN (2 ^ (n1 % m) ||| 2 ^ (n2 % m)), vN (n1 &&& n2), vN 0])) hgs
    refine ⟨g, _, _, _, rfl, rfl, SqL.of hg3, atI_nat ew, ?_⟩
    exact q w _ _ hw (Nat.le_refl _) S3 ((B1.trans B2).trans ((But.new hg).trans B3))
noncomputable abbrev sPPair : Stmt := top 24
theorem scPPair : FnScope ["_law_pen", "_law_many", "_law_number", "_law_one"] ["_law_pen", "_law_many"] (defScope sPPair) := ⟨rfl, rfl, rfl, by decide +kernel, rfl, by decide +kernel, by decide +kernel⟩
theorem ok_ppair {f fPN : Addr} {fd fdPN : FuncData} (F : Fun K "_law_pair" "_law_pair" sPPair f fd) (GPN : FnOk P w K mg base CX0 2 fPN fdPN ["_law_pen", "_law_most"] (spTakeF K)) (mPN : mg "_law_next" = some (.ref fPN)) (kPN : PySem.W.keepIn K (.ref fPN) = true) (bPN : Binds K fdPN ["_law_pen", "_law_most"] []) (zint : mg "int" = none) : FnOk P w K mg base CX0 3 f fd ["_law_pen", "_law_many"] (spSetF K) := by
  refine F.ok scPPair (fun vs H Q E h => ?_) (fun cdv A outer s H vs Q E hr h => ?_)
  · obtain ⟨st, ns, k, m, rfl, _⟩ := h
    rfl
  · obtain ⟨st, ns, k, m, rfl, S, hk, hl, hm1, hm7, q⟩ := h
    have nd := scPPair.nd
    have hr2 : Room 2 _ := hr.mono (by decide)
    have mm : m * m ≤ 7 * 7 := Nat.mul_le_mul hm7 hm7
    have m3 : 0 < 3 * m * m := Nat.mul_pos (by omega) (by omega)
    refine ⟨_, (pss_cons (ps_set (i := 2) nd rfl (Or.inl rfl) (pe_call GPN hr2 rfl mPN kPN bPN .nil pass0 (pa_cons (pv 0) (pa_cons (pe_op op_mulN (pe_op op_mulN pe_int (pv 1)) (pv 1)) pa_nil))))
      (pss_cons (ps_set (i := 3) nd rfl (Or.inl rfl) (pe_op op_shl1 pe_int (pe_op op_modN' (pv 2) (pv 1))))
      (pss_one (ps_ret (pe_ix (ix_listK (K := K) rfl) (pe_lst (pa_cons (pv 3) (pa_cons (pe_op op_orN (pv 3) (pe_op op_shl1 pe_int (pe_op op_modN' (pe_op op_fdivN' (pv 2) (pv 1)) (pv 1)))) pa_nil))) (pe_callTy call_int1 (by rfl) zint PyProof.Rows.boot_int (pa_cons (pe_cmpR op_geN (pv 2) (pe_op op_mulN (pv 1) (pv 1)) (nomark _)) pa_nil)) (fun _ _ => rfl)))))), ?_⟩
    refine ⟨_, rfl, _, rfl, 3, m, rfl, rfl, (by show 3 < 2 ^ 64; decide), _, rfl, 3 * m, m, rfl, rfl, (by show 3 * m < 2 ^ 64; omega), st, ns, k, ((3 * m * m : Nat) : Int), rfl, S, by omega, hl, by omega, fun r1 H1 a1 b1 S1 B1 => ?_⟩
    obtain ⟨n1, rfl, hn1⟩ := nat_of a1 b1
    have l1 : n1 % m < m := Nat.mod_lt _ (by omega)
    have l2 : n1 / m % m < m := Nat.mod_lt _ (by omega)
    have p1 : 2 ^ (n1 % m) < 2 ^ m := Nat.pow_lt_pow_right (by decide) l1
    have p2 : 2 ^ (n1 / m % m) < 2 ^ m := Nat.pow_lt_pow_right (by decide) l2
    refine ⟨_, rfl, _, rfl, n1, m, rfl, rfl, (by show 0 < m; omega), n1 % m, rfl, rfl, by omega, ?_⟩
    refine ⟨_, rfl, _, rfl, _, rfl, _, rfl, n1, m, rfl, rfl, ⟨by omega, by omega⟩, _, rfl, n1 / m, m, rfl, rfl, (by show 0 < m; omega), n1 / m % m, rfl, rfl, by omega, 2 ^ (n1 % m), 2 ^ (n1 / m % m), rfl, rfl, (by show 2 ≤ sizeLine; decide), fun g hg => ?_⟩
    refine ⟨_, rfl, _, rfl, _, rfl, m, m, rfl, rfl, (by show m < 2 ^ 64; omega), n1, m * m, rfl, rfl, .inr ⟨_, rfl, ?_⟩⟩
    obtain ⟨j, ej, hj⟩ : ∃ j : Nat, (if decide (m * m ≤ n1) = true then (1 : Int) else 0) = (j : Int) ∧ j < 2 := by
      split
      · exact ⟨1, rfl, by decide⟩
      · exact ⟨0, rfl, by decide⟩
    obtain ⟨w, ew, hw⟩ : ∃ w : Nat, ([vN (2 ^ (n1 % m)), vN (2 ^ (n1 % m) ||| 2 ^ (n1 / m % m))] : List V)[j]? = some (vN w) ∧ w < 2 ^ m := by
      match j, hj with
      | 0, _ => exact ⟨_, rfl, p1⟩
      | 1, _ => exact ⟨_, rfl, Nat.or_lt_two_pow p1 p2⟩
    refine ⟨g, _, _, _, rfl, rfl, SqL.of upd_same, (by rw [ej]; exact atI_nat ew), ?_⟩
    exact q w (k + 1) _ hw (by omega) (S1.new hg) (B1.trans (But.new hg))
end
end Own

namespace Own
open PySem L2
section
variable {P : Program} {w : World} {K : PySem.W.Frag} {mg : Str → Option Value} {base : Heap}
seal PySem.wpAny
noncomputable abbrev sPRules : Stmt := top 25
theorem scPRules : FnScope ["_law_pen", "_law_many", "_law_most", "_law_rules_here", "_law_amount", "_law_k", "_law_word"] ["_law_pen", "_law_many", "_law_most"] (defScope sPRules) := ⟨rfl, rfl, rfl, by decide +kernel, rfl, by decide +kernel, by decide +kernel⟩
noncomputable def PPR (K : PySem.W.Frag) (st : Addr) (ns : List Int) (m mo k : Nat) (H : Hp) : St → Hp → Prop := fun σ H' => ∃ (g : Addr) (am : Nat) (v5 v6 : Option V) (rs : List Rl) (k2 : Nat), σ = [some (.ref st), some (vN m), some (vN mo), some (.ref g), some (vN am), v5, v6] ∧ am ≤ 4 ∧ PR K H st ns m g rs k2 H' ∧ rs.length ≤ 13 ∧ k2 ≤ k + 110
theorem ok_prules {f fPN fPS fPP : Addr} {fd fdPN fdPS fdPP : FuncData} (F : Fun K "_law_rules" "_law_rules" sPRules f fd) (GPN : FnOk P w K mg base CX0 2 fPN fdPN ["_law_pen", "_law_most"] (spTakeF K)) (mPN : mg "_law_next" = some (.ref fPN)) (kPN : PySem.W.keepIn K (.ref fPN) = true) (bPN : Binds K fdPN ["_law_pen", "_law_most"] []) (GPS : FnOk P w K mg base CX0 3 fPS fdPS ["_law_pen", "_law_many"] (spSetF K)) (mPS : mg "_law_some" = some (.ref fPS)) (kPS : PySem.W.keepIn K (.ref fPS) = true) (bPS : Binds K fdPS ["_law_pen", "_law_many"] []) (GPP : FnOk P w K mg base CX0 3 fPP fdPP ["_law_pen", "_law_many"] (spSetF K)) (mPP : mg "_law_pair" = some (.ref fPP)) (kPP : PySem.W.keepIn K (.ref fPP) = true) (bPP : Binds K fdPP ["_law_pen", "_law_many"] []) (zrange : mg "range" = none) (zint : mg "int" = none) : FnOk P w K mg base CX0 4 f fd ["_law_pen", "_law_many", "_law_most"] (spPRules K) := by
  refine F.ok scPRules (fun vs H Q E h => ?_) (fun cdv A outer s H vs Q E hr h => ?_)
  · obtain ⟨st, ns, k, m, mo, rfl, _⟩ := h
    rfl
  · obtain ⟨st, ns, k, m, mo, rfl, S, hk, hl, hm1, hm7, hmo, q⟩ := h
    have nd := scPRules.nd
    have hr2 : Room 2 _ := hr.mono (by decide)
    refine ⟨_, (pss_cons (ps_set (i := 3) nd rfl (Or.inl rfl) (pe_lst pa_nil)) (pss_cons (ps_set (i := 4) nd rfl (Or.inl rfl) (pe_call GPN hr2 rfl mPN kPN bPN .nil pass0 (pa_cons (pv 0) (pa_cons (pe_op op_addN (pv 2) pe_int) pa_nil)))) (pss_cut (PPR K st ns m mo k H) (ps_if (pt_cmpR op_eqN (pe_call GPN hr2 rfl mPN kPN bPN .nil pass0 (pa_cons (pv 0) (pa_cons pe_int pa_nil))) pe_int (nomark _)) (pss_cons (ps_set (i := 4) nd rfl (Or.inl rfl) pe_int)
      (pss_one (ps_for PassesOwn.never rfl (pi_range1 rfl zrange (pa_cons (pe_op op_addN pe_int (pe_call GPN hr2 rfl mPN kPN bPN .nil pass0 (pa_cons (pv 0) (pa_cons (pe_ix (ix_listK (K := K) rfl) (pe_lst (pa_cons pe_int (pa_cons pe_int pa_nil))) (pe_callTy call_int1 (by rfl) zint PyProof.Rows.boot_int (pa_cons (pe_cmpR op_gtN (pv 1) pe_int (nomark _)) pa_nil)) (fun _ _ => rfl)) pa_nil)))) pa_nil)) (pg_name (i := 5) nd rfl (Or.inl rfl)) (pss_cons (ps_set (i := 6) nd rfl (Or.inl rfl) (pe_ix (ix_listK (K := K) rfl) (pe_lst (pa_cons pe_str (pa_cons pe_str (pa_cons pe_str pa_nil)))) (pe_call GPN hr2 rfl mPN kPN bPN .nil pass0 (pa_cons (pv 0) (pa_cons pe_int pa_nil))) (fun _ _ => rfl)))
      (pss_one (ps_expr (pe_bm PySem.F.plainAttrs_list PySem.F.slot_list_append PySem.F.type_list_append mt_append (pv 3) (pa_cons (pe_tup (pa_cons (pv 6) (pa_cons (pe_call GPP hr rfl mPP kPP bPP .nil pass0 (pa_cons (pv 0) (pa_cons (pv 1) pa_nil))) (pa_cons (pe_call GPP hr rfl mPP kPP bPP .nil pass0 (pa_cons (pv 0) (pa_cons (pv 1) pa_nil))) pa_nil)))) pa_nil)))))))) pss_nil) (pss_cons (ps_for PassesOwn.never rfl (pi_range1 rfl zrange (pa_cons (pv 4) pa_nil)) (pg_name (i := 5) nd rfl (Or.inl rfl)) (pss_cons (ps_set (i := 6) nd rfl (Or.inl rfl) (pe_ix (ix_listK (K := K) rfl) (pe_lst (pa_cons pe_str (pa_cons pe_str (pa_cons pe_str pa_nil)))) (pe_call GPN hr2 rfl mPN kPN bPN .nil pass0 (pa_cons (pv 0) (pa_cons pe_int pa_nil))) (fun _ _ => rfl)))
      (pss_one (ps_expr (pe_bm PySem.F.plainAttrs_list PySem.F.slot_list_append PySem.F.type_list_append mt_append (pv 3) (pa_cons (pe_tup (pa_cons (pv 6) (pa_cons (pe_call GPS hr rfl mPS kPS bPS .nil pass0 (pa_cons (pv 0) (pa_cons (pv 1) pa_nil))) (pa_cons (pe_call GPS hr rfl mPS kPS bPS .nil pass0 (pa_cons (pv 0) (pa_cons (pv 1) pa_nil))) pa_nil)))) pa_nil)))))) (pss_one (ps_ret (pv 3))))))), ?_⟩
    refine ⟨(by show 0 ≤ sizeLine; exact Nat.zero_le _), fun g hg => ?_⟩
    obtain ⟨hgH, hgs⟩ := stf_fresh S (But.refl _ _) hg
    refine ⟨_, rfl, _, rfl, mo, 1, rfl, rfl, st, ns, k, ((mo + 1 : Nat) : Int), rfl, S.new hg, by omega, hl, by omega, fun r1 H1 a1 b1 S1 B1 => ?_⟩
    obtain ⟨am, rfl, ham⟩ := nat_of a1 b1
    have hg1 := B1 _ _ (upd_same (H := H) (a := g) (o := .lst [])) hgs
    refine ⟨⟨_, rfl, st, ns, k + 1, 8, rfl, S1, by omega, hl, by decide, fun r2 H2 a2 b2 S2 B2 => ?_⟩, ?_⟩
    · obtain ⟨n2, rfl, hn2⟩ := nat_of (n := 8) a2 b2
      have R2 : PR K H st ns m g [] (k + 2) H2 := ⟨fun r h => absurd h List.not_mem_nil, B2 _ _ hg1 hgs, S2, (((But.new hg).trans B1).trans B2), hgH, hgs⟩
      refine ⟨n2, 0, rfl, rfl, _, rfl, ite2 (fun _ => ?_) (fun _ => ⟨g, am, _, _, [], k + 2, rfl, by omega, R2, by decide, by omega⟩)⟩
      refine ⟨_, rfl, (by show 2 ≤ sizeLine; decide), fun l hl1 => ?_⟩
      have hls1 := (stf_fresh S2 (But.refl _ _) hl1).2
      refine ⟨_, rfl, m, 5, rfl, rfl, .inr ⟨_, rfl, ?_⟩⟩
      obtain ⟨j, ej, hj⟩ : ∃ j : Nat, (if decide (5 < m) = true then (1 : Int) else 0) = (j : Int) ∧ j < 2 := by
        split
        · exact ⟨1, rfl, by decide⟩
        · exact ⟨0, rfl, by decide⟩
      obtain ⟨w, ew, hw0, hw⟩ : ∃ w : Nat, ([vN 8, vN 4] : List V)[j]? = some (vN w) ∧ 0 < w ∧ w ≤ 8 := by
        match j, hj with
        | 0, _ => exact ⟨8, rfl, by decide, by decide⟩
        | 1, _ => exact ⟨4, rfl, by decide, by decide⟩
      refine ⟨l, _, _, _, rfl, rfl, SqL.of upd_same, (by rw [ej]; exact atI_nat ew), st, ns, k + 2, (w : Int), rfl, S2.new hl1, by omega, hl, by omega, fun r3 H3 a3 b3 S3 B3 => ?_⟩
      obtain ⟨n3, rfl, hn3⟩ := nat_of a3 b3
      have sl1 := Same.new (o := .lst [V.int 8, V.int 4]) hl1
      have R3 : PR K H st ns m g [] (k + 3) H3 := ⟨fun r h => absurd h List.not_mem_nil, B3 _ _ (sl1 _ _ R2.hg) hgs, S3, R2.B.trans ((But.new hl1).trans B3), hgH, hgs⟩
      refine ⟨5, n3, rfl, rfl, ((5 + n3 : Nat) : Int), rfl, by omega, by omega, for_rangeN (n := 5 + n3) (fun i σ H2 => (∃ v5 v6, σ = [some (.ref st), some (vN m), some (vN mo), some (.ref g), some (vN 0), v5, v6]) ∧ ∃ (rs : List Rl) (k2 : Nat), PR K H st ns m g rs k2 H2 ∧ rs.length ≤ 0 + i ∧ k2 ≤ (k + 3) + 7 * i) ⟨⟨_, _, rfl⟩, [], k + 3, R3, Nat.le_refl _, Nat.le_refl _⟩ ?_ ?_⟩
      · rintro i σ H2 hi ⟨⟨v5, v6, rfl⟩, rs, k2, R, hrl, hk2⟩
        refine ⟨(by show 3 ≤ sizeLine; decide), fun l hl2 => ?_⟩
        have hls := stf_fresh R.S R.B hl2
        have sl := Same.new (o := .lst [V.str "settle", V.str "settle", V.str "deal"]) hl2
        refine ⟨_, rfl, st, ns, k2, 3, rfl, R.S.new hl2, by omega, hl, by decide, fun r1 H3 a3 b3 S3 B3 => ?_⟩
        obtain ⟨n1, rfl, hn1⟩ := nat_of (n := 3) a3 b3
        have hl3 := B3 _ _ (show (upd H2 l (.lst [V.str "settle", V.str "settle", V.str "deal"])) l = some (.lst [V.str "settle", V.str "settle", V.str "deal"]) from upd_same) hls.2
        obtain ⟨sb, esb⟩ : ∃ sb : Bool, ([V.str "settle", V.str "settle", V.str "deal"] : List V)[n1]? = some (V.str (wordS sb)) := by
          match n1, hn1 with
          | 0, _ => exact ⟨true, rfl⟩
          | 1, _ => exact ⟨true, rfl⟩
          | 2, _ => exact ⟨false, rfl⟩
        refine ⟨l, _, _, _, rfl, rfl, SqL.of hl3, atI_nat esb, ?_⟩
        have hg3 : H3 g = some (.lst (rs.map fun r => V.ref r.r)) := B3 _ _ (sl _ _ R.hg) R.hgs
        have B03 : But st H H3 := R.B.trans ((But.new hl2).trans B3)
        have rk3 : RulesAt H3 m rs := fun r hr' => ⟨stf_tup (R.S.new hl2) B3 (sl _ _ (R.at_ r hr').1), (R.at_ r hr').2⟩
        refine ⟨_, rfl, .inl ⟨rfl, _, SqL.of hg3⟩, _, rfl, ?_⟩
        refine ⟨_, rfl, _, rfl, st, ns, k2 + 1, m, rfl, S3, by omega, hl, hm1, hm7, fun x k4 H4 hx hk4 S4 B4 => ?_⟩
        refine ⟨_, rfl, _, rfl, st, ns, k4, m, rfl, S4, by omega, hl, hm1, hm7, fun y k5 H5 hy hk5 S5 B5 => ?_⟩
        refine ⟨(by show 3 ≤ sizeLine; decide), fun t ht => ?_⟩
        have sn := Same.new (o := .tup [V.str (wordS sb), V.int (x : Int), V.int (y : Int)]) ht
        have hg5 := B5 _ _ (B4 _ _ hg3 R.hgs) R.hgs
        have hg6 := sn _ _ hg5
        have rk5 : RulesAt H5 m rs := fun r hr' => ⟨stf_tup S4 B5 (stf_tup S3 B4 (rk3 r hr').1), (rk3 r hr').2⟩
        refine ⟨g, _, _, rfl, rfl, hg6, by rw [List.length_map]; exact small1000 (by omega), ⟨_, _, rfl⟩, rs ++ [⟨t, sb, x, y⟩], k5, ⟨fun r hr' => ?_, by rw [upd_same, List.map_append]; rfl, (S5.new ht).put hg6 R.hgs, (((B03.trans B4).trans B5).trans (But.new ht)).own R.hg0, R.hg0, R.hgs⟩, by rw [List.length_append]; show _ + 1 ≤ _; omega, by omega⟩
        rcases List.mem_append.mp hr' with hr' | hr'
        · exact ((rk5.same sn).put hg6) r hr'
        · rw [List.mem_singleton.mp hr']
          exact ⟨tup_put hg6 _ _ upd_same, hx, hy⟩
      · rintro σ H4 ⟨⟨v5, v6, rfl⟩, rs, k2, R, hrl, hk2⟩
        exact ⟨g, 0, v5, v6, rs, k2, rfl, by omega, R, by omega, by omega⟩
    clear hg1 B1 S1 ham a1 b1 hg hgH hgs
    rintro _ H5 ⟨g, am, v5, v6, rs0, k0, rfl, ham, R0, hr0, hk0⟩
    refine ⟨_, rfl, (am : Int), rfl, by omega, by omega, for_rangeN (n := am) (fun i σ H2 => (∃ v5 v6, σ = [some (.ref st), some (vN m), some (vN mo), some (.ref g), some (vN am), v5, v6]) ∧ ∃ (rs : List Rl) (k2 : Nat), PR K H st ns m g rs k2 H2 ∧ rs.length ≤ rs0.length + i ∧ k2 ≤ k0 + 7 * i) ⟨⟨_, _, rfl⟩, rs0, k0, R0, Nat.le_refl _, Nat.le_refl _⟩ ?_ ?_⟩
    · rintro i σ H2 hi ⟨⟨v5, v6, rfl⟩, rs, k2, R, hrl, hk2⟩
      refine ⟨(by show 3 ≤ sizeLine; decide), fun l hl2 => ?_⟩
      have hls := stf_fresh R.S R.B hl2
      have sl := Same.new (o := .lst [V.str "settle", V.str "settle", V.str "deal"]) hl2
      refine ⟨_, rfl, st, ns, k2, 3, rfl, R.S.new hl2, by omega, hl, by decide, fun r1 H3 a3 b3 S3 B3 => ?_⟩
      obtain ⟨n1, rfl, hn1⟩ := nat_of (n := 3) a3 b3
      have hl3 := B3 _ _ (show (upd H2 l (.lst [V.str "settle", V.str "settle", V.str "deal"])) l = some (.lst [V.str "settle", V.str "settle", V.str "deal"]) from upd_same) hls.2
      obtain ⟨sb, esb⟩ : ∃ sb : Bool, ([V.str "settle", V.str "settle", V.str "deal"] : List V)[n1]? = some (V.str (wordS sb)) := by
        match n1, hn1 with
        | 0, _ => exact ⟨true, rfl⟩
        | 1, _ => exact ⟨true, rfl⟩
        | 2, _ => exact ⟨false, rfl⟩
      refine ⟨l, _, _, _, rfl, rfl, SqL.of hl3, atI_nat esb, ?_⟩
      have hg3 : H3 g = some (.lst (rs.map fun r => V.ref r.r)) := B3 _ _ (sl _ _ R.hg) R.hgs
      have B03 : But st H H3 := R.B.trans ((But.new hl2).trans B3)
      have rk3 : RulesAt H3 m rs := fun r hr' => ⟨stf_tup (R.S.new hl2) B3 (sl _ _ (R.at_ r hr').1), (R.at_ r hr').2⟩
      refine ⟨_, rfl, .inl ⟨rfl, _, SqL.of hg3⟩, _, rfl, ?_⟩
      refine ⟨_, rfl, _, rfl, st, ns, k2 + 1, m, rfl, S3, by omega, hl, hm1, hm7, fun x k4 H4 hx hk4 S4 B4 => ?_⟩
      refine ⟨_, rfl, _, rfl, st, ns, k4, m, rfl, S4, by omega, hl, hm1, hm7, fun y k5 H5 hy hk5 S5 B5 => ?_⟩
      refine ⟨(by show 3 ≤ sizeLine; decide), fun t ht => ?_⟩
      have sn := Same.new (o := .tup [V.str (wordS sb), V.int (x : Int), V.int (y : Int)]) ht
      have hg5 := B5 _ _ (B4 _ _ hg3 R.hgs) R.hgs
      have hg6 := sn _ _ hg5
      have rk5 : RulesAt H5 m rs := fun r hr' => ⟨stf_tup S4 B5 (stf_tup S3 B4 (rk3 r hr').1), (rk3 r hr').2⟩
      refine ⟨g, _, _, rfl, rfl, hg6, by rw [List.length_map]; exact small1000 (by omega), ⟨_, _, rfl⟩, rs ++ [⟨t, sb, x, y⟩], k5, ⟨fun r hr' => ?_, by rw [upd_same, List.map_append]; rfl, (S5.new ht).put hg6 R.hgs, (((B03.trans B4).trans B5).trans (But.new ht)).own R.hg0, R.hg0, R.hgs⟩, by rw [List.length_append]; show _ + 1 ≤ _; omega, by omega⟩
      rcases List.mem_append.mp hr' with hr' | hr'
      · exact ((rk5.same sn).put hg6) r hr'
      · rw [List.mem_singleton.mp hr']
        exact ⟨tup_put hg6 _ _ upd_same, hx, hy⟩
    · rintro σ H4 ⟨⟨v5, v6, rfl⟩, rs, k2, R, hrl, hk2⟩
      exact ⟨_, rfl, q rs g k2 H4 R (by omega) (by omega)⟩
noncomputable abbrev sLPart : Stmt := top 26
theorem scLPart : FnScope ["_law_pen", "_law_many", "_law_part_here"] ["_law_pen", "_law_many"] (defScope sLPart) := ⟨rfl, rfl, rfl, by decide +kernel, rfl, by decide +kernel, by decide +kernel⟩
theorem ok_lpart {f fPN : Addr} {fd fdPN : FuncData} (F : Fun K "_law_part" "_law_part" sLPart f fd) (GPN : FnOk P w K mg base CX0 2 fPN fdPN ["_law_pen", "_law_most"] (spTakeF K)) (mPN : mg "_law_next" = some (.ref fPN)) (kPN : PySem.W.keepIn K (.ref fPN) = true) (bPN : Binds K fdPN ["_law_pen", "_law_most"] []) : FnOk P w K mg base CX0 3 f fd ["_law_pen", "_law_many"] (spPart70 K) := by
  refine F.ok scLPart (fun vs H Q E h => ?_) (fun cdv A outer s H vs Q E hr h => ?_)
  · obtain ⟨st, ns, k, m, rfl, _⟩ := h
    rfl
  · obtain ⟨st, ns, k, m, rfl, S, hk, hl, hm1, hm7, q⟩ := h
    have nd := scLPart.nd
    have hr2 : Room 2 _ := hr.mono (by decide)
    have pw : 0 < 2 ^ m := Nat.two_pow_pos m
    refine ⟨_, (pss_cons (ps_set (i := 2) nd rfl (Or.inl rfl) (pe_call GPN hr2 rfl mPN kPN bPN .nil pass0 (pa_cons (pv 0) (pa_cons (pe_op op_shl1 pe_int (pv 1)) pa_nil))))
      (pss_one (ps_ret (pe_ix (ix_listK (K := K) rfl) (pe_lst (pa_cons (pv 2) (pa_cons (pe_op op_orN (pv 2) (pe_call GPN hr2 rfl mPN kPN bPN .nil pass0 (pa_cons (pv 0) (pa_cons (pe_op op_shl1 pe_int (pv 1)) pa_nil)))) (pa_cons (pe_op op_subN (pe_op op_shl1 pe_int (pv 1)) pe_int) pa_nil)))) (pe_call GPN hr2 rfl mPN kPN bPN .nil pass0 (pa_cons (pv 0) (pa_cons pe_int pa_nil))) (fun _ _ => rfl))))), ?_⟩
    refine ⟨_, rfl, _, rfl, m, rfl, rfl, by omega, st, ns, k, ((2 ^ m : Nat) : Int), rfl, S, by omega, hl, by omega, fun r1 H1 a1 b1 S1 B1 => ?_⟩
    obtain ⟨n1, rfl, hn1⟩ := nat_of a1 b1
    refine ⟨_, rfl, _, rfl, _, rfl, _, rfl, m, rfl, rfl, by omega, st, ns, k + 1, ((2 ^ m : Nat) : Int), rfl, S1, by omega, hl, by omega, fun r2 H2 a2 b2 S2 B2 => ?_⟩
    obtain ⟨n2, rfl, hn2⟩ := nat_of a2 b2
    refine ⟨n1, n2, rfl, rfl, _, rfl, m, rfl, rfl, by omega, 2 ^ m, 1, rfl, rfl, pw, (by show 3 ≤ sizeLine; decide), fun g hg => ?_⟩
    have hgs := (stf_fresh S2 (But.refl _ _) hg).2
    refine ⟨_, rfl, st, ns, k + 2, 3, rfl, S2.new hg, by omega, hl, by decide, fun r3 H3 a3 b3 S3 B3 => ?_⟩
    obtain ⟨n3, rfl, hn3⟩ := nat_of (n := 3) a3 b3
    obtain ⟨w, ew, hw⟩ : ∃ w : Nat, ([vN n1, vN (n1 ||| n2), vN (2 ^ m - 1)] : List V)[n3]? = some (vN w) ∧ w < 2 ^ m := by
      match n3, hn3 with
      | 0, _ => exact ⟨_, rfl, hn1⟩
      | 1, _ => exact ⟨_, rfl, Nat.or_lt_two_pow hn1 hn2⟩
      | 2, _ => exact ⟨_, rfl, by omega⟩
    have hg3 := B3 _ _ (upd_same (H := H2) (a := g) (o := .lst [vN n1, vN (n1 ||| n2), vN (2 ^ m - 1)])) hgs
    refine ⟨g, _, _, _, rfl, rfl, SqL.of hg3, atI_nat ew, ?_⟩
    exact q w _ _ hw (Nat.le_refl _) S3 ((B1.trans B2).trans ((But.new hg).trans B3))
end
end Own

namespace Own
open PySem L2
section
variable {P : Program} {w : World} {K : PySem.W.Frag} {mg : Str → Option Value} {base : Heap}
seal PySem.wpAny
noncomputable abbrev sLKeeps : Stmt := top 27
theorem scLKeeps : FnScope ["_law_some_here", "_law_rule", "_law_word", "_law_left", "_law_right", "_law_inner"] ["_law_some_here", "_law_rule"] (defScope sLKeeps) := ⟨rfl, rfl, rfl, by decide +kernel, rfl, by decide +kernel, by decide +kernel⟩
theorem ok_lkeeps {f : Addr} {fd : FuncData} (F : Fun K "_law_keeps" "_law_keeps" sLKeeps f fd) : FnOk P w K mg base CX0 1 f fd ["_law_some_here", "_law_rule"] spLKeeps := by
  refine F.ok scLKeeps (fun vs H Q E h => ?_) (fun cdv A outer s H vs Q E hr h => ?_)
  · obtain ⟨r, st, x, y, d, rfl, _⟩ := h
    rfl
  · obtain ⟨r, st, x, y, d, rfl, hR, q⟩ := h
    have nd := scLKeeps.nd
    refine ⟨_, (pss_cons (ps_asg (pv 1) (pg_tup rfl (pgs_cons (pg_name (i := 2) nd rfl (Or.inl rfl)) (pgs_cons (pg_name (i := 3) nd rfl (Or.inl rfl)) (pgs_cons (pg_name (i := 4) nd rfl (Or.inl rfl)) pgs_nil)))))
      (pss_cons (ps_set (i := 5) nd rfl (Or.inl rfl) (pe_op op_andN (pv 0) (pv 4)))
      (pss_one (ps_ret (pe_or (pe_cmpR op_neN (pe_op op_andN (pv 3) (pv 0)) pe_int (nomark _)) (pe_or (pe_cmpR op_eqN (pv 5) pe_int (nomark _)) (pe_one (pe_and (pe_cmpR op_eq (pv 2) pe_str (nomark _)) (pe_one (pe_cmpR op_eqN (pv 5) (pv 0) (nomark _))))))))))), ?_⟩
    refine ⟨_, rfl, r, _, rfl, SqT.of hR, rfl, _, _, rfl, _, _, rfl, _, _, rfl, rfl, ?_⟩
    refine ⟨_, rfl, _, rfl, d, y, rfl, rfl, ?_⟩
    refine ⟨_, rfl, _, rfl, x, d, rfl, rfl, x &&& d, 0, rfl, rfl, _, rfl, ?_⟩
    cases c1 : decide (x &&& d = 0) with
    | false =>
      have : usableB st x y d = false := by unfold usableB; rw [c1]; rfl
      rw [this] at q
      exact iteT q
    | true =>
      refine iteF ?_
      refine ⟨_, rfl, d &&& y, 0, rfl, rfl, _, rfl, ?_⟩
      cases c2 : decide (d &&& y = 0) with
      | true =>
        have : usableB st x y d = false := by unfold usableB; rw [Nat.and_comm y d, c1, c2]; rfl
        rw [this] at q
        exact iteT q
      | false =>
        refine iteF ?_
        refine ⟨_, rfl, rfl, _, rfl, ?_⟩
        cases st with
        | true =>
          have : usableB true x y d = true := by unfold usableB; rw [Nat.and_comm y d, c1, c2]; rfl
          rw [this] at q
          refine ite2 (fun hc => ?_) (fun hc => ?_)
          · exact absurd (of_decide_eq_true hc) (by intro z; injection z with z; revert z; decide)
          · have e : decide (V.str (wordS true) = V.str "deal") = false := by
              cases z : decide (V.str (wordS true) = V.str "deal") with
              | false => rfl
              | true => exact absurd z hc
            show Q (V.bl (decide (V.str (wordS true) = V.str "deal"))) H
            rw [e]
            exact q
        | false =>
          refine iteT ?_
          have : (!usableB false x y d) = decide (d &&& y = d) := by unfold usableB; rw [Nat.and_comm y d, c1, c2]; simp
          rw [this] at q
          exact ⟨_, rfl, _, rfl, d &&& y, d, rfl, rfl, q⟩
noncomputable abbrev sLBooks : Stmt := top 28
theorem scLBooks : FnScope ["_law_many", "_law_rules_here", "_law_found", "_law_some_here"] ["_law_many", "_law_rules_here"] (defScope sLBooks) := ⟨rfl, rfl, rfl, by decide +kernel, rfl, by decide +kernel, by decide +kernel⟩
theorem ok_lbooks {f fLK : Addr} {fd fdLK : FuncData} (F : Fun K "_law_books" "_law_books" sLBooks f fd) (GLK : FnOk P w K mg base CX0 1 fLK fdLK ["_law_some_here", "_law_rule"] spLKeeps) (mLK : mg "_law_keeps" = some (.ref fLK)) (kLK : PySem.W.keepIn K (.ref fLK) = true) (bLK : Binds K fdLK ["_law_some_here", "_law_rule"] []) (zrange : mg "range" = none) : FnOk P w K mg base CX0 2 f fd ["_law_many", "_law_rules_here"] (spLBooks K) := by
  refine F.ok scLBooks (fun vs H Q E h => ?_) (fun cdv A outer s H vs Q E hr h => ?_)
  · obtain ⟨m, rl, rs, rfl, _⟩ := h
    rfl
  · obtain ⟨m, rl, rs, rfl, m7, hrl, hRs, lr, q⟩ := h
    have nd := scLBooks.nd
    have hr1 : Room 1 _ := hr.mono (by decide)
    have p7 := pow7 m7
    have pw0 := Nat.two_pow_pos m
    refine ⟨_, (pss_cons (ps_set (i := 2) nd rfl (Or.inl rfl) (pe_lst pa_nil))
      (pss_cons (ps_for PassesOwn.never rfl (pi_range1 rfl zrange (pa_cons (pe_op op_shl1 pe_int (pv 0)) pa_nil)) (pg_name (i := 3) nd rfl (Or.inr rfl)) (pss_one (ps_if (pt_cmpR (op_eqD (K := K) rfl hr.units) (pe_comp (xs := ["_law_rule"]) (cs ["_law_many", "_law_rules_here", "_law_found", "_law_some_here"] (defScope sLBooks) rfl rfl (by decide +kernel)) rfl (pi_listK (K := K) rfl (pv 1)) (fun _ _ _ => pg_name (i := 0) (show (["_law_rule", "_law_many", "_law_rules_here", "_law_found", "_law_some_here"] : List Str).Nodup by decide +kernel) rfl (Or.inl rfl)) (fun _ _ _ => (pts_one (pt_not (pt_val (pe_call GLK hr1 rfl mLK kLK bLK .nil pass0 (pa_cons (pv 4) (pa_cons (pv 0) pa_nil))))))) (fun _ _ _ => (pv 0))) (pe_lst pa_nil) (nomark _)) (pss_one (ps_expr (pe_bm PySem.F.plainAttrs_list PySem.F.slot_list_append PySem.F.type_list_append mt_append (pv 2) (pa_cons (pv 3) pa_nil)))) pss_nil)))
      (pss_one (ps_ret (pv 2))))), ?_⟩
    refine ⟨(by show 0 ≤ sizeLine; exact Nat.zero_le _), fun fl hfl => ?_⟩
    refine ⟨_, rfl, m, rfl, rfl, by omega, ((2 ^ m : Nat) : Int), rfl, by omega, by omega, for_rangeN (n := 2 ^ m) (fun d σ H' => (∃ v3, σ = [some (vN m), some (.ref rl), some (.ref fl), v3]) ∧ Same H H' ∧ ∃ ks : List Nat, H' fl = some (.lst (ks.map vN)) ∧ ks.length ≤ d ∧ ∀ e, e ∈ ks ↔ e < d ∧ ∀ r ∈ rs.map Rl.d, usB r e = false) ⟨⟨none, rfl⟩, Same.new hfl, [], upd_same, Nat.le_refl _, fun e => ⟨fun h => absurd h List.not_mem_nil, fun h => absurd h.1 (Nat.not_lt_zero _)⟩⟩ ?_ ?_⟩
    · rintro d σ H1 hd ⟨⟨v3, rfl⟩, s1, ks, hk1, lk, hk⟩
      refine ⟨_, rfl, rl, rfl, ⟨_, s1.seq hrl⟩, lc_list (xs := rs.map fun r => V.ref r.r) (fun i acc H' => H' = H1 ∧ acc = (((rs.take i).filter fun r => usB r.d d).map fun r => V.ref r.r)) (by rw [List.length_map]; omega) ⟨rfl, rfl⟩ (fun i acc H' hi h => ?_) (fun i v acc H' hv h => ?_) (fun acc H' h => ?_)⟩
      · obtain ⟨rfl, rfl⟩ := h
        refine ⟨s1.seq hrl, ?_⟩
        rw [List.length_map]
        exact Nat.le_trans (List.length_filter_le _ _) (List.length_take_le _ _)
      · obtain ⟨rfl, rfl⟩ := h
        rw [List.getElem?_map] at hv
        cases er : rs[i]? with
        | none => rw [er] at hv; cases hv
        | some r =>
          rw [er] at hv
          obtain rfl := (Option.some.inj hv).symm
          have et : (rs.take (i + 1)).filter (fun r => usB r.d d) = (rs.take i).filter (fun r => usB r.d d) ++ [r].filter (fun r => usB r.d d) := by rw [List.take_succ, er, ← List.filter_append]; rfl
          refine ⟨rfl, _, rfl, _, rfl, r.r, r.st, r.x, r.y, d, rfl, s1 _ _ (hRs r (List.mem_of_getElem? er)).1, _, rfl, ?_⟩
          cases cu : usableB r.st r.x r.y d with
          | true =>
            refine iteT ?_
            refine ⟨_, rfl, rfl, ?_⟩
            rw [et, List.map_append, List.filter_cons_of_pos (p := fun r : Rl => usB r.d d) (show usB r.d d = true from cu)]; rfl
          | false =>
            refine iteF ?_
            refine ⟨rfl, ?_⟩
            rw [et, List.filter_cons_of_neg (p := fun r : Rl => usB r.d d) (by show ¬ usableB r.st r.x r.y d = true; rw [cu]; exact Bool.false_ne_true), List.filter_nil, List.append_nil]
      obtain ⟨rfl, rfl⟩ := h
      rw [List.length_map, List.take_length]
      intro up hup
      have sU := Same.new (o := .lst ((rs.filter fun r => usB r.d d).map fun r => V.ref r.r)) hup
      refine ⟨(by show 0 ≤ sizeLine; exact Nat.zero_le _), fun el hel => ?_⟩
      have sE := Same.new (o := .lst []) hel
      have sUE := sU.trans sE
      have hUs : RulesAt _ m (rs.filter fun r => usB r.d d) := fun r hr' => ((hRs.same s1).same sUE) r (List.mem_filter.mp hr').1
      refine ⟨_, .list (([] : List RD).map dR), DV.lst (SqL.of (sE _ _ upd_same)) (rules_dv hUs), DV.lst (SqL.of upd_same) .nil, shaped_map canLay_dR depth_dR _, shaped_map canLay_dR depth_dR _, noMix_list noMix_dR _ _, _, rfl, ?_⟩
      have hk1' := sUE _ _ hk1
      have s3 := s1.trans sUE
      refine ite2 (fun hc => ?_) (fun hc => ?_)
      · rw [if_neg Bool.false_ne_true, same_list same_dR] at hc
        have e0 : rs.filter (fun r => usB r.d d) = [] := by
          have := of_decide_eq_true hc
          rwa [List.map_eq_nil_iff] at this
        have hall : ∀ r ∈ rs.map Rl.d, usB r d = false := fun r hr' => by
          obtain ⟨r', h1, rfl⟩ := List.mem_map.mp hr'
          have := (List.filter_eq_nil_iff.mp e0) r' h1
          cases z : usB r'.d d with
          | false => rfl
          | true => exact absurd z this
        refine ⟨_, rfl, .inl ⟨rfl, _, SqL.of hk1'⟩, _, rfl, fl, _, _, rfl, rfl, hk1', by rw [List.length_map]; exact small1000 (by omega), ?_⟩
        refine ⟨⟨_, rfl⟩, s3.own hfl, ks ++ [d], by rw [upd_same, List.map_append]; rfl, by rw [List.length_append]; exact Nat.succ_le_succ lk, fun e => ?_⟩
        rw [List.mem_append, List.mem_singleton, hk e]
        constructor
        · rintro (⟨h1, h2⟩ | rfl)
          · exact ⟨by omega, h2⟩
          · exact ⟨by omega, hall⟩
        · rintro ⟨h1, h2⟩
          by_cases z : e = d
          · exact .inr z
          · exact .inl ⟨by omega, h2⟩
      · refine ⟨⟨_, rfl⟩, s3, ks, hk1', Nat.le_succ_of_le lk, fun e => ?_⟩
        rw [hk e]
        constructor
        · rintro ⟨h1, h2⟩
          exact ⟨by omega, h2⟩
        · rintro ⟨h1, h2⟩
          refine ⟨?_, h2⟩
          have : e ≠ d := fun z => by
            subst z
            apply hc
            rw [if_neg Bool.false_ne_true, same_list same_dR]
            apply decide_eq_true
            rw [List.map_eq_nil_iff, List.filter_eq_nil_iff]
            intro r hr'
            rw [h2 r.d (List.mem_map.mpr ⟨r, hr', rfl⟩)]
            exact Bool.false_ne_true
          omega
    · rintro σ H1 ⟨⟨v3, rfl⟩, s1, ks, hk1, lk, hk⟩
      exact ⟨_, rfl, q ks fl H1 hk (by omega) s1 hfl hk1⟩
noncomputable abbrev sLFol : Stmt := top 29
theorem scLFol : FnScope ["_law_kept_books", "_law_left", "_law_column"] ["_law_kept_books", "_law_left", "_law_column"] (defScope sLFol) := ⟨rfl, rfl, rfl, by decide +kernel, rfl, by decide +kernel, by decide +kernel⟩
theorem ok_lfol {f : Addr} {fd : FuncData} (F : Fun K "_law_follows" "_law_follows" sLFol f fd) : FnOk P w K mg base CX0 1 f fd ["_law_kept_books", "_law_left", "_law_column"] (spLFol K) := by
  refine F.ok scLFol (fun vs H Q E h => ?_) (fun cdv A outer s H vs Q E hr h => ?_)
  · obtain ⟨kb, ks, l, c, rfl, _⟩ := h
    rfl
  · obtain ⟨kb, ks, l, c, rfl, hkb, lk, q⟩ := h
    refine ⟨_, (pss_one (ps_ret (pe_cmpR (op_eqLK (K := K) rfl hr.units) (pe_comp (xs := ["_law_some_here"]) (cs ["_law_kept_books", "_law_left", "_law_column"] (defScope sLFol) rfl rfl (by decide +kernel)) rfl (pi_listK (K := K) rfl (pv 0)) (fun _ _ _ => pg_name (i := 0) (show (["_law_some_here", "_law_kept_books", "_law_left", "_law_column"] : List Str).Nodup by decide +kernel) rfl (Or.inl rfl)) (fun _ _ _ => (pts_one (PW.pt (pw_and (pt_cmpR op_eqN (pe_op op_andN (pv 0) (pv 2)) pe_int (nomark _)) (pw_and1 (pt_cmpR op_neN (pe_op op_andN (pv 0) (pv 3)) pe_int (nomark _))))))) (fun _ _ _ => (pv 0))) (pe_lst pa_nil) (nomark _)))), ?_⟩
    refine ⟨_, rfl, kb, rfl, ⟨_, hkb⟩, lc_list (K := K) (xs := ks.map vN) (fun j acc H3 => H3 = H ∧ acc = ((ks.take j).filter (fun d => decide (d &&& l = 0) && !decide (d &&& c = 0))).map vN) (by rw [List.length_map]; omega) ⟨rfl, rfl⟩ (fun j acc H3 hj h => ?_) (fun j v acc H3 hx' h => ?_) (fun acc H3 h => ?_)⟩
    · obtain ⟨rfl, rfl⟩ := h
      exact ⟨hkb, by rw [List.length_map]; exact Nat.le_trans (List.length_filter_le _ _) (List.length_take_le _ _)⟩
    · obtain ⟨rfl, rfl⟩ := h
      rw [List.getElem?_map] at hx'
      cases ey : ks[j]? with
      | none => rw [ey] at hx'; cases hx'
      | some d =>
        rw [ey] at hx'
        obtain rfl := (Option.some.inj hx').symm
        have et : (ks.take (j + 1)).filter (fun d => decide (d &&& l = 0) && !decide (d &&& c = 0)) = (ks.take j).filter (fun d => decide (d &&& l = 0) && !decide (d &&& c = 0)) ++ [d].filter (fun d => decide (d &&& l = 0) && !decide (d &&& c = 0)) := by rw [List.take_succ, ey, ← List.filter_append]; rfl
        have no : (decide (d &&& l = 0) && !decide (d &&& c = 0)) = false → H3 = H3 ∧ ((ks.take j).filter (fun d => decide (d &&& l = 0) && !decide (d &&& c = 0))).map vN = ((ks.take (j + 1)).filter (fun d => decide (d &&& l = 0) && !decide (d &&& c = 0))).map vN := fun h0 => ⟨rfl, by rw [et, List.filter_cons_of_neg (p := fun d => decide (d &&& l = 0) && !decide (d &&& c = 0)) (by rw [h0]; exact Bool.false_ne_true), List.filter_nil, List.append_nil]⟩
        refine ⟨rfl, _, rfl, _, rfl, d, l, rfl, rfl, d &&& l, 0, rfl, rfl, _, rfl, ?_⟩
        cases c0 : decide (d &&& l = 0) with
        | false => exact iteF (iteF (no (by rw [c0]; rfl)))
        | true =>
          refine iteT ?_
          refine ⟨_, rfl, _, rfl, d, c, rfl, rfl, d &&& c, 0, rfl, rfl, _, rfl, ?_⟩
          cases c1 : decide (d &&& c = 0) with
          | true => exact iteF (no (by rw [c0, c1]; rfl))
          | false =>
            refine iteT ⟨_, rfl, rfl, ?_⟩
            rw [et, List.filter_cons_of_pos (p := fun d => decide (d &&& l = 0) && !decide (d &&& c = 0)) (by rw [c0, c1]; rfl), List.map_append]; rfl
    obtain ⟨rfl, rfl⟩ := h
    rw [List.length_map, List.take_length]
    intro ip hip
    have sI := Same.new (o := .lst ((ks.filter (fun d => decide (d &&& l = 0) && !decide (d &&& c = 0))).map vN)) hip
    refine ⟨Nat.zero_le _, fun np hnp => ?_⟩
    have sN := Same.new (o := .lst []) hnp
    have mi := map_int (ks.filter (fun d => decide (d &&& l = 0) && !decide (d &&& c = 0)))
    refine ⟨ip, np, (ks.filter (fun d => decide (d &&& l = 0) && !decide (d &&& c = 0))).map fun (k : Nat) => (k : Int), [], rfl, rfl, SqL.of (by rw [mi]; exact sN _ _ upd_same), SqL.of upd_same, ?_⟩
    rw [if_neg Bool.false_ne_true]
    refine q _ _ ?_ (sI.trans sN)
    rw [decide_eq_true_iff, List.map_eq_nil_iff, List.filter_eq_nil_iff]
    constructor
    · intro h d hd h0
      have h1 := h d hd
      rw [decide_eq_true h0, Bool.true_and] at h1
      refine Classical.byContradiction fun z => h1 ?_
      rw [decide_eq_false z]; rfl
    · intro h d hd h1
      rw [Bool.and_eq_true, decide_eq_true_iff] at h1
      rw [decide_eq_true (h d hd h1.1)] at h1
      exact Bool.false_ne_true h1.2
noncomputable abbrev sIsOwn : Stmt := top 30
theorem scIsOwn : FnScope ["_law_many", "_law_kept_books", "_law_part_here", "_law_rule", "_law_word", "_law_left", "_law_right", "_law_k"] ["_law_many", "_law_kept_books", "_law_part_here", "_law_rule"] (defScope sIsOwn) := ⟨rfl, rfl, rfl, by decide +kernel, rfl, by decide +kernel, by decide +kernel⟩
theorem noVisIO : ¬ Vis (defScope sIsOwn) "" := by rintro (h | h | h) <;> exact absurd h (by decide +kernel)
theorem ok_isown {f fLF : Addr} {fd fdLF : FuncData} (F : Fun K "_law_is_own" "_law_is_own" sIsOwn f fd) (GLF : FnOk P w K mg base CX0 1 fLF fdLF ["_law_kept_books", "_law_left", "_law_column"] (spLFol K)) (mLF : mg "_law_follows" = some (.ref fLF)) (kLF : PySem.W.keepIn K (.ref fLF) = true) (bLF : Binds K fdLF ["_law_kept_books", "_law_left", "_law_column"] []) (zrange : mg "range" = none) : FnOk P w K mg base CX0 2 f fd ["_law_many", "_law_kept_books", "_law_part_here", "_law_rule"] (spIsOwn K) := by
  refine F.ok scIsOwn (fun vs H Q E h => ?_) (fun cdv A outer s H vs Q E hr h => ?_)
  · obtain ⟨kb, r, ks, m, p, x, c, rfl, _⟩ := h
    rfl
  · obtain ⟨kb, r, ks, m, p, x, c, rfl, hkb, lk, m7, hR, O, q⟩ := h
    have nd := scIsOwn.nd
    have hr1 : Room 1 _ := hr.mono (by decide)
    refine ⟨_, (pss_cons (ps_asg (pv 3) (pg_tup rfl (pgs_cons (pg_name (i := 4) nd rfl (Or.inl rfl)) (pgs_cons (pg_name (i := 5) nd rfl (Or.inl rfl)) (pgs_cons (pg_name (i := 6) nd rfl (Or.inl rfl)) pgs_nil)))))
      (pss_cons (ps_if (PW.pt (pw_or (pt_cmpR op_ne (pv 4) pe_str (nomark _)) (pw_or (pt_cmpR op_neN (pe_op op_andN (pv 5) (pv 2)) (pv 5) (nomark _)) (pw_or (pt_cmpR op_eqN (pe_op op_andN (pv 6) (pv 2)) pe_int (nomark _)) (pw_or1 (pt_cmpR op_neN (pe_op op_andN (pv 6) (pv 5)) pe_int (nomark _))))))) (pss_one (ps_ret pe_bl)) pss_nil)
      (pss_cons (ps_if (PW.pt (pw_or (pt_cmpR op_notIn_seq (pv 6) (pe_hide 7 (show ¬ Vis (defScope sIsOwn) "" from noVisIO) (pe_comp (xs := ["_law_k"]) (cs ["_law_many", "_law_kept_books", "_law_part_here", "_law_rule", "_law_word", "_law_left", "_law_right", ""] (defScope sIsOwn) rfl rfl (by decide +kernel)) rfl (pi_range1 rfl zrange (pa_cons (pv 0) pa_nil)) (fun _ _ _ => pg_name (i := 0) (show (["_law_k", "_law_many", "_law_kept_books", "_law_part_here", "_law_rule", "_law_word", "_law_left", "_law_right", ""] : List Str).Nodup by decide +kernel) rfl (Or.inl rfl)) (fun _ _ _ => pts_nil) (fun _ _ _ => (pe_op op_shl1 pe_int (pv 0))))) (by rfl)) (pw_or1 (pt_not (pt_val (pe_call GLF hr1 rfl mLF kLF bLF .nil pass0 (pa_cons (pv 1) (pa_cons (pv 5) (pa_cons (pv 6) pa_nil))))))))) (pss_one (ps_ret pe_bl)) pss_nil)
      (pss_cons (ps_for PassesOwn.never rfl (pi_range1 rfl zrange (pa_cons (pv 0) pa_nil)) (pg_name (i := 7) nd rfl (Or.inl rfl)) (pss_one (ps_if (PW.pt (pw_and (pt_cmpR op_eqN (pe_op op_andN (pe_op op_shrN (pv 5) (pv 7)) pe_int) pe_int (nomark _)) (pw_and1 (pt_val (pe_call GLF hr1 rfl mLF kLF bLF .nil pass0 (pa_cons (pv 1) (pa_cons (pe_op op_subN (pv 5) (pe_op op_shl1 pe_int (pv 7))) (pa_cons (pv 6) pa_nil)))))))) (pss_one (ps_ret pe_bl)) pss_nil)))
      (pss_one (ps_ret pe_bl)))))), ?_⟩
    refine ⟨_, rfl, r, _, rfl, SqT.of hR, rfl, _, _, rfl, _, _, rfl, _, _, rfl, rfl, ?_⟩
    refine ⟨_, rfl, rfl, _, rfl, ?_⟩
    refine ite2 (fun hc => absurd hc (by decide +kernel)) (fun _ => ?_)
    refine ⟨_, rfl, _, rfl, x, p, rfl, rfl, _, rfl, x &&& p, x, rfl, rfl, _, rfl, ?_⟩
    rw [decide_eq_true O.xp]
    refine iteF ?_
    refine ⟨_, rfl, _, rfl, 2 ^ c, p, rfl, rfl, 2 ^ c &&& p, 0, rfl, rfl, _, rfl, ?_⟩
    rw [decide_eq_false O.cp]
    refine iteF ?_
    refine ⟨_, rfl, _, rfl, 2 ^ c, x, rfl, rfl, 2 ^ c &&& x, 0, rfl, rfl, _, rfl, ?_⟩
    rw [decide_eq_true O.cx]
    refine iteF ?_
    refine ⟨_, rfl, (fun v z => by cases z), _, rfl, (m : Int), rfl, by omega, by omega, lc_rangeN (k := m) (n := 1) (fun i acc H' => acc = (List.range i).map (fun k => vN (2 ^ k)) ∧ Same H H') (by omega) ⟨rfl, Same.refl _⟩ (fun i acc H' hi h => ?_) (fun i acc H' hi h => ?_) (fun acc H' h => ?_)⟩
    · rw [h.1, List.length_map, List.length_range]; exact Nat.le_refl _
    · obtain ⟨rfl, s5⟩ := h
      refine ⟨rfl, _, rfl, i, rfl, rfl, by omega, ?_⟩
      exact ⟨by rw [List.range_succ, List.map_append]; rfl, s5⟩
    obtain ⟨rfl, s5⟩ := h
    intro cp hcp
    have s6 := s5.trans (Same.new (o := .lst ((List.range m).map fun k => vN (2 ^ k))) hcp)
    refine ⟨cp, _, rfl, .inl (SqL.of upd_same), rfl, ?_, ?_⟩
    · rw [List.all_map, List.all_eq_true]; intro k _; rfl
    have ei : inV (vN (2 ^ c)) ((List.range m).map fun k => vN (2 ^ k)) = true := by
      unfold inV
      rw [List.any_map, List.any_eq_true]
      refine ⟨c, List.mem_range.mpr O.cm, ?_⟩
      show (((2 ^ c : Nat) : Int) == ((2 ^ c : Nat) : Int)) = true
      exact beq_self_eq_true _
    rw [if_pos rfl, ei]
    refine ⟨_, rfl, ?_⟩
    refine iteF ?_
    refine ⟨_, rfl, _, rfl, _, rfl, kb, ks, x, 2 ^ c, rfl, s6.seq hkb, lk, fun b H3 hb s3 => ⟨_, rfl, ?_⟩⟩
    obtain rfl : b = true := hb.mpr O.fol
    refine iteF ?_
    have s7 := s6.trans s3
    refine ⟨_, rfl, (m : Int), rfl, by omega, by omega, for_rangeN (n := m) (fun k σ H' => (∃ v7, σ = [some (vN m), some (.ref kb), some (vN p), some (.ref r), some (.str (wordS true)), some (vN x), some (vN (2 ^ c)), v7]) ∧ Same H H') ⟨⟨_, rfl⟩, s7⟩ (fun k σ H2 hk' h => ?_) (fun σ H2 h => ?_)⟩
    · obtain ⟨⟨w7, rfl⟩, s2⟩ := h
      refine ⟨_, rfl, _, rfl, x, k, rfl, rfl, x / 2 ^ k, 1, rfl, rfl, x / 2 ^ k &&& 1, 1, rfl, rfl, _, rfl, ite2 (fun h1 => ?_) (fun h1 => iteF ⟨⟨_, rfl⟩, s2⟩)⟩
      rw [shr_bit] at h1
      refine ⟨_, rfl, _, rfl, _, rfl, k, rfl, rfl, by omega, x, 2 ^ k, rfl, rfl, pow_le h1, _, rfl, kb, ks, x - 2 ^ k, 2 ^ c, rfl, s2.seq hkb, lk, fun b H4 hb s4 => ⟨_, rfl, ?_⟩⟩
      have hbf : b = false := by
        cases b with
        | false => rfl
        | true => exact absurd (hb.mp rfl) (O.least k h1)
      rw [hbf]
      exact iteF ⟨⟨_, rfl⟩, s2.trans s4⟩
    · obtain ⟨⟨w7, rfl⟩, s2⟩ := h
      exact q H2 s2
end
end Own

namespace Own
open PySem L2
section
variable {P : Program} {w : World} {K : PySem.W.Frag} {mg : Str → Option Value} {base : Heap}
seal PySem.wpAny
noncomputable def spLaw (K : PySem.W.Frag) : Sp := fun vs H Q _ => ∃ (a : Addr) (ns : List Int), vs = [.ref a] ∧ SqF K H a ns ∧ ns.length ≤ 63 ∧ ∀ H', Q (.bl true) H'
noncomputable abbrev sLaw : Stmt := top 31
theorem scLaw : FnScope ["_law_script", "_law_pen", "_law_many", "_law_rules_here", "_law_part_here", "_law_kept_books", "_law_found", "_law_rule", "_law_some_here", "_law_k"] ["_law_script"] (defScope sLaw) := ⟨rfl, rfl, rfl, by decide +kernel, rfl, by decide +kernel, by decide +kernel⟩
theorem noVis : ¬ Vis (defScope sLaw) "" := by rintro (h | h | h) <;> exact absurd h (by decide +kernel)
theorem ok_law {f fPN fPR fLQ fLB fOW fIO fLF : Addr} {fd fdPN fdPR fdLQ fdLB fdOW fdIO fdLF : FuncData} (F : Fun K "law" "law" sLaw f fd) (GPN : FnOk P w K mg base CX0 2 fPN fdPN ["_law_pen", "_law_most"] (spTakeF K)) (mPN : mg "_law_next" = some (.ref fPN)) (kPN : PySem.W.keepIn K (.ref fPN) = true) (bPN : Binds K fdPN ["_law_pen", "_law_most"] []) (GPR : FnOk P w K mg base CX0 4 fPR fdPR ["_law_pen", "_law_many", "_law_most"] (spPRules K)) (mPR : mg "_law_rules" = some (.ref fPR)) (kPR : PySem.W.keepIn K (.ref fPR) = true) (bPR : Binds K fdPR ["_law_pen", "_law_many", "_law_most"] []) (GLQ : FnOk P w K mg base CX0 3 fLQ fdLQ ["_law_pen", "_law_many"] (spPart70 K)) (mLQ : mg "_law_part" = some (.ref fLQ)) (kLQ : PySem.W.keepIn K (.ref fLQ) = true) (bLQ : Binds K fdLQ ["_law_pen", "_law_many"] []) (GLB : FnOk P w K mg base CX0 2 fLB fdLB ["_law_many", "_law_rules_here"] (spLBooks K)) (mLB : mg "_law_books" = some (.ref fLB)) (kLB : PySem.W.keepIn K (.ref fLB) = true) (bLB : Binds K fdLB ["_law_many", "_law_rules_here"] []) (GOW : FnOk P w K mg base CX0 8 fOW fdOW ["many", "rules", "part"] (spOwn K)) (mOW : mg "own_rules" = some (.ref fOW)) (kOW : PySem.W.keepIn K (.ref fOW) = true) (bOW : Binds K fdOW ["many", "rules", "part"] []) (GIO : FnOk P w K mg base CX0 2 fIO fdIO ["_law_many", "_law_kept_books", "_law_part_here", "_law_rule"] (spIsOwn K)) (mIO : mg "_law_is_own" = some (.ref fIO)) (kIO : PySem.W.keepIn K (.ref fIO) = true) (bIO : Binds K fdIO ["_law_many", "_law_kept_books", "_law_part_here", "_law_rule"] []) (GLF : FnOk P w K mg base CX0 1 fLF fdLF ["_law_kept_books", "_law_left", "_law_column"] (spLFol K)) (mLF : mg "_law_follows" = some (.ref fLF)) (kLF : PySem.W.keepIn K (.ref fLF) = true) (bLF : Binds K fdLF ["_law_kept_books", "_law_left", "_law_column"] []) (zrange : mg "range" = none) (zlen : mg "len" = none) (zset : mg "set" = none) (zint : mg "int" = none) : FnOk P w K mg base CX0 9 f fd ["_law_script"] (spLaw K) := by
  refine F.ok scLaw (fun vs H Q E h => ?_) (fun cdv A outer s H vs Q E hr h => ?_)
  · obtain ⟨a, ns, rfl, _⟩ := h
    rfl
  · obtain ⟨a, ns, rfl, hS, hlen, q⟩ := h
    have nd := scLaw.nd
    have hr1 : Room 1 _ := hr.mono (by decide)
    have hr2 : Room 2 _ := hr.mono (by decide)
    have hr3 : Room 3 _ := hr.mono (by decide)
    have hr4 : Room 4 _ := hr.mono (by decide)
    have hr8 : Room 8 _ := hr.mono (by decide)
    refine ⟨_, (pss_cons (ps_set (i := 1) nd rfl (Or.inl rfl) (pe_lst (pa_cons (pv 0) (pa_cons pe_int pa_nil))))
      (pss_cons (ps_set (i := 2) nd rfl (Or.inl rfl) (pe_ix (ix_listK (K := K) rfl) (pe_lst (pa_consC pe_int (pa_consC pe_int (pa_consC pe_int (pa_consC pe_int (pa_consC pe_int (pa_consC pe_int (pa_consC pe_int (pa_consC pe_int pa_nil))))))))) (pe_call GPN hr2 rfl mPN kPN bPN .nil pass0 (pa_cons (pv 1) (pa_cons pe_int pa_nil))) (fun _ _ => rfl)))
      (pss_cons (ps_set (i := 3) nd rfl (Or.inl rfl) (pe_call GPR hr4 rfl mPR kPR bPR .nil pass0 (pa_cons (pv 1) (pa_cons (pv 2) (pa_cons (pe_ix (ix_listK (K := K) rfl) (pe_lst (pa_cons pe_int (pa_cons pe_int pa_nil))) (pe_callTy call_int1 (by rfl) zint PyProof.Rows.boot_int (pa_cons (pe_cmpR op_gtN (pv 2) pe_int (nomark _)) pa_nil)) (fun _ _ => rfl)) pa_nil)))))
      (pss_cons (ps_set (i := 4) nd rfl (Or.inr rfl) (pe_call GLQ hr3 rfl mLQ kLQ bLQ .nil pass0 (pa_cons (pv 1) (pa_cons (pv 2) pa_nil))))
      (pss_cons (ps_set (i := 5) nd rfl (Or.inl rfl) (pe_call GLB hr2 rfl mLB kLB bLB .nil pass0 (pa_cons (pv 2) (pa_cons (pv 3) pa_nil))))
      (pss_cons (ps_set (i := 6) nd rfl (Or.inl rfl) (pe_call GOW hr8 rfl mOW kOW bOW .nil pass0 (pa_cons (pv 2) (pa_cons (pv 3) (pa_cons (pv 4) pa_nil)))))
      (pss_cons (ps_for PassesOwn.never rfl (pi_listK (K := K) rfl (pv 6)) (pg_name (i := 7) nd rfl (Or.inl rfl)) (pss_one (ps_if (pt_not (pt_val (pe_call GIO hr2 rfl mIO kIO bIO .nil pass0 (pa_cons (pv 2) (pa_cons (pv 5) (pa_cons (pv 4) (pa_cons (pv 7) pa_nil))))))) (pss_one (ps_ret pe_bl)) pss_nil)))
      (pss_forget 7 (pss_cons (ps_if (pt_cmpR op_neN (pe_callB call_lenM (by rfl) zlen PySem.boot_len (pa_cons (pe_callTy (call_setM (K := K) rfl rfl hr.units) (by rfl) zset PySem.Pv.boot_set (pa_cons (pv 6) pa_nil)) pa_nil)) (pe_callB (call_lenK (K := K) rfl) (by rfl) zlen PySem.boot_len (pa_cons (pv 6) pa_nil)) (nomark _)) (pss_one (ps_ret pe_bl)) pss_nil)
      (pss_cons (ps_for PassesOwn.never rfl (pi_listK (K := K) rfl (pe_comp (xs := ["_law_one"]) (cs ["_law_script", "_law_pen", "_law_many", "_law_rules_here", "_law_part_here", "_law_kept_books", "_law_found", "_law_rule", "_law_some_here", "_law_k"] (defScope sLaw) rfl rfl (by decide +kernel)) rfl (pi_range1 rfl zrange (pa_cons (pe_op op_shl1 pe_int (pv 2)) pa_nil)) (fun _ _ _ => pg_name (i := 0) (show (["_law_one", "_law_script", "_law_pen", "_law_many", "_law_rules_here", "_law_part_here", "_law_kept_books", "_law_found", "_law_rule", "_law_some_here", "_law_k"] : List Str).Nodup by decide +kernel) rfl (Or.inl rfl)) (fun _ _ _ => (pts_one (pt_cmpR op_eqN (pe_op op_andN (pv 0) (pv 5)) (pv 0) (nomark _)))) (fun _ _ _ => (pv 0)))) (pg_name (i := 8) nd rfl (Or.inr rfl)) (pss_one (ps_for PassesOwn.never rfl (pi_range1 rfl zrange (pa_cons (pv 2) pa_nil)) (pg_name (i := 9) nd rfl (Or.inr rfl)) (pss_one (ps_if (PW.pt (pw_and (pt_cmpR op_eqN (pe_op op_andN (pe_op op_shrN (pe_op op_subN (pv 4) (pv 8)) (pv 9)) pe_int) pe_int (nomark _)) (pw_and1 (pt_val (pe_call GLF hr1 rfl mLF kLF bLF .nil pass0 (pa_cons (pv 5) (pa_cons (pv 8) (pa_cons (pe_op op_shl1 pe_int (pv 9)) pa_nil)))))))) (pss_one (ps_if (pt_cmpR (op_eqD (K := K) rfl hr.units) (pe_hide 7 (show ¬ Vis (defScope sLaw) "" from noVis) (pe_comp (xs := ["_law_rule"]) (cs ["_law_script", "_law_pen", "_law_many", "_law_rules_here", "_law_part_here", "_law_kept_books", "_law_found", "", "_law_some_here", "_law_k"] (defScope sLaw) rfl rfl (by decide +kernel)) rfl (pi_listK (K := K) rfl (pv 6)) (fun _ _ _ => pg_name (i := 0) (show (["_law_rule", "_law_script", "_law_pen", "_law_many", "_law_rules_here", "_law_part_here", "_law_kept_books", "_law_found", "", "_law_some_here", "_law_k"] : List Str).Nodup by decide +kernel) rfl (Or.inl rfl)) (fun _ _ _ => (pts_one (PW.pt (pw_and (pt_cmpR op_eqN (pe_ix (ix_tupK (K := K) rfl) (pv 0) pe_int (fun _ _ => rfl)) (pe_op op_shl1 pe_int (pv 10)) (nomark _)) (pw_and1 (pt_cmpR op_eqN (pe_op op_andN (pe_ix (ix_tupK (K := K) rfl) (pv 0) pe_int (fun _ _ => rfl)) (pv 9)) (pe_ix (ix_tupK (K := K) rfl) (pv 0) pe_int (fun _ _ => rfl)) (nomark _))))))) (fun _ _ _ => (pv 0)))) (pe_lst pa_nil) (nomark _)) (pss_one (ps_ret pe_bl)) pss_nil)) pss_nil)))))
      (pss_one (ps_ret pe_bl)))))))))))), ?_⟩
    refine ⟨_, rfl, (by show 2 ≤ sizeLine; decide), fun st hst => ?_⟩
    have S0 := STF.start hS hst
    generalize upd H st (.lst [.ref a, .int 0]) = H0 at S0
    refine ⟨(by show 8 ≤ sizeLine; decide), fun g hg => ?_⟩
    have hgs := (stf_fresh S0 (But.refl _ _) hg).2
    refine ⟨_, rfl, st, ns, 0, 8, rfl, S0.new hg, by omega, hlen, by decide, fun r1 H1 a1 b1 S1 B1 => ?_⟩
    obtain ⟨n1, rfl, hn1⟩ := nat_of (n := 8) a1 b1
    obtain ⟨m, em, m1, m7⟩ : ∃ m : Nat, ([vN 4, vN 5, vN 3, vN 6, vN 4, vN 2, vN 7, vN 1] : List V)[n1]? = some (vN m) ∧ 1 ≤ m ∧ m ≤ 7 := by
      match n1, hn1 with
      | 0, _ => exact ⟨4, rfl, by decide, by decide⟩
      | 1, _ => exact ⟨5, rfl, by decide, by decide⟩
      | 2, _ => exact ⟨3, rfl, by decide, by decide⟩
      | 3, _ => exact ⟨6, rfl, by decide, by decide⟩
      | 4, _ => exact ⟨4, rfl, by decide, by decide⟩
      | 5, _ => exact ⟨2, rfl, by decide, by decide⟩
      | 6, _ => exact ⟨7, rfl, by decide, by decide⟩
      | 7, _ => exact ⟨1, rfl, by decide, by decide⟩
    have hg1 := B1 _ _ (upd_same (H := H0) (a := g) (o := .lst [vN 4, vN 5, vN 3, vN 6, vN 4, vN 2, vN 7, vN 1])) hgs
    refine ⟨g, _, _, _, rfl, rfl, SqL.of hg1, atI_nat em, ?_⟩
    refine ⟨_, rfl, _, rfl, (by show 2 ≤ sizeLine; decide), fun l hl1 => ?_⟩
    refine ⟨_, rfl, m, 5, rfl, rfl, .inr ⟨_, rfl, ?_⟩⟩
    obtain ⟨j, ej, hj⟩ : ∃ j : Nat, (if decide (5 < m) = true then (1 : Int) else 0) = (j : Int) ∧ j < 2 := by
      split
      · exact ⟨1, rfl, by decide⟩
      · exact ⟨0, rfl, by decide⟩
    obtain ⟨mo, emo, hmo⟩ : ∃ w : Nat, ([vN 4, vN 3] : List V)[j]? = some (vN w) ∧ w ≤ 4 := by
      match j, hj with
      | 0, _ => exact ⟨4, rfl, by decide⟩
      | 1, _ => exact ⟨3, rfl, by decide⟩
    refine ⟨l, _, _, _, rfl, rfl, SqL.of upd_same, (by rw [ej]; exact atI_nat emo), st, ns, 1, m, mo, rfl, S1.new hl1, by omega, hlen, m1, m7, hmo, fun rs rp k2 H2 R lrs hk2 => ?_⟩
    refine ⟨_, rfl, _, rfl, st, ns, k2, m, rfl, R.S, by omega, hlen, m1, m7, fun p k3 H3 hp hk3 S3 B3 => ?_⟩
    have R4 := R.take S3 B3
    have p7 := pow7 m7
    have hrp := R4.hg
    have hRs := R4.at_
    clear R4 R
    refine ⟨_, rfl, _, rfl, m, rp, rs, rfl, m7, SqL.of hrp, hRs, by omega, fun ks kb H5 hks lks s5 hkb0 hkb => ?_⟩
    refine ⟨_, rfl, _, rfl, _, rfl, m, p, rp, rs, rfl, m7, hp, SqL.of (s5 _ _ hrp), hRs.same s5, by omega, fun fp fs H6 s6 hfp0 hfp hFs efs => ?_⟩
    have hK0 : Kept0 m (rs.map Rl.d) ks := hks
    have hkb6 := s6 _ _ hkb
    have lfs : fs.length ≤ 224 := by
      rw [← List.length_map (f := Rl.d), efs]
      exact own_few m7 hp
    refine ⟨_, rfl, fp, rfl, ⟨_, SqL.of hfp⟩, for_list (K := K) (xs := fs.map fun (r : Rl) => V.ref r.r) (fun i σ H' => (∃ v7, σ = [some (.ref a), some (.ref st), some (vN m), some (.ref rp), some (vN p), some (.ref kb), some (.ref fp), v7, none, none]) ∧ Same H6 H') ⟨⟨none, rfl⟩, Same.refl _⟩ (fun i σ H' _ h => h.2.seq (SqL.of hfp)) ?_ ?_⟩
    · rintro i v σ H7 hv ⟨⟨v7, rfl⟩, s7⟩
      rw [List.getElem?_map] at hv
      cases er : fs[i]? with
      | none => rw [er] at hv; cases hv
      | some r =>
        rw [er] at hv
        obtain rfl := (Option.some.inj hv).symm
        have hrm := List.mem_of_getElem? er
        have hrd : r.d ∈ ownL m (rs.map Rl.d) p := by rw [← efs]; exact List.mem_map.mpr ⟨r, hrm, rfl⟩
        obtain ⟨x, c, e, _⟩ := own_mem m7 _ hrd
        rw [e] at hrd
        have hR := (hFs r hrm).1
        have e1 : r.st = true := congrArg (fun d : RD => d.1) e
        have e2 : r.x = x := congrArg (fun d : RD => d.2.1) e
        have e3 : r.y = 2 ^ c := congrArg (fun d : RD => d.2.2) e
        rw [e1, e2, e3] at hR
        exact ⟨_, rfl, _, rfl, _, rfl, _, rfl, kb, r.r, ks, m, p, x, c, rfl, SqL.of (s7 _ _ hkb6), lks, m7, s7 _ _ hR, own_ok hK0 m7 hp hrd, fun H8 s8 => ⟨_, rfl, iteF ⟨⟨_, rfl⟩, s7.trans s8⟩⟩⟩
    rintro σ H7 ⟨⟨v7, rfl⟩, s7⟩
    have hfp7 := s7 _ _ hfp
    have hkb7 := s7 _ _ hkb6
    have hFs7 := hFs.same s7
    clear s7 hFs hfp hkb6 s6 hkb s5 hRs hrp
    refine ⟨_, rfl, fp, fs.map (fun r => (tkR r, r.r)), rfl, SqL.of (by rw [List.map_map]; exact hfp7), (fun t ht => ?_), tkR_nd (by rw [efs]; exact own_nd (by omega)), (by rw [List.length_map]; omega), fun l hl => ?_⟩
    · obtain ⟨r, hr', rfl⟩ := List.mem_map.mp ht
      exact (hFs7 r hr').1
    have sS := Same.new (o := msO l (fs.map (fun r => (tkR r, r.r))).length) hl
    have hfp8 := sS _ _ hfp7
    have hkb8 := sS _ _ hkb7
    have hFs8 := hFs7.same sS
    refine ⟨l, _, rfl, upd_same, (by rw [List.length_map]; omega), _, rfl, fp, _, rfl, .inl (SqL.of hfp8), (fs.map (fun r => (tkR r, r.r))).length, (fs.map fun (r : Rl) => V.ref r.r).length, rfl, rfl, _, rfl, ?_⟩
    rw [decide_eq_true (by rw [List.length_map, List.length_map])]
    refine iteF ?_
    generalize upd H7 l (msO l (fs.map (fun r => (tkR r, r.r))).length) = H8 at hfp8 hkb8 hFs8
    clear hfp7 hkb7 hFs7 sS hl
    refine ⟨_, rfl, m, rfl, rfl, by omega, ((2 ^ m : Nat) : Int), rfl, by omega, by omega, lc_rangeN (k := 2 ^ m) (n := 1) (fun j acc H' => H' = H8 ∧ acc = ((List.range j).filter (fun x => decide (x &&& p = x))).map vN) (by omega) ⟨rfl, rfl⟩ (fun j acc H' hj h => ?_) (fun j acc H' hj h => ?_) (fun acc H' h => ?_)⟩
    · rw [h.2, List.length_map]; exact Nat.le_trans (List.length_filter_le _ _) (by rw [List.length_range]; exact Nat.le_refl _)
    · obtain ⟨rfl, rfl⟩ := h
      have et : (List.range (j + 1)).filter (fun x => decide (x &&& p = x)) = (List.range j).filter (fun x => decide (x &&& p = x)) ++ [j].filter (fun x => decide (x &&& p = x)) := by rw [List.range_succ, ← List.filter_append]
      refine ⟨rfl, _, rfl, _, rfl, j, p, rfl, rfl, _, rfl, j &&& p, j, rfl, rfl, _, rfl, ite2 (fun hb => ?_) (fun hb => ?_)⟩
      · refine ⟨_, rfl, rfl, ?_⟩
        rw [et, List.filter_cons_of_pos (p := fun x => decide (x &&& p = x)) hb, List.map_append]; rfl
      · refine ⟨rfl, ?_⟩
        rw [et, List.filter_cons_of_neg (p := fun x => decide (x &&& p = x)) hb, List.filter_nil, List.append_nil]
    obtain ⟨rfl, rfl⟩ := h
    intro wp hwp
    have sW := Same.new (o := .lst (((List.range (2 ^ m)).filter (fun x => decide (x &&& p = x))).map vN)) hwp
    have hfp9 := sW _ _ hfp8
    have hkb9 := sW _ _ hkb8
    have hFs9 := hFs8.same sW
    have hwp9 : (upd H' wp (.lst (((List.range (2 ^ m)).filter (fun x => decide (x &&& p = x))).map vN))) wp = some (.lst (((List.range (2 ^ m)).filter (fun x => decide (x &&& p = x))).map vN)) := upd_same
    generalize upd H' wp (.lst (((List.range (2 ^ m)).filter (fun x => decide (x &&& p = x))).map vN)) = H9 at hfp9 hkb9 hFs9 hwp9
    clear hfp8 hkb8 hFs8 sW hwp
    refine ⟨wp, rfl, ⟨_, SqL.of hwp9⟩, for_list (K := K) (xs := ((List.range (2 ^ m)).filter (fun x => decide (x &&& p = x))).map vN) (fun i σ H' => (∃ v8 v9, σ = [some (.ref a), some (.ref st), some (vN m), some (.ref rp), some (vN p), some (.ref kb), some (.ref fp), none, v8, v9]) ∧ Same H9 H') ⟨⟨_, _, rfl⟩, Same.refl _⟩ (fun i σ H' _ h => h.2.seq (SqL.of hwp9)) ?_ ?_⟩
    · rintro i v σ H1 hv ⟨⟨v8, v9, rfl⟩, s1⟩
      rw [List.getElem?_map] at hv
      cases ex : ((List.range (2 ^ m)).filter (fun x => decide (x &&& p = x)))[i]? with
      | none => rw [ex] at hv; cases hv
      | some x =>
        rw [ex] at hv
        obtain rfl := (Option.some.inj hv).symm
        obtain ⟨hx, hxp⟩ := List.mem_filter.mp (List.mem_of_getElem? ex)
        have hx := List.mem_range.mp hx
        have hxp : x &&& p = x := of_decide_eq_true hxp
        have hle : x ≤ p := by rw [← hxp]; exact Nat.and_le_right
        have hpx : p - x = p - (p &&& x) := by rw [Nat.and_comm, hxp]
        refine ⟨_, rfl, (m : Int), rfl, by omega, by omega, for_rangeN (n := m) (fun k σ H' => (∃ v9, σ = [some (.ref a), some (.ref st), some (vN m), some (.ref rp), some (vN p), some (.ref kb), some (.ref fp), none, some (vN x), v9]) ∧ Same H9 H') ⟨⟨_, rfl⟩, s1⟩ (fun k σ H2 hk' h => ?_) (fun σ H2 h => ?_)⟩
        · obtain ⟨⟨w9, rfl⟩, s2⟩ := h
          refine ⟨_, rfl, _, rfl, p, x, rfl, rfl, hle, _, rfl, p - x, k, rfl, rfl, (p - x) / 2 ^ k, 1, rfl, rfl, (p - x) / 2 ^ k &&& 1, 1, rfl, rfl, _, rfl, ite2 (fun h1 => ?_) (fun h1 => iteF ⟨⟨_, rfl⟩, s2⟩)⟩
          rw [shr_bit, hpx] at h1
          obtain ⟨b1, b2⟩ := (hasb_out p x k).mp h1
          refine ⟨_, rfl, _, rfl, _, rfl, k, rfl, rfl, by omega, kb, ks, x, 2 ^ k, rfl, s2.seq (SqL.of hkb9), lks, fun b H3 hb s3 => ⟨_, rfl, ?_⟩⟩
          have s23 := s2.trans s3
          cases b with
          | false => exact iteF ⟨⟨_, rfl⟩, s23⟩
          | true =>
            refine iteT ?_
            have hall := own_all hK0 m7 hp hx hxp hk' b1 b2 (hb.mp rfl)
            rw [← efs] at hall
            have hfp3 := s23 _ _ hfp9
            have hFs3 := hFs9.same s23
            refine ⟨(fun v z => by cases z), _, rfl, fp, rfl, ⟨_, SqL.of hfp3⟩, lc_list (K := K) (xs := fs.map fun (r : Rl) => V.ref r.r) (fun j acc H' => H' = H3 ∧ acc = (((fs.take j).filter (fun (r : Rl) => decide (r.y = 2 ^ k) && decide (r.x &&& x = r.x))).map fun (r : Rl) => V.ref r.r)) (by rw [List.length_map]; omega) ⟨rfl, rfl⟩ (fun j acc H' hj h => ?_) (fun j v acc H' hv h => ?_) (fun acc H' h => ?_)⟩
            · obtain ⟨rfl, rfl⟩ := h
              refine ⟨SqL.of hfp3, ?_⟩
              rw [List.length_map]
              exact Nat.le_trans (List.length_filter_le _ _) (List.length_take_le _ _)
            · obtain ⟨rfl, rfl⟩ := h
              rw [List.getElem?_map] at hv
              cases er : fs[j]? with
              | none => rw [er] at hv; cases hv
              | some r =>
                rw [er] at hv
                obtain rfl := (Option.some.inj hv).symm
                have hR := (hFs3 r (List.mem_of_getElem? er)).1
                have et : (fs.take (j + 1)).filter (fun (r : Rl) => decide (r.y = 2 ^ k) && decide (r.x &&& x = r.x)) = (fs.take j).filter (fun (r : Rl) => decide (r.y = 2 ^ k) && decide (r.x &&& x = r.x)) ++ [r].filter (fun (r : Rl) => decide (r.y = 2 ^ k) && decide (r.x &&& x = r.x)) := by rw [List.take_succ, er, ← List.filter_append]; rfl
                have no : (decide (r.y = 2 ^ k) && decide (r.x &&& x = r.x)) = false → H' = H' ∧ ((fs.take j).filter (fun (r : Rl) => decide (r.y = 2 ^ k) && decide (r.x &&& x = r.x))).map (fun (r : Rl) => V.ref r.r) = ((fs.take (j + 1)).filter (fun (r : Rl) => decide (r.y = 2 ^ k) && decide (r.x &&& x = r.x))).map (fun (r : Rl) => V.ref r.r) := fun h0 => ⟨rfl, by rw [et, List.filter_cons_of_neg (p := fun (r : Rl) => decide (r.y = 2 ^ k) && decide (r.x &&& x = r.x)) (by rw [h0]; exact Bool.false_ne_true), List.filter_nil, List.append_nil]⟩
                refine ⟨rfl, _, rfl, r.r, _, _, _, rfl, rfl, SqT.of hR, atI_nat (j := 2) rfl, _, rfl, k, rfl, rfl, by omega, r.y, 2 ^ k, rfl, rfl, _, rfl, ?_⟩
                cases c0 : decide (r.y = 2 ^ k) with
                | false => exact iteF (iteF (no (by rw [c0]; rfl)))
                | true =>
                  refine iteT ?_
                  refine ⟨_, rfl, r.r, _, _, _, rfl, rfl, SqT.of hR, atI_nat (j := 1) rfl, _, rfl, r.x, x, rfl, rfl, _, rfl, r.r, _, _, _, rfl, rfl, SqT.of hR, atI_nat (j := 1) rfl, r.x &&& x, r.x, rfl, rfl, _, rfl, ?_⟩
                  cases c1 : decide (r.x &&& x = r.x) with
                  | false => exact iteF (no (by rw [c0, c1]; rfl))
                  | true =>
                    refine iteT ⟨_, rfl, rfl, ?_⟩
                    rw [et, List.filter_cons_of_pos (p := fun (r : Rl) => decide (r.y = 2 ^ k) && decide (r.x &&& x = r.x)) (by rw [c0, c1]; rfl), List.map_append]; rfl
            obtain ⟨rfl, rfl⟩ := h
            rw [List.length_map, List.take_length]
            intro up hup
            have sU := Same.new (o := .lst ((fs.filter (fun (r : Rl) => decide (r.y = 2 ^ k) && decide (r.x &&& x = r.x))).map fun (r : Rl) => V.ref r.r)) hup
            refine ⟨(by show 0 ≤ sizeLine; exact Nat.zero_le _), fun el hel => ?_⟩
            have sE := Same.new (o := .lst []) hel
            have sUE := sU.trans sE
            have hUs : RulesAt _ m (fs.filter (fun (r : Rl) => decide (r.y = 2 ^ k) && decide (r.x &&& x = r.x))) := fun r hr' => (hFs3.same sUE) r (List.mem_filter.mp hr').1
            refine ⟨_, .list (([] : List RD).map dR), DV.lst (SqL.of (sE _ _ upd_same)) (rules_dv hUs), DV.lst (SqL.of upd_same) .nil, shaped_map canLay_dR depth_dR _, shaped_map canLay_dR depth_dR _, noMix_list noMix_dR _ _, _, rfl, ?_⟩
            refine ite2 (fun hc => ?_) (fun hc => ⟨⟨_, rfl⟩, s23.trans sUE⟩)
            exfalso
            rw [if_neg Bool.false_ne_true, same_list same_dR] at hc
            have e0 : fs.filter (fun (r : Rl) => decide (r.y = 2 ^ k) && decide (r.x &&& x = r.x)) = [] := by
              have := of_decide_eq_true hc
              rwa [List.map_eq_nil_iff] at this
            obtain ⟨r, hr', e⟩ := held_mem hall
            exact List.filter_eq_nil_iff.mp e0 r hr' e
        · obtain ⟨⟨w9, rfl⟩, s2⟩ := h
          exact ⟨⟨_, _, rfl⟩, s2⟩
    · rintro σ H1 ⟨⟨v8, v9, rfl⟩, s1⟩
      exact q H1
end
end Own

namespace Own
open PySem L2
/-! what the top has written, and the law's own head -/
theorem all_mk {l : PySem.W.OpenLaw} {w : World} {K : PySem.W.Frag} {h : Heap} {mg : Str → Option Value} {fa fH fC fAL fIW fMO fSW fCU fI fUD fBG fFU fUN fSE fHO fOW fPC fPN fPS fPP fPR fLQ fLK fLB fLF fIO fQ : Addr} (X : K.In h) (G : h.Ns mainGlobals mg) (hfa : mg "law" = some (.ref fa))
    {odH anH odC anC odAL anAL odIW anIW odMO anMO odSW anSW odCU anCU odI anI odUD anUD odBG anBG odFU anFU odUN anUN odSE anSE odHO anHO odOW anOW odPC anPC odPN anPN odPS anPS odPP anPP odPR anPR odLQ anLQ odLK anLK odLB anLB odLF anLF odIO anIO odQ anQ : Option Addr} {slH slC slAL slIW slMO slSW slCU slI slUD slBG slFU slUN slSE slHO slOW slPC slPN slPS slPP slPR slLQ slLK slLB slLF slIO slQ : Array (Option Value)} {ocH kVH dcH pmH cdH ctH ocC kVC dcC pmC cdC ctC ocAL kVAL dcAL pmAL cdAL ctAL ocIW kVIW dcIW pmIW cdIW ctIW ocMO kVMO dcMO pmMO cdMO ctMO ocSW kVSW dcSW pmSW cdSW ctSW ocCU kVCU dcCU pmCU cdCU ctCU ocI kVI dcI pmI cdI ctI ocUD kVUD dcUD pmUD cdUD ctUD ocBG kVBG dcBG pmBG cdBG ctBG ocFU kVFU dcFU pmFU cdFU ctFU ocUN kVUN dcUN pmUN cdUN ctUN ocSE kVSE dcSE pmSE cdSE ctSE ocHO kVHO dcHO pmHO cdHO ctHO ocOW kVOW dcOW pmOW cdOW ctOW ocPC kVPC dcPC pmPC cdPC ctPC ocPN kVPN dcPN pmPN cdPN ctPN ocPS kVPS dcPS pmPS cdPS ctPS ocPP kVPP dcPP pmPP cdPP ctPP ocPR kVPR dcPR pmPR cdPR ctPR ocLQ kVLQ dcLQ pmLQ cdLQ ctLQ ocLK kVLK dcLK pmLK cdLK ctLK ocLB kVLB dcLB pmLB cdLB ctLB ocLF kVLF dcLF pmLF cdLF ctLF ocIO kVIO dcIO pmIO cdIO ctIO ocQ kVQ dcQ pmQ cdQ ctQ : Value}
    (aH : PySem.W.nsIn K mainGlobals "has_column" = some (some (.ref fH))) (lH : K.lookup fH = some ⟨ocH, odH, .func (PySem.W.fnOf "has_column" "has_column" (defArgs sHas) (defBody sHas) (defScope sHas) .none kVH dcH pmH anH cdH ctH), slH⟩) (cH : PySem.W.codeIn K cdH "has_column" = true) (kH : PySem.W.keepIn K (.ref fH) = true)
    (aC : PySem.W.nsIn K mainGlobals "columns_of" = some (some (.ref fC))) (lC : K.lookup fC = some ⟨ocC, odC, .func (PySem.W.fnOf "columns_of" "columns_of" (defArgs sCols) (defBody sCols) (defScope sCols) .none kVC dcC pmC anC cdC ctC), slC⟩) (cC : PySem.W.codeIn K cdC "columns_of" = true) (kC : PySem.W.keepIn K (.ref fC) = true)
    (aAL : PySem.W.nsIn K mainGlobals "all_of" = some (some (.ref fAL))) (lAL : K.lookup fAL = some ⟨ocAL, odAL, .func (PySem.W.fnOf "all_of" "all_of" (defArgs sAll) (defBody sAll) (defScope sAll) .none kVAL dcAL pmAL anAL cdAL ctAL), slAL⟩) (cAL : PySem.W.codeIn K cdAL "all_of" = true) (kAL : PySem.W.keepIn K (.ref fAL) = true)
    (aIW : PySem.W.nsIn K mainGlobals "is_within" = some (some (.ref fIW))) (lIW : K.lookup fIW = some ⟨ocIW, odIW, .func (PySem.W.fnOf "is_within" "is_within" (defArgs sWithin) (defBody sWithin) (defScope sWithin) .none kVIW dcIW pmIW anIW cdIW ctIW), slIW⟩) (cIW : PySem.W.codeIn K cdIW "is_within" = true) (kIW : PySem.W.keepIn K (.ref fIW) = true)
    (aMO : PySem.W.nsIn K mainGlobals "with_one_more" = some (some (.ref fMO))) (lMO : K.lookup fMO = some ⟨ocMO, odMO, .func (PySem.W.fnOf "with_one_more" "with_one_more" (defArgs sMore) (defBody sMore) (defScope sMore) .none kVMO dcMO pmMO anMO cdMO ctMO), slMO⟩) (cMO : PySem.W.codeIn K cdMO "with_one_more" = true) (kMO : PySem.W.keepIn K (.ref fMO) = true)
    (aSW : PySem.W.nsIn K mainGlobals "sets_within" = some (some (.ref fSW))) (lSW : K.lookup fSW = some ⟨ocSW, odSW, .func (PySem.W.fnOf "sets_within" "sets_within" (defArgs sSetsW) (defBody sSetsW) (defScope sSetsW) .none kVSW dcSW pmSW anSW cdSW ctSW), slSW⟩) (cSW : PySem.W.codeIn K cdSW "sets_within" = true) (kSW : PySem.W.keepIn K (.ref fSW) = true)
    (aCU : PySem.W.nsIn K mainGlobals "can_use" = some (some (.ref fCU))) (lCU : K.lookup fCU = some ⟨ocCU, odCU, .func (PySem.W.fnOf "can_use" "can_use" (defArgs sCanUse) (defBody sCanUse) (defScope sCanUse) .none kVCU dcCU pmCU anCU cdCU ctCU), slCU⟩) (cCU : PySem.W.codeIn K cdCU "can_use" = true) (kCU : PySem.W.keepIn K (.ref fCU) = true)
    (aI : PySem.W.nsIn K mainGlobals "listed" = some (some (.ref fI))) (lI : K.lookup fI = some ⟨ocI, odI, .func (PySem.W.fnOf "listed" "listed" (defArgs sListed) (defBody sListed) (defScope sListed) .none kVI dcI pmI anI cdI ctI), slI⟩) (cI : PySem.W.codeIn K cdI "listed" = true) (kI : PySem.W.keepIn K (.ref fI) = true)
    (aUD : PySem.W.nsIn K mainGlobals "used" = some (some (.ref fUD))) (lUD : K.lookup fUD = some ⟨ocUD, odUD, .func (PySem.W.fnOf "used" "used" (defArgs sUsed) (defBody sUsed) (defScope sUsed) .none kVUD dcUD pmUD anUD cdUD ctUD), slUD⟩) (cUD : PySem.W.codeIn K cdUD "used" = true) (kUD : PySem.W.keepIn K (.ref fUD) = true)
    (aBG : PySem.W.nsIn K mainGlobals "begun" = some (some (.ref fBG))) (lBG : K.lookup fBG = some ⟨ocBG, odBG, .func (PySem.W.fnOf "begun" "begun" (defArgs sBegun) (defBody sBegun) (defScope sBegun) .none kVBG dcBG pmBG anBG cdBG ctBG), slBG⟩) (cBG : PySem.W.codeIn K cdBG "begun" = true) (kBG : PySem.W.keepIn K (.ref fBG) = true)
    (aFU : PySem.W.nsIn K mainGlobals "first_use" = some (some (.ref fFU))) (lFU : K.lookup fFU = some ⟨ocFU, odFU, .func (PySem.W.fnOf "first_use" "first_use" (defArgs sFirst) (defBody sFirst) (defScope sFirst) .none kVFU dcFU pmFU anFU cdFU ctFU), slFU⟩) (cFU : PySem.W.codeIn K cdFU "first_use" = true) (kFU : PySem.W.keepIn K (.ref fFU) = true)
    (aUN : PySem.W.nsIn K mainGlobals "unfolded" = some (some (.ref fUN))) (lUN : K.lookup fUN = some ⟨ocUN, odUN, .func (PySem.W.fnOf "unfolded" "unfolded" (defArgs sUnf) (defBody sUnf) (defScope sUnf) .none kVUN dcUN pmUN anUN cdUN ctUN), slUN⟩) (cUN : PySem.W.codeIn K cdUN "unfolded" = true) (kUN : PySem.W.keepIn K (.ref fUN) = true)
    (aSE : PySem.W.nsIn K mainGlobals "settled" = some (some (.ref fSE))) (lSE : K.lookup fSE = some ⟨ocSE, odSE, .func (PySem.W.fnOf "settled" "settled" (defArgs sSettled) (defBody sSettled) (defScope sSettled) .none kVSE dcSE pmSE anSE cdSE ctSE), slSE⟩) (cSE : PySem.W.codeIn K cdSE "settled" = true) (kSE : PySem.W.keepIn K (.ref fSE) = true)
    (aHO : PySem.W.nsIn K mainGlobals "holds_one" = some (some (.ref fHO))) (lHO : K.lookup fHO = some ⟨ocHO, odHO, .func (PySem.W.fnOf "holds_one" "holds_one" (defArgs sHoldsOne) (defBody sHoldsOne) (defScope sHoldsOne) .none kVHO dcHO pmHO anHO cdHO ctHO), slHO⟩) (cHO : PySem.W.codeIn K cdHO "holds_one" = true) (kHO : PySem.W.keepIn K (.ref fHO) = true)
    (aOW : PySem.W.nsIn K mainGlobals "own_rules" = some (some (.ref fOW))) (lOW : K.lookup fOW = some ⟨ocOW, odOW, .func (PySem.W.fnOf "own_rules" "own_rules" (defArgs sOwn) (defBody sOwn) (defScope sOwn) .none kVOW dcOW pmOW anOW cdOW ctOW), slOW⟩) (cOW : PySem.W.codeIn K cdOW "own_rules" = true) (kOW : PySem.W.keepIn K (.ref fOW) = true)
    (aPC : PySem.W.nsIn K mainGlobals "_law_cell" = some (some (.ref fPC))) (lPC : K.lookup fPC = some ⟨ocPC, odPC, .func (PySem.W.fnOf "_law_cell" "_law_cell" (defArgs sPCell) (defBody sPCell) (defScope sPCell) .none kVPC dcPC pmPC anPC cdPC ctPC), slPC⟩) (cPC : PySem.W.codeIn K cdPC "_law_cell" = true) (kPC : PySem.W.keepIn K (.ref fPC) = true)
    (aPN : PySem.W.nsIn K mainGlobals "_law_next" = some (some (.ref fPN))) (lPN : K.lookup fPN = some ⟨ocPN, odPN, .func (PySem.W.fnOf "_law_next" "_law_next" (defArgs sPNext) (defBody sPNext) (defScope sPNext) .none kVPN dcPN pmPN anPN cdPN ctPN), slPN⟩) (cPN : PySem.W.codeIn K cdPN "_law_next" = true) (kPN : PySem.W.keepIn K (.ref fPN) = true)
    (aPS : PySem.W.nsIn K mainGlobals "_law_some" = some (some (.ref fPS))) (lPS : K.lookup fPS = some ⟨ocPS, odPS, .func (PySem.W.fnOf "_law_some" "_law_some" (defArgs sPSome) (defBody sPSome) (defScope sPSome) .none kVPS dcPS pmPS anPS cdPS ctPS), slPS⟩) (cPS : PySem.W.codeIn K cdPS "_law_some" = true) (kPS : PySem.W.keepIn K (.ref fPS) = true)
    (aPP : PySem.W.nsIn K mainGlobals "_law_pair" = some (some (.ref fPP))) (lPP : K.lookup fPP = some ⟨ocPP, odPP, .func (PySem.W.fnOf "_law_pair" "_law_pair" (defArgs sPPair) (defBody sPPair) (defScope sPPair) .none kVPP dcPP pmPP anPP cdPP ctPP), slPP⟩) (cPP : PySem.W.codeIn K cdPP "_law_pair" = true) (kPP : PySem.W.keepIn K (.ref fPP) = true)
    (aPR : PySem.W.nsIn K mainGlobals "_law_rules" = some (some (.ref fPR))) (lPR : K.lookup fPR = some ⟨ocPR, odPR, .func (PySem.W.fnOf "_law_rules" "_law_rules" (defArgs sPRules) (defBody sPRules) (defScope sPRules) .none kVPR dcPR pmPR anPR cdPR ctPR), slPR⟩) (cPR : PySem.W.codeIn K cdPR "_law_rules" = true) (kPR : PySem.W.keepIn K (.ref fPR) = true)
    (aLQ : PySem.W.nsIn K mainGlobals "_law_part" = some (some (.ref fLQ))) (lLQ : K.lookup fLQ = some ⟨ocLQ, odLQ, .func (PySem.W.fnOf "_law_part" "_law_part" (defArgs sLPart) (defBody sLPart) (defScope sLPart) .none kVLQ dcLQ pmLQ anLQ cdLQ ctLQ), slLQ⟩) (cLQ : PySem.W.codeIn K cdLQ "_law_part" = true) (kLQ : PySem.W.keepIn K (.ref fLQ) = true)
    (aLK : PySem.W.nsIn K mainGlobals "_law_keeps" = some (some (.ref fLK))) (lLK : K.lookup fLK = some ⟨ocLK, odLK, .func (PySem.W.fnOf "_law_keeps" "_law_keeps" (defArgs sLKeeps) (defBody sLKeeps) (defScope sLKeeps) .none kVLK dcLK pmLK anLK cdLK ctLK), slLK⟩) (cLK : PySem.W.codeIn K cdLK "_law_keeps" = true) (kLK : PySem.W.keepIn K (.ref fLK) = true)
    (aLB : PySem.W.nsIn K mainGlobals "_law_books" = some (some (.ref fLB))) (lLB : K.lookup fLB = some ⟨ocLB, odLB, .func (PySem.W.fnOf "_law_books" "_law_books" (defArgs sLBooks) (defBody sLBooks) (defScope sLBooks) .none kVLB dcLB pmLB anLB cdLB ctLB), slLB⟩) (cLB : PySem.W.codeIn K cdLB "_law_books" = true) (kLB : PySem.W.keepIn K (.ref fLB) = true)
    (aLF : PySem.W.nsIn K mainGlobals "_law_follows" = some (some (.ref fLF))) (lLF : K.lookup fLF = some ⟨ocLF, odLF, .func (PySem.W.fnOf "_law_follows" "_law_follows" (defArgs sLFol) (defBody sLFol) (defScope sLFol) .none kVLF dcLF pmLF anLF cdLF ctLF), slLF⟩) (cLF : PySem.W.codeIn K cdLF "_law_follows" = true) (kLF : PySem.W.keepIn K (.ref fLF) = true)
    (aIO : PySem.W.nsIn K mainGlobals "_law_is_own" = some (some (.ref fIO))) (lIO : K.lookup fIO = some ⟨ocIO, odIO, .func (PySem.W.fnOf "_law_is_own" "_law_is_own" (defArgs sIsOwn) (defBody sIsOwn) (defScope sIsOwn) .none kVIO dcIO pmIO anIO cdIO ctIO), slIO⟩) (cIO : PySem.W.codeIn K cdIO "_law_is_own" = true) (kIO : PySem.W.keepIn K (.ref fIO) = true)
    (aQ : PySem.W.nsIn K mainGlobals "law" = some (some (.ref fQ))) (lQ : K.lookup fQ = some ⟨ocQ, odQ, .func (PySem.W.fnOf "law" "law" (defArgs sLaw) (defBody sLaw) (defScope sLaw) .none kVQ dcQ pmQ anQ cdQ ctQ), slQ⟩) (cQ : PySem.W.codeIn K cdQ "law" = true) (kQ : PySem.W.keepIn K (.ref fQ) = true)
    
    (ylen : PySem.W.nsIn K mainGlobals "len" = some none) (yrange : PySem.W.nsIn K mainGlobals "range" = some none) (yenumerate : PySem.W.nsIn K mainGlobals "enumerate" = some none) (yint : PySem.W.nsIn K mainGlobals "int" = some none) (ysorted : PySem.W.nsIn K mainGlobals "sorted" = some none) (yany : PySem.W.nsIn K mainGlobals "any" = some none) (ydict : PySem.W.nsIn K mainGlobals "dict" = some none) (yset : PySem.W.nsIn K mainGlobals "set" = some none) :
    ∃ fd : FuncData, (∀ (s : Shared) (v : Value), BindsTo s fd ⟨[v], []⟩ [("_law_script", v)]) ∧ ∀ base : Heap, K.In base → base.Ns mainGlobals mg → FnOk l.prog w K mg base CX0 9 fa fd ["_law_script"] (spLaw K) := by
  have e := hfa.symm.trans (PySem.W.mg_of X G aQ)
  cases e
  have FH := fun_mk (st := sHas) lH cH kH
  have mH := PySem.W.mg_of X G aH
  have bH := FH.binds (ps := ["some", "column"]) fun _ _ _ _ _ _ us hl => match us, hl with | [_, _], _ => rfl
  have FC := fun_mk (st := sCols) lC cC kC
  have mC := PySem.W.mg_of X G aC
  have bC := FC.binds (ps := ["some"]) fun _ _ _ _ _ _ us hl => match us, hl with | [_], _ => rfl
  have FAL := fun_mk (st := sAll) lAL cAL kAL
  have mAL := PySem.W.mg_of X G aAL
  have bAL := FAL.binds (ps := ["many"]) fun _ _ _ _ _ _ us hl => match us, hl with | [_], _ => rfl
  have FIW := fun_mk (st := sWithin) lIW cIW kIW
  have mIW := PySem.W.mg_of X G aIW
  have bIW := FIW.binds (ps := ["one", "other"]) fun _ _ _ _ _ _ us hl => match us, hl with | [_, _], _ => rfl
  have FMO := fun_mk (st := sMore) lMO cMO kMO
  have mMO := PySem.W.mg_of X G aMO
  have bMO := FMO.binds (ps := ["sets", "some"]) fun _ _ _ _ _ _ us hl => match us, hl with | [_, _], _ => rfl
  have FSW := fun_mk (st := sSetsW) lSW cSW kSW
  have mSW := PySem.W.mg_of X G aSW
  have bSW := FSW.binds (ps := ["some"]) fun _ _ _ _ _ _ us hl => match us, hl with | [_], _ => rfl
  have FCU := fun_mk (st := sCanUse) lCU cCU kCU
  have mCU := PySem.W.mg_of X G aCU
  have bCU := FCU.binds (ps := ["rule", "block"]) fun _ _ _ _ _ _ us hl => match us, hl with | [_, _], _ => rfl
  have FI := fun_mk (st := sListed) lI cI kI
  have mI := PySem.W.mg_of X G aI
  have bI := FI.binds (ps := ["block"]) fun _ _ _ _ _ _ us hl => match us, hl with | [_], _ => rfl
  have FUD := fun_mk (st := sUsed) lUD cUD kUD
  have mUD := PySem.W.mg_of X G aUD
  have bUD := FUD.binds (ps := ["rule", "fixed", "blocks", "at"]) fun _ _ _ _ _ _ us hl => match us, hl with | [_, _, _, _], _ => rfl
  have FBG := fun_mk (st := sBegun) lBG cBG kBG
  have mBG := PySem.W.mg_of X G aBG
  have bBG := FBG.binds (ps := ["many", "some"]) fun _ _ _ _ _ _ us hl => match us, hl with | [_, _], _ => rfl
  have FFU := fun_mk (st := sFirst) lFU cFU kFU
  have mFU := PySem.W.mg_of X G aFU
  have bFU := FFU.binds (ps := ["rules", "blocks"]) fun _ _ _ _ _ _ us hl => match us, hl with | [_, _], _ => rfl
  have FUN := fun_mk (st := sUnf) lUN cUN kUN
  have mUN := PySem.W.mg_of X G aUN
  have bUN := FUN.binds (ps := ["many", "rules", "some"]) fun _ _ _ _ _ _ us hl => match us, hl with | [_, _, _], _ => rfl
  have FSE := fun_mk (st := sSettled) lSE cSE kSE
  have mSE := PySem.W.mg_of X G aSE
  have bSE := FSE.binds (ps := ["many", "rules", "some"]) fun _ _ _ _ _ _ us hl => match us, hl with | [_, _, _], _ => rfl
  have FHO := fun_mk (st := sHoldsOne) lHO cHO kHO
  have mHO := PySem.W.mg_of X G aHO
  have bHO := FHO.binds (ps := ["some", "found"]) fun _ _ _ _ _ _ us hl => match us, hl with | [_, _], _ => rfl
  have FOW := fun_mk (st := sOwn) lOW cOW kOW
  have mOW := PySem.W.mg_of X G aOW
  have bOW := FOW.binds (ps := ["many", "rules", "part"]) fun _ _ _ _ _ _ us hl => match us, hl with | [_, _, _], _ => rfl
  have FPC := fun_mk (st := sPCell) lPC cPC kPC
  have mPC := PySem.W.mg_of X G aPC
  have bPC := FPC.binds (ps := ["_law_script", "_law_k"]) fun _ _ _ _ _ _ us hl => match us, hl with | [_, _], _ => rfl
  have FPN := fun_mk (st := sPNext) lPN cPN kPN
  have mPN := PySem.W.mg_of X G aPN
  have bPN := FPN.binds (ps := ["_law_pen", "_law_most"]) fun _ _ _ _ _ _ us hl => match us, hl with | [_, _], _ => rfl
  have FPS := fun_mk (st := sPSome) lPS cPS kPS
  have mPS := PySem.W.mg_of X G aPS
  have bPS := FPS.binds (ps := ["_law_pen", "_law_many"]) fun _ _ _ _ _ _ us hl => match us, hl with | [_, _], _ => rfl
  have FPP := fun_mk (st := sPPair) lPP cPP kPP
  have mPP := PySem.W.mg_of X G aPP
  have bPP := FPP.binds (ps := ["_law_pen", "_law_many"]) fun _ _ _ _ _ _ us hl => match us, hl with | [_, _], _ => rfl
  have FPR := fun_mk (st := sPRules) lPR cPR kPR
  have mPR := PySem.W.mg_of X G aPR
  have bPR := FPR.binds (ps := ["_law_pen", "_law_many", "_law_most"]) fun _ _ _ _ _ _ us hl => match us, hl with | [_, _, _], _ => rfl
  have FLQ := fun_mk (st := sLPart) lLQ cLQ kLQ
  have mLQ := PySem.W.mg_of X G aLQ
  have bLQ := FLQ.binds (ps := ["_law_pen", "_law_many"]) fun _ _ _ _ _ _ us hl => match us, hl with | [_, _], _ => rfl
  have FLK := fun_mk (st := sLKeeps) lLK cLK kLK
  have mLK := PySem.W.mg_of X G aLK
  have bLK := FLK.binds (ps := ["_law_some_here", "_law_rule"]) fun _ _ _ _ _ _ us hl => match us, hl with | [_, _], _ => rfl
  have FLB := fun_mk (st := sLBooks) lLB cLB kLB
  have mLB := PySem.W.mg_of X G aLB
  have bLB := FLB.binds (ps := ["_law_many", "_law_rules_here"]) fun _ _ _ _ _ _ us hl => match us, hl with | [_, _], _ => rfl
  have FLF := fun_mk (st := sLFol) lLF cLF kLF
  have mLF := PySem.W.mg_of X G aLF
  have bLF := FLF.binds (ps := ["_law_kept_books", "_law_left", "_law_column"]) fun _ _ _ _ _ _ us hl => match us, hl with | [_, _, _], _ => rfl
  have FIO := fun_mk (st := sIsOwn) lIO cIO kIO
  have mIO := PySem.W.mg_of X G aIO
  have bIO := FIO.binds (ps := ["_law_many", "_law_kept_books", "_law_part_here", "_law_rule"]) fun _ _ _ _ _ _ us hl => match us, hl with | [_, _, _, _], _ => rfl
  have FQ := fun_mk (st := sLaw) lQ cQ kQ
  have mQ := PySem.W.mg_of X G aQ
  have zlen := PySem.W.mg_none_of X G ylen
  have zrange := PySem.W.mg_none_of X G yrange
  have zenumerate := PySem.W.mg_none_of X G yenumerate
  have zint := PySem.W.mg_none_of X G yint
  have zsorted := PySem.W.mg_none_of X G ysorted
  have zany := PySem.W.mg_none_of X G yany
  have zdict := PySem.W.mg_none_of X G ydict
  have zset := PySem.W.mg_none_of X G yset
  refine ⟨PySem.W.fnOf "law" "law" (defArgs sLaw) (defBody sLaw) (defScope sLaw) .none kVQ dcQ pmQ anQ cdQ ctQ, fun s v => .of_eq rfl, fun base _ _ => ?_⟩
  have GH := ok_has (P := l.prog) (w := w) (mg := mg) (base := base) FH
  have GC := ok_cols FC GH mH kH bH zrange
  have GAL := ok_all (P := l.prog) (w := w) (mg := mg) (base := base) FAL
  have GIW := ok_within (P := l.prog) (w := w) (mg := mg) (base := base) FIW
  have GMO := ok_more FMO GC mC kC bC zsorted
  have GSW := ok_setsw FSW GMO mMO kMO bMO
  have GCU := ok_canuse (P := l.prog) (w := w) (mg := mg) (base := base) FCU
  have GI := ok_listed (P := l.prog) (w := w) (mg := mg) (base := base) FI
  have GUD := ok_used FUD GI mI kI bI
  have GBG := ok_begun FBG GI mI kI bI GAL mAL kAL bAL
  have GFU := ok_first FFU GCU mCU kCU bCU zenumerate
  have GUN := ok_unf FUN GBG mBG kBG bBG GFU mFU kFU bFU GUD mUD kUD bUD
  have GSE := ok_settled FSE GUN mUN kUN bUN
  have GHO := ok_holdsone FHO GIW mIW kIW bIW zany
  have GOW := ok_own FOW GC mC kC bC GSW mSW kSW bSW GSE mSE kSE bSE GHO mHO kHO bHO zdict
  have GPC := ok_pcell (P := l.prog) (w := w) (base := base) FPC zlen
  have GPN := ok_pnext FPN GPC mPC kPC bPC
  have GPS := ok_psome FPS GPN mPN kPN bPN
  have GPP := ok_ppair FPP GPN mPN kPN bPN zint
  have GPR := ok_prules FPR GPN mPN kPN bPN GPS mPS kPS bPS GPP mPP kPP bPP zrange zint
  have GLQ := ok_lpart FLQ GPN mPN kPN bPN
  have GLK := ok_lkeeps (P := l.prog) (w := w) (mg := mg) (base := base) FLK
  have GLB := ok_lbooks FLB GLK mLK kLK bLK zrange
  have GLF := ok_lfol (P := l.prog) (w := w) (mg := mg) (base := base) FLF
  have GIO := ok_isown FIO GLF mLF kLF bLF zrange
  exact ok_law FQ GPN mPN kPN bPN GPR mPR kPR bPR GLQ mLQ kLQ bLQ GLB mLB kLB bLB GOW mOW kOW bOW GIO mIO kIO bIO GLF mLF kLF bLF zrange zlen zset zint
theorem walk {l : PySem.W.OpenLaw} {q : Program} {loose : List Str} {XP : (Str → Option Value) → Heap → Prop} {YP : World → Heap → Prop} {d : DefRec} {K : Params → PySem.W.Frag} (hn : l.most = some 63) (hdf : d.params.defaults = [])
    (hY : ∀ (w : World) (h : Heap), YP w h → (K w.params).In h)
    (F : ∀ (w : World) (mg : Str → Option Value) (fa : Addr) (h : Heap), (K w.params).In h → h.Ns mainGlobals mg → mg d.name = some (.ref fa) →
      ∃ fd : FuncData, (∀ (s : Shared) (u : Value), BindsTo s fd ⟨[u], []⟩ [("_law_script", u)]) ∧ ∀ base : Heap, (K w.params).In base → base.Ns mainGlobals mg → FnOk l.prog w (K w.params) mg base CX0 9 fa fd ["_law_script"] (spLaw (K w.params))) :
    PySem.W.WalkO q loose XP YP l.row.toRowW d [] (fun f vs => PySem.call f vs) :=
  L2.walk_of (n := 63) (k := 9) (x := "_law_script") (CX := fun _ => CX0) (sp := fun w => spLaw (K w.params)) hn (by decide) hdf ⟨rfl, by decide, by decide⟩ hY F (fun _ _ a ns hl hO hS => ⟨a, ns, rfl, SqF.of hO hS, hl, fun _ => rfl⟩) fun _ _ _ _ _ z => z
end Own
/-! names laid ahead, so that the head makes no twins of heaps, trees and the whole text: its own evaluation is quick without them -/
noncomputable def PySem.W.Fast.tw14179497036001548551 : Unit := ()
noncomputable def PySem.W.Fast.tw1232547427622546119 : Unit := ()
noncomputable def PySem.W.Fast.tw7913358636608363746 : Unit := ()
noncomputable def PySem.W.Fast.tw11383876488075338801 : Unit := ()
noncomputable def PySem.W.Fast.tw3809123840528463325 : Unit := ()
noncomputable def PySem.W.Fast.tw14597921589140496522 : Unit := ()
open PySem PySem.W PyProof.Rows
set_option maxRecDepth 100000 in
set_option maxHeartbeats 0 in
theorem PySem.Challenge.cw_splithouse_k71_whole_own_rules_by_books_holds : PySem.Challenge.rw_splithouse_k71_whole_own_rules_by_books.Holds := by
  w_on; o_law; k_head; (case hw => w_witness2)
  k_fill
  refine Own.walk (l := PySem.Challenge.rw_splithouse_k71_whole_own_rules_by_books) rfl rfl (fun w h Y => PySem.W.kIn_of Y) ?F
  case F =>
    intro w mg fa h KX G hmg
    refine' Own.all_mk KX G hmg ?aH ?lH ?cH ?kH ?aC ?lC ?cC ?kC ?aAL ?lAL ?cAL ?kAL ?aIW ?lIW ?cIW ?kIW ?aMO ?lMO ?cMO ?kMO ?aSW ?lSW ?cSW ?kSW ?aCU ?lCU ?cCU ?kCU ?aI ?lI ?cI ?kI ?aUD ?lUD ?cUD ?kUD ?aBG ?lBG ?cBG ?kBG ?aFU ?lFU ?cFU ?kFU ?aUN ?lUN ?cUN ?kUN ?aSE ?lSE ?cSE ?kSE ?aHO ?lHO ?cHO ?kHO ?aOW ?lOW ?cOW ?kOW ?aPC ?lPC ?cPC ?kPC ?aPN ?lPN ?cPN ?kPN ?aPS ?lPS ?cPS ?kPS ?aPP ?lPP ?cPP ?kPP ?aPR ?lPR ?cPR ?kPR ?aLQ ?lLQ ?cLQ ?kLQ ?aLK ?lLK ?cLK ?kLK ?aLB ?lLB ?cLB ?kLB ?aLF ?lLF ?cLF ?kLF ?aIO ?lIO ?cIO ?kIO ?aQ ?lQ ?cQ ?kQ ?ylen ?yrange ?yenumerate ?yint ?ysorted ?yany ?ydict ?yset
    (case aH => k_is)
    (case lH => k_is)
    (case cH => k_is)
    (case kH => k_is)
    (case aC => k_is)
    (case lC => k_is)
    (case cC => k_is)
    (case kC => k_is)
    (case aAL => k_is)
    (case lAL => k_is)
    (case cAL => k_is)
    (case kAL => k_is)
    (case aIW => k_is)
    (case lIW => k_is)
    (case cIW => k_is)
    (case kIW => k_is)
    (case aMO => k_is)
    (case lMO => k_is)
    (case cMO => k_is)
    (case kMO => k_is)
    (case aSW => k_is)
    (case lSW => k_is)
    (case cSW => k_is)
    (case kSW => k_is)
    (case aCU => k_is)
    (case lCU => k_is)
    (case cCU => k_is)
    (case kCU => k_is)
    (case aI => k_is)
    (case lI => k_is)
    (case cI => k_is)
    (case kI => k_is)
    (case aUD => k_is)
    (case lUD => k_is)
    (case cUD => k_is)
    (case kUD => k_is)
    (case aBG => k_is)
    (case lBG => k_is)
    (case cBG => k_is)
    (case kBG => k_is)
    (case aFU => k_is)
    (case lFU => k_is)
    (case cFU => k_is)
    (case kFU => k_is)
    (case aUN => k_is)
    (case lUN => k_is)
    (case cUN => k_is)
    (case kUN => k_is)
    (case aSE => k_is)
    (case lSE => k_is)
    (case cSE => k_is)
    (case kSE => k_is)
    (case aHO => k_is)
    (case lHO => k_is)
    (case cHO => k_is)
    (case kHO => k_is)
    (case aOW => k_is)
    (case lOW => k_is)
    (case cOW => k_is)
    (case kOW => k_is)
    (case aPC => k_is)
    (case lPC => k_is)
    (case cPC => k_is)
    (case kPC => k_is)
    (case aPN => k_is)
    (case lPN => k_is)
    (case cPN => k_is)
    (case kPN => k_is)
    (case aPS => k_is)
    (case lPS => k_is)
    (case cPS => k_is)
    (case kPS => k_is)
    (case aPP => k_is)
    (case lPP => k_is)
    (case cPP => k_is)
    (case kPP => k_is)
    (case aPR => k_is)
    (case lPR => k_is)
    (case cPR => k_is)
    (case kPR => k_is)
    (case aLQ => k_is)
    (case lLQ => k_is)
    (case cLQ => k_is)
    (case kLQ => k_is)
    (case aLK => k_is)
    (case lLK => k_is)
    (case cLK => k_is)
    (case kLK => k_is)
    (case aLB => k_is)
    (case lLB => k_is)
    (case cLB => k_is)
    (case kLB => k_is)
    (case aLF => k_is)
    (case lLF => k_is)
    (case cLF => k_is)
    (case kLF => k_is)
    (case aIO => k_is)
    (case lIO => k_is)
    (case cIO => k_is)
    (case kIO => k_is)
    (case aQ => k_is)
    (case lQ => k_is)
    (case cQ => k_is)
    (case kQ => k_is)
    (case ylen => k_is)
    (case yrange => k_is)
    (case yenumerate => k_is)
    (case yint => k_is)
    (case ysorted => k_is)
    (case yany => k_is)
    (case ydict => k_is)
    (case yset => k_is)


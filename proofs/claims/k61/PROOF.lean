import PyProof.Rows.All
import Wide.All
import OpenK.AllK
import Wide.FinOn
import Lean
import PyProof.EqAt
import PyProof.EqKinds
import PyProof.TupleCall
import KE.KSortTup
import PySem.SetTable
import PyProof.SetScanFacts
import PyProof.Rows.SetFrom
import PyProof.TupleKey
import KE.KDictList
import KE.KTryMore
import KE.KIsAll
import PyProof.ExcBaseAll.ValueError
import PyProof.NsDelKeeps
import PyProof.ExcArgsOwn
import PyProof.Cells
import PySem.Challenge.RW_splithouse_k61_shown_by_books
-- CHANGE: your row's module here, as the last of these rows
set_option Elab.async false
set_option linter.all false
set_option maxRecDepth 100000
/-! THE HAND LAYER, for ints, bools, texts, own classes, LISTS and tuples (index, slices, in, append, pop ..), calls, loops. Paste it whole ahead of your own text; what your proof does not reach may be deleted. -/
namespace L2
open PySem PySem.Spec PyProof.Rows

/-- a key: an int or a str -/
noncomputable abbrev Key := Sum Int Str
noncomputable def keyIs : Key → Value → Bool
  | .inl k, v => Value.isInt k v
  | .inr x, v => Value.isStrOf x v
noncomputable def keyH (w : World) : Key → Int
  | .inl k => hashInt k
  | .inr x => hashStr w x
theorem keyIs_shape : ∀ {k : Key} {v : Value}, keyIs k v = true → (∃ i t, k = Sum.inl i ∧ v = Value.int i t) ∨ (∃ x t, k = Sum.inr x ∧ v = Value.str x t)
  | .inl i, v, h => by
    obtain ⟨t, e⟩ := Value.isInt_shape (k := i) (v := v) h
    exact .inl ⟨i, t, rfl, e⟩
  | .inr x, v, h => by
    obtain ⟨t, e⟩ := Value.isStrOf_shape (x := x) (v := v) h
    exact .inr ⟨x, t, rfl, e⟩
theorem keyIs_int (i : Int) (t : Tok) : keyIs (.inl i) (.int i t) = true := by simp [keyIs, Value.isInt]
theorem keyIs_str (x : Str) (t : Tok) : keyIs (.inr x) (.str x t) = true := by simp [keyIs, Value.isStrOf]
theorem key_ll (a b : Int) : decide ((Sum.inl a : Key) = Sum.inl b) = (a == b) := by
  by_cases e : a = b
  · subst e; simp
  · have h : ¬ (Sum.inl a : Key) = Sum.inl b := fun q => e (Sum.inl.inj q)
    rw [decide_eq_false h]
    exact (beq_eq_false_iff_ne.mpr e).symm
theorem key_rr (a b : Str) : decide ((Sum.inr a : Key) = Sum.inr b) = decide (a = b) := by
  by_cases e : a = b
  · subst e; simp
  · have h : ¬ (Sum.inr a : Key) = Sum.inr b := fun q => e (Sum.inr.inj q)
    rw [decide_eq_false h, decide_eq_false e]
theorem key_lr (a : Int) (b : Str) : decide ((Sum.inl a : Key) = Sum.inr b) = false := decide_eq_false (fun q => nomatch q)
theorem key_rl (a : Str) (b : Int) : decide ((Sum.inr a : Key) = Sum.inl b) = false := decide_eq_false (fun q => nomatch q)

noncomputable def mixKind (prog : Program) (w : World) : PySem.KeyKind prog w Key where
  is := keyIs
  hash := keyH w
  inj := fun v a b ha hb => by
    rcases keyIs_shape ha with ⟨i, t, rfl, rfl⟩ | ⟨x, t, rfl, rfl⟩
    · rcases keyIs_shape hb with ⟨j, u, rfl, e⟩ | ⟨y, u, rfl, e⟩
      · injection e with e1 _; rw [e1]
      · exact nomatch e
    · rcases keyIs_shape hb with ⟨j, u, rfl, e⟩ | ⟨y, u, rfl, e⟩
      · exact nomatch e
      · injection e with e1 _; rw [e1]
  byValue := fun k v h => by
    rcases keyIs_shape h with ⟨i, t, rfl, rfl⟩ | ⟨x, t, rfl, rfl⟩ <;> rfl
  pyHash := fun hv h => by
    rcases keyIs_shape hv with ⟨i, t, rfl, rfl⟩ | ⟨x, t, rfl, rfl⟩
    · exact wpAny_pyHash_int h
    · exact wpAny_pyHash_str h
  eqBool := fun hu hv h => by
    rcases keyIs_shape hu with ⟨i, t, rfl, rfl⟩ | ⟨x, t, rfl, rfl⟩
    · rcases keyIs_shape hv with ⟨j, u, rfl, rfl⟩ | ⟨y, u, rfl, rfl⟩
      · rw [key_ll] at h; exact wpAny_eqBool_int h
      · rw [key_lr] at h; exact SeqAt.EqAt.int_str i t y u _ _ _ _ h
    · rcases keyIs_shape hv with ⟨j, u, rfl, rfl⟩ | ⟨y, u, rfl, rfl⟩
      · rw [key_rl] at h; exact SeqAt.EqAt.str_int x t j u _ _ _ _ h
      · rw [key_rr] at h; exact wpAny_eqBool_str h
  «strs» := fun k x t v h => by
    rcases keyIs_shape h with ⟨i, u, rfl, e⟩ | ⟨y, u, rfl, e⟩
    · exact nomatch e
    · injection e with e1 _
      subst e1
      cases v <;> rfl

theorem mixKind_int (prog : Program) (w : World) (i : Int) (t : Tok) : (mixKind prog w).is (.inl i) (.int i t) = true := keyIs_int i t
theorem mixKind_str (prog : Program) (w : World) (x : Str) (t : Tok) : (mixKind prog w).is (.inr x) (.str x t) = true := keyIs_str x t
end L2

namespace L2
open PySem PySem.Spec PyProof.Rows

/-- a value, without the heap -/
inductive V where
  | non | bl (b : Bool) | int (i : Int) | str (x : Str) | byt (b : Array UInt8) | flt (b : UInt64) | ref (a : Addr) | ty (n : String)
  deriving DecidableEq

noncomputable def RelV : V → Value → Prop
  | .non, u => u = Value.none
  | .bl b, u => u = Value.bool b
  | .int i, u => ∃ t, u = Value.int i t
  | .str x, u => ∃ t, u = Value.str x t
  | .byt b, u => ∃ t, u = Value.bytes b t
  | .flt b, u => ∃ t, u = Value.float b t
  | .ref a, u => u = Value.ref a
  | .ty n, u => u = Value.type n

noncomputable abbrev Vals : List V → List Value → Prop := Paired RelV
theorem Vals.length {xs : List V} {us : List Value} (r : Vals xs us) : xs.length = us.length := Paired.length r
theorem Vals.get : ∀ {xs : List V} {us : List Value} {i : Nat} {x : V}, Vals xs us → xs[i]? = some x → ∃ u, us[i]? = some u ∧ RelV x u
  | _, _, _, _, .nil, e => by simp at e
  | _, _, 0, _, .cons r _, e => by simp at e; subst e; exact ⟨_, rfl, r⟩
  | _, _, i + 1, x, .cons _ t, e => by
    obtain ⟨u, h1, h2⟩ := Vals.get (i := i) (x := x) t (by simpa using e)
    exact ⟨u, by simpa using h1, h2⟩
theorem Vals.set {x : V} {u : Value} (r : RelV x u) : ∀ {xs : List V} {us : List Value} (i : Nat), Vals xs us → Vals (xs.set i x) (us.set i u)
  | _, _, _, .nil => .nil
  | _, _, 0, .cons _ t => .cons r t
  | _, _, i + 1, .cons q t => .cons q (Vals.set r i t)
theorem Vals.append : ∀ {xs ys : List V} {us ws : List Value}, Vals xs us → Vals ys ws → Vals (xs ++ ys) (us ++ ws)
  | _, _, _, _, .nil, s => s
  | _, _, _, _, .cons r t, s => .cons r (Vals.append t s)
theorem Vals.take : ∀ {xs : List V} {us : List Value} (n : Nat), Vals xs us → Vals (xs.take n) (us.take n)
  | _, _, 0, _ => .nil
  | _, _, _ + 1, .nil => .nil
  | _, _, n + 1, .cons r t => .cons r (Vals.take n t)
theorem Vals.drop : ∀ {xs : List V} {us : List Value} (n : Nat), Vals xs us → Vals (xs.drop n) (us.drop n)
  | _, _, 0, r => r
  | _, _, _ + 1, .nil => .nil
  | _, _, n + 1, .cons _ t => Vals.drop n t
noncomputable def RelO : Option V → Option Value → Prop
  | some v, some u => RelV v u
  | none, none => True
  | _, _ => False
noncomputable def KV {κ : Type} : List (κ × V) → List (κ × Value) → Prop := Paired fun (p : κ × V) (q : κ × Value) => p.1 = q.1 ∧ RelV p.2 q.2

/-- a key of a dict (00_mix): an int or a text -/
noncomputable def kV : Key → V
  | .inl i => .int i
  | .inr x => .str x

/-- what stands at a tracked address -/
inductive HO where
  /-- a list -/
  | lst (xs : List V)
  /-- a tuple (never changes) -/
  | tup (xs : List V)
  /-- a dict whose keys are ints and texts; one whose keys are tuples of ints and texts (the empty one is both) -/
  | dK (kvs : List (Key × V)) | dT (kvs : List (List Key × V))
  /-- a set of ints: its members, its size -/
  | set (S : Int → Bool) (n : Nat)
  /-- an instance of the class at C, its dict at dx, its attributes -/
  | ins (C dx : Addr) (fs : List (Str × V))
  /-- the dict of the instance at x -/
  | own (x : Addr)
  /-- the dict of an exception -/
  | xd (fs : List (Str × V))
  /-- a bound method, f of x -/
  | met (f x : Addr)
  /-- a range object lo, lo + 1, .. below hi -/
  | rng (lo hi : Int)
  /-- a thing that is known to the object (the script; a dict while a loop walks it): read, never written while it is so -/
  | frz (o : Obj) (u : HO)
  /-- a code object's table -/
  | tbl (ps : Array Value)
  /-- any other thing, by what is true of its one object (a def of one's own: SetO a S n := HO.ext fun h => ..) -/
  | ext (φ : Heap → Prop)

noncomputable abbrev Hp := Addr → Option HO
noncomputable def upd (H : Hp) (a : Addr) (o : HO) : Hp := fun b => if b = a then some o else H b
theorem upd_same {H : Hp} {a : Addr} {o : HO} : upd H a o a = some o := by unfold upd; rw [if_pos rfl]
theorem upd_ne {H : Hp} {a b : Addr} {o : HO} (h : b ≠ a) : upd H a o b = H b := by unfold upd; rw [if_neg h]
theorem upd_upd {H : Hp} {a : Addr} {o u : HO} : upd (upd H a o) a u = upd H a u := by
  funext b; unfold upd; split <;> rfl
/-- two objects of different content stand apart -/
theorem ne_of {H : Hp} {a b : Addr} {o u : HO} (h : H a = some o) (h' : H b = some u) (d : o ≠ u) : a ≠ b := by
  intro e; subst e; rw [h] at h'; exact d (Option.some.inj h')
theorem ne_of_none {H : Hp} {a b : Addr} {o : HO} (h : H a = some o) (h' : H b = none) : a ≠ b := by
  intro e; subst e; rw [h] at h'; cases h'

section
variable (P : Program) (w : World)
noncomputable def ObjOk (H : Hp) (h : Heap) (a : Addr) : HO → Prop
  | .lst xs => xs.length ≤ sizeLine ∧ ∃ (its : List Value) (n : Nat), Vals xs its ∧ h.get? a = some { cls := .type "list", data := .seq its.toArray n }
  | .tup xs => xs.length ≤ sizeLine ∧ ∃ its : List Value, Vals xs its ∧ IsTup h a its.toArray
  | .dK kvs => kvs.length ≤ sizeLine ∧ (a == sysModules) = false ∧ ∃ vs, KV kvs vs ∧ h.DictOf (mixKind P w) a vs
  | .dT kvs => kvs.length ≤ sizeLine ∧ (a == sysModules) = false ∧ ∃ xs : List (List Key × Addr × Value),
      Paired (fun (p : List Key × V) (q : List Key × Addr × Value) => p.1 = q.1 ∧ H q.2.1 = some (.tup (p.1.map kV)) ∧ RelV p.2 q.2.2) kvs xs ∧
      ∃ o es ep, h.get? a = some o ∧ o.ExactDict ∧ o.data = .dict es ep ∧ es.toList = xs.map (entryOfKey (tupleKind (mixKind P w))) ∧ (xs.map (·.1)).Nodup
  | .set S n => h.SetOf (intKind P w) a S n
  | .ins C dx fs => H dx = some (.own a) ∧ fs.length ≤ 1000 ∧ dx ≠ a ∧ h.get? a = some (PySem.W.instObj C dx) ∧
      ∃ mA, h.Ns1 dx mA ∧ (∀ f, RelO (fs.lookup f) (mA f)) ∧ PySem.Within mA (fs.map (·.1))
  | .own _ => ∃ o, h.get? a = some o
  | .xd fs => ∃ mA, h.Ns1 a mA ∧ ∀ f, RelO (fs.lookup f) (mA f)
  | .rng lo hi => ∃ t u v, h.get? a = some { cls := .type "range", data := .fields #[.int lo t, .int hi u, .int 1 v] }
  | .frz o u => h.get? a = some o ∧ ObjOk H h a u
  | .tbl ps => h.get? a = some { cls := .none, data := .fields ps }
  | .met f x => h.get? a = some (PySem.W.methodObj (.ref f) (.ref x))
  | .ext φ => φ h ∧ (∃ o, h.get? a = some o) ∧ ∀ h1 h2 : Heap, φ h1 → (∀ o, h1.get? a = some o → h2.get? a = some o) → φ h2
/-- the abstract heap is held -/
noncomputable def HOk (H : Hp) (h : Heap) : Prop := ∀ a o, H a = some o → ObjOk P w H h a o
end

section
variable {P : Program} {w : World} {H H' : Hp} {h h' : Heap} {a : Addr} {o : HO}
theorem ObjOk.lt (x : ObjOk P w H h a o) : a < h.objs.size := by
  cases o with
  | lst xs => obtain ⟨_, _, _, _, e⟩ := x; exact Heap.lt_size e
  | tup xs => obtain ⟨_, _, _, p⟩ := x; exact p.lt
  | dK kvs => obtain ⟨_, _, _, _, o, _, _, e, _⟩ := x; exact Heap.lt_size e
  | dT kvs => obtain ⟨_, _, _, _, o, _, _, e, _⟩ := x; exact Heap.lt_size e
  | set S n => obtain ⟨o, _, _, _, e, _⟩ := x; exact Heap.lt_size e
  | ins C dx fs => obtain ⟨_, _, _, e, _⟩ := x; exact Heap.lt_size e
  | own y => obtain ⟨_, e⟩ := x; exact Heap.lt_size e
  | xd fs => obtain ⟨_, ⟨_, _, _, e, _⟩, _⟩ := x; exact Heap.lt_size e
  | rng lo hi => obtain ⟨_, _, _, e⟩ := x; exact Heap.lt_size e
  | frz ob u => obtain ⟨e, _⟩ := x; exact Heap.lt_size e
  | tbl ps => exact Heap.lt_size (show h.get? a = some _ from x)
  | met f y => exact Heap.lt_size (show h.get? a = some _ from x)
  | ext φ => obtain ⟨_, ⟨_, e⟩, _⟩ := x; exact Heap.lt_size e
theorem Paired.mapP {α β : Type} {F G : α → β → Prop} : ∀ {l₁ : List α} {l₂ : List β}, Paired F l₁ l₂ → (∀ a b, F a b → G a b) → Paired G l₁ l₂
  | _, _, .nil, _ => .nil
  | _, _, .cons r t, f => .cons (f _ _ r) (Paired.mapP t f)
/-- what an object's description leans on: its own object, its own dict, the tuples -/
theorem ObjOk.stay (x : ObjOk P w H h a o) (k : ∀ b u, (b = a ∨ H b = some (.own a)) → h.get? b = some u → h'.get? b = some u)
    (ho : ∀ b, H b = some (.own a) → H' b = some (.own a)) (ht : ∀ b xs, H b = some (.tup xs) → H' b = some (.tup xs)) : ObjOk P w H' h' a o := by
  induction o with
  | lst xs => obtain ⟨z, its, n, r, e⟩ := x; exact ⟨z, its, n, r, k _ _ (.inl rfl) e⟩
  | tup xs => obtain ⟨z, its, r, ob, e, c⟩ := x; exact ⟨z, its, r, ob, k _ _ (.inl rfl) e, c⟩
  | dK kvs => obtain ⟨z, y, vs, r, ob, es, ep, e, c⟩ := x; exact ⟨z, y, vs, r, ob, es, ep, k _ _ (.inl rfl) e, c⟩
  | dT kvs =>
    obtain ⟨z, y, xs, r, ob, es, ep, e, c⟩ := x
    exact ⟨z, y, xs, Paired.mapP r fun p q z => ⟨z.1, ht _ _ z.2.1, z.2.2⟩, ob, es, ep, k _ _ (.inl rfl) e, c⟩
  | set S n => obtain ⟨ob, es, ep, t, e, c⟩ := x; exact ⟨ob, es, ep, t, k _ _ (.inl rfl) e, c⟩
  | ins C dx fs =>
    obtain ⟨d, z, ne, e, mA, ⟨od, es, ep, e2, c⟩, r⟩ := x
    exact ⟨ho _ d, z, ne, k _ _ (.inl rfl) e, mA, ⟨od, es, ep, k _ _ (.inr d) e2, c⟩, r⟩
  | own y => obtain ⟨ob, e⟩ := x; exact ⟨ob, k _ _ (.inl rfl) e⟩
  | xd fs => obtain ⟨mA, ⟨od, es, ep, e, c⟩, r⟩ := x; exact ⟨mA, ⟨od, es, ep, k _ _ (.inl rfl) e, c⟩, r⟩
  | rng lo hi => obtain ⟨t, u, v, e⟩ := x; exact ⟨t, u, v, k _ _ (.inl rfl) e⟩
  | frz ob u ih => obtain ⟨e, q⟩ := x; exact ⟨k _ _ (.inl rfl) e, ih q⟩
  | tbl ps =>
    have e : h.get? a = some { cls := .none, data := .fields ps } := x
    show h'.get? a = some { cls := .none, data := .fields ps }
    exact k a _ (.inl rfl) e
  | met f y =>
    have e : h.get? a = some (PySem.W.methodObj (.ref f) (.ref y)) := x
    show h'.get? a = some (PySem.W.methodObj (.ref f) (.ref y))
    exact k a _ (.inl rfl) e
  | ext φ => obtain ⟨p, ⟨o, e⟩, st⟩ := x; exact ⟨st _ _ p fun o q => k _ _ (.inl rfl) q, ⟨o, k _ _ (.inl rfl) e⟩, st⟩
theorem HOk.lt (x : HOk P w H h) (e : H a = some o) : a < h.objs.size := (x a o e).lt
theorem HOk.fresh (x : HOk P w H h) (e : h.objs.size ≤ a) : H a = none := by
  cases q : H a with
  | none => rfl
  | some u => exact absurd (Nat.lt_of_lt_of_le (x.lt q) e) (Nat.lt_irrefl _)
/-- every object of the heap is kept -/
theorem HOk.kept (x : HOk P w H h) (k : ∀ b u, h.get? b = some u → h'.get? b = some u) : HOk P w H h' := fun a o e =>
  (x a o e).stay (fun b u _ q => k b u q) (fun _ q => q) fun _ _ q => q
/-- a new object is laid and tracked -/
theorem HOk.laid (x : HOk P w H h) (k : ∀ b u, h.get? b = some u → h'.get? b = some u) (hp : h.objs.size ≤ a) (new : ObjOk P w (upd H a o) h' a o) : HOk P w (upd H a o) h' := fun b u e => by
  have hn := x.fresh hp
  by_cases hb : b = a
  · subst hb; rw [upd_same] at e; cases e; exact new
  · rw [upd_ne hb] at e
    exact (x b u e).stay (fun c v _ q => k c v q) (fun c q => by rw [upd_ne (ne_of_none q hn)]; exact q) fun c xs q => by rw [upd_ne (ne_of_none q hn)]; exact q
end

/-- what may be read as u: it is u, or a known u -/
noncomputable def Rd (H : Hp) (a : Addr) (u : HO) : Prop := H a = some u ∨ ∃ o, H a = some (.frz o u)
theorem Rd.ok {P : Program} {w : World} {H : Hp} {h : Heap} {a : Addr} {u : HO} (r : Rd H a u) (x : HOk P w H h) : ObjOk P w H h a u := by
  rcases r with r | ⟨o, r⟩
  · exact x a u r
  · obtain ⟨_, q⟩ := x a _ r
    exact q
/-- what may be written -/
noncomputable def Mut : Option HO → Prop
  | some (.lst _) => True
  | some (.dK _) => True
  | some (.dT _) => True
  | some (.set _ _) => True
  | some (.ins _ _ _) => True
  | some (.ext _) => True
  | _ => False
section
variable {P : Program} {w : World} {H : Hp} {h h' : Heap} {x e : Addr} {o' : HO}
/-- the object at e is changed: x itself, or the dict of the instance x -/
theorem HOk.write (ok : HOk P w H h) (mu : Mut (H x)) (he : e = x ∨ H e = some (.own x)) (k : ∀ b u, b ≠ e → h.get? b = some u → h'.get? b = some u) (heo : ∃ u, h'.get? e = some u)
    (new : ObjOk P w (upd H x o') h' x o') : HOk P w (upd H x o') h' := fun b u q => by
  have nown : ∀ c y, H c = some (.own y) → c ≠ x := fun c y r z => by subst z; rw [r] at mu; exact mu
  have ntup : ∀ c xs, H c = some (.tup xs) → c ≠ x := fun c xs r z => by subst z; rw [r] at mu; exact mu
  by_cases hb : b = x
  · subst hb; rw [upd_same] at q; cases q; exact new
  · rw [upd_ne hb] at q
    by_cases hbe : b = e
    · have q' : H b = some (.own x) := by
        rcases he with z | z
        · exact absurd (hbe.trans z) hb
        · rw [hbe]; exact z
      rw [q] at q'; cases q'
      obtain ⟨v, hv⟩ := heo
      exact ⟨v, by rw [hbe]; exact hv⟩
    · refine (ok b u q).stay (fun c v hc r => k c v ?_ r) (fun c r => by rw [upd_ne (nown c b r)]; exact r) fun c xs r => by rw [upd_ne (ntup c xs r)]; exact r
      rcases hc with rfl | hc
      · exact hbe
      · rintro rfl
        rcases he with z | z
        · exact nown c b hc z
        · rw [hc] at z; cases z; exact hb rfl
end

/-! ### kept unless tracked; of the frames at fs (the callers') the slots may change (an exception that passes writes there); of the records at ex (iterators) nothing is said -/
structure Un (fs ex : List Addr) (H H' : Hp) (h h' : Heap) : Prop where
  keep : ∀ b o, h.get? b = some o → H b = none → b ∉ fs → b ∉ ex → h'.get? b = some o
  slot : ∀ b o, h.get? b = some o → H b = none → b ∈ fs → b ∉ ex → ∃ sl, h'.get? b = some { o with slots := sl }
  free : ∀ b o, h.get? b = some o → H b = none → b ∉ ex → H' b = none
  there : ∀ b o, h.get? b = some o → b ∉ ex → ∃ o', h'.get? b = some o'
  tups : ∀ b xs, H b = some (.tup xs) → H' b = some (.tup xs)
  frzs : ∀ b o u, H b = some (.frz o u) → H' b = some (.frz o u)
  tbls : ∀ b ps, H b = some (.tbl ps) → ∃ more, H' b = some (.tbl (ps ++ more))
section
variable {fs fs' ex ex' : List Addr} {H H1 H2 : Hp} {h h1 h2 h' : Heap} {a x e : Addr} {o : HO}
theorem Un.any (u : Un fs ex H H1 h h1) {b : Addr} {ob : Obj} (q : h.get? b = some ob) (n : H b = none) (hx : b ∉ ex) : ∃ sl, h1.get? b = some { ob with slots := sl } := by
  by_cases hb : b ∈ fs
  · exact u.slot b ob q n hb hx
  · exact ⟨ob.slots, u.keep b ob q n hb hx⟩
theorem Un.kept (k : ∀ b u, h.get? b = some u → h'.get? b = some u) : Un fs ex H H h h' :=
  ⟨fun b ob q _ _ _ => k b ob q, fun b ob q _ _ _ => ⟨ob.slots, k b ob q⟩, fun _ _ _ n _ => n, fun b ob q _ => ⟨ob, k b ob q⟩, fun _ _ q => q, fun _ _ _ q => q, fun _ ps q => ⟨#[], by rw [q]; simp⟩⟩
theorem Un.refl : Un fs ex H H h h := Un.kept fun _ _ q => q
theorem Un.laid (k : ∀ b u, h.get? b = some u → h'.get? b = some u) (hp : h.objs.size ≤ a) (hn : H a = none) : Un fs ex H (upd H a o) h h' where
  keep := fun b u q _ _ _ => k b u q
  slot := fun b u q _ _ _ => ⟨u.slots, k b u q⟩
  free := fun b u q n _ => by rw [upd_ne (Nat.ne_of_lt (Nat.lt_of_lt_of_le (Heap.lt_size q) hp))]; exact n
  there := fun b u q _ => ⟨u, k b u q⟩
  tups := fun b xs q => by rw [upd_ne (ne_of_none q hn)]; exact q
  frzs := fun b u xs q => by rw [upd_ne (ne_of_none q hn)]; exact q
  tbls := fun b ps q => ⟨#[], by rw [upd_ne (ne_of_none q hn), q]; simp⟩
theorem Un.write (mu : Mut (H x)) (he : e = x ∨ H e = some (.own x)) (k : ∀ b u, b ≠ e → h.get? b = some u → h'.get? b = some u) (heo : ∃ u, h'.get? e = some u) : Un fs ex H (upd H x o) h h' := by
  have hx : ∀ b, H b = none → b ≠ x := fun b n z => by subst z; rw [n] at mu; exact mu
  have hb : ∀ b, H b = none → b ≠ e := fun b n z => by
    subst z
    rcases he with r | r
    · exact hx b n r
    · rw [n] at r; cases r
  have hm : ∀ b u, H b = some u → ¬ Mut (some u) → b ≠ x := fun b u q nm z => by subst z; rw [q] at mu; exact nm mu
  refine ⟨fun b u q n _ _ => k b u (hb b n) q, fun b u q n _ _ => ⟨u.slots, k b u (hb b n) q⟩, fun b u q n _ => by rw [upd_ne (hx b n)]; exact n, fun b u q _ => ?_,
    fun b xs q => by rw [upd_ne (hm b _ q fun z => z)]; exact q, fun b u xs q => by rw [upd_ne (hm b _ q fun z => z)]; exact q, fun b ps q => ⟨#[], by rw [upd_ne (hm b _ q fun z => z), q]; simp⟩⟩
  by_cases hbe : b = e
  · subst hbe; exact heo
  · exact ⟨u, k b u hbe q⟩
end

/-! ### the heap without what is tracked -/
noncomputable def trk (h : Heap) (H : Hp) : List Addr := (List.range h.objs.size).filter fun a => (H a).isSome
noncomputable def hidT (h : Heap) (H : Hp) : Heap := PySem.W.hideAll h (trk h H)
theorem hidT_size (h : Heap) (H : Hp) : (hidT h H).objs.size = h.objs.size := PySem.W.hideAll_size _ _
theorem hidT_get {h : Heap} {H : Hp} {b : Addr} {o : Obj} (e : h.get? b = some o) (n : H b = none) : (hidT h H).get? b = some o :=
  PySem.W.hideAll_get _ e fun hm => by
    have q : (H b).isSome = true := (List.mem_filter.mp hm).2
    rw [n] at q; simp at q
theorem of_hidT {h : Heap} {H : Hp} {b : Addr} {o : Obj} (e : (hidT h H).get? b = some o) : h.get? b = some o ∧ H b = none := by
  have e' : h.get? b = some o := PySem.W.of_hideAll (trk h H) e
  refine ⟨e', ?_⟩
  cases q : H b with
  | none => rfl
  | some x =>
    have hm : b ∈ trk h H := List.mem_filter.mpr ⟨List.mem_range.mpr (Heap.lt_size e'), by simp [q]⟩
    have z : (hidT h H).get? b = none := PySem.W.hideAll_none (trk h H) hm
    rw [z] at e; cases e

/-! ### OpenK's ledger, filled with every new object but one -/
end L2

namespace L2
open PySem PySem.Spec PyProof.Rows

/-- the module's facts, over the base: the heap at the law's entry without what is tracked there -/
structure Mod (K : PySem.W.Frag) (mg : Str → Option Value) (base : Heap) : Prop where
  kin : K.In base
  glob : base.Ns mainGlobals mg
  blt : ∃ mb, base.Ns builtinsNs mb ∧ ∀ x : Str, x ≠ "__name__" → mb x = bootBuiltins x
  nolimit : base.NoLimit

/-- the context: a def's body (or a comprehension's block) running. base: fixed through the whole law; s₀, H₀: the entry; outer: the frames whose slots others may change (a def's callers); stack: all frames that run;
   ex: iterators that were made ahead of the entry and are walked here (a comprehension's); fn: the names whose cells were made at the entry (a def: all; a comprehension's block: its own); calm: not within an except suite; pn: pins that every state bears; xe: what is wanted of an exception that leaves the code -/
structure Cx where
  prog : Program
  w : World
  K : PySem.W.Frag
  mg : Str → Option Value
  base : Heap
  A : Around
  N : List Str
  s₀ : Shared
  H₀ : Hp
  env : Env
  outer : List Env
  stack : List Env
  ex : List Addr
  fn : Str → Bool
  calm : Bool
  pn : List (Addr × Obj)
  xe : Value → Shared → Prop
/-- the callers' frames -/
noncomputable def frs (l : List Env) : List Addr := l.filterMap (·.frame)
noncomputable abbrev Cx.fs (X : Cx) : List Addr := frs X.outer

noncomputable def Vis (sc : Scope) (x : Str) : Prop := sc.names.lookup x = some .local ∨ sc.names.lookup x = some .cell ∨ sc.names.lookup x = some .free
noncomputable def Loc (sc : Scope) (x : Str) : Prop := sc.names.lookup x = some .local ∨ sc.names.lookup x = some .cell
noncomputable def Look (env : Env) (h : Heap) (m : Str → Option Value) (x : Str) (u : Value) : Prop :=
  (env.kindOf x = some .local ∧ m x = some u) ∨ ((env.kindOf x = some .cell ∨ env.kindOf x = some .free) ∧ ∃ c, env.cells.lookup x = some c ∧ h.IsCell c (some u))

structure Cx.Ok (X : Cx) : Prop where
  mod : Mod X.K X.mg X.base
  kind : X.env.scope.kind = .function
  glob : X.env.globals = mainGlobals
  blt : X.env.builtins = builtinsNs
  above : X.s₀.heap.objs.size ≤ X.env.locals
  inj : ∀ x y c, X.env.cells.lookup x = some c → X.env.cells.lookup y = some c → x = y
  has : ∀ x, (X.env.kindOf x = some .cell ∨ X.env.kindOf x = some .free) → ∃ c, X.env.cells.lookup x = some c
  cab : ∀ x c, X.fn x = true → X.env.cells.lookup x = some c → X.s₀.heap.objs.size ≤ c
  hd : X.calm = true → X.A.handled = none
  frames : X.A.frames = some X.stack
  stk : X.stack = X.outer ∨ (X.stack = X.env :: X.outer ∧ X.env.frame = some X.env.locals)
  exf : ∀ b ∈ X.ex, b ≠ X.env.locals ∧ ∀ x c, X.env.cells.lookup x = some c → c ≠ b
  bs : ∀ b o, X.base.get? b = some o → X.s₀.heap.get? b = some o ∧ X.H₀ b = none
  bsz : X.base.objs.size ≤ X.s₀.heap.objs.size
  noex : ∀ b o, X.base.get? b = some o → b ∉ X.ex
  exfs : ∀ b ∈ X.ex, b ∉ X.fs
  funs : X.s₀.heap.FunFrames X.base X.outer
  frf : ∀ b ∈ X.fs, X.H₀ b = none

structure Inv (X : Cx) (pins : List (Addr × Obj)) (σ : List (Option V)) (H : Hp) (s : Shared) : Prop where
  ok : X.Ok
  os : s.os = X.s₀.os
  bare : AllBare s.gens
  base : Un X.fs X.ex X.H₀ H X.s₀.heap s.heap
  loc : ∃ m, s.heap.Ns X.env.locals m ∧ ∀ (i : Nat) (x : Str) (v : V), X.N[i]? = some x → σ[i]? = some (some v) → Vis X.env.scope x → ∃ u, RelV v u ∧ Look X.env s.heap m x u
  cell : ∀ x c, X.env.cells.lookup x = some c → ∃ v, s.heap.IsCell c v
  free : H X.env.locals = none
  freeC : ∀ x c, X.env.cells.lookup x = some c → H c = none
  pin : ∀ p ∈ X.pn ++ pins, s.heap.get? p.1 = some p.2 ∧ H p.1 = none ∧ p.1 ≠ X.env.locals ∧ p.1 ∉ X.fs ∧ ∀ v, p.2.data ≠ .cell v
  hok : HOk X.prog X.w H s.heap
  len : σ.length = X.N.length

section
variable {X : Cx} {pins : List (Addr × Obj)} {σ : List (Option V)} {H H' : Hp} {s : Shared} {h' : Heap}

theorem Cx.Ok.nofr (ok : X.Ok) {b : Addr} {o : Obj} (e : X.base.get? b = some o) : b ∉ X.fs := fun hb => by
  have := (ok.funs.mem hb).1
  rw [e] at this; cases this
theorem Inv.bs (I : Inv X pins σ H s) : ∀ b o, X.base.get? b = some o → s.heap.get? b = some o ∧ H b = none := fun b o e =>
  ⟨I.base.keep b o (I.ok.bs b o e).1 (I.ok.bs b o e).2 (I.ok.nofr e) (I.ok.noex b o e), I.base.free b o (I.ok.bs b o e).1 (I.ok.bs b o e).2 (I.ok.noex b o e)⟩
theorem Inv.bk (I : Inv X pins σ H s) : ∀ b o, X.base.get? b = some o → s.heap.get? b = some o := fun b o e => (I.bs b o e).1
theorem Inv.mod (I : Inv X pins σ H s) : Mod X.K X.mg X.base := I.ok.mod
theorem Inv.kIn (I : Inv X pins σ H s) : X.K.In s.heap := I.ok.mod.kin.keeps I.bk
theorem Inv.lt (I : Inv X pins σ H s) : X.env.locals < s.heap.objs.size := let ⟨_, hn, _⟩ := I.loc; hn.lt
theorem Inv.sz (I : Inv X pins σ H s) : X.s₀.heap.objs.size ≤ s.heap.objs.size := Nat.le_trans I.ok.above (Nat.le_of_lt I.lt)
theorem Inv.nofs (I : Inv X pins σ H s) {a : Addr} (h : s.heap.objs.size ≤ a) : a ∉ X.fs := fun hb => by
  obtain ⟨_, o, ho, _⟩ := I.ok.funs.mem hb
  exact absurd (Nat.lt_of_lt_of_le (Heap.lt_size ho) (Nat.le_trans I.sz h)) (Nat.lt_irrefl _)
theorem Inv.cne (I : Inv X pins σ H s) : ∀ x c, X.env.cells.lookup x = some c → c ≠ X.env.locals := fun x c e z => by
  obtain ⟨v, o, ho, hd⟩ := I.cell x c e
  obtain ⟨m, ⟨o', es, ep, ho', hd', _⟩, _⟩ := I.loc
  rw [z, ho'] at ho; cases ho; rw [hd'] at hd; cases hd
theorem Inv.funs (I : Inv X pins σ H s) : s.heap.FunFrames X.base X.outer := by
  have all : ∀ (l : List Env), (∀ b ∈ frs l, b ∈ X.fs) → X.s₀.heap.FunFrames X.base l → s.heap.FunFrames X.base l := by
    intro l
    induction l with
    | nil => intro _ _; trivial
    | cons env r ih =>
      intro hs hl
      obtain ⟨hk, ⟨L, o, hf, hn, ho, hd⟩, hr⟩ := hl
      have hL : L ∈ X.fs := hs L (by unfold frs; rw [List.filterMap_cons, hf]; exact List.mem_cons_self)
      obtain ⟨sl, e⟩ := I.base.slot L o ho (I.ok.frf L hL) hL fun z => I.ok.exfs L z hL
      exact ⟨hk, ⟨L, _, hf, hn, e, hd⟩, ih (fun b hb => hs b (by unfold frs; rw [List.filterMap_cons, hf]; exact List.mem_cons_of_mem _ hb)) hr⟩
  exact all X.outer (fun _ hb => hb) I.ok.funs

/-- the frames that run, for a call -/
theorem Inv.stack (I : Inv X pins σ H s) : s.heap.FunFrames X.base X.stack := by
  rcases I.ok.stk with e | ⟨e, hf⟩
  · rw [e]; exact I.funs
  · rw [e]
    obtain ⟨m, hn, _⟩ := I.loc
    refine .cons (by rw [I.ok.kind]; decide) hf hn ?_ I.funs
    exact Heap.get?_none_of_le (Nat.le_trans I.ok.bsz I.ok.above)
theorem Inv.stkSub (I : Inv X pins σ H s) : ∀ b ∈ frs X.stack, b ∈ X.env.locals :: X.fs := fun b hb => by
  rcases I.ok.stk with e | ⟨e, hf⟩
  · rw [e] at hb; exact List.mem_cons_of_mem _ hb
  · rw [e] at hb
    unfold frs at hb
    rw [List.filterMap_cons, hf] at hb
    exact hb
theorem Inv.stkFree (I : Inv X pins σ H s) : ∀ b ∈ frs X.stack, H b = none := fun b hb => by
  rcases List.mem_cons.mp (I.stkSub b hb) with e | hb
  · rw [e]; exact I.free
  · obtain ⟨_, o, ho, _⟩ := I.ok.funs.mem hb
    exact I.base.free b o ho (I.ok.frf b hb) fun z => I.ok.exfs b z hb

/-- THE STEP: the untracked objects but the frame and the records at ch are kept (the callers' frames up to slots), the frame's map is kept, the new abstract heap is held -/
theorem Inv.step {g' : Array GenState} {t' : Nat} {d' : Drawn} {ch : List Addr} (I : Inv X pins σ H s)
    (hch : ∀ b ∈ ch, (b ∈ X.ex ∨ X.s₀.heap.objs.size ≤ b) ∧ b ≠ X.env.locals ∧ (∀ x c, X.env.cells.lookup x = some c → c ≠ b) ∧ ∀ p ∈ X.pn ++ pins, p.1 ≠ b)
    (keep : ∀ b o, b ≠ X.env.locals → b ∉ X.fs → b ∉ ch → s.heap.get? b = some o → H b = none → h'.get? b = some o)
    (slot : ∀ b o, b ≠ X.env.locals → b ∈ X.fs → b ∉ ch → s.heap.get? b = some o → H b = none → ∃ sl, h'.get? b = some { o with slots := sl }) (free : ∀ b o, b ∉ ch → s.heap.get? b = some o → H b = none → H' b = none)
    (there : ∀ b o, b ∉ ch → s.heap.get? b = some o → ∃ o', h'.get? b = some o')
    (tups : ∀ b xs, H b = some (.tup xs) → H' b = some (.tup xs)) (frzs : ∀ b o u, H b = some (.frz o u) → H' b = some (.frz o u)) (tbls : ∀ b ps, H b = some (.tbl ps) → ∃ more, H' b = some (.tbl (ps ++ more)))
    (ns : ∀ m, s.heap.Ns X.env.locals m → h'.Ns X.env.locals m) (hok : HOk X.prog X.w H' h') (hg : AllBare g') :
    Inv X pins σ H' { s with heap := h', gens := g', drawn := d', toks := t' } := by
  have neL : ∀ b o, X.s₀.heap.get? b = some o → b ≠ X.env.locals := fun b o e => Nat.ne_of_lt (Nat.lt_of_lt_of_le (Heap.lt_size e) I.ok.above)
  have neC : ∀ b o, X.s₀.heap.get? b = some o → b ∉ X.ex → b ∉ ch := fun b o e hx hb => by
    rcases (hch b hb).1 with z | z
    · exact hx z
    · exact absurd (Nat.lt_of_lt_of_le (Heap.lt_size e) z) (Nat.lt_irrefl _)
  have cellK : ∀ x c, X.env.cells.lookup x = some c → ∀ v, s.heap.IsCell c v → h'.IsCell c v := fun x c e v ⟨o, ho, hd⟩ => by
    have nch : c ∉ ch := fun z => (hch c z).2.2.1 x c e rfl
    by_cases hc : c ∈ X.fs
    · obtain ⟨sl, q⟩ := slot c o (I.cne x c e) hc nch ho (I.freeC x c e)
      exact ⟨_, q, hd⟩
    · exact ⟨o, keep c o (I.cne x c e) hc nch ho (I.freeC x c e), hd⟩
  refine ⟨I.ok, I.os, hg, ⟨fun b o e n hb hx => ?_, fun b o e n hb hx => ?_, fun b o e n hx => ?_, fun b o e hx => ?_, fun b xs e => tups b xs (I.base.tups b xs e), fun b o xs e => frzs b o xs (I.base.frzs b o xs e), fun b ps e => ?_⟩, ?_, fun x c e => ?_, ?_, fun x c e => ?_, fun p hp => ?_, hok, I.len⟩
  · exact keep b o (neL b o e) hb (neC b o e hx) (I.base.keep b o e n hb hx) (I.base.free b o e n hx)
  · obtain ⟨sl, e1⟩ := I.base.slot b o e n hb hx
    obtain ⟨sl', e2⟩ := slot b _ (neL b o e) hb (neC b o e hx) e1 (I.base.free b o e n hx)
    exact ⟨sl', e2⟩
  · obtain ⟨o', e1⟩ := I.base.there b o e hx
    exact free b o' (neC b o e hx) e1 (I.base.free b o e n hx)
  · obtain ⟨o', e1⟩ := I.base.there b o e hx
    exact there b o' (neC b o e hx) e1
  · obtain ⟨m1, e1⟩ := I.base.tbls b ps e
    obtain ⟨m2, e2⟩ := tbls b _ e1
    exact ⟨m1 ++ m2, by rw [e2, Array.append_assoc]⟩
  · obtain ⟨m, hn, hl⟩ := I.loc
    refine ⟨m, ns m hn, fun i x v e1 e2 e3 => ?_⟩
    obtain ⟨u, r, l⟩ := hl i x v e1 e2 e3
    refine ⟨u, r, ?_⟩
    rcases l with l | ⟨k, c, e, z⟩
    · exact .inl l
    · exact .inr ⟨k, c, e, cellK x c e _ z⟩
  · obtain ⟨v, z⟩ := I.cell x c e
    exact ⟨v, cellK x c e v z⟩
  · obtain ⟨m, ⟨o, _, _, ho, _⟩, _⟩ := I.loc
    exact free _ o (fun z => (hch _ z).2.1 rfl) ho I.free
  · obtain ⟨v, o, ho, hd⟩ := I.cell x c e
    exact free c o (fun z => (hch c z).2.2.1 x c e rfl) ho (I.freeC x c e)
  · obtain ⟨e, n, ne, nf, d⟩ := I.pin p hp
    have nch : p.1 ∉ ch := fun z => (hch p.1 z).2.2.2 p hp rfl
    exact ⟨keep p.1 p.2 ne nf nch e n, free p.1 p.2 nch e n, ne, nf, d⟩
/-- .. where the frame's own object is kept too -/
theorem Inv.un {t' : Nat} (I : Inv X pins σ H s) (u : Un X.fs [] H H' s.heap h') (hok : HOk X.prog X.w H' h') : Inv X pins σ H' { s with heap := h', toks := t' } := by
  obtain ⟨m, ⟨o, es, ep, ho, r⟩, _⟩ := id I.loc
  obtain ⟨sl, hL⟩ := u.any ho I.free (by simp)
  exact I.step (g' := s.gens) (d' := s.drawn) (ch := []) (fun _ z => nomatch z) (fun b o _ hb _ e n => u.keep b o e n hb (by simp)) (fun b o _ hb _ e n => u.slot b o e n hb (by simp)) (fun b o _ e n => u.free b o e n (by simp)) (fun b o _ e => u.there b o e (by simp)) u.tups u.frzs u.tbls (fun m' hm => by
    obtain ⟨o', es', ep', ho', r'⟩ := hm
    rw [ho] at ho'; cases ho'
    exact ⟨_, es', ep', hL, r'⟩) hok I.bare
/-- behind a call (or a comprehension's block): the slots of this frame may have changed too, the records at ch may have turned -/
theorem Inv.call {g' : Array GenState} {t' : Nat} {d' : Drawn} {ch : List Addr} (I : Inv X pins σ H s) (u : Un (frs X.stack) ch H H' s.heap h') (hok : HOk X.prog X.w H' h') (hg : AllBare g')
    (hch : ∀ b ∈ ch, (b ∈ X.ex ∨ X.s₀.heap.objs.size ≤ b) ∧ b ≠ X.env.locals ∧ (∀ x c, X.env.cells.lookup x = some c → c ≠ b) ∧ ∀ p ∈ X.pn ++ pins, p.1 ≠ b) :
    Inv X pins σ H' { s with heap := h', gens := g', drawn := d', toks := t' } := by
  obtain ⟨m, ⟨o, es, ep, ho, r⟩, _⟩ := id I.loc
  obtain ⟨sl, hL⟩ := u.any ho I.free fun z => (hch _ z).2.1 rfl
  exact I.step (ch := ch) hch (fun b o hL hb hc e n => u.keep b o e n (fun z => (List.mem_cons.mp (I.stkSub b z)).elim hL hb) hc) (fun b o _ _ hc e n => u.any e n hc) (fun b o hc e n => u.free b o e n hc) (fun b o hc e => u.there b o e hc) u.tups u.frzs u.tbls (fun m' hm => by
    obtain ⟨o', es', ep', ho', r'⟩ := hm
    rw [ho] at ho'; cases ho'
    exact ⟨_, es', ep', hL, r'⟩) hok hg
/-- an untracked record of ours (an iterator) has turned -/
theorem Inv.turned {t' : Nat} {it : Addr} (I : Inv X pins σ H s) (k : ∀ b o, b ≠ it → s.heap.get? b = some o → h'.get? b = some o) (hn : H it = none) (hL : it ≠ X.env.locals)
    (h1 : it ∈ X.ex ∨ X.s₀.heap.objs.size ≤ it) (h2 : ∀ x c, X.env.cells.lookup x = some c → c ≠ it) (h3 : ∀ p ∈ X.pn ++ pins, p.1 ≠ it) : Inv X pins σ H { s with heap := h', toks := t' } := by
  have nit : ∀ b u, H b = some u → b ≠ it := fun b u e z => by rw [z, hn] at e; cases e
  refine I.step (g' := s.gens) (d' := s.drawn) (ch := [it]) (fun b hb => ?_) (fun b o _ _ hc e _ => k b o (fun z => hc (by simp [z])) e) (fun b o _ _ hc e _ => ⟨o.slots, k b o (fun z => hc (by simp [z])) e⟩) (fun _ _ _ _ n => n)
    (fun b o hc e => ⟨o, k b o (fun z => hc (by simp [z])) e⟩) (fun _ _ e => e) (fun _ _ _ e => e) (fun b ps e => ⟨#[], by rw [e]; simp⟩) (fun m hm => ?_) (fun b u e => ?_) I.bare
  · have e : b = it := by simpa using hb
    subst e
    exact ⟨h1, hL, h2, h3⟩
  · obtain ⟨o, es, ep, ho, r⟩ := hm
    exact ⟨o, es, ep, k _ o (Ne.symm hL) ho, r⟩
  · refine (I.hok b u e).stay (fun c v hc q => k c v ?_ q) (fun _ q => q) fun _ _ q => q
    rcases hc with z | z
    · rw [z]; exact nit b u e
    · exact nit c _ z
theorem Inv.tok (I : Inv X pins σ H s) (t : Nat) : Inv X pins σ H { s with toks := t } := I.un (h' := s.heap) (t' := t) Un.refl I.hok
/-- all objects kept -/
theorem Inv.kept {t' : Nat} (I : Inv X pins σ H s) (k : ∀ b u, s.heap.get? b = some u → h'.get? b = some u) : Inv X pins σ H { s with heap := h', toks := t' } := I.un (Un.kept k) (I.hok.kept k)
/-- a new object laid and tracked -/
theorem Inv.laid {a : Addr} {o : HO} {t' : Nat} (I : Inv X pins σ H s) (k : ∀ b u, s.heap.get? b = some u → h'.get? b = some u) (hp : s.heap.objs.size ≤ a) (new : ObjOk X.prog X.w (upd H a o) h' a o) :
    Inv X pins σ (upd H a o) { s with heap := h', toks := t' } := I.un (Un.laid k hp (I.hok.fresh hp)) (I.hok.laid k hp new)
/-- an object written -/
theorem Inv.write {x e : Addr} {o : HO} {t' : Nat} (I : Inv X pins σ H s) (mu : Mut (H x)) (he : e = x ∨ H e = some (.own x)) (k : ∀ b u, b ≠ e → s.heap.get? b = some u → h'.get? b = some u) (heo : ∃ u, h'.get? e = some u)
    (new : ObjOk X.prog X.w (upd H x o) h' x o) : Inv X pins σ (upd H x o) { s with heap := h', toks := t' } := I.un (Un.write mu he k heo) (I.hok.write mu he k heo new)
/-- forgetting slots, pins -/
theorem Inv.weak {σ' : List (Option V)} (I : Inv X pins σ H s) (hl : σ'.length = σ.length) (w : ∀ (i : Nat) v, σ'[i]? = some (some v) → σ[i]? = some (some v)) : Inv X pins σ' H s :=
  ⟨I.ok, I.os, I.bare, I.base, let ⟨m, hn, hl'⟩ := I.loc; ⟨m, hn, fun i x v e1 e2 e3 => hl' i x v e1 (w i v e2) e3⟩, I.cell, I.free, I.freeC, I.pin, I.hok, hl.trans I.len⟩
theorem Inv.pins_of {pins' : List (Addr × Obj)} (I : Inv X pins σ H s) (h : ∀ p ∈ pins', s.heap.get? p.1 = some p.2 ∧ H p.1 = none ∧ p.1 ≠ X.env.locals ∧ p.1 ∉ X.fs ∧ ∀ v, p.2.data ≠ .cell v) : Inv X pins' σ H s :=
  ⟨I.ok, I.os, I.bare, I.base, I.loc, I.cell, I.free, I.freeC, fun p hp => (List.mem_append.mp hp).elim (fun z => I.pin p (List.mem_append_left _ z)) (h p), I.hok, I.len⟩

theorem nodup_ix {N : List Str} (hN : N.Nodup) {i j : Nat} {x : Str} (a : N[i]? = some x) (b : N[j]? = some x) : i = j := by
  obtain ⟨h1, e1⟩ := List.getElem?_eq_some_iff.mp a
  obtain ⟨h2, e2⟩ := List.getElem?_eq_some_iff.mp b
  exact (List.getElem_inj hN).mp (e1.trans e2.symm)

/-- a name is stored; what changed -/
theorem store_ok2 {M : Model} {A : Around} {E : Value → Shared → Prop} {i : Nat} {x : Str} {v : V} {u : Value} {Q : Unit → Shared → Prop} (I : Inv X pins σ H s) (hN : X.N.Nodup) (hi : X.N[i]? = some x) (hx : Loc X.env.scope x) (r : RelV v u)
    (h : ∀ s', Inv X pins (σ.set i (some v)) H s' → (∃ a, Heap.SameBut a s.heap s'.heap ∧ (a = X.env.locals ∨ X.env.cells.lookup x = some a)) → Q () s') (hf : X.fn x = true ∨ X.env.scope.names.lookup x = some .local := by first | exact .inl rfl | exact .inr rfl | assumption) : wpAny M A (storeName X.env x u) Q E s := by
  obtain ⟨m, hn, hl⟩ := id I.loc
  have hcls : (X.env.scope.kind == .class || (X.env.scope.kind == .module && X.env.locals != X.env.globals)) = false := by rw [I.ok.kind]; rfl
  have hiσ : i < σ.length := by rw [I.len]; exact (List.getElem?_eq_some_iff.mp hi).1
  have cne := I.cne
  have tracked : ∀ {a : Addr} {h' : Heap}, (∃ o, s.heap.get? a = some o ∧ H a = none) → Heap.SameBut a s.heap h' → HOk X.prog X.w H h' := fun {a h'} ha hs b ob e => by
    obtain ⟨_, _, hfree⟩ := ha
    refine (I.hok b ob e).stay (fun c w' hc q => (hs.2 c ?_).trans q) (fun _ q => q) fun _ _ q => q
    rintro rfl
    rcases hc with rfl | hc
    · rw [hfree] at e; cases e
    · rw [hfree] at hc; cases hc
  rcases hx with hk | hk
  · refine wpAny_storeName_local hk hn (fun h' hn' hs => ?_) hcls
    obtain ⟨oL, _, _, hoL, _⟩ := id hn
    refine h _ ⟨I.ok, I.os, I.bare, ⟨fun b o e n hb hx => ?_, fun b o e n hb hx => ?_, I.base.free, fun b o e hx => ?_, I.base.tups, I.base.frzs, I.base.tbls⟩, ⟨_, hn', fun j y v' e1 e2 e3 => ?_⟩, fun y c e => ?_, I.free, I.freeC, fun p hp => ?_, tracked ⟨oL, hoL, I.free⟩ hs, by simpa using I.len⟩ ⟨_, hs, .inl rfl⟩
    · exact (hs.2 b (Nat.ne_of_lt (Nat.lt_of_lt_of_le (Heap.lt_size e) I.ok.above))).trans (I.base.keep b o e n hb hx)
    · obtain ⟨sl, e1⟩ := I.base.slot b o e n hb hx
      exact ⟨sl, (hs.2 b (Nat.ne_of_lt (Nat.lt_of_lt_of_le (Heap.lt_size e) I.ok.above))).trans e1⟩
    · obtain ⟨o', e1⟩ := I.base.there b o e hx
      exact ⟨o', (hs.2 b (Nat.ne_of_lt (Nat.lt_of_lt_of_le (Heap.lt_size e) I.ok.above))).trans e1⟩
    · by_cases hj : j = i
      · subst hj
        rw [hi] at e1; cases e1
        rw [List.getElem?_set_self hiσ] at e2
        cases e2
        exact ⟨u, r, .inl ⟨hk, by simp⟩⟩
      · rw [List.getElem?_set_ne (Ne.symm hj)] at e2
        obtain ⟨u', r', q⟩ := hl j y v' e1 e2 e3
        refine ⟨u', r', ?_⟩
        rcases q with ⟨k, e⟩ | ⟨k, c, e, z⟩
        · refine .inl ⟨k, ?_⟩
          have : y ≠ x := fun e => hj (nodup_ix hN e1 (e ▸ hi))
          simp [this, e]
        · exact .inr ⟨k, c, e, z.sameBut hs (cne y c e)⟩
    · obtain ⟨w', z⟩ := I.cell y c e
      exact ⟨w', z.sameBut hs (cne y c e)⟩
    · obtain ⟨e, n, ne, nf, d⟩ := I.pin p hp
      exact ⟨(hs.2 p.1 ne).trans e, n, ne, nf, d⟩
  · have hfn : X.fn x = true := by
      rcases hf with z | z
      · exact z
      · rw [z] at hk; cases hk
    obtain ⟨c, hc⟩ := I.ok.has x (.inl hk)
    obtain ⟨w', z⟩ := I.cell x c hc
    refine wpAny_storeName_cell I.ok.kind hk hc z (fun h' hc' hs => ?_)
    obtain ⟨oc, hoc, hocd⟩ := id z
    refine h { s with heap := h' } ⟨I.ok, I.os, I.bare, ⟨fun b o e n hb hx => ?_, fun b o e n hb hx => ?_, I.base.free, fun b o e hx => ?_, I.base.tups, I.base.frzs, I.base.tbls⟩, ⟨m, hn.sameBut hs (Ne.symm (cne x c hc)), fun j y v' e1 e2 e3 => ?_⟩, fun y c' e => ?_, I.free, I.freeC, fun p hp => ?_, tracked ⟨oc, hoc, I.freeC x c hc⟩ hs, by simpa using I.len⟩ ⟨c, hs, .inr hc⟩
    · exact (hs.2 b (Nat.ne_of_lt (Nat.lt_of_lt_of_le (Heap.lt_size e) (I.ok.cab x c hfn hc)))).trans (I.base.keep b o e n hb hx)
    · obtain ⟨sl, e1⟩ := I.base.slot b o e n hb hx
      exact ⟨sl, (hs.2 b (Nat.ne_of_lt (Nat.lt_of_lt_of_le (Heap.lt_size e) (I.ok.cab x c hfn hc)))).trans e1⟩
    · obtain ⟨o', e1⟩ := I.base.there b o e hx
      exact ⟨o', (hs.2 b (Nat.ne_of_lt (Nat.lt_of_lt_of_le (Heap.lt_size e) (I.ok.cab x c hfn hc)))).trans e1⟩
    · by_cases hj : j = i
      · subst hj
        rw [hi] at e1; cases e1
        rw [List.getElem?_set_self hiσ] at e2
        cases e2
        exact ⟨u, r, .inr ⟨.inl hk, c, hc, hc'⟩⟩
      · rw [List.getElem?_set_ne (Ne.symm hj)] at e2
        obtain ⟨u', r', q⟩ := hl j y v' e1 e2 e3
        refine ⟨u', r', ?_⟩
        rcases q with q | ⟨k, c', e, z'⟩
        · exact .inl q
        · refine .inr ⟨k, c', e, z'.sameBut hs ?_⟩
          rintro rfl
          exact hj (nodup_ix hN e1 (I.ok.inj _ _ _ e hc ▸ hi))
    · by_cases hcc : c' = c
      · subst hcc; exact ⟨_, hc'⟩
      · obtain ⟨w2, z2⟩ := I.cell y c' e
        exact ⟨w2, z2.sameBut hs hcc⟩
    · obtain ⟨e, n, ne, nf, d⟩ := I.pin p hp
      refine ⟨(hs.2 p.1 ?_).trans e, n, ne, nf, d⟩
      intro q
      rw [q, hoc] at e
      have q' : oc = p.2 := Option.some.inj e
      exact d w' (by rw [← q']; exact hocd)
theorem store_ok {M : Model} {A : Around} {E : Value → Shared → Prop} {i : Nat} {x : Str} {v : V} {u : Value} {Q : Unit → Shared → Prop} (I : Inv X pins σ H s) (hN : X.N.Nodup) (hi : X.N[i]? = some x) (hx : Loc X.env.scope x) (r : RelV v u)
    (h : ∀ s', Inv X pins (σ.set i (some v)) H s' → Q () s') (hf : X.fn x = true ∨ X.env.scope.names.lookup x = some .local := by first | exact .inl rfl | exact .inr rfl | assumption) : wpAny M A (storeName X.env x u) Q E s :=
  store_ok2 I hN hi hx r (fun s' I' _ => h s' I') hf
/-- behind a call or a block, the state as it is -/
theorem Inv.call' {s' : Shared} {ch : List Addr} (I : Inv X pins σ H s) (ho : s'.os = s.os) (u : Un (frs X.stack) ch H H' s.heap s'.heap) (hok : HOk X.prog X.w H' s'.heap) (hg : AllBare s'.gens)
    (hch : ∀ b ∈ ch, (b ∈ X.ex ∨ X.s₀.heap.objs.size ≤ b) ∧ b ≠ X.env.locals ∧ (∀ x c, X.env.cells.lookup x = some c → c ≠ b) ∧ ∀ p ∈ X.pn ++ pins, p.1 ≠ b) : Inv X pins σ H' s' := by
  obtain ⟨h', g', d', t', o'⟩ := s'
  have e : o' = s.os := ho
  subst e
  exact I.call (g' := g') (t' := t') (d' := d') u hok hg hch
end

/-! ### the judgements -/
/-- an exception: its class, its own dict's address (where it has one), the abstract heap behind it -/
noncomputable abbrev XK := Value → Option Addr → Hp → Prop
noncomputable abbrev St := List (Option V)
noncomputable abbrev VK := V → Hp → Prop
/-- an expression's reading; a test's; an argument list's -/
noncomputable abbrev TE := St → Hp → VK → Prop
noncomputable abbrev TT := St → Hp → (Bool → Hp → Prop) → Prop
noncomputable abbrev TA := St → Hp → (List V → Hp → Prop) → Prop
/-- what is wanted behind a statement -/
structure Ends where
  nx : St → Hp → Prop
  rt : VK
  bk : St → Hp → Prop := fun _ _ => False
  ct : St → Hp → Prop := fun _ _ => False
noncomputable abbrev TS := Ends → St → Hp → Prop

noncomputable def EP (X : Cx) (pins : List (Addr × Obj)) (σ : St) (Q : VK) (u : Value) (s' : Shared) : Prop := ∃ v H', Inv X pins σ H' s' ∧ RelV v u ∧ Q v H'
noncomputable def TP (X : Cx) (pins : List (Addr × Obj)) (σ : St) (Q : Bool → Hp → Prop) (b : Bool) (s' : Shared) : Prop := ∃ H', Inv X pins σ H' s' ∧ Q b H'
noncomputable def AP (X : Cx) (pins : List (Addr × Obj)) (σ : St) (Q : List V → Hp → Prop) (us : List Value) (s' : Shared) : Prop := ∃ vs H', Inv X pins σ H' s' ∧ Vals vs us ∧ Q vs H'
noncomputable def SP (X : Cx) (pins : List (Addr × Obj)) (D : Ends) (f : Flow) (s' : Shared) : Prop :=
  match f with
  | .next => ∃ σ' H', Inv X pins σ' H' s' ∧ D.nx σ' H'
  | .brk => ∃ σ' H', Inv X pins σ' H' s' ∧ D.bk σ' H'
  | .cont => ∃ σ' H', Inv X pins σ' H' s' ∧ D.ct σ' H'
  | .ret u => ∃ v σ' H', Inv X pins σ' H' s' ∧ RelV v u ∧ D.rt v H'

noncomputable def PE (X : Cx) (e : Expr) (t : TE) : Prop :=
  ∀ (pins : List (Addr × Obj)) (s : Shared) (σ : St) (H : Hp) (Q : VK), Inv X pins σ H s → t σ H Q → wpAny (model X.prog X.w) X.A (eval e X.env) (EP X pins σ Q) X.xe s
noncomputable def PT (X : Cx) (e : Expr) (t : TT) : Prop :=
  ∀ (pins : List (Addr × Obj)) (s : Shared) (σ : St) (H : Hp) (Q : Bool → Hp → Prop), Inv X pins σ H s → t σ H Q → wpAny (model X.prog X.w) X.A (isTrue e X.env (eval e X.env)) (TP X pins σ Q) X.xe s
/-- a test whatever its 'whole' is (and, or) -/
noncomputable def PW (X : Cx) (e : Expr) (t : TT) : Prop :=
  ∀ (whole : Sem Value) (pins : List (Addr × Obj)) (s : Shared) (σ : St) (H : Hp) (Q : Bool → Hp → Prop), Inv X pins σ H s → t σ H Q → wpAny (model X.prog X.w) X.A (isTrue e X.env whole) (TP X pins σ Q) X.xe s
theorem PW.pt {X : Cx} {e : Expr} {t : TT} (h : PW X e t) : PT X e t := h _
/-- an argument list (no star), from the left -/
noncomputable def PA (X : Cx) (es : List Expr) (t : TA) : Prop :=
  ∀ (pos : Pos) (pins : List (Addr × Obj)) (s : Shared) (σ : St) (H : Hp) (Q : List V → Hp → Prop), Inv X pins σ H s → t σ H Q → wpAny (model X.prog X.w) X.A (spliced (backTo pos (starEach es X.env))) (AP X pins σ Q) X.xe s
noncomputable def PS (X : Cx) (st : Stmt) (t : TS) : Prop :=
  ∀ (pins : List (Addr × Obj)) (s : Shared) (σ : St) (H : Hp) (D : Ends), Inv X pins σ H s → t D σ H → wpAny (model X.prog X.w) X.A (exec st X.env) (SP X pins D) X.xe s
noncomputable def PSs (X : Cx) (st : List Stmt) (t : TS) : Prop :=
  ∀ (pins : List (Addr × Obj)) (s : Shared) (σ : St) (H : Hp) (D : Ends), Inv X pins σ H s → t D σ H → wpAny (model X.prog X.w) X.A (execs st X.env) (SP X pins D) X.xe s
/-- weaken the end -/
theorem thn {α : Type} {t : Sem α} {Q Q' : α → Shared → Prop} {M : Model} {A : Around} {E : Value → Shared → Prop} {s : Shared} (h : wpAny M A t Q E s) (hQ : ∀ a s, Q a s → Q' a s) : wpAny M A t Q' E s := wpAny_mono h hQ fun _ _ x => x
end L2

namespace L2
open PySem PySem.Spec PyProof.Rows
section
variable {X : Cx}

/-! ### names and constants -/
noncomputable def tVar (i : Nat) : TE := fun σ H Q => ∃ v, σ[i]? = some (some v) ∧ Q v H
noncomputable def tC (v : V) : TE := fun _ H Q => Q v H
theorem pe_var {i : Nat} {x : Str} {pos : Pos} (hN : X.N[i]? = some x) (hv : Vis X.env.scope x) (hd : (x == ("__debug__" : Str)) = false := by decide) (hcd : (x == ("__classdict__" : Str)) = false := by decide) : PE X (.Name x pos) (tVar i) := by
  intro pins s σ H Q I h
  obtain ⟨v, e, h⟩ := h
  obtain ⟨m, hn, hl⟩ := I.loc
  obtain ⟨u, r, l⟩ := hl i x v hN e hv
  have fin : EP X pins σ Q u s := ⟨v, H, I, r, h⟩
  rcases l with ⟨hk, hm⟩ | ⟨hk, c, hc, hcell⟩
  · exact wpAny_Name (wpAny_loadName_local I.ok.kind hk hn hm fin) hd
  · rcases hk with hk | hk
    · exact wpAny_Name (wpAny_loadName_cell I.ok.kind hk hc hcell fin) hd
    · exact wpAny_Name (wpAny_loadName_free I.ok.kind hk hc hcell fin hcd) hd
theorem pe_int {i j pos} : PE X (.Constant (.int i) j pos) (tC (.int i)) := fun _ _ _ H _ I h => wpAny_Constant_int ⟨.int i, H, I.tok _, ⟨_, rfl⟩, h⟩
theorem pe_bl {b j pos} : PE X (.Constant (.bool b) j pos) (tC (.bl b)) := fun _ _ _ H _ I h => Constant_bool ⟨.bl b, H, I, rfl, h⟩
theorem pe_non {j pos} : PE X (.Constant .none j pos) (tC .non) := fun _ _ _ H _ I h => Constant_none ⟨.non, H, I, rfl, h⟩
theorem pe_str {x j pos} : PE X (.Constant (.str x) j pos) (tC (.str x)) := fun _ _ _ H _ I h => Calls.Constant_str ⟨.str x, H, I.tok _, ⟨_, rfl⟩, h⟩

/-- a global name of the def -/
noncomputable def Gl (X : Cx) (x : Str) : Prop := X.env.kindOf x = some .globalImplicit
theorem ld_glob {E : Value → Shared → Prop} {pins : List (Addr × Obj)} {s : Shared} {σ : St} {H : Hp} {x : Str} {u : Value} {pos : Pos} {Q : Value → Shared → Prop} (I : Inv X pins σ H s) (hg : Gl X x) (hm : X.mg x = some u) (h : Q u s)
    (hd : (x == ("__debug__" : Str)) = false := by decide) : wpAny (model X.prog X.w) X.A (eval (.Name x pos) X.env) Q E s :=
  Calls.Name_function_global I.ok.kind hg (Calls.loadGlobal_global (by rw [I.ok.glob]; exact I.mod.glob.keeps I.bk) hm h) hd
theorem ld_blt {E : Value → Shared → Prop} {pins : List (Addr × Obj)} {s : Shared} {σ : St} {H : Hp} {x : Str} {u : Value} {pos : Pos} {Q : Value → Shared → Prop} (I : Inv X pins σ H s) (hg : Gl X x) (hm : X.mg x = none) (hv : bootBuiltins x = some u) (h : Q u s)
    (hn : x ≠ "__name__" := by decide) (hd : (x == ("__debug__" : Str)) = false := by decide) : wpAny (model X.prog X.w) X.A (eval (.Name x pos) X.env) Q E s := by
  obtain ⟨mb, h1, h2⟩ := I.mod.blt
  exact Calls.Name_function_global I.ok.kind hg (Calls.loadGlobal_builtin (by rw [I.ok.glob]; exact I.mod.glob.keeps I.bk) hm (by rw [I.ok.blt]; exact h1.keeps I.bk) ((h2 x hn).trans hv) h) hd
/-! ### arithmetic -/
variable {a b : Expr} {ta tb : TE} {pos : Pos}
/-! ### comparisons -/
noncomputable def PC (X : Cx) (op : CmpOp) (a b : Expr) (t : TE) : Prop :=
  ∀ (pins : List (Addr × Obj)) (s : Shared) (σ : St) (H : Hp) (Q : VK), Inv X pins σ H s → t σ H Q →
    wpAny (model X.prog X.w) X.A (eval a X.env) (fun v s₁ => wpAny (model X.prog X.w) X.A (eval b X.env) (fun u s₂ => wpAny (model X.prog X.w) X.A (compareOp op v u) (EP X pins σ Q) X.xe s₂) X.xe s₁) X.xe s
/-- a comparison as a value, as a test -/
noncomputable def tB (t : TE) : TT := fun σ H Q => t σ H fun x H1 => ∃ c, x = .bl c ∧ Q c H1
theorem pt_cmp {op : CmpOp} {t : TE} (h : PC X op a b t) (h1 : behindInMarks op b = false := by first | exact nobehind _ (by decide) (by decide) | rfl) : PT X (.Compare a [op] [b] pos) (tB t) := by
  intro pins s σ H Q I hw
  refine wpAny_isTrue_Compare1 (thn (h pins s σ H _ I hw) fun v s1 h1 => thn h1 fun u s2 h2 => thn h2 fun c s3 ⟨x, H1, I1, r1, q1⟩ => ?_) h1
  obtain ⟨d, rfl, q⟩ := q1
  cases r1
  exact wpAny_truthy_bool ⟨H1, I1, q⟩
/-- an expression whose value is a bool, as a test -/
theorem pt_val {e : Expr} {t : TE} (h : PE X e t) (he : ∀ whole, isTrue e X.env whole = (do let v ← whole; standAt e.pos; holding [v] (truthy v)) := by intro _; rfl) : PT X e (tB t) := by
  intro pins s σ H Q I hw
  refine isTrue_plain (thn (h pins s σ H _ I hw) fun v s1 ⟨x, H1, I1, r1, q1⟩ => ?_) (he _)
  obtain ⟨d, rfl, q⟩ := q1
  cases r1
  exact wpAny_truthy_bool ⟨H1, I1, q⟩

/-! ### and, or, not -/
variable {tA tB' : TT} {rest : List Expr}
noncomputable def tAnd (t u : TT) : TT := fun σ H Q => t σ H fun c H1 => if c = true then u σ H1 Q else Q false H1
noncomputable def tOr (t u : TT) : TT := fun σ H Q => t σ H fun c H1 => if c = true then Q true H1 else u σ H1 Q
noncomputable def tNot (t : TT) : TT := fun σ H Q => t σ H fun c H1 => Q (!c) H1
theorem pw_and1 (ha : PT X a tA) : PW X (.BoolOp .And [a] pos) tA := by
  intro wh pins s σ H Q I h
  refine isTrue_and (thn (ha pins s σ H Q I h) fun c s1 e => ?_)
  cases c with
  | true => exact isTrue_and_nil e
  | false => exact e
theorem pw_or1 (ha : PT X a tA) : PW X (.BoolOp .Or [a] pos) tA := by
  intro wh pins s σ H Q I h
  refine isTrue_or (thn (ha pins s σ H Q I h) fun c s1 e => ?_)
  cases c with
  | false => exact isTrue_or_nil e
  | true => exact e
theorem pw_and (ha : PT X a tA) (hb : PW X (.BoolOp .And (b :: rest) pos) tB') : PW X (.BoolOp .And (a :: b :: rest) pos) (tAnd tA tB') := by
  intro wh pins s σ H Q I h
  refine isTrue_and (thn (ha pins s σ H _ I h) fun c s1 ⟨H1, I1, q1⟩ => ?_)
  cases c with
  | true => exact hb wh pins s1 σ H1 Q I1 q1
  | false => exact ⟨H1, I1, q1⟩
theorem pw_or (ha : PT X a tA) (hb : PW X (.BoolOp .Or (b :: rest) pos) tB') : PW X (.BoolOp .Or (a :: b :: rest) pos) (tOr tA tB') := by
  intro wh pins s σ H Q I h
  refine isTrue_or (thn (ha pins s σ H _ I h) fun c s1 ⟨H1, I1, q1⟩ => ?_)
  cases c with
  | true => exact ⟨H1, I1, q1⟩
  | false => exact hb wh pins s1 σ H1 Q I1 q1
theorem pt_not (ha : PT X a tA) : PT X (.UnaryOp .Not a pos) (tNot tA) := by
  intro pins s σ H Q I h
  exact isTrue_not (ha pins s σ H (fun c H1 => Q (!c) H1) I h)
/-- .. as values (bools) -/
noncomputable def tAndV (ta tb : TE) : TE := fun σ H Q => ta σ H fun x H1 => ∃ c, x = .bl c ∧ if c = true then tb σ H1 Q else Q (.bl false) H1
theorem pe_one {op} {t : TE} (h : PE X a t) : PE X (.BoolOp op [a] pos) t := fun pins s σ H Q I hw => BoolOp_one (h pins s σ H Q I hw)
theorem pe_and (ha : PE X a ta) (hb : PE X (.BoolOp .And (b :: rest) pos) tb) : PE X (.BoolOp .And (a :: b :: rest) pos) (tAndV ta tb) := by
  intro pins s σ H Q I h
  refine BoolOp_and (thn (ha pins s σ H _ I h) fun v s1 ⟨x, H1, I1, r1, q1⟩ => ?_)
  obtain ⟨c, rfl, q1⟩ := q1
  cases r1
  refine wpAny_truthy_bool ?_
  cases c with
  | true => exact hb pins s1 σ H1 Q I1 q1
  | false => exact ⟨.bl false, H1, I1, rfl, q1⟩
/-- a if t else b -/
noncomputable def tIf (t : TT) (ta tb : TE) : TE := fun σ H Q => t σ H fun c H1 => if c = true then ta σ H1 Q else tb σ H1 Q
theorem pe_ifExp {c : Expr} (hc : PT X c tA) (ha : PE X a ta) (hb : PE X b tb) : PE X (.IfExp c a b pos) (tIf tA ta tb) := by
  intro pins s σ H Q I h
  refine wpAny_IfExp (thn (hc pins s σ H _ I h) fun d s1 ⟨H1, I1, q1⟩ => ?_)
  cases d with
  | true => exact ha pins s1 σ H1 Q I1 q1
  | false => exact hb pins s1 σ H1 Q I1 q1
end
end L2

namespace L2
open PySem PySem.Spec PyProof.Rows

/-! ### a list, a tuple that is read: tracked, frozen, or an object of the module -/
noncomputable def SqL (K : PySem.W.Frag) (H : Hp) (a : Addr) (xs : List V) : Prop :=
  Rd H a (.lst xs) ∨
    ∃ (o : Obj) (its : Array Value) (n : Nat), K.lookup a = some o ∧ o.cls = .type "list" ∧ o.dict = none ∧ o.data = .seq its n ∧ its.size ≤ sizeLine ∧ Vals xs its.toList
noncomputable def SqT (K : PySem.W.Frag) (H : Hp) (a : Addr) (xs : List V) : Prop :=
  Rd H a (.tup xs) ∨
    ∃ (o : Obj) (its : Array Value) (n : Nat), K.lookup a = some o ∧ o.cls = .type "tuple" ∧ o.data = .seq its n ∧ its.size ≤ sizeLine ∧ Vals xs its.toList
noncomputable def absV : Value → Option V
  | .none => some .non
  | .bool b => some (.bl b)
  | .int i _ => some (.int i)
  | .str x _ => some (.str x)
  | .bytes b _ => some (.byt b)
  | .float b _ => some (.flt b)
  | .ref a => some (.ref a)
  | .type n => some (.ty n)
  | _ => none
theorem RelV.abs {x : V} {u : Value} (r : RelV x u) : absV u = some x := by
  cases x with
  | non => cases r; rfl
  | bl _ => cases r; rfl
  | int _ => obtain ⟨t, rfl⟩ := r; rfl
  | str _ => obtain ⟨t, rfl⟩ := r; rfl
  | byt _ => obtain ⟨t, rfl⟩ := r; rfl
  | flt _ => obtain ⟨t, rfl⟩ := r; rfl
  | ref _ => cases r; rfl
  | ty _ => cases r; rfl
theorem RelV.inj {x y : V} {u : Value} (r : RelV x u) (q : RelV y u) : x = y := Option.some.inj (r.abs.symm.trans q.abs)
theorem Vals.inj : ∀ {xs ys : List V} {us : List Value}, Vals xs us → Vals ys us → xs = ys
  | _, _, _, .nil, .nil => rfl
  | _, _, _, .cons r t, .cons r' t' => by rw [r.inj r', Vals.inj t t']
section
variable {X : Cx} {pins : List (Addr × Obj)} {σ : St} {H : Hp} {s : Shared} {a : Addr} {xs ys : List V}
theorem SqL.of {K : PySem.W.Frag} (h : H a = some (.lst xs)) : SqL K H a xs := .inl (.inl h)
theorem SqT.of {K : PySem.W.Frag} (h : H a = some (.tup xs)) : SqT K H a xs := .inl (.inl h)
theorem Inv.list (I : Inv X pins σ H s) (h : SqL X.K H a xs) : ∃ its : List Value, Vals xs its ∧ PlainL s.heap a its.toArray ∧ xs.length ≤ sizeLine := by
  rcases h with h | ⟨o, its, n, hk, hc, hd, hs, hz, r⟩
  · obtain ⟨z, its, n, r, e⟩ := h.ok I.hok
    exact ⟨its, r, ⟨_, n, e, rfl, rfl, rfl⟩, z⟩
  · refine ⟨its.toList, r, ⟨o, n, I.kIn a o hk, hc, hd, by simpa using hs⟩, ?_⟩
    have e := r.length
    simp only [Array.length_toList] at e
    omega
theorem Inv.tuple (I : Inv X pins σ H s) (h : SqT X.K H a xs) : ∃ its : List Value, Vals xs its ∧ IsTup s.heap a its.toArray ∧ xs.length ≤ sizeLine := by
  rcases h with h | ⟨o, its, n, hk, hc, hs, hz, r⟩
  · obtain ⟨z, its, r, p⟩ := h.ok I.hok
    exact ⟨its, r, p, z⟩
  · refine ⟨its.toList, r, ⟨o, I.kIn a o hk, hc, n, by simpa using hs⟩, ?_⟩
    have e := r.length
    simp only [Array.length_toList] at e
    omega
theorem Inv.list_inj (I : Inv X pins σ H s) (h : SqL X.K H a xs) (h' : SqL X.K H a ys) : xs = ys := by
  obtain ⟨its, r, ⟨o, n, e, _, _, d⟩, _⟩ := I.list h
  obtain ⟨its', r', ⟨o', n', e', _, _, d'⟩, _⟩ := I.list h'
  rw [e] at e'; cases e'
  rw [d] at d'
  injection d' with d1 _
  have : its = its' := by simpa using congrArg Array.toList d1
  subst this
  exact r.inj r'
end

/-! ### another wish about exceptions -/
noncomputable abbrev Cx.wish (X : Cx) (E : Value → Shared → Prop) : Cx := { X with xe := E }
/-- no exception leaves -/
noncomputable abbrev Cx.nox (X : Cx) : Cx := X.wish fun _ _ => False
theorem Cx.Ok.wish {X : Cx} (ok : X.Ok) (E : Value → Shared → Prop) : (X.wish E).Ok :=
  ⟨ok.mod, ok.kind, ok.glob, ok.blt, ok.above, ok.inj, ok.has, ok.cab, ok.hd, ok.frames, ok.stk, ok.exf, ok.bs, ok.bsz, ok.noex, ok.exfs, ok.funs, ok.frf⟩
theorem Cx.Ok.unwish {X : Cx} {E : Value → Shared → Prop} (ok : (X.wish E).Ok) : X.Ok :=
  ⟨ok.mod, ok.kind, ok.glob, ok.blt, ok.above, ok.inj, ok.has, ok.cab, ok.hd, ok.frames, ok.stk, ok.exf, ok.bs, ok.bsz, ok.noex, ok.exfs, ok.funs, ok.frf⟩
section
variable {X : Cx} {pins : List (Addr × Obj)} {σ : St} {H : Hp} {s : Shared} {E : Value → Shared → Prop}
theorem Inv.wish (I : Inv X pins σ H s) (E : Value → Shared → Prop) : Inv (X.wish E) pins σ H s := ⟨I.ok.wish E, I.os, I.bare, I.base, I.loc, I.cell, I.free, I.freeC, I.pin, I.hok, I.len⟩
theorem Inv.unwish (I : Inv (X.wish E) pins σ H s) : Inv X pins σ H s := ⟨I.ok.unwish, I.os, I.bare, I.base, I.loc, I.cell, I.free, I.freeC, I.pin, I.hok, I.len⟩
theorem SP.unwish {D : Ends} {f : Flow} {s' : Shared} (h : SP (X.wish E) pins D f s') : SP X pins D f s' := by
  cases f with
  | next => obtain ⟨σ', H', I, q⟩ := h; exact ⟨σ', H', I.unwish, q⟩
  | brk => obtain ⟨σ', H', I, q⟩ := h; exact ⟨σ', H', I.unwish, q⟩
  | cont => obtain ⟨σ', H', I, q⟩ := h; exact ⟨σ', H', I.unwish, q⟩
  | ret u => obtain ⟨v, σ', H', I, r, q⟩ := h; exact ⟨v, σ', H', I.unwish, r, q⟩
theorem PSs.nox {st : List Stmt} {t : TS} (h : PSs X.nox st t) : PSs X st t := fun pins s σ H D I hw =>
  wpAny_mono (h pins s σ H D (I.wish _) hw) (fun _ _ q => q.unwish) fun _ _ z => False.elim z
end

/-! ### blocks and small statements -/
section
variable {X : Cx} {st : Stmt} {rest : List Stmt} {t u : TS} {e : Expr} {te : TE} {pos : Pos}
noncomputable def tNext : TS := fun D σ H => D.nx σ H
noncomputable def tSeq (t u : TS) : TS := fun D σ H => t { D with nx := u D } σ H
theorem pss_nil : PSs X [] tNext := fun _ _ σ H _ I h => wpAny_execs_nil ⟨σ, H, I, h⟩
theorem pss_cons (h1 : PS X st t) (h2 : PSs X rest u) : PSs X (st :: rest) (tSeq t u) := by
  intro pins s σ H D I h
  refine wpAny_execs_cons (thn (h1 pins s σ H { D with nx := u D } I h) fun f s1 q => ?_)
  cases f with
  | next =>
    obtain ⟨σ', H', I', q⟩ := q
    exact h2 pins s1 σ' H' D I' q
  | ret v => exact q
  | brk => exact q
  | cont => exact q
theorem pss_one (h1 : PS X st t) : PSs X [st] t := by
  intro pins s σ H D I h
  refine wpAny_execs_cons (thn (h1 pins s σ H D I h) fun f s1 q => ?_)
  cases f with
  | next => exact wpAny_execs_nil q
  | ret v => exact q
  | brk => exact q
  | cont => exact q
/-- in a def's body nothing is shown -/
theorem Inv.quiet {pins : List (Addr × Obj)} {σ : St} {H : Hp} {s : Shared} (I : Inv X pins σ H s) : interactive X.env = false := by simp [interactive, I.ok.kind]
/-- an expression whose value is dropped -/
noncomputable def tDrop (te : TE) : TS := fun D σ H => te σ H fun _ H1 => D.nx σ H1
theorem ps_expr (he : PE X e te) (hs : swapsWith e none pos.line X.env = pure false := by rfl) : PS X (.Expr e pos) (tDrop te) := by
  intro pins s σ H D I h
  exact wpAny_Expr_any (thn (he pins s σ H _ I h) fun v s1 ⟨x, H1, I1, r1, q1⟩ => ⟨σ, H1, I1, q1⟩) I.quiet hs
noncomputable def tRet (te : TE) : TS := fun D σ H => te σ H D.rt
theorem ps_ret (he : PE X e te) : PS X (.Return (some e) pos) (tRet te) := by
  intro pins s σ H D I h
  exact wpAny_Return_some (thn (he pins s σ H _ I h) fun v s1 ⟨x, H1, I1, r1, q1⟩ => ⟨x, σ, H1, I1, r1, q1⟩)
noncomputable def tIfS (c : TT) (t u : TS) : TS := fun D σ H => c σ H fun b H1 => if b = true then t D σ H1 else u D σ H1
theorem ps_if {c : Expr} {a b : List Stmt} {tc : TT} (hc : PT X c tc) (ha : PSs X a t) (hb : PSs X b u) : PS X (.If c a b pos) (tIfS tc t u) := by
  intro pins s σ H D I h
  refine wpAny_If (thn (hc pins s σ H _ I h) fun d s1 ⟨H1, I1, q1⟩ => ?_)
  cases d with
  | true => exact ha pins s1 σ H1 D I1 q1
  | false => exact hb pins s1 σ H1 D I1 q1
end

/-! ### targets -/
noncomputable abbrev TG := V → St → Hp → (St → Hp → Prop) → Prop
noncomputable abbrev TGs := List V → St → Hp → (St → Hp → Prop) → Prop
noncomputable def PG (X : Cx) (target : Expr) (t : TG) : Prop :=
  ∀ (pins : List (Addr × Obj)) (s : Shared) (σ : St) (H : Hp) (v : V) (u : Value) (Q : St → Hp → Prop), Inv X pins σ H s → RelV v u → t v σ H Q →
    wpAny (model X.prog X.w) X.A (assign target X.env u) (fun _ s' => ∃ σ' H', Inv X pins σ' H' s' ∧ Q σ' H') X.xe s
/-- several targets, one after another -/
noncomputable def PGs (X : Cx) (ts : List Expr) (t : TGs) : Prop :=
  ∀ (pins : List (Addr × Obj)) (s : Shared) (σ : St) (H : Hp) (vs : List V) (us : List Value) (Q : St → Hp → Prop), Inv X pins σ H s → Vals vs us → t vs σ H Q →
    wpAny (model X.prog X.w) X.A (assignInOrder ((assignEach ts X.env).map (·.2)) us) (fun _ s' => ∃ σ' H', Inv X pins σ' H' s' ∧ Q σ' H') X.xe s
/-- o[i] = v, by values -/
noncomputable abbrev TSet := V → V → V → Hp → (Hp → Prop) → Prop
noncomputable def PSet (X : Cx) (t : TSet) : Prop :=
  ∀ (pins : List (Addr × Obj)) (s : Shared) (σ : St) (H : Hp) (o i v : V) (ov iv u : Value) (Q : Hp → Prop), Inv X pins σ H s → RelV o ov → RelV i iv → RelV v u → t o i v H Q →
    wpAny (model X.prog X.w) X.A (setItem ov iv u) (fun _ s' => ∃ H', Inv X pins σ H' s' ∧ Q H') X.xe s
section
variable {X : Cx} {pos : Pos}
noncomputable def gName (i : Nat) : TG := fun v σ H Q => Q (σ.set i (some v)) H
theorem pg_name {i : Nat} {x : Str} (hN : X.N.Nodup) (hi : X.N[i]? = some x) (hx : Loc X.env.scope x) (hf : X.fn x = true ∨ X.env.scope.names.lookup x = some .local := by first | exact .inl rfl | exact .inr rfl | assumption) : PG X (.Name x pos) (gName i) := by
  intro pins s σ H v u Q I r h
  exact wpAny_assign_Name (store_ok I hN hi hx r (fun s' I' => ⟨_, H, I', h⟩) hf)
noncomputable def gNil : TGs := fun vs σ H Q => vs = [] ∧ Q σ H
noncomputable def gCons (t : TG) (u : TGs) : TGs := fun vs σ H Q => ∃ v r, vs = v :: r ∧ t v σ H fun σ' H' => u r σ' H' Q
theorem pgs_nil : PGs X [] gNil := by
  intro pins s σ H vs us Q I r h
  obtain ⟨e, h⟩ := h
  subst e
  cases r
  exact assignInOrder_nil ⟨σ, H, I, h⟩
theorem pgs_cons {e : Expr} {es : List Expr} {t : TG} {u : TGs} (h1 : PG X e t) (h2 : PGs X es u)
    (hs : (assignEach (e :: es) X.env).map (·.2) = assign e X.env :: (assignEach es X.env).map (·.2) := by rfl) : PGs X (e :: es) (gCons t u) := by
  intro pins s σ H vs us Q I r h
  obtain ⟨v, vr, e1, h⟩ := h
  subst e1
  cases r with
  | cons r rr =>
    rw [hs]
    refine assignInOrder_cons (thn (h1 pins s σ H _ _ _ I r h) fun _ s1 ⟨σ1, H1, I1, q1⟩ => ?_)
    exact h2 pins s1 σ1 H1 _ _ Q I1 rr q1
/-- (a, b, ..) = a tuple of that length -/
noncomputable def gTup (K : PySem.W.Frag) (n : Nat) (t : TGs) : TG := fun v σ H Q => ∃ a xs, v = .ref a ∧ SqT K H a xs ∧ xs.length = n ∧ t xs σ H Q
theorem pg_tup {es : List Expr} {k : Nat} {t : TGs} {n : Nat} (hc : X.calm = true) (h : PGs X es t)
    (hn : (assignEach es X.env).length = n := by rfl) (hst : (assignEach es X.env).findIdx? (·.1) = none := by rfl) : PG X (.Tuple es k pos) (gTup X.K n t) := by
  intro pins s σ H v u Q I r hw
  obtain ⟨a, xs, e1, hq, hl, hw⟩ := hw
  subst e1
  cases r
  obtain ⟨its, rv, ht, hz⟩ := I.tuple hq
  refine assign_Tuple_tuple (I.ok.hd hc) ht (by simp [hn, ← hl, rv.length]) hst fun h' hx => ?_
  have I1 : Inv X pins σ H { s with heap := h' } := I.kept (t' := s.toks) fun b o e => hx b o (Nat.ne_of_lt (Heap.lt_size e)) e
  exact h pins _ σ H xs _ Q I1 (by simpa using rv) hw
/-- o[i] = .. -/
noncomputable def gSub (to ti : TE) (t : TSet) : TG := fun v σ H Q => to σ H fun o H1 => ti σ H1 fun i H2 => t o i v H2 fun H3 => Q σ H3
theorem pg_sub {o i : Expr} {to ti : TE} {t : TSet} (ho : PE X o to) (hi : PE X i ti) (hs : PSet X t)
    (ha : ∀ v, assign (.Subscript o i pos) X.env v = (do
      let ov ← holding [v] (eval o X.env)
      let iv ← holding [v, ov] (eval i X.env)
      standAt pos
      holding [v, ov, iv] (setItem ov iv v)
      release [v, ov, iv] []) := by intro _; rfl) : PG X (.Subscript o i pos) (gSub to ti t) := by
  intro pins s σ H v u Q I r h
  rw [ha]
  refine wpAny_bind (wpAny_holding (thn (ho pins s σ H _ I h) fun ov s1 ⟨x, H1, I1, r1, q1⟩ => ?_))
  refine wpAny_bind (wpAny_holding (thn (hi pins s1 σ H1 _ I1 q1) fun iv s2 ⟨y, H2, I2, r2, q2⟩ => ?_))
  refine wpAny_bind (wpAny_standAt (wpAny_bind (wpAny_holding (thn (hs pins s2 σ H2 x y v ov iv u _ I2 r1 r2 r q2) fun _ s3 ⟨H3, I3, q3⟩ => ?_))))
  exact wpAny_release ⟨σ, H3, I3, q3⟩
/-- target = value -/
noncomputable def tAsg (te : TE) (g : TG) : TS := fun D σ H => te σ H fun x H1 => g x σ H1 D.nx
theorem ps_asg {tg e : Expr} {te : TE} {g : TG} (he : PE X e te) (hg : PG X tg g) (hs : swapsWithSole [tg] e pos.line X.env = pure false := by rfl) (hw : swappedStores [tg] e X.env = pure none := by rfl)
    (h1 : (assignEach [tg] X.env).map (·.2) = [assign tg X.env] := by rfl) : PS X (.Assign [tg] e pos) (tAsg te g) := by
  intro pins s σ H D I h
  refine wpAny_Assign_stores (thn (he pins s σ H _ I h) fun v s1 ⟨x, H1, I1, r1, q1⟩ => ?_) hs hw
  rw [h1]
  exact thn (hg pins s1 σ H1 x v _ I1 r1 q1) fun _ s2 q => q
/-- name = value -/
theorem ps_set {i : Nat} {x : Str} {e : Expr} {te : TE} {pos' : Pos} (hN : X.N.Nodup) (hi : X.N[i]? = some x) (hx : Loc X.env.scope x) (he : PE X e te) (hs : swapsWith e (some (.Name x pos')) pos.line X.env = pure false := by rfl) (hf : X.fn x = true ∨ X.env.scope.names.lookup x = some .local := by first | exact .inl rfl | exact .inr rfl | assumption) :
    PS X (.Assign [.Name x pos'] e pos) (tAsg te (gName i)) := by
  intro pins s σ H D I h
  refine wpAny_Assign_Name (thn (he pins s σ H _ I h) fun v s1 ⟨y, H1, I1, r1, q1⟩ => ?_) hs
  exact store_ok I1 hN hi hx r1 (fun s2 I2 => ⟨_, H1, I2, q1⟩) hf
end

/-! ### while -/
section
variable {X : Cx} {pos : Pos}
/-- the invariant W with its measure -/
noncomputable def tWhile (c : TT) (tb : TS) : TS := fun D σ H => ∃ W : Nat → St → Hp → Prop, (∃ m, W m σ H) ∧ ∀ m σ H, W m σ H →
  c σ H fun b H1 => if b = true then ∃ N : St → Hp → Prop, (∀ σ' H', N σ' H' → ∃ m', m' < m ∧ W m' σ' H') ∧ tb { D with nx := N, ct := N, bk := D.nx } σ H1 else D.nx σ H1
theorem ps_while {c : Expr} {body : List Stmt} {tc : TT} {tb : TS} (hp : PassesOwn (model X.prog X.w) X.A X.env X.xe) (hc : PT X c tc) (hb : PSs X body tb) : PS X (.While c body [] pos) (tWhile tc tb) := by
  intro pins s σ H D I h
  obtain ⟨W, ⟨m0, w0⟩, turn⟩ := h
  refine wpAny_While (codeAny_whileLoop (fun n s' => ∃ σ' H', Inv X pins σ' H' s' ∧ W n σ' H') ?_ m0 ⟨σ, H, I, w0⟩)
  rintro n s1 ⟨σ1, H1, I1, w1⟩
  refine wpAny_passesOwn hp (thn (hc pins s1 σ1 H1 _ I1 (turn n σ1 H1 w1)) fun b s2 ⟨H2, I2, q2⟩ => ?_)
  cases b with
  | true =>
    obtain ⟨N, hN, q2⟩ := q2
    rw [if_pos rfl]
    refine wpAny_passesOwn hp (thn (hb pins s2 σ1 H2 _ I2 q2) fun f s3 q3 => ?_)
    cases f with
    | next =>
      obtain ⟨σ3, H3, I3, n3⟩ := q3
      obtain ⟨m', hm, w3⟩ := hN σ3 H3 n3
      exact ⟨m', hm, σ3, H3, I3, w3⟩
    | cont =>
      obtain ⟨σ3, H3, I3, n3⟩ := q3
      obtain ⟨m', hm, w3⟩ := hN σ3 H3 n3
      exact ⟨m', hm, σ3, H3, I3, w3⟩
    | brk => exact q3
    | ret v => exact q3
  | false =>
    rw [if_neg Bool.false_ne_true]
    exact wpAny_execs_nil ⟨σ1, H2, I2, q2⟩
end

/-! ### what a loop or a comprehension walks -/
/-- at turn i: it yields x (the heap may grow), or it stops -/
structure It where
  go : Nat → Hp → Prop
  yld : Nat → Hp → V → Hp → Prop
  stop : Nat → Hp → Prop
/-- the iterator's own objects may turn: they are not the frame's, not pinned, younger than the entry (or a comprehension's own) -/
noncomputable def FpOk (X : Cx) (pins : List (Addr × Obj)) (H : Hp) (b : Addr) : Prop :=
  H b = none ∧ b ≠ X.env.locals ∧ b ∉ X.fs ∧ (b ∈ X.ex ∨ X.s₀.heap.objs.size ≤ b) ∧ (∀ x c, X.env.cells.lookup x = some c → c ≠ b) ∧ ∀ p ∈ X.pn ++ pins, p.1 ≠ b
theorem Inv.fpOk {X : Cx} {pins : List (Addr × Obj)} {σ : St} {H H' : Hp} {s : Shared} {b : Addr} (I : Inv X pins σ H s) (hb : s.heap.objs.size ≤ b) (hn : H' b = none) : FpOk X pins H' b := by
  refine ⟨hn, Nat.ne_of_gt (Nat.lt_of_lt_of_le I.lt hb), I.nofs hb, .inr (Nat.le_trans I.sz hb), fun x c e z => ?_, fun p hp z => ?_⟩
  · obtain ⟨v, q⟩ := I.cell x c e
    exact absurd (Nat.lt_of_lt_of_le q.lt (by rw [z]; exact hb)) (Nat.lt_irrefl _)
  · exact absurd (Nat.lt_of_lt_of_le (Heap.lt_size (I.pin p hp).1) (by rw [z]; exact hb)) (Nat.lt_irrefl _)
structure Turn (P : Program) (w : World) (K : PySem.W.Frag) (tg : Expr) (J : It) (fp : List Addr) (it : Addr) (tn : Nat → Heap → Prop) : Prop where
  mem : it ∈ fp
  obj : ∀ i h, tn i h → ∀ b ∈ fp, ∃ o, h.get? b = some o ∧ ∀ v, o.data ≠ .cell v
  keep : ∀ i h h', tn i h → (∀ b ∈ fp, ∀ o, h.get? b = some o → h'.get? b = some o) → tn i h'
  item : ∀ (X : Cx), X.prog = P → X.w = w → X.K = K → X.calm = true → ∀ (i : Nat) (pins : List (Addr × Obj)) (s : Shared) (σ : St) (H : Hp) (E : Value → Shared → Prop), Inv X pins σ H s → (∀ b ∈ fp, FpOk X pins H b) → tn i s.heap → J.go i H →
    wpAny (model P w) X.A (pyNext (.ref it)) (fun r s1 => ∃ u, r = some u ∧
      wpAny (model P w) X.A (letOwnedTupleGo tg (.ref it) u) (fun _ s2 => ∃ x H', Inv X pins σ H' s2 ∧ RelV x u ∧ J.yld i H x H' ∧ tn (i + 1) s2.heap ∧ ∀ b ∈ fp, H' b = none) E s1) E s
  done : ∀ (X : Cx), X.prog = P → X.w = w → X.K = K → X.calm = true → ∀ (i : Nat) (pins : List (Addr × Obj)) (s : Shared) (σ : St) (H : Hp) (E : Value → Shared → Prop), Inv X pins σ H s → (∀ b ∈ fp, FpOk X pins H b) → tn i s.heap → J.stop i H →
    wpAny (model P w) X.A (pyNext (.ref it)) (fun r s1 => r = none ∧ Inv X pins σ H s1) E s
  self : ∀ (A : Around) (i : Nat) (s : Shared) (Q : Value → Shared → Prop) (E : Value → Shared → Prop), tn i s.heap → Q (.ref it) s → wpAny (model P w) A (pyIter (.ref it)) Q E s
noncomputable abbrev TI := St → Hp → (It → Hp → Prop) → Prop
/-- an iterator has come -/
noncomputable def PIE (X : Cx) (pins : List (Addr × Obj)) (σ : St) (tg : Expr) (R : It → Hp → Prop) (itv : Value) (s2 : Shared) : Prop :=
  ∃ (it : Addr) (fp : List Addr) (tn : Nat → Heap → Prop) (J : It) (H' : Hp), itv = .ref it ∧ Inv X pins σ H' s2 ∧ Turn X.prog X.w X.K tg J fp it tn ∧ tn 0 s2.heap ∧ (∀ b ∈ fp, FpOk X pins H' b) ∧ R J H'
noncomputable def PI (X : Cx) (tg iter : Expr) (wi : TI) : Prop :=
  ∀ (pins : List (Addr × Obj)) (s : Shared) (σ : St) (H : Hp) (R : It → Hp → Prop), Inv X pins σ H s → wi σ H R →
    wpAny (model X.prog X.w) X.A (eval iter X.env) (fun v s1 => wpAny (model X.prog X.w) X.A (pyIter v) (PIE X pins σ tg R) X.xe s1) X.xe s

/-- the step ahead of the store is nothing for an iterator that keeps no tuple -/
theorem go_of {M : Model} {A : Around} {E : Value → Shared → Prop} {s : Shared} {tg : Expr} {it : Addr} {u : Value} {o : Obj} {n : String} {vs : Array Value} {Q : Unit → Shared → Prop} (ho : s.heap.get? it = some o) (hc : o.cls = .type n) (hd : o.data = .fields vs)
    (hn : ["enumerate", "zip", "dict_itemiterator", "dict_reverseitemiterator", "odict_iterator", "itertools.zip_longest", "itertools.pairwise"].contains n = false) (hQ : Q () s) : wpAny M A (letOwnedTupleGo tg (.ref it) u) Q E s := by
  unfold letOwnedTupleGo
  cases tg <;> first
    | exact wpAny_pure hQ
    | (cases u <;> first
        | exact wpAny_pure hQ
        | (refine wpAny_bind (wpAny_load ho ?_)
           rw [hc, hd]
           show wpAny M A (if (["enumerate", "zip", "dict_itemiterator", "dict_reverseitemiterator", "odict_iterator", "itertools.zip_longest", "itertools.pairwise"].contains n && vs[0]? == some (rawInt _)) = true then _ else _) Q E s
           rw [if_neg (by intro h; rw [hn, Bool.false_and] at h; cases h)]
           exact wpAny_pure hQ))

/-- the list at a, as it stands at each turn (a loop may append to it) -/
noncomputable def Itl (K : PySem.W.Frag) (a : Addr) : It :=
  ⟨fun i H => ∃ xs x, SqL K H a xs ∧ xs[i]? = some x, fun i H x H' => H' = H ∧ ∀ xs, SqL K H a xs → xs[i]? = some x, fun i H => ∃ xs, SqL K H a xs ∧ xs.length ≤ i⟩
/-- lo, lo + 1, .. (n of them) -/
noncomputable def Itr (lo : Int) (n : Nat) : It := ⟨fun i _ => i < n, fun i H x H' => H' = H ∧ x = .int (lo + i), fun i _ => n ≤ i⟩
theorem turn_list {P : Program} {w : World} {K : PySem.W.Frag} {tg : Expr} (a it : Addr) : Turn P w K tg (Itl K a) [it] it (fun i h => h.IsListIter it a i) where
  mem := by simp
  obj := fun i h st b hb => by
    have e : b = it := by simpa using hb
    subst e
    obtain ⟨o, e, c, d⟩ := st
    exact ⟨o, e, fun v z => by rw [d] at z; cases z⟩
  keep := fun i h h' st k => st.at fun o e => k it (by simp) o e
  item := by
    intro X hP hw hK hc i pins s σ H E I hf st hg
    subst hP hw hK
    obtain ⟨xs, x, hq, hx⟩ := hg
    obtain ⟨its, rv, p, hz⟩ := I.list hq
    obtain ⟨u, hu, ru⟩ := rv.get hx
    obtain ⟨f0, f1, f2, f3, f4, f5⟩ := hf it (by simp)
    refine wpAny_pyNext_list_item st p.isList (x := u) (by simpa using hu) fun h' st' sb => ?_
    have I1 : Inv X pins σ H { s with heap := h' } := I.turned (t' := s.toks) (fun b o hb e => (sb.2 b hb).trans e) f0 f1 f3 f4 f5
    obtain ⟨o, e, c, d⟩ := id st'
    exact ⟨u, rfl, go_of (s := { s with heap := h' }) e c d (by decide) ⟨x, H, I1, ru, ⟨rfl, fun ys hy => by rw [I.list_inj hy hq]; exact hx⟩, st', fun b hb => (hf b hb).1⟩⟩
  done := by
    intro X hP hw hK hc i pins s σ H E I hf st hg
    subst hP hw hK
    obtain ⟨xs, hq, hx⟩ := hg
    obtain ⟨its, rv, p, hz⟩ := I.list hq
    obtain ⟨f0, f1, f2, f3, f4, f5⟩ := hf it (by simp)
    have hl := rv.length
    exact wpAny_pyNext_list_end (I.ok.hd hc) st p.isList (by simp; omega) fun h' eb => ⟨rfl, I.turned (t' := s.toks) (fun b o hb e => eb b o hb e) f0 f1 f3 f4 f5⟩
  self := fun _ _ _ _ _ st h => wpAny_pyIter_listiter st h
theorem turn_range {P : Program} {w : World} {K : PySem.W.Frag} {tg : Expr} (it : Addr) (lo : Int) (n : Nat) : Turn P w K tg (Itr lo n) [it] it (fun i h => IsRangeIter h it (lo + (i : Nat) * 1) ((n : Int) - (i : Nat)) 1) where
  mem := by simp
  obj := fun i h st b hb => by
    have e : b = it := by simpa using hb
    subst e
    exact ⟨_, st, fun v z => by
      have z' : Data.fields _ = Data.cell v := z
      cases z'⟩
  keep := fun i h h' st k => k it (by simp) _ st
  item := by
    intro X hP hw hK hc i pins s σ H E I hf st hg
    subst hP hw hK
    obtain ⟨f0, f1, f2, f3, f4, f5⟩ := hf it (by simp)
    have W := Walks.range (prog := X.prog) (w := X.w) (I.ok.hd hc) it lo 1 n
    refine W.item i s _ _ hg st fun v h' tk hv st' kk => ?_
    obtain ⟨t, rfl⟩ := hv
    have I1 : Inv X pins σ H { s with heap := h', toks := tk } := I.turned (fun b o hb e => kk b o (by simpa using hb) e) f0 f1 f3 f4 f5
    refine ⟨_, rfl, go_of (s := { s with heap := h', toks := tk }) (n := "range_iterator") st' rfl rfl (by decide) ⟨.int (lo + i), H, I1, ⟨t, ?_⟩, ⟨rfl, rfl⟩, st', fun b hb => (hf b hb).1⟩⟩
    rw [Int.mul_one]
  done := by
    intro X hP hw hK hc i pins s σ H E I hf st hg
    subst hP hw hK
    obtain ⟨f0, f1, f2, f3, f4, f5⟩ := hf it (by simp)
    exact wpAny_pyNext_range_end (I.ok.hd hc) st (by have : n ≤ i := hg; omega) fun h' eb => ⟨rfl, I.turned (t' := s.toks) (fun b o hb e => eb b o hb e) f0 f1 f3 f4 f5⟩
  self := fun _ _ _ _ _ st h => wpAny_pyIter_rangeiter st h
end L2

namespace L2
open PySem PySem.Spec PyProof.Rows
section
variable {X : Cx} {tg : Expr}
noncomputable def iList (K : PySem.W.Frag) (tl : TE) : TI := fun σ H R => tl σ H fun x H1 => ∃ a, x = .ref a ∧ (∃ xs, SqL K H1 a xs) ∧ R (Itl K a) H1
theorem pi_list {l : Expr} {tl : TE} (hl : PE X l tl) : PI X tg l (iList X.K tl) := by
  intro pins s σ H R I h
  refine thn (hl pins s σ H _ I h) fun v s1 ⟨x, H1, I1, r1, q1⟩ => ?_
  obtain ⟨a, e, ⟨xs, hq⟩, q⟩ := q1
  subst e
  cases r1
  obtain ⟨its, rv, p, hz⟩ := I1.list hq
  refine wpAny_pyIter_list p.isList ?_
  refine ⟨s1.heap.objs.size, [s1.heap.objs.size], _, _, H1, rfl, I1.kept (t' := s1.toks) fun b o e => Heap.get?_push_of_some _ e, turn_list a _, ⟨_, Heap.get?_push_size _ rfl, rfl, rfl⟩, fun b hb => ?_, q⟩
  have e : b = s1.heap.objs.size := by simpa using hb
  subst e
  exact I1.fpOk (Nat.le_refl _) (I1.hok.fresh (Nat.le_refl _))
/-- a range object just made, walked -/
theorem range_it {pins : List (Addr × Obj)} {σ : St} {H : Hp} {s : Shared} {R : It → Hp → Prop} {E : Value → Shared → Prop} {lo hi : Int} {t u v : Tok} {tk : Nat} (I : Inv X pins σ H s) (h1 : -(2 ^ 62) ≤ lo) (h2 : lo < 2 ^ 62) (h3 : -(2 ^ 62) ≤ hi) (h4 : hi < 2 ^ 62)
    (q : R (Itr lo (hi - lo).toNat) H) : wpAny (model X.prog X.w) X.A (pyIter (.ref s.heap.objs.size)) (PIE X pins σ tg R) E { s with heap := s.heap.push { cls := .type "range", data := .fields #[.int lo t, .int hi u, .int 1 v] }, toks := tk } := by
  refine wpAny_pyIter_range (IsRange.new ..) (small_one h1 h2 h3 h4) ?_
  have I1 : Inv X pins σ H { s with heap := s.heap.push { cls := .type "range", data := .fields #[.int lo t, .int hi u, .int 1 v] }, toks := tk } := I.kept fun b o e => Heap.get?_push_of_some _ e
  refine ⟨(s.heap.push { cls := .type "range", data := .fields #[.int lo t, .int hi u, .int 1 v] }).objs.size, [(s.heap.push { cls := .type "range", data := .fields #[.int lo t, .int hi u, .int 1 v] }).objs.size], _, _, H, rfl,
    I1.kept (t' := tk) fun b o e => Heap.get?_push_of_some _ e, turn_range _ lo (hi - lo).toNat, ?_, fun b hb => ?_, q⟩
  · have e1 : lo + ((0 : Nat) : Int) * 1 = lo := by simp
    have e2 : (((hi - lo).toNat : Nat) : Int) - ((0 : Nat) : Int) = Builtin.Range.rangeSize lo hi 1 := by rw [rangeSize_one]; split <;> omega
    show IsRangeIter _ _ (lo + ((0 : Nat) : Int) * 1) ((((hi - lo).toNat : Nat) : Int) - ((0 : Nat) : Int)) 1
    rw [e1, e2]
    exact Heap.get?_push_size _ rfl
  · have e : b = (s.heap.push { cls := .type "range", data := .fields #[.int lo t, .int hi u, .int 1 v] }).objs.size := by simpa using hb
    subst e
    exact I1.fpOk (Nat.le_refl _) (I1.hok.fresh (Nat.le_refl _))
noncomputable def iRng1 (ta : TA) : TI := fun σ H R => ta σ H fun vs H1 => ∃ j : Int, vs = [.int j] ∧ -(2 ^ 62) ≤ j ∧ j < 2 ^ 62 ∧ R (Itr 0 j.toNat) H1
theorem pi_range1 {a : Expr} {ta : TA} {p pos : Pos} (hg : Gl X "range") (hm : X.mg "range" = none) (ha : PA X [a] ta) (hs : starEach [a] X.env = [(false, eval a X.env)] := by rfl) : PI X tg (.Call (.Name "range" p) [a] [] pos) (iRng1 ta) := by
  intro pins s σ H R I h
  refine Call_ (ld_blt I hg hm boot_range (PyProof.Rows.callWith_type1 (thn (ha pos pins s σ H _ I h) fun us s1 ⟨vs, H1, I1, r1, q1⟩ => ?_) hs rfl))
  obtain ⟨j, e, q1, q2, q⟩ := q1
  subst e
  cases r1 with
  | cons r rr =>
    cases rr
    obtain ⟨t, rfl⟩ := r
    exact call_range_1 (range_it I1 (by omega) (by omega) q1 q2 (by simpa using q))
/-! ### for -/
/-- W: the invariant by the turn and a measure; N: what the body is to reach -/
noncomputable def tFor (wi : TI) (g : TG) (tb : TS) : TS := fun D σ H => wi σ H fun J H1 => ∃ W : Nat → Nat → St → Hp → Prop, (∃ m, W 0 m σ H1) ∧ ∀ i m σ H, W i m σ H →
  (J.stop i H ∧ D.nx σ H) ∨ (J.go i H ∧ ∃ N : St → Hp → Prop, (∀ σ' H', N σ' H' → ∃ m', m' < m ∧ W (i + 1) m' σ' H') ∧ ∀ x H', J.yld i H x H' → g x σ H' fun σ2 H2 => tb { D with nx := N, ct := N, bk := D.nx } σ2 H2)
/-- the records at fp as they stand -/
noncomputable def pinsAt (fp : List Addr) (h : Heap) : List (Addr × Obj) := fp.filterMap fun b => (h.get? b).map fun o => (b, o)
theorem mem_pinsAt {fp : List Addr} {h : Heap} {b : Addr} {o : Obj} (hb : b ∈ fp) (e : h.get? b = some o) : (b, o) ∈ pinsAt fp h := List.mem_filterMap.mpr ⟨b, hb, by rw [e]; rfl⟩
theorem of_pinsAt {fp : List Addr} {h : Heap} {p : Addr × Obj} (hp : p ∈ pinsAt fp h) : p.1 ∈ fp ∧ h.get? p.1 = some p.2 := by
  obtain ⟨b, hb, e⟩ := List.mem_filterMap.mp hp
  cases q : h.get? b with
  | none => rw [q] at e; cases e
  | some o =>
    rw [q] at e
    have e' : (b, o) = p := Option.some.inj e
    subst e'
    exact ⟨hb, q⟩
theorem Inv.pinned {pins : List (Addr × Obj)} {σ : St} {H : Hp} {s : Shared} {fp : List Addr} (I : Inv X pins σ H s) (hf : ∀ b ∈ fp, FpOk X pins H b) (ho : ∀ b ∈ fp, ∃ o, s.heap.get? b = some o ∧ ∀ v, o.data ≠ .cell v) : Inv X (pins ++ pinsAt fp s.heap) σ H s :=
  I.pins_of fun p hp => (List.mem_append.mp hp).elim (fun z => I.pin p (List.mem_append_right _ z)) fun z => by
    obtain ⟨hb, e⟩ := of_pinsAt z
    obtain ⟨f0, f1, f2, _⟩ := hf p.1 hb
    obtain ⟨o, e', d⟩ := ho p.1 hb
    rw [e] at e'; cases e'
    exact ⟨e, f0, f1, f2, d⟩
theorem Inv.unpinned {pins pl : List (Addr × Obj)} {σ : St} {H : Hp} {s : Shared} (I : Inv X (pins ++ pl) σ H s) : Inv X pins σ H s := I.pins_of fun p hp => I.pin p (List.mem_append_right _ (List.mem_append_left _ hp))
theorem ps_for {iter : Expr} {body : List Stmt} {wi : TI} {g : TG} {tb : TS} {pos : Pos} (hp : PassesOwn (model X.prog X.w) X.A X.env X.xe) (hc : X.calm = true) (hi : PI X tg iter wi) (hg : PG X tg g) (hb : PSs X body tb)
    (hs : ∀ x, foldedSetIterable iter X.env x = pure x := by intro _; rfl) : PS X (.For tg iter body [] pos) (tFor wi g tb) := by
  intro pins s σ H D I h
  refine wpAny_For (thn (hi pins s σ H _ I h) fun v s1 h1 => thn h1 fun itv s2 h2 => ?_) hs
  obtain ⟨it, fp, tn, J, H2, e, I2, T, st2, f2, W, ⟨m0, w0⟩, turn⟩ := h2
  subst e
  -- what stays true of the iterator's objects through the loop
  have stat : ∀ {H' : Hp}, (∀ b ∈ fp, H' b = none) → ∀ b ∈ fp, FpOk X pins H' b := fun hn b hb => ⟨hn b hb, (f2 b hb).2⟩
  refine codeAny_forLoop_any (fun n s' => ∃ i σ' H', Inv X pins σ' H' s' ∧ tn i s'.heap ∧ (∀ b ∈ fp, H' b = none) ∧ W i n σ' H') ?_ m0 ⟨0, σ, H2, I2, st2, fun b hb => (f2 b hb).1, w0⟩
  rintro n s3 ⟨i, σ3, H3, I3, st3, fr3, w3⟩
  rcases turn i n σ3 H3 w3 with ⟨stop, qn⟩ | ⟨go, N, hN, step⟩
  · refine wpAny_passesOwn hp (thn (T.done X rfl rfl rfl hc i pins s3 σ3 H3 X.xe I3 (stat fr3) st3 stop) fun r s4 ⟨hr, I4⟩ => ?_)
    subst hr
    exact wpAny_execs_nil ⟨σ3, H3, I4, qn⟩
  · refine wpAny_passesOwn hp (thn (T.item X rfl rfl rfl hc i pins s3 σ3 H3 X.xe I3 (stat fr3) st3 go) fun r s4 ⟨u, hr, h4⟩ => ?_)
    subst hr
    refine wpAny_passesOwn hp (thn h4 fun _ s5 ⟨x, H5, I5, r5, y5, st5, fr5⟩ => ?_)
    have I5' := I5.pinned (stat fr5) (T.obj _ _ st5)
    refine wpAny_passesOwn hp (thn (hg _ s5 σ3 H5 x u _ I5' r5 (step x H5 y5)) fun _ s6 ⟨σ6, H6, I6, q6⟩ => ?_)
    refine wpAny_passesOwn hp (thn (hb _ s6 σ6 H6 _ I6 q6) fun f s7 q7 => ?_)
    have again : ∀ {σ7 : St} {H7 : Hp}, Inv X (pins ++ pinsAt fp s5.heap) σ7 H7 s7 → N σ7 H7 → ∃ m, m < n ∧ ∃ i σ' H', Inv X pins σ' H' s7 ∧ tn i s7.heap ∧ (∀ b ∈ fp, H' b = none) ∧ W i m σ' H' := fun {σ7 H7} I7 n7 => by
      obtain ⟨m', hm, w7⟩ := hN σ7 H7 n7
      refine ⟨m', hm, i + 1, σ7, H7, I7.unpinned, T.keep _ _ _ st5 fun b hb o e => (I7.pin (b, o) (List.mem_append_right _ (List.mem_append_right _ (mem_pinsAt hb e)))).1, fun b hb => ?_, w7⟩
      obtain ⟨o, e, d⟩ := T.obj _ _ st5 b hb
      exact (I7.pin (b, o) (List.mem_append_right _ (List.mem_append_right _ (mem_pinsAt hb e)))).2.1
    cases f with
    | next => obtain ⟨σ7, H7, I7, n7⟩ := q7; exact again I7 n7
    | cont => obtain ⟨σ7, H7, I7, n7⟩ := q7; exact again I7 n7
    | brk => obtain ⟨σ7, H7, I7, q7⟩ := q7; exact ⟨σ7, H7, I7.unpinned, q7⟩
    | ret v => obtain ⟨x7, σ7, H7, I7, r7, q7⟩ := q7; exact ⟨x7, σ7, H7, I7.unpinned, r7, q7⟩
end

/-! ### the forms one uses -/
/-- over a list that the body leaves as it is -/
theorem for_list {K : PySem.W.Frag} {a : Addr} {xs : List V} {g : TG} {tb : TS} {D : Ends} {σ : St} {H : Hp} (Pv : Nat → St → Hp → Prop) (h0 : Pv 0 σ H) (hl : ∀ i σ H, i ≤ xs.length → Pv i σ H → SqL K H a xs)
    (hs : ∀ i x σ H, xs[i]? = some x → Pv i σ H → g x σ H fun σ2 H2 => tb { D with nx := Pv (i + 1), ct := Pv (i + 1), bk := D.nx } σ2 H2) (hd : ∀ σ H, Pv xs.length σ H → D.nx σ H) :
    ∃ W : Nat → Nat → St → Hp → Prop, (∃ m, W 0 m σ H) ∧ ∀ i m σ H, W i m σ H →
      ((Itl K a).stop i H ∧ D.nx σ H) ∨ ((Itl K a).go i H ∧ ∃ N : St → Hp → Prop, (∀ σ' H', N σ' H' → ∃ m', m' < m ∧ W (i + 1) m' σ' H') ∧ ∀ x H', (Itl K a).yld i H x H' → g x σ H' fun σ2 H2 => tb { D with nx := N, ct := N, bk := D.nx } σ2 H2) := by
  refine ⟨fun i m σ H => m = xs.length - i ∧ i ≤ xs.length ∧ Pv i σ H, ⟨xs.length, by simp, Nat.zero_le _, h0⟩, ?_⟩
  rintro i m σ H ⟨rfl, hi, p⟩
  have q := hl i σ H hi p
  by_cases hlt : i < xs.length
  · refine .inr ⟨⟨xs, xs[i], q, by simp [hlt]⟩, Pv (i + 1), fun σ' H' p' => ⟨xs.length - (i + 1), by omega, rfl, hlt, p'⟩, fun x H' y => ?_⟩
    obtain ⟨e, y⟩ := y
    subst e
    exact hs i x σ _ (y xs q) p
  · have e : i = xs.length := by omega
    subst e
    exact .inl ⟨⟨xs, q, Nat.le_refl _⟩, hd σ H p⟩
theorem for_range {lo : Int} {n : Nat} {g : TG} {tb : TS} {D : Ends} {σ : St} {H : Hp} (Pv : Nat → St → Hp → Prop) (h0 : Pv 0 σ H)
    (hs : ∀ i σ H, i < n → Pv i σ H → g (.int (lo + i)) σ H fun σ2 H2 => tb { D with nx := Pv (i + 1), ct := Pv (i + 1), bk := D.nx } σ2 H2) (hd : ∀ σ H, Pv n σ H → D.nx σ H) :
    ∃ W : Nat → Nat → St → Hp → Prop, (∃ m, W 0 m σ H) ∧ ∀ i m σ H, W i m σ H →
      ((Itr lo n).stop i H ∧ D.nx σ H) ∨ ((Itr lo n).go i H ∧ ∃ N : St → Hp → Prop, (∀ σ' H', N σ' H' → ∃ m', m' < m ∧ W (i + 1) m' σ' H') ∧ ∀ x H', (Itr lo n).yld i H x H' → g x σ H' fun σ2 H2 => tb { D with nx := N, ct := N, bk := D.nx } σ2 H2) := by
  refine ⟨fun i m σ H => m = n - i ∧ i ≤ n ∧ Pv i σ H, ⟨n, by simp, Nat.zero_le _, h0⟩, ?_⟩
  rintro i m σ H ⟨rfl, hi, p⟩
  by_cases hlt : i < n
  · refine .inr ⟨hlt, Pv (i + 1), fun σ' H' p' => ⟨n - (i + 1), by omega, rfl, hlt, p'⟩, fun x H' y => ?_⟩
    obtain ⟨e, y⟩ := y
    subst e y
    exact hs i σ _ hlt p
  · have e : i = n := by omega
    subst e
    exact .inl ⟨Nat.le_refl _, hd σ H p⟩
end L2

namespace L2
open PySem PySem.Spec PyProof.Rows

noncomputable abbrev R2 := V → V → Hp → VK → Prop
/-- a two-place operation on values: f is binaryOp op, inplaceOp op or compareOp op -/
noncomputable def OpR (X : Cx) (f : Value → Value → Sem Value) (r : R2) : Prop :=
  ∀ (pins : List (Addr × Obj)) (s : Shared) (σ : St) (H : Hp) (x y : V) (v u : Value) (Q : VK), Inv X pins σ H s → RelV x v → RelV y u → r x y H Q →
    wpAny (model X.prog X.w) X.A (f v u) (EP X pins σ Q) X.xe s
/-- a one-place operation -/
noncomputable def UnR (X : Cx) (f : Value → Sem Value) (r : V → Hp → VK → Prop) : Prop :=
  ∀ (pins : List (Addr × Obj)) (s : Shared) (σ : St) (H : Hp) (x : V) (v : Value) (Q : VK), Inv X pins σ H s → RelV x v → r x H Q →
    wpAny (model X.prog X.w) X.A (f v) (EP X pins σ Q) X.xe s
/-- a call of a value that is known (a builtin, a type) with values -/
noncomputable def CallR (X : Cx) (f : Value) (r : List V → Hp → VK → Prop) : Prop :=
  ∀ (pins : List (Addr × Obj)) (s : Shared) (σ : St) (H : Hp) (xs : List V) (us : List Value) (Q : VK), Inv X pins σ H s → Vals xs us → r xs H Q →
    wpAny (model X.prog X.w) X.A (call f us) (EP X pins σ Q) X.xe s
noncomputable def tOp (r : R2) (ta tb : TE) : TE := fun σ H Q => ta σ H fun x H1 => tb σ H1 fun y H2 => r x y H2 Q
noncomputable def tUn (r : V → Hp → VK → Prop) (ta : TE) : TE := fun σ H Q => ta σ H fun x H1 => r x H1 Q
/-- ints in, under C, and a value out -/
noncomputable def rI (C : Int → Int → Prop) (g : Int → Int → V) : R2 := fun x y H Q => ∃ i j, x = .int i ∧ y = .int j ∧ C i j ∧ Q (g i j) H
noncomputable def rI0 (g : Int → Int → V) : R2 := fun x y H Q => ∃ i j, x = .int i ∧ y = .int j ∧ Q (g i j) H
noncomputable def rU (g : Int → V) : V → Hp → VK → Prop := fun x H Q => ∃ i, x = .int i ∧ Q (g i) H

section
variable {X : Cx} {a b c : Expr} {ta tb tc : TE} {pos : Pos}

theorem binT (ha : PE X a ta) (hb : PE X b tb) {pins : List (Addr × Obj)} {s : Shared} {σ : St} {H : Hp} {R : V → V → Hp → Prop} (I : Inv X pins σ H s)
    (h : ta σ H fun x H1 => tb σ H1 fun y H2 => R x y H2) {Q : Value → Shared → Prop} {f : Value → Value → Sem Value}
    (hf : ∀ v u s2 x y H2, Inv X pins σ H2 s2 → RelV x v → RelV y u → R x y H2 → wpAny (model X.prog X.w) X.A (f v u) Q X.xe s2) :
    wpAny (model X.prog X.w) X.A (eval a X.env) (fun v s₁ => wpAny (model X.prog X.w) X.A (eval b X.env) (fun u s₂ => wpAny (model X.prog X.w) X.A (f v u) Q X.xe s₂) X.xe s₁) X.xe s := by
  refine thn (ha pins s σ H _ I h) fun v s1 ⟨x, H1, I1, r1, q1⟩ => ?_
  refine thn (hb pins s1 σ H1 _ I1 q1) fun u s2 ⟨y, H2, I2, r2, q2⟩ => ?_
  exact hf v u s2 x y H2 I2 r1 r2 q2

theorem pe_op {op : Operator} {r : R2} (ho : OpR X (binaryOp op) r) (ha : PE X a ta) (hb : PE X b tb) : PE X (.BinOp a op b pos) (tOp r ta tb) := by
  intro pins s σ H Q I h
  exact wpAny_BinOp (binT ha hb I h fun v u s2 x y H2 I2 rx ry q => ho pins s2 σ H2 x y v u Q I2 rx ry q)
theorem pe_un {op : UnaryOp} {r : V → Hp → VK → Prop} (ho : UnR X (unaryOp op) r) (ha : PE X a ta) : PE X (.UnaryOp op a pos) (tUn r ta) := by
  intro pins s σ H Q I h
  exact UnaryOp_ (thn (ha pins s σ H _ I h) fun v s1 ⟨x, H1, I1, r1, q1⟩ => ho pins s1 σ H1 x v Q I1 r1 q1)
/-! ### ints -/
theorem opI {f : Value → Value → Sem Value} {C : Int → Int → Prop} {g : Int → Int → Int}
    (rule : ∀ (i j : Int) (t u : Tok) (s : Shared) (Q : Value → Shared → Prop) (E : Value → Shared → Prop), C i j → Q (.int (g i j) s.toks) { s with toks := s.toks + 1 } → wpAny (model X.prog X.w) X.A (f (.int i t) (.int j u)) Q E s) :
    OpR X f (rI C fun i j => .int (g i j)) := by
  intro pins s σ H x y v u Q I rx ry h
  obtain ⟨i, j, rfl, rfl, hc, q⟩ := h
  obtain ⟨t, rfl⟩ := rx
  obtain ⟨t', rfl⟩ := ry
  exact rule i j t t' s _ _ hc ⟨.int (g i j), H, I.tok _, ⟨_, rfl⟩, q⟩
theorem opI0 {f : Value → Value → Sem Value} {g : Int → Int → Int}
    (rule : ∀ (i j : Int) (t u : Tok) (s : Shared) (Q : Value → Shared → Prop) (E : Value → Shared → Prop), Q (.int (g i j) s.toks) { s with toks := s.toks + 1 } → wpAny (model X.prog X.w) X.A (f (.int i t) (.int j u)) Q E s) :
    OpR X f (rI0 fun i j => .int (g i j)) := by
  intro pins s σ H x y v u Q I rx ry h
  obtain ⟨i, j, rfl, rfl, q⟩ := h
  obtain ⟨t, rfl⟩ := rx
  obtain ⟨t', rfl⟩ := ry
  exact rule i j t t' s _ _ ⟨.int (g i j), H, I.tok _, ⟨_, rfl⟩, q⟩
theorem opB0 {f : Value → Value → Sem Value} {g : Int → Int → Bool}
    (rule : ∀ (i j : Int) (t u : Tok) (s : Shared) (Q : Value → Shared → Prop) (E : Value → Shared → Prop), Q (.bool (g i j)) s → wpAny (model X.prog X.w) X.A (f (.int i t) (.int j u)) Q E s) :
    OpR X f (rI0 fun i j => .bl (g i j)) := by
  intro pins s σ H x y v u Q I rx ry h
  obtain ⟨i, j, rfl, rfl, q⟩ := h
  obtain ⟨t, rfl⟩ := rx
  obtain ⟨t', rfl⟩ := ry
  exact rule i j t t' s _ _ ⟨.bl (g i j), H, I, rfl, q⟩

noncomputable def CDiv (i j : Int) : Prop := 0 < j ∧ j < 1073741824
noncomputable def CPow (i j : Int) : Prop := 0 ≤ j ∧ j ≤ 1000000 ∧ i.natAbs < 2 ^ 64
noncomputable def CMul (i j : Int) : Prop := (-(2 ^ 64) < i ∧ i < 2 ^ 64) ∨ (-(2 ^ 64) < j ∧ j < 2 ^ 64)
theorem CMul.ok {i j : Int} (h : CMul i j) : IntMulOk i j := by
  rcases h with ⟨h1, h2⟩ | ⟨h1, h2⟩
  · exact .of_left (intBits_le_64 h1 h2)
  · exact .of_right (intBits_le_64 h1 h2)
theorem two_pow_nn (k : Nat) : (0 : Int) ≤ 2 ^ k := by
  rw [two_pow_cast]
  exact Int.natCast_nonneg _

theorem op_add : OpR X (binaryOp .Add) (rI0 fun i j => .int (i + j)) := opI0 fun _ _ _ _ _ _ _ q => add_int q
theorem op_sub : OpR X (binaryOp .Sub) (rI0 fun i j => .int (i - j)) := opI0 fun _ _ _ _ _ _ _ q => sub_int q
theorem op_mul : OpR X (binaryOp .Mult) (rI CMul fun i j => .int (i * j)) := opI fun _ _ _ _ _ _ _ hc q => mul_int q hc.ok
/-- // by a positive divisor -/
theorem op_fdiv : OpR X (binaryOp .FloorDiv) (rI CDiv fun i j => .int (i / j)) := opI fun i j _ _ _ _ _ hc q => by
  have h1 : (0 : Int) < j := hc.1
  have h2 : j < 1073741824 := hc.2
  exact floordiv_int (by omega) (by rw [Int.fdiv_eq_ediv_of_nonneg i (by omega)]; exact q) (.inl (PyProof.noPylong_small (by omega)))
/-- % by a positive divisor of any size -/
theorem op_mod : OpR X (binaryOp .Mod) (rI (fun _ j => 0 < j) fun i j => .int (i % j)) := opI fun i j _ _ _ _ _ hc q => by
  have h1 : (0 : Int) < j := hc
  exact mod_int' (by omega) (by rw [Int.fmod_eq_emod_of_nonneg i (by omega)]; exact q)
theorem op_pow : OpR X (binaryOp .Pow) (rI CPow fun i j => .int (i ^ j.toNat)) := opI fun _ _ _ _ _ _ _ hc q => pow_int_small hc.1 hc.2.1 hc.2.2 q
theorem op_shl : OpR X (binaryOp .LShift) (rI CPow fun i j => .int (i * 2 ^ j.toNat)) := opI fun _ _ _ _ _ _ _ hc q => lshift_int_small hc.1 hc.2.1 hc.2.2 q
theorem op_shr : OpR X (binaryOp .RShift) (rI (fun _ j => 0 ≤ j) fun i j => .int (i / 2 ^ j.toNat)) := opI fun i j _ _ _ _ _ hc q =>
  rshift_int hc (by rw [Int.fdiv_eq_ediv_of_nonneg i (two_pow_nn _)]; exact q)
theorem op_and : OpR X (binaryOp .BitAnd) (rI0 fun i j => .int (Builtin.bitAnd i j)) := opI0 fun _ _ _ _ _ _ _ q => and_int q
theorem op_or : OpR X (binaryOp .BitOr) (rI0 fun i j => .int (Builtin.bitOr i j)) := opI0 fun _ _ _ _ _ _ _ q => or_int q
theorem unI {f : Value → Sem Value} {g : Int → Int}
    (rule : ∀ (i : Int) (t : Tok) (s : Shared) (Q : Value → Shared → Prop) (E : Value → Shared → Prop), Q (.int (g i) s.toks) { s with toks := s.toks + 1 } → wpAny (model X.prog X.w) X.A (f (.int i t)) Q E s) :
    UnR X f (rU fun i => .int (g i)) := by
  intro pins s σ H x v Q I rx h
  obtain ⟨i, rfl, q⟩ := h
  obtain ⟨t, rfl⟩ := rx
  exact rule i t s _ _ ⟨.int (g i), H, I.tok _, ⟨_, rfl⟩, q⟩
theorem un_inv : UnR X (unaryOp .Invert) (rU fun i => .int (Builtin.bitNot i)) := unI fun _ _ _ _ _ q => invert_int q

/-! ### bools among ints: n += (a < b) -/
end

/-! ### comparisons -/
/-- the scalars that == tells apart as data does -/
noncomputable def scal : V → V → Bool
  | .non, .non => true | .non, .int _ => true | .int _, .non => true | .non, .bl _ => true | .bl _, .non => true | .non, .str _ => true | .str _, .non => true
  | .int _, .int _ => true | .bl _, .bl _ => true | .str _, .str _ => true | .byt _, .byt _ => true
  | .int _, .str _ => true | .str _, .int _ => true | .bl _, .str _ => true | .str _, .bl _ => true
  | _, _ => false
noncomputable def rEq : R2 := fun x y H Q => scal x y = true ∧ Q (.bl (decide (x = y))) H
noncomputable def rNe : R2 := fun x y H Q => scal x y = true ∧ Q (.bl (!decide (x = y))) H

theorem dec_int {i j : Int} : decide (V.int i = V.int j) = (i == j) := by
  rw [Bool.eq_iff_iff]
  simp
theorem dec_bl {i j : Bool} : decide (V.bl i = V.bl j) = (i == j) := by
  rw [Bool.eq_iff_iff]
  simp
theorem dec_str {i j : Str} : decide (V.str i = V.str j) = (i == j) := by
  rw [Bool.eq_iff_iff]
  simp
theorem dec_byt {i j : Array UInt8} : decide (V.byt i = V.byt j) = (i.toList == j.toList) := by
  rw [Bool.eq_iff_iff]
  cases i
  cases j
  simp

section
variable {X : Cx} {a b c : Expr} {ta tb tc : TE} {pos : Pos}
theorem fin_bl {pins : List (Addr × Obj)} {σ : St} {H : Hp} {s : Shared} {Q : VK} {k k' : Bool} (I : Inv X pins σ H s) (q : Q (.bl k) H) (e : k = k') : EP X pins σ Q (.bool k') s := by
  subst e
  exact ⟨.bl k, H, I, rfl, q⟩
theorem op_eq : OpR X (compareOp .Eq) rEq := by
  intro pins s σ H x y v u Q I rx ry h
  obtain ⟨hs, q⟩ := h
  cases x with
  | non =>
    cases rx
    cases y with
    | non => cases ry; exact PySem.EqNone.eq_none_none (fin_bl I q (by simp))
    | bl j => cases ry; exact PySem.EqNone.eq_none_bool (fin_bl I q (by simp))
    | int j => obtain ⟨t', rfl⟩ := ry; exact PySem.EqNone.eq_none_int (fin_bl I q (by simp))
    | str j => obtain ⟨t', rfl⟩ := ry; exact PySem.EqNone.eq_none_str (fin_bl I q (by simp))
    | _ => exact absurd (show false = true from hs) Bool.false_ne_true
  | bl i =>
    cases rx
    cases y with
    | non => cases ry; exact PySem.EqNone.eq_bool_none (fin_bl I q (by simp))
    | bl j => cases ry; exact eq_bool (fin_bl I q dec_bl)
    | str j => obtain ⟨t', rfl⟩ := ry; exact PySem.EqMixed.eq_bool_str (fin_bl I q (by simp))
    | _ => exact absurd (show false = true from hs) Bool.false_ne_true
  | int i =>
    obtain ⟨t, rfl⟩ := rx
    cases y with
    | non => cases ry; exact PySem.EqNone.eq_int_none (fin_bl I q (by simp))
    | int j => obtain ⟨t', rfl⟩ := ry; exact eq_int (fin_bl I q dec_int)
    | str j => obtain ⟨t', rfl⟩ := ry; exact PySem.EqMixed.eq_int_str (fin_bl I q (by simp))
    | _ => exact absurd (show false = true from hs) Bool.false_ne_true
  | str i =>
    obtain ⟨t, rfl⟩ := rx
    cases y with
    | non => cases ry; exact PySem.EqNone.eq_str_none (fin_bl I q (by simp))
    | bl j => cases ry; exact PySem.EqMixed.eq_str_bool (fin_bl I q (by simp))
    | int j => obtain ⟨t', rfl⟩ := ry; exact PySem.EqMixed.eq_str_int (fin_bl I q (by simp))
    | str j => obtain ⟨t', rfl⟩ := ry; exact eq_str (fin_bl I q dec_str)
    | _ => exact absurd (show false = true from hs) Bool.false_ne_true
  | byt i =>
    obtain ⟨t, rfl⟩ := rx
    cases y with
    | byt j => obtain ⟨t', rfl⟩ := ry; exact PySem.W.eq_bytes (fin_bl I q dec_byt)
    | _ => exact absurd (show false = true from hs) Bool.false_ne_true
  | _ => cases y <;> exact absurd (show false = true from hs) Bool.false_ne_true
theorem op_ne : OpR X (compareOp .NotEq) rNe := by
  intro pins s σ H x y v u Q I rx ry h
  obtain ⟨hs, q⟩ := h
  cases x with
  | non =>
    cases rx
    cases y with
    | non => cases ry; exact PySem.EqNone.ne_none_none (fin_bl I q (by simp))
    | bl j => cases ry; exact PySem.EqNone.ne_none_bool (fin_bl I q (by simp))
    | int j => obtain ⟨t', rfl⟩ := ry; exact PySem.EqNone.ne_none_int (fin_bl I q (by simp))
    | str j => obtain ⟨t', rfl⟩ := ry; exact PySem.EqNone.ne_none_str (fin_bl I q (by simp))
    | _ => exact absurd (show false = true from hs) Bool.false_ne_true
  | bl i =>
    cases rx
    cases y with
    | non => cases ry; exact PySem.EqNone.ne_bool_none (fin_bl I q (by simp))
    | bl j => cases ry; exact ne_bool (fin_bl I q (congrArg not dec_bl))
    | str j => obtain ⟨t', rfl⟩ := ry; exact PySem.EqMixed.ne_bool_str (fin_bl I q (by simp))
    | _ => exact absurd (show false = true from hs) Bool.false_ne_true
  | int i =>
    obtain ⟨t, rfl⟩ := rx
    cases y with
    | non => cases ry; exact PySem.EqNone.ne_int_none (fin_bl I q (by simp))
    | int j => obtain ⟨t', rfl⟩ := ry; exact ne_int (fin_bl I q (congrArg not dec_int))
    | str j => obtain ⟨t', rfl⟩ := ry; exact PySem.EqMixed.ne_int_str (fin_bl I q (by simp))
    | _ => exact absurd (show false = true from hs) Bool.false_ne_true
  | str i =>
    obtain ⟨t, rfl⟩ := rx
    cases y with
    | non => cases ry; exact PySem.EqNone.ne_str_none (fin_bl I q (by simp))
    | bl j => cases ry; exact PySem.EqMixed.ne_str_bool (fin_bl I q (by simp))
    | int j => obtain ⟨t', rfl⟩ := ry; exact PySem.EqMixed.ne_str_int (fin_bl I q (by simp))
    | str j => obtain ⟨t', rfl⟩ := ry; exact ne_str (fin_bl I q (congrArg not dec_str))
    | _ => exact absurd (show false = true from hs) Bool.false_ne_true
  | byt i =>
    obtain ⟨t, rfl⟩ := rx
    cases y with
    | byt j => obtain ⟨t', rfl⟩ := ry; exact PySem.W.ne_bytes (fin_bl I q (congrArg not dec_byt))
    | _ => exact absurd (show false = true from hs) Bool.false_ne_true
  | _ => cases y <;> exact absurd (show false = true from hs) Bool.false_ne_true

theorem op_lt : OpR X (compareOp .Lt) (rI0 fun i j => .bl (decide (i < j))) := opB0 fun _ _ _ _ _ _ _ q => lt_int q
theorem op_gt : OpR X (compareOp .Gt) (rI0 fun i j => .bl (decide (j < i))) := opB0 fun _ _ _ _ _ _ _ q => gt_int q
/-- is None, is not None: the right side a value none -/
theorem op_isN : OpR X (compareOp .Is) (fun x y H Q => y = .non ∧ Q (.bl (decide (x = .non))) H) := by
  intro pins s σ H x y v u Q I rx ry h
  obtain ⟨rfl, q⟩ := h
  cases ry
  refine is_none_gen (fin_bl I q ?_)
  cases x <;> first
    | (cases rx; rfl)
    | (obtain ⟨t, rfl⟩ := rx; rfl)
theorem op_notN : OpR X (compareOp .IsNot) (fun x y H Q => y = .non ∧ Q (.bl (!decide (x = .non))) H) := by
  intro pins s σ H x y v u Q I rx ry h
  obtain ⟨rfl, q⟩ := h
  cases ry
  refine isnot_none_gen (fin_bl I q ?_)
  cases x <;> first
    | (cases rx; rfl)
    | (obtain ⟨t, rfl⟩ := rx; rfl)

theorem nomark (b : Expr) {op : CmpOp} (h : op ≠ .In := by decide) (h2 : op ≠ .NotIn := by decide) : behindInMarks op b = false := by
  have e1 : (op == CmpOp.In) = false := by cases op <;> first | rfl | exact absurd rfl h
  have e2 : (op == CmpOp.NotIn) = false := by cases op <;> first | rfl | exact absurd rfl h2
  cases b <;> simp [behindInMarks, e1, e2]
/-- a comparison as a value; hm: nomark b, or (for in, not in) by with_unfolding_all rfl -/
theorem pe_cmpR {op : CmpOp} {r : R2} (ho : OpR X (compareOp op) r) (ha : PE X a ta) (hb : PE X b tb) (hm : behindInMarks op b = false) : PE X (.Compare a [op] [b] pos) (tOp r ta tb) := by
  intro pins s σ H Q I h
  exact wpAny_Compare1 (binT ha hb I h fun v u s2 x y H2 I2 rx ry q => ho pins s2 σ H2 x y v u Q I2 rx ry q) hm
/-- a reading of a value as a test -/
noncomputable def tTest (t : TE) : TT := fun σ H Q => t σ H fun x H' => ∃ k, x = .bl k ∧ Q k H'
theorem pt_cmpR {op : CmpOp} {r : R2} (ho : OpR X (compareOp op) r) (ha : PE X a ta) (hb : PE X b tb) (hm : behindInMarks op b = false) : PT X (.Compare a [op] [b] pos) (tTest (tOp r ta tb)) := by
  intro pins s σ H Q I h
  refine wpAny_isTrue_Compare1 (thn (ha pins s σ H _ I h) fun v s1 ⟨x, H1, I1, r1, q1⟩ => thn (hb pins s1 σ H1 _ I1 q1) fun u s2 ⟨y, H2, I2, r2, q2⟩ =>
    thn (ho pins s2 σ H2 x y v u _ I2 r1 r2 q2) fun c s3 ⟨z, H3, I3, r3, k, e, q3⟩ => ?_) hm
  subst e
  cases r3
  exact wpAny_truthy_bool ⟨H3, I3, q3⟩
/-! ### truth -/
theorem line63 : (sizeLine : Nat) < 2 ^ 63 := by rw [sizeLine_eq]; decide
/-! ### strs and bytes -/
/-! ### scalar builtins, by CallR -/
theorem vals1 {x : V} {us : List Value} (r : Vals [x] us) : ∃ u, us = [u] ∧ RelV x u := by
  cases r with
  | cons r1 r2 => cases r2; exact ⟨_, rfl, r1⟩
theorem vals2 {x y : V} {us : List Value} (r : Vals [x, y] us) : ∃ u w', us = [u, w'] ∧ RelV x u ∧ RelV y w' := by
  cases r with
  | cons r1 r2 =>
    cases r2 with
    | cons r3 r4 => cases r4; exact ⟨_, _, rfl, r1, r3⟩
theorem call_int1 : CallR X (.type "int") (fun xs H Q => (∃ i, xs = [.int i] ∧ Q (.int i) H) ∨ ∃ k, xs = [.bl k] ∧ Q (.int (if k then 1 else 0)) H) := by
  intro pins s σ H xs us Q I r h
  rcases h with ⟨i, rfl, q⟩ | ⟨k, rfl, q⟩
  · obtain ⟨u, rfl, t, rfl⟩ := vals1 r
    exact call_int_int ⟨.int i, H, I, ⟨_, rfl⟩, q⟩
  · obtain ⟨u, rfl, r1⟩ := vals1 r
    cases r1
    exact call_int_bool ⟨.int (if k then 1 else 0), H, I.tok _, ⟨_, rfl⟩, q⟩
end
end L2

namespace L2
open PySem PySem.Spec PyProof.Rows

/-! ### an instance, its attributes a map -/
section
variable {prog : Program} {w : World} {A : Around} {E : Value → Shared → Prop} {s : Shared} {K : PySem.W.Frag} {x dx C f : Addr} {mA : Str → Option Value} {name : Str} {v : Value}

end

/-! ### the attributes as a list of pairs -/
section
variable {P : Program} {w : World} {H H' : Hp} {h h' : Heap} {a C dx : Addr} {fs fs' : List (Str × V)}
end

/-! ### what of the text a class must have -/
section
variable {X : Cx} {pins : List (Addr × Obj)} {σ : St} {H : Hp} {s : Shared} {a C dx : Addr} {fs : List (Str × V)} {f : Str} {v : V} {A : Around} {E : Value → Shared → Prop}

end

/-! ### readings and rules -/
section
variable {X : Cx} {o e value : Expr} {f : Str} {pos pos' tpos : Pos} {ta tv : TE}
end

/-! ### isinstance -/
section
variable {X : Cx} {pins : List (Addr × Obj)} {σ : St} {H : Hp} {s : Shared} {A : Around} {E : Value → Shared → Prop} {Q : Value → Shared → Prop} {c : Value} {b : Bool}
end
end L2

namespace L2
open PySem PySem.Spec PyProof.Rows

/-! ### room -/
structure Room (k : Nat) (A : Around) : Prop where
  hd : A.handled = none
  dp : A.depth + 3 * k + 5 < recursionLimit
  un : A.units + 16 * k + 200 < cLine
theorem Room.mono {j k : Nat} {A : Around} (r : Room k A) (h : j ≤ k) : Room j A := ⟨r.hd, by have := r.dp; omega, by have := r.un; omega⟩
theorem Room.deeper {k : Nat} {A : Around} (r : Room (k + 1) A) (env : Env) : Room k (A.deeper env) :=
  ⟨r.hd, by have := r.dp; show A.depth + 1 + 3 * k + 5 < _; omega, by have := r.un; show A.units + 3 + 16 * k + 200 < _; omega⟩
theorem Room.depth {k : Nat} {A : Around} (r : Room k A) : A.depth < recursionLimit := by have := r.dp; omega
theorem Room.units {k : Nat} {A : Around} (r : Room k A) : A.units + 64 < cLine := by have := r.un; omega
/-! ### argument lists and displays -/
noncomputable def tNil : TA := fun _ H Q => Q [] H
noncomputable def tCons (ta : TE) (tr : TA) : TA := fun σ H Q => ta σ H fun x H1 => tr σ H1 fun xs H2 => Q (x :: xs) H2
section
variable {X : Cx} {e : Expr} {es : List Expr} {te : TE} {t : TA} {pos : Pos}
theorem pa_nil : PA X [] tNil := fun _ _ _ _ H Q I h => Calls.spliced_nil ⟨[], H, I, .nil, h⟩
theorem pa_cons (ha : PE X e te) (hr : PA X es t) (hs : starEach (e :: es) X.env = (false, eval e X.env) :: starEach es X.env := by rfl) : PA X (e :: es) (tCons te t) := by
  intro pos pins s σ H Q I h
  rw [hs]
  show wpAny _ _ (spliced ((false, eval e X.env) :: backTo pos (starEach es X.env))) _ _ s
  refine Calls.spliced_cons (thn (ha pins s σ H _ I h) fun u s1 ⟨x, H1, I1, r1, q1⟩ => ?_)
  exact thn (hr pos pins s1 σ H1 _ I1 q1) fun us s2 ⟨xs, H2, I2, r2, q2⟩ => ⟨x :: xs, H2, I2, .cons r1 r2, q2⟩

/-- a tuple, a list of written items -/
noncomputable def tTup (t : TA) : TE := fun σ H Q => t σ H fun xs H1 => xs.length ≤ sizeLine ∧ ∀ p, H1 p = none → Q (.ref p) (upd H1 p (.tup xs))
noncomputable def tLst (t : TA) : TE := fun σ H Q => t σ H fun xs H1 => xs.length ≤ sizeLine ∧ ∀ p, H1 p = none → Q (.ref p) (upd H1 p (.lst xs))
theorem pe_tup {x1} (h : PA X es t) : PE X (.Tuple es x1 pos) (tTup t) := by
  intro pins s σ H Q I hq
  refine wpAny_Tuple_spliced (thn (h pos pins s σ H _ I hq) fun us s1 ⟨xs, H1, I1, r, z, q⟩ => ⟨by rw [← r.length]; exact z, ?_⟩)
  have hf : H1 s1.heap.objs.size = none := I1.hok.fresh (Nat.le_refl _)
  refine ⟨.ref s1.heap.objs.size, upd H1 s1.heap.objs.size (.tup xs), I1.laid (t' := s1.toks) (fun b u e => Heap.get?_push_of_some _ e) (Nat.le_refl _) ?_, rfl, q _ hf⟩
  exact ⟨z, us, r, ⟨_, Heap.get?_push_size _ rfl, rfl, _, rfl⟩⟩
theorem pe_lst (h : PA X es t) : PE X (.List es pos) (tLst t) := by
  intro pins s σ H Q I hq
  refine wpAny_List_spliced (thn (h pos pins s σ H _ I hq) fun us s1 ⟨xs, H1, I1, r, z, q⟩ => ⟨by rw [← r.length]; exact z, ?_⟩)
  have hf : H1 s1.heap.objs.size = none := I1.hok.fresh (Nat.le_refl _)
  refine ⟨.ref s1.heap.objs.size, upd H1 s1.heap.objs.size (.lst xs), I1.laid (t' := s1.toks) (fun b u e => Heap.get?_push_of_some _ e) (Nat.le_refl _) ?_, rfl, q _ hf⟩
  exact ⟨z, us, 0, r, Heap.get?_push_size _ rfl⟩
end

/-! ### what a def promises -/
/-- a def's promise: the bound arguments in the parameters' order, the heap, the wanted end, the wanted exception -/
noncomputable abbrev Sp := List V → Hp → VK → XK → Prop
/-- how an exception lies behind a call (file 08 gives it): the callers' frames, abstract heap and state ahead of the call, the wish, the exception, the state -/
noncomputable abbrev CXT := List Env → Hp → Shared → XK → Value → Shared → Prop

/-- the state at a call -/
structure Env0 (P : Program) (w : World) (K : PySem.W.Frag) (mg : Str → Option Value) (base : Heap) (A : Around) (outer : List Env) (s : Shared) (H : Hp) : Prop where
  frames : A.frames = some outer
  mod : Mod K mg base
  bs : ∀ b o, base.get? b = some o → s.heap.get? b = some o ∧ H b = none
  bsz : base.objs.size ≤ s.heap.objs.size
  funs : s.heap.FunFrames base outer
  frf : ∀ b ∈ frs outer, H b = none
  hok : HOk P w H s.heap
  bare : AllBare s.gens
/-- a call's end -/
noncomputable def CE (outer : List Env) (P : Program) (w : World) (H : Hp) (s : Shared) (Q : VK) (u : Value) (s' : Shared) : Prop :=
  ∃ v H', s'.os = s.os ∧ AllBare s'.gens ∧ Un (frs outer) [] H H' s.heap s'.heap ∧ HOk P w H' s'.heap ∧ RelV v u ∧ Q v H'
noncomputable def CR (CX : CXT) (outer : List Env) (P : Program) (w : World) (H : Hp) (s : Shared) (Q : VK) (E : XK) (r : Result) (s' : Shared) : Prop :=
  match r with
  | .ok (.ret u) => CE outer P w H s Q u s'
  | .ok _ => False
  | .error e => CX outer H s E e s'
structure FnOk (P : Program) (w : World) (K : PySem.W.Frag) (mg : Str → Option Value) (base : Heap) (CX : CXT) (k : Nat) (f : Addr) (fd : FuncData) (ps : List Str) (sp : Sp) : Prop where
  len : ∀ vs H Q E, sp vs H Q E → vs.length = ps.length
  run : ∀ (A : Around) (outer : List Env) (s : Shared) (H : Hp) (args : Args) (us : List Value) (vs : List V) (Q : VK) (E : XK), Room k A → Env0 P w K mg base A outer s H → BindsTo s fd args (ps.zip us) → Vals vs us → sp vs H Q E →
    codeAny (model P w) A (.call (.ref f) args) (CR CX outer P w H s Q E) s
section
variable {X : Cx} {pins : List (Addr × Obj)} {σ : St} {H : Hp} {s s' : Shared}
/-- from a body: what a callee wants -/
theorem Inv.env0 (I : Inv X pins σ H s) : Env0 X.prog X.w X.K X.mg X.base X.A X.stack s H :=
  ⟨I.ok.frames, I.ok.mod, I.bs, Nat.le_trans I.ok.bsz I.sz, I.stack, I.stkFree, I.hok, I.bare⟩
/-- behind a call -/
theorem Inv.after {Q : VK} {u : Value} (I : Inv X pins σ H s) (h : CE X.stack X.prog X.w H s Q u s') : EP X pins σ Q u s' := by
  obtain ⟨v, H', os, bare, un, hok, r, q⟩ := h
  obtain ⟨hh, g, d, t, os'⟩ := s'
  obtain rfl : os' = s.os := os
  exact ⟨v, H', I.call (h' := hh) (g' := g) (d' := d) (t' := t) (ch := []) un hok bare (fun b z => absurd z (by simp)), r, q⟩
end

/-! ### calls -/
/-- f(..): the written arguments, then the defaults dvs; E: what is wanted of an exception -/
noncomputable def tCall (sp : Sp) (dvs : List V) (E : XK) (t : TA) : TE := fun σ H Q => t σ H fun vs H1 => sp (vs ++ dvs) H1 Q E
/-- how the parameters are bound: us the positional arguments, kw the keywords' values by name, ds the defaults that fill up -/
noncomputable def Binds (K : PySem.W.Frag) (fd : FuncData) (ps : List Str) (ds : List Value) : Prop :=
  ∀ (s : Shared) (us : List Value), K.In s.heap → (us ++ ds).length = ps.length → BindsTo s fd ⟨us, []⟩ (ps.zip (us ++ ds))
/-- every parameter is given -/
theorem Binds.all {K : PySem.W.Frag} {fd : FuncData} {ps : List Str} (h : ∀ us : List Value, us.length = ps.length → bindArgs fd ⟨us, []⟩ = pure (ps.zip us)) : Binds K fd ps [] := fun s us _ hl => by
  rw [List.append_nil] at hl ⊢
  exact .of_eq (h us hl)

/-- an exception of a callee reaches what this body wants of exceptions -/
noncomputable def Passes (CX : CXT) (X : Cx) (E : XK) : Prop := ∀ (pins : List (Addr × Obj)) (σ : St) (H : Hp) (s : Shared) (e : Value) (s' : Shared), Inv X pins σ H s → CX X.stack H s E e s' → X.xe e s'

section
variable {X : Cx} {CX : CXT} {k : Nat} {f C : Addr} {fd : FuncData} {ps : List Str} {sp : Sp} {dvs : List V} {ds : List Value} {E : XK} {x m : Str} {p pos apos : Pos} {e o : Expr} {es : List Expr} {ta : TE} {t : TA}

/-- the callee runs -/
theorem run_fn {pins : List (Addr × Obj)} {σ : St} {H : Hp} {s : Shared} {Q : VK} {us : List Value} {vs : List V} (F : FnOk X.prog X.w X.K X.mg X.base CX k f fd ps sp) (hr : Room k X.A) (hb : Binds X.K fd ps ds) (hd : Vals dvs ds) (hx : Passes CX X E)
    (I : Inv X pins σ H s) (r : Vals vs us) (h : sp (vs ++ dvs) H Q E) : wpAny (model X.prog X.w) X.A (call (.ref f) us) (EP X pins σ Q) X.xe s := by
  have r2 : Vals (vs ++ dvs) (us ++ ds) := r.append hd
  have hl : (us ++ ds).length = ps.length := by rw [← r2.length]; exact F.len _ _ _ _ h
  refine wpAny_call (codeAny_mono (F.run X.A X.stack s H ⟨us, []⟩ (us ++ ds) (vs ++ dvs) Q E hr I.env0 (hb s us I.kIn hl) r2 h) fun r s' hq => ?_)
  cases r with
  | error e => exact hx pins σ H s e s' I hq
  | ok fl =>
    cases fl with
    | ret u => exact I.after hq
    | next => exact False.elim hq
    | brk => exact False.elim hq
    | cont => exact False.elim hq

theorem pe_call (F : FnOk X.prog X.w X.K X.mg X.base CX k f fd ps sp) (hr : Room k X.A) (hg : Gl X x) (hm : X.mg x = some (.ref f)) (hk : PySem.W.keepIn X.K (.ref f) = true) (hb : Binds X.K fd ps ds) (hd : Vals dvs ds) (hx : Passes CX X E)
    (ha : PA X (e :: es) t) (hdb : (x == ("__debug__" : Str)) = false := by decide) (he : starEach (e :: es) X.env = (false, eval e X.env) :: starEach es X.env := by rfl) (hpl : (backTo pos (starEach es X.env)).any (·.1) = false := by rfl) :
    PE X (.Call (.Name x p) (e :: es) [] pos) (tCall sp dvs E t) := by
  intro pins s σ H Q I h
  refine wpAny_Call_Name_kw (ld_glob I hg hm ?_ hdb)
  refine PySem.W.callWith_K (h₀ := X.base) I.ok.mod.kin hk (thn (ha pos pins s σ H _ I h) fun us s1 ⟨vs, H1, I1, r, q⟩ => ⟨I1.kIn, ?_⟩) he hpl
  exact run_fn F hr hb hd hx I1 r q
end

/-! ### keywords -/
section
variable {X : Cx} {CX : CXT} {k : Nat} {f C : Addr} {fd : FuncData} {ps ks : List Str} {sp : Sp} {E : XK} {x m : Str} {p pos apos kpos : Pos} {e o : Expr} {es : List Expr} {kws : List Keyword} {te ta : TE} {t tk : TA} {nm : Option Str}
variable {g : List Value → List Value → List Value} {gV : List V → List V → List V}
end

/-! ### a def's body keeps its promise -/
/-- names: the parameters first -/
structure FnScope (N P : List Str) (sc : Scope) : Prop where
  kind : sc.kind = .function
  co : sc.isCoroutine = false
  gen : sc.isGenerator = false
  nd : N.Nodup
  pre : N.take P.length = P
  par : ∀ x ∈ P, sc.names.lookup x = some .local ∨ sc.names.lookup x = some .cell
  nofree : ∀ y ∈ sc.names, y.2 ≠ .free

theorem bindL_out {kindOf : Str → Option NameKind} {x : Str} : ∀ {binds : List (Str × Value)} {m : Str → Option Value}, (∀ v, (x, v) ∉ binds) → bindL kindOf binds m x = m x
  | [], _, _ => rfl
  | (n, v) :: r, m, h => by
    unfold bindL
    rw [bindL_out fun w hw => h w (List.mem_cons_of_mem _ hw)]
    split
    · have : x ≠ n := by rintro rfl; exact h v List.mem_cons_self
      simp [this]
    · rfl
theorem bindC_out {kindOf : Str → Option NameKind} {x : Str} : ∀ {binds : List (Str × Value)} {m : Str → Option Value}, (∀ v, (x, v) ∉ binds) → bindC kindOf binds m x = m x
  | [], _, _ => rfl
  | (n, v) :: r, m, h => by
    unfold bindC
    rw [bindC_out fun w hw => h w (List.mem_cons_of_mem _ hw)]
    split
    · rfl
    · have : x ≠ n := by rintro rfl; exact h v List.mem_cons_self
      simp [this]
theorem bindL_get {kindOf : Str → Option NameKind} {x : Str} {v : Value} : ∀ {P : List Str} {vs : List Value} {i : Nat} {m : Str → Option Value}, P.Nodup → P[i]? = some x → vs[i]? = some v → kindOf x = some .local →
    bindL kindOf (P.zip vs) m x = some v
  | [], _, _, _, _, h, _, _ => by simp at h
  | _ :: _, [], _, _, _, _, h, _ => by simp at h
  | p :: P, w :: vs, 0, m, nd, h1, h2, hk => by
    simp at h1 h2; subst h1; subst h2
    show bindL kindOf ((p, w) :: P.zip vs) m p = _
    unfold bindL
    rw [bindL_out fun v hv => (List.nodup_cons.mp nd).1 (List.of_mem_zip hv).1, if_pos hk]
    simp
  | p :: P, w :: vs, i + 1, m, nd, h1, h2, hk => by
    show bindL kindOf ((p, w) :: P.zip vs) m x = _
    unfold bindL
    exact bindL_get (i := i) (List.nodup_cons.mp nd).2 (by simpa using h1) (by simpa using h2) hk
theorem bindC_get {kindOf : Str → Option NameKind} {x : Str} {v : Value} : ∀ {P : List Str} {vs : List Value} {i : Nat} {m : Str → Option Value}, P.Nodup → P[i]? = some x → vs[i]? = some v → kindOf x ≠ some .local →
    bindC kindOf (P.zip vs) m x = some v
  | [], _, _, _, _, h, _, _ => by simp at h
  | _ :: _, [], _, _, _, _, h, _ => by simp at h
  | p :: P, w :: vs, 0, m, nd, h1, h2, hk => by
    simp at h1 h2; subst h1; subst h2
    show bindC kindOf ((p, w) :: P.zip vs) m p = _
    unfold bindC
    rw [bindC_out fun v hv => (List.nodup_cons.mp nd).1 (List.of_mem_zip hv).1, if_neg hk]
    simp
  | p :: P, w :: vs, i + 1, m, nd, h1, h2, hk => by
    show bindC kindOf ((p, w) :: P.zip vs) m x = _
    unfold bindC
    exact bindC_get (i := i) (List.nodup_cons.mp nd).2 (by simpa using h1) (by simpa using h2) hk

/-- the names' values at the entry -/
noncomputable def start (N : List Str) (vs : List V) : St := vs.map some ++ List.replicate (N.length - vs.length) none

/-- the context of a def's body, at its entry; an exception leaves the frame, then lies as CX says -/
noncomputable def cxOf (CX : CXT) (P : Program) (w : World) (K : PySem.W.Frag) (mg : Str → Option Value) (base : Heap) (N : List Str) (qual : Str) (scope : Scope) (f : Addr) (cd : Value) (A : Around) (outer : List Env) (s : Shared) (H : Hp) (E : XK) : Cx where
  prog := P
  w := w
  K := K
  mg := mg
  base := base
  A := A.deeper (envOfC qual scope s.heap.objs.size f cd)
  N := N
  s₀ := s
  H₀ := H
  env := envOfC qual scope s.heap.objs.size f cd
  outer := outer
  stack := envOfC qual scope s.heap.objs.size f cd :: outer
  ex := []
  calm := true
  fn := fun _ => true
  pn := []
  xe := fun e s' => wpAny (model P w) (A.deeper (envOfC qual scope s.heap.objs.size f cd)) (leaving (envOfC qual scope s.heap.objs.size f cd) e) (fun _ s'' => CX outer H s E e s'') (fun e' s'' => CX outer H s E e' s'') s'

theorem cell_has {sc : Scope} {n : Nat} {x : Str} (h : sc.names.lookup x = some .cell) : ∃ c, (cellsFrom n sc.names []).lookup x = some c := by
  have q := PySem.W.cellsFrom_some sc.names n [] (.inl h)
  exact Option.isSome_iff_exists.mp q

theorem inv_start {CX : CXT} {P : Program} {w : World} {K : PySem.W.Frag} {mg : Str → Option Value} {base : Heap} {N ps : List Str} {qual : Str} {scope : Scope} {f : Addr} {cd : Value} {A : Around} {outer : List Env} {s s1 : Shared} {H : Hp} {E : XK} {us : List Value} {vs : List V}
    (S : FnScope N ps scope) (hd : A.handled = none) (e0 : Env0 P w K mg base A outer s H) (hl : vs.length = ps.length) (r : Vals vs us)
    (x : InCallC s s.heap.objs.size (bindL (envOfC qual scope s.heap.objs.size f cd).kindOf (ps.zip us) fun _ => none) (cellsFrom (s.heap.objs.size + 1) scope.names []) (bindC (envOfC qual scope s.heap.objs.size f cd).kindOf (ps.zip us) fun _ => none) s1) :
    Inv (cxOf CX P w K mg base N qual scope f cd A outer s H E) [] (start N vs) H s1 := by
  have hpl : ps.length ≤ N.length := by have := congrArg List.length S.pre; rw [List.length_take] at this; omega
  obtain ⟨h1, tk, rfl, hk⟩ := x.done
  have noA : ∀ b : Addr, b ∉ (cxOf CX P w K mg base N qual scope f cd A outer s H E).ex := fun b z => absurd (show b ∈ ([] : List Addr) from z) (by simp)
  refine ⟨⟨e0.mod, S.kind, rfl, rfl, Nat.le_refl _, fun y z c h1 h2 => ?_, fun y hy => ?_, fun y c _ h => ?_, fun _ => hd, Around.frames_deeper e0.frames, .inr ⟨rfl, rfl⟩, fun b z => absurd z (noA b), e0.bs, e0.bsz, fun b _ _ => noA b, fun b z => absurd z (noA b), e0.funs, e0.frf⟩,
    rfl, e0.bare, Un.kept hk, ⟨_, x.toInCall.ns, fun i y v h1 h2 h3 => ?_⟩, fun y c h => ⟨_, x.cell y c h⟩, e0.hok.fresh (Nat.le_refl _), fun y c h => ?_, fun p hp => absurd (show p ∈ ([] : List (Addr × Obj)) from hp) (by simp), e0.hok.kept hk, ?_⟩
  · exact name_of_addr x.apart (PySem.mem_of_lookup h1) (PySem.mem_of_lookup h2)
  · have hy : scope.names.lookup y = some .cell ∨ scope.names.lookup y = some .free := hy
    rcases hy with hy | hy
    · exact cell_has hy
    · exact absurd rfl (S.nofree _ (PySem.mem_of_lookup hy))
  · exact Nat.le_of_lt (x.above y c (PySem.mem_of_lookup h))
  · have hi : i < vs.length := by
      unfold start at h2
      by_cases hi : i < vs.length
      · exact hi
      · rw [List.getElem?_append_right (by simpa using hi)] at h2
        rw [List.getElem?_replicate] at h2
        split at h2 <;> cases h2
    have ha : vs[i]? = some v := by
      unfold start at h2
      rw [List.getElem?_append_left (by simpa using hi), List.getElem?_map] at h2
      cases e : vs[i]? with
      | none => rw [e] at h2; cases h2
      | some a => rw [e] at h2; cases h2; rfl
    obtain ⟨u, hu, rv⟩ := r.get ha
    have hp : ps[i]? = some y := by
      rw [← S.pre, List.getElem?_take_of_lt (by omega)]; exact h1
    have ndP : ps.Nodup := by rw [← S.pre]; exact S.nd.sublist (List.take_sublist _ _)
    refine ⟨u, rv, ?_⟩
    rcases S.par y (List.mem_of_getElem? hp) with k | k
    · exact .inl ⟨k, bindL_get ndP hp hu k⟩
    · obtain ⟨c, e⟩ := cell_has (n := s.heap.objs.size + 1) k
      refine .inr ⟨.inl k, c, e, ?_⟩
      have q := x.cell y c e
      rw [bindC_get ndP hp hu (by show scope.names.lookup y ≠ _; rw [k]; decide)] at q
      exact q
  · exact e0.hok.fresh (Nat.le_of_lt (x.above y c (PySem.mem_of_lookup h)))
  · unfold start
    show _ = N.length
    rw [List.length_append, List.length_map, List.length_replicate]
    omega

/-- THE RULE: a def (or a method) of the text, by its body. The body's reading t is chosen for each entry; it is run at the parameters' values -/
theorem fn_of {CX : CXT} {P : Program} {w : World} {K : PySem.W.Frag} {mg : Str → Option Value} {base : Heap} {k : Nat} {f : Addr} {name qual : Str} {params : Arguments} {body : List Stmt} {scope : Scope} {dV kV doc pm cdv ct oc : Value} {an od : Option Addr}
    {osl : Array (Option Value)} {N ps : List Str} {sp : Sp} (lk : K.lookup f = some ⟨oc, od, .func (PySem.W.fnOf name qual params body scope dV kV doc pm an cdv ct), osl⟩) (hcd : PySem.W.codeIn K cdv qual = true) (S : FnScope N ps scope)
    (len : ∀ vs H Q E, sp vs H Q E → vs.length = ps.length)
    (hbody : ∀ (A : Around) (outer : List Env) (s : Shared) (H : Hp) (vs : List V) (Q : VK) (E : XK), Room k (A.deeper (envOfC qual scope s.heap.objs.size f cdv)) → sp vs H Q E →
      ∃ t, PSs (cxOf CX P w K mg base N qual scope f cdv A outer s H E) body t ∧ t { nx := fun _ H' => Q .non H', rt := Q } (start N vs) H) :
    FnOk P w K mg base CX (k + 1) f (PySem.W.fnOf name qual params body scope dV kV doc pm an cdv ct) ps sp := by
  refine ⟨len, fun A outer s H args us vs Q E hr e0 hb r hsp => ?_⟩
  have hl := len _ _ _ _ hsp
  have KX : K.In s.heap := e0.mod.kin.keeps fun b o e => (e0.bs b o e).1
  have lim : s.heap.NoLimit := e0.mod.nolimit.keeps fun b o e => (e0.bs b o e).1
  have hkind : ∀ y ∈ ps.zip us, scope.names.lookup y.1 = some .local ∨ (scope.names.lookup y.1 = some .cell ∧ ((cellsFrom (s.heap.objs.size + 1) scope.names []).lookup y.1).isSome = true) := fun ⟨n, v⟩ hy => by
    rcases S.par n (List.of_mem_zip hy).1 with q | q
    · exact .inl q
    · exact .inr ⟨q, PySem.W.cellsFrom_some _ _ _ (.inl q)⟩
  refine codeAny_call_function hr.depth (KX _ _ lk) rfl S.co S.gen rfl (PySem.W.codeRec_of KX hcd) (hb _ _ _ _ ?_)
  refine wpAny_newFunctionEnv_cells S.kind hkind fun env he s1 x => ?_
  subst he
  refine ⟨lim.keeps x.toInCall.keep, codeAny_func ?_⟩
  obtain ⟨t, ht, hq⟩ := hbody A outer s H vs Q E (hr.deeper _) hsp
  have I : Inv (cxOf CX P w K mg base N qual scope f cdv A outer s H E) [] (start N vs) H s1 := inv_start S hr.hd e0 hl r x
  refine wpAny_mono (ht [] s1 (start N vs) H _ I hq) (fun fl s' hs => ?_) fun e s' hs => hs
  have fin : ∀ {σ' : St} {H' : Hp} {v : V} {u : Value}, Inv (cxOf CX P w K mg base N qual scope f cdv A outer s H E) [] σ' H' s' → RelV v u → Q v H' → CE outer P w H s Q u s' :=
    fun {σ' H' v u} J rv q => ⟨v, H', J.os, J.bare, J.base, J.hok, rv, q⟩
  cases fl with
  | ret u =>
    obtain ⟨v, σ', H', J, rv, q⟩ := hs
    exact fin J rv q
  | next =>
    obtain ⟨σ', H', J, q⟩ := hs
    exact fin (v := V.non) (u := Value.none) J rfl q
  | brk =>
    obtain ⟨_, _, _, q⟩ := hs
    exact False.elim q
  | cont =>
    obtain ⟨_, _, _, q⟩ := hs
    exact False.elim q
end L2

namespace L2
open PySem PySem.Spec PyProof.Rows
section
variable {X : Cx} {x : Str} {p pos : Pos} {e : Expr} {es : List Expr} {t : TA} {id T : String} {r : List V → Hp → VK → Prop}

noncomputable def tCB (r : List V → Hp → VK → Prop) (t : TA) : TE := fun σ H Q => t σ H fun vs H1 => r vs H1 Q
/-- f(e, ..), f a built-in function -/
theorem pe_callB (hc : CallR X (.builtin id) r) (hg : Gl X x) (hm : X.mg x = none) (hv : bootBuiltins x = some (.builtin id)) (ha : PA X (e :: es) t) (hn : x ≠ "__name__" := by decide) (hdb : (x == ("__debug__" : Str)) = false := by decide)
    (he : starEach (e :: es) X.env = (false, eval e X.env) :: starEach es X.env := by rfl) (hpl : (backTo pos (starEach es X.env)).any (·.1) = false := by rfl) : PE X (.Call (.Name x p) (e :: es) [] pos) (tCB r t) := by
  intro pins s σ H Q I h
  refine wpAny_Call_Name_kw (ld_blt I hg hm hv ?_ hn hdb)
  exact PyProof.Rows.callWith_builtin1 (thn (ha pos pins s σ H _ I h) fun us s1 ⟨vs, H1, I1, r1, q1⟩ => hc pins s1 σ H1 vs us Q I1 r1 q1) he hpl
/-- T(e, ..), T a built-in type -/
theorem pe_callTy (hc : CallR X (.type T) r) (hg : Gl X x) (hm : X.mg x = none) (hv : bootBuiltins x = some (.type T)) (ha : PA X (e :: es) t) (hn : x ≠ "__name__" := by decide) (hdb : (x == ("__debug__" : Str)) = false := by decide)
    (he : starEach (e :: es) X.env = (false, eval e X.env) :: starEach es X.env := by rfl) (hpl : (backTo pos (starEach es X.env)).any (·.1) = false := by rfl) : PE X (.Call (.Name x p) (e :: es) [] pos) (tCB r t) := by
  intro pins s σ H Q I h
  refine wpAny_Call_Name_kw (ld_blt I hg hm hv ?_ hn hdb)
  exact PyProof.Rows.callWith_type1 (thn (ha pos pins s σ H _ I h) fun us s1 ⟨vs, H1, I1, r1, q1⟩ => hc pins s1 σ H1 vs us Q I1 r1 q1) he hpl
end
end L2

namespace HT
open PySem PyProof.Rows

section
open PySem.SeqAt
open PySem.AutoSeq1 (wpAny_loadPart')
open PySem.MeetsSeq PySem.MeetsSeq2 PySem.MeetsSeq3

end

section
variable {prog : Program} {w : World} {A : Around} {E : Value → Shared → Prop} {s : Shared}

/-! ### t[a:b], not the whole -/
/-- a slice's bound as a place among n (d where it is left out) -/
noncomputable def sIx (n d : Nat) : Option Int → Nat
  | none => d
  | some v => if v < 0 then (v + (n : Int)).toNat else min v.toNat n
theorem sIx_none (n d : Nat) : sIx n d none = d := rfl
theorem sIx_nat (n d k : Nat) : sIx n d (some (k : Int)) = min k n := by
  show (if (k : Int) < 0 then ((k : Int) + (n : Int)).toNat else min (k : Int).toNat n) = min k n
  rw [if_neg (by omega), Int.toNat_natCast]
end
end HT

namespace L2
open PySem PySem.Spec PyProof.Rows

/-! ### the parts of a slice -/
noncomputable abbrev TO := St → Hp → (Option Int → Hp → Prop) → Prop
/-- a slice's part (left out, or an int) -/
noncomputable def PO (X : Cx) (e : Option Expr) (t : TO) : Prop :=
  ∀ (pins : List (Addr × Obj)) (s : Shared) (σ : St) (H : Hp) (Q : Option Int → Hp → Prop), Inv X pins σ H s → t σ H Q →
    wpAny (model X.prog X.w) X.A (evalPart e X.env) (fun u s' => ∃ o H', Inv X pins σ H' s' ∧ IsPart u o ∧ Q o H') X.xe s
noncomputable def tNoPart : TO := fun _ H Q => Q none H
noncomputable def tPart (t : TE) : TO := fun σ H Q => t σ H fun x H1 => ∃ i, x = .int i ∧ Q (some i) H1

theorem intsAre_of {ns : List Int} : ∀ {us : List Value}, Vals (ns.map V.int) us → IntsAre us ns := by
  induction ns with
  | nil => intro us r; rw [List.map_nil] at r; cases r; exact .nil
  | cons n ns ih =>
    intro us r
    rw [List.map_cons] at r
    cases r with
    | cons r1 r2 =>
      obtain ⟨t, e⟩ := r1
      subst e
      exact .cons n t (ih r2)

section
variable {X : Cx} {e : Expr} {te : TE} {lo hi : Option Expr} {tl th : TO} {pos p2 : Pos}

theorem po_none : PO X none tNoPart := by
  intro pins s σ H Q I h
  rw [evalPart_none]
  exact wpAny_pure ⟨none, H, I, .none, h⟩
theorem po_some (h : PE X e te) : PO X (some e) (tPart te) := by
  intro pins s σ H Q I hw
  rw [evalPart_some]
  refine thn (h pins s σ H _ I hw) fun u s1 ⟨x, H1, I1, r1, q1⟩ => ?_
  obtain ⟨i, rfl, q⟩ := q1
  obtain ⟨t, rfl⟩ := r1
  exact ⟨some i, H1, I1, .int i t, q⟩

/-- what a slice of a value is, by values: the slice object stands at sl -/
noncomputable def SlR (X : Cx) (r : V → Option Int → Option Int → Hp → VK → Prop) : Prop :=
  ∀ (pins : List (Addr × Obj)) (s : Shared) (σ : St) (H : Hp) (x : V) (v vl vu : Value) (lo hi : Option Int) (sl : Addr) (Q : VK), Inv X pins σ H s → RelV x v → s.heap.IsSliceOf sl vl vu .none → IsPart vl lo → IsPart vu hi → r x lo hi H Q →
    ∃ T id, typeLookup (.type T) "__getitem__" = pure (some (.builtin id)) ∧ s.TypeIs v T ∧ wpAny (model X.prog X.w) X.A (getItem v (.ref sl)) (EP X pins σ Q) X.xe s
noncomputable def tSl (r : V → Option Int → Option Int → Hp → VK → Prop) (te : TE) (tl th : TO) : TE := fun σ H Q => te σ H fun x H1 => tl σ H1 fun l H2 => th σ H2 fun u H3 => r x l u H3 Q
/-- a[lo:hi], any a -/
theorem pe_slice {r : V → Option Int → Option Int → Hp → VK → Prop} (hr : SlR X r) (he : PE X e te) (hl : PO X lo tl) (hu : PO X hi th) : PE X (.Subscript e (.Slice lo hi none p2) pos) (tSl r te tl th) := by
  intro pins s σ H Q I h
  refine Subscript_ (thn (he pins s σ H _ I h) fun v s1 ⟨x, H1, I1, r1, q1⟩ => ?_)
  refine wpAny_Slice (thn (hl pins s1 σ H1 _ I1 q1) fun vl s2 ⟨l, H2, I2, pl, q2⟩ => thn (hu pins s2 σ H2 _ I2 q2) fun vu s3 ⟨u, H3, I3, pu, q3⟩ => ?_)
  rw [evalPart_none]
  refine wpAny_pure ?_
  have I4 : Inv X pins σ H3 { s3 with heap := s3.heap.push { cls := .type "slice", data := .fields #[vl, vu, .none] } } := I3.kept (t' := s3.toks) fun b ob q => Heap.get?_push_of_some _ q
  obtain ⟨T, id, hT, ht, hg⟩ := hr pins { s3 with heap := s3.heap.push { cls := .type "slice", data := .fields #[vl, vu, .none] } } σ H3 x v vl vu l u s3.heap.objs.size Q I4 r1 (Heap.IsSliceOf.new ..) pl pu q3
  show wpAny (model X.prog X.w) X.A (subscriptTail e (.Slice lo hi none p2) v (.ref s3.heap.objs.size)) (EP X pins σ Q) X.xe { s3 with heap := s3.heap.push { cls := .type "slice", data := .fields #[vl, vu, .none] } }
  exact tail_any (ops := [.ref s3.heap.objs.size, v]) ht hT hg (by with_unfolding_all rfl)

/-- the items of xs[lo:hi] -/
noncomputable def cutV (xs : List V) (lo hi : Option Int) : List V := (xs.drop (HT.sIx xs.length 0 lo)).take (HT.sIx xs.length xs.length hi - HT.sIx xs.length 0 lo)
theorem cutV_length (xs : List V) (lo hi : Option Int) : (cutV xs lo hi).length ≤ xs.length := by
  unfold cutV
  rw [List.length_take, List.length_drop]
  omega
/-! ### t < u, t + u -/
end
end L2

namespace L2
open PySem PySem.Spec PyProof.Rows

/-! ### places -/
/-- the place that an index of any sign means -/
noncomputable def ixN (n : Nat) (i : Int) : Option Nat := if 0 ≤ i then (if i < n then some i.toNat else none) else if -(n : Int) ≤ i then some (i + n).toNat else none
noncomputable def atI {α : Type} (xs : List α) (i : Int) : Option α := (ixN xs.length i).bind fun j => xs[j]?
theorem ixN_seq {n : Nat} {i : Int} {j : Nat} (h : ixN n i = some j) : seqIndex? i n = some j ∧ j < n ∧ -(n : Int) ≤ i ∧ i < n := by
  unfold ixN at h
  by_cases h0 : 0 ≤ i
  · rw [if_pos h0] at h
    by_cases h1 : i < n
    · rw [if_pos h1] at h
      have e : i.toNat = j := Option.some.inj h
      exact ⟨by rw [seqIndex_of h0 h1, e], by omega, by omega, h1⟩
    · rw [if_neg h1] at h; cases h
  · rw [if_neg h0] at h
    by_cases h1 : -(n : Int) ≤ i
    · rw [if_pos h1] at h
      have e : (i + n).toNat = j := Option.some.inj h
      exact ⟨by rw [seqIndex_neg (by omega) h1, e], by omega, h1, by omega⟩
    · rw [if_neg h1] at h; cases h
theorem atI_get {α : Type} {xs : List α} {i : Int} {v : α} (h : atI xs i = some v) : ∃ j, seqIndex? i xs.length = some j ∧ xs[j]? = some v ∧ j < xs.length ∧ -(xs.length : Int) ≤ i ∧ i < xs.length := by
  unfold atI at h
  cases e : ixN xs.length i with
  | none => rw [e] at h; cases h
  | some j =>
    rw [e] at h
    obtain ⟨h1, h2, h3, h4⟩ := ixN_seq e
    exact ⟨j, h1, h, h2, h3, h4⟩
theorem atI_nat {α : Type} {xs : List α} {j : Nat} {v : α} (h : xs[j]? = some v) : atI xs (j : Int) = some v := by
  have hj : j < xs.length := (List.getElem?_eq_some_iff.mp h).1
  have e : ixN xs.length (j : Int) = some j := by
    unfold ixN
    rw [if_pos (by omega), if_pos (by omega)]; simp
  unfold atI; rw [e]; exact h
/-! ### what may be subscripted -/
/-- what stands as an index of a plain subscript -/
noncomputable def PlainIx (b : Expr) : Prop := ∀ o i, subscripted b false o i = operate [o, i] (getItem o i)
/-- a subscript by values -/
noncomputable def IxR (X : Cx) (r : R2) : Prop :=
  ∀ (value slice : Expr) (pins : List (Addr × Obj)) (s : Shared) (σ : St) (H : Hp) (x y : V) (v u : Value) (Q : VK), Inv X pins σ H s → RelV x v → RelV y u → r x y H Q →
    subscripted slice false v u = operate [v, u] (getItem v u) → wpAny (model X.prog X.w) X.A (subscriptTail value slice v u) (EP X pins σ Q) X.xe s
/-- a call of a builtin's method by values: the receiver, the arguments -/
noncomputable def MtR (X : Cx) (id : String) (r : V → List V → Hp → VK → Prop) : Prop :=
  ∀ (pins : List (Addr × Obj)) (s : Shared) (σ : St) (H : Hp) (x : V) (xs : List V) (v : Value) (us : List Value) (Q : VK), Inv X pins σ H s → RelV x v → Vals xs us → r x xs H Q →
    wpAny (model X.prog X.w) X.A (call (.builtin id) (v :: us)) (EP X pins σ Q) X.xe s
section
variable {X : Cx} {a b : Expr} {ta tb : TE} {pos : Pos}
/-- a[b] -/
theorem pe_ix {r : R2} (hr : IxR X r) (ha : PE X a ta) (hb : PE X b tb) (hs : PlainIx b) : PE X (.Subscript a b pos) (tOp r ta tb) := by
  intro pins s σ H Q I h
  exact Subscript_ (binT ha hb I h fun v u s2 x y H2 I2 rx ry q => hr a b pins s2 σ H2 x y v u Q I2 rx ry q (hs _ _))

noncomputable def rIxL (K : PySem.W.Frag) : R2 := fun x y H Q => ∃ p xs i v, x = .ref p ∧ y = .int i ∧ SqL K H p xs ∧ atI xs i = some v ∧ Q v H
noncomputable def rIxT (K : PySem.W.Frag) : R2 := fun x y H Q => ∃ p xs i v, x = .ref p ∧ y = .int i ∧ SqT K H p xs ∧ atI xs i = some v ∧ Q v H
theorem ix_list : IxR X (rIxL X.K) := by
  intro value slice pins s σ H x y v u Q I rx ry h hs
  obtain ⟨p, xs, i, z, rfl, rfl, hq, he, q⟩ := h
  cases rx
  obtain ⟨t, rfl⟩ := ry
  obtain ⟨its, r, pl, hz⟩ := I.list hq
  obtain ⟨j, h1, h2, h3, h4, h5⟩ := atI_get he
  obtain ⟨w, ew, rw'⟩ := r.get h2
  have hl := r.length
  have hn := line63
  have fin : EP X pins σ Q w s := ⟨z, H, I, rw', q⟩
  by_cases h0 : 0 ≤ i
  · have hj : i.toNat = j := by
      rw [seqIndex_of h0 h5] at h1
      exact Option.some.inj h1
    exact item_listR pl.isList h0 (by omega) (by rw [hj]; simpa using ew) fin hs
  · have hj : (i + (its.toArray.size : Int)).toNat = j := by
      rw [seqIndex_neg (by omega) h4] at h1
      rw [List.size_toArray, ← hl]
      exact Option.some.inj h1
    exact subscriptTail_builtinR (x := w) pl.isList.typeIs slot_list_getitem.lookup
      (wpAny_getItem_list_neg (Q := fun r s' => r = w ∧ EP X pins σ Q r s') pl.isList (by omega) (by rw [List.size_toArray] <;> omega) (by omega) (by rw [hj]; simpa using ew) ⟨rfl, fin⟩) hs
theorem ix_tup : IxR X (rIxT X.K) := by
  intro value slice pins s σ H x y v u Q I rx ry h hs
  obtain ⟨p, xs, i, z, rfl, rfl, hq, he, q⟩ := h
  cases rx
  obtain ⟨t, rfl⟩ := ry
  obtain ⟨its, r, pl, hz⟩ := I.tuple hq
  obtain ⟨j, h1, h2, h3, h4, h5⟩ := atI_get he
  obtain ⟨w, ew, rw'⟩ := r.get h2
  have hl := r.length
  have hn := line63
  have fin : EP X pins σ Q w s := ⟨z, H, I, rw', q⟩
  exact subscriptTail_builtinR (x := w) pl.typeIs slot_tuple_getitem.lookup
    (getItem_tuple (j := j) (Q := fun r s' => r = w ∧ EP X pins σ Q r s') pl (by omega) (by omega) (by rw [List.size_toArray, ← hl]; exact h1) (by simpa using ew) ⟨rfl, fin⟩) hs
/-! ### xs[i] = v, any sign -/
/-- the list's object behind a store -/
theorem mapSeq_set (its : List Value) (n j : Nat) (u : Value) : Obj.mapSeq (·.setIfInBounds j u) { cls := .type "list", data := .seq its.toArray n } = { cls := .type "list", data := .seq (its.set j u).toArray n } := by
  simp [Obj.mapSeq]
theorem Inv.lst {pins : List (Addr × Obj)} {σ : St} {H : Hp} {s : Shared} {p : Addr} {xs : List V} (I : Inv X pins σ H s) (h : H p = some (.lst xs)) :
    ∃ (its : List Value) (n : Nat), Vals xs its ∧ s.heap.get? p = some { cls := .type "list", data := .seq its.toArray n } ∧ xs.length ≤ sizeLine := by
  obtain ⟨z, its, n, r, e⟩ := I.hok p _ h
  exact ⟨its, n, r, e, z⟩
/-- the list at p is written by an update of its object -/
theorem Inv.lstUpd {pins : List (Addr × Obj)} {σ : St} {H : Hp} {s : Shared} {p : Addr} {xs ys : List V} {its its' : List Value} {n n' : Nat} {f : Obj → Obj} (I : Inv X pins σ H s) (h : H p = some (.lst xs))
    (ho : s.heap.get? p = some { cls := .type "list", data := .seq its.toArray n }) (hf : f { cls := .type "list", data := .seq its.toArray n } = { cls := .type "list", data := .seq its'.toArray n' }) (r : Vals ys its') (hz : ys.length ≤ sizeLine) (t : Nat) :
    Inv X pins σ (upd H p (.lst ys)) { s with heap := s.heap.update p f, toks := t } := by
  have e : (s.heap.update p f).get? p = some { cls := .type "list", data := .seq its'.toArray n' } := by
    rw [Heap.get?_update_self f ho (by rw [hf] <;> rfl), hf]
  refine I.write (x := p) (e := p) (by rw [h]; trivial) (.inl rfl) (fun b u hb q => (Heap.get?_update_other _ _ (Ne.symm hb)).trans q) ⟨_, e⟩ ?_
  exact ⟨hz, its', n', r, e⟩
noncomputable def rSetL : V → V → V → Hp → (Hp → Prop) → Prop := fun o i v H Q => ∃ p xs k j, o = .ref p ∧ i = .int k ∧ H p = some (.lst xs) ∧ ixN xs.length k = some j ∧ Q (upd H p (.lst (xs.set j v)))
theorem set_list : PSet X rSetL := by
  intro pins s σ H o i v ov iv u Q I ro ri rv h
  obtain ⟨p, xs, k, j, rfl, rfl, hp, hj, q⟩ := h
  cases ro
  obtain ⟨t, rfl⟩ := ri
  obtain ⟨its, n, r, ho, hz⟩ := I.lst hp
  obtain ⟨h1, h2, h3, h4⟩ := ixN_seq hj
  have hl := r.length
  have hn := line63
  have I' : Inv X pins σ (upd H p (.lst (xs.set j v))) { s with heap := s.heap.update p (Obj.mapSeq (·.setIfInBounds j u)) } :=
    I.lstUpd hp ho (mapSeq_set its n j u) (r.set rv j) (by rw [List.length_set]; exact hz) s.toks
  by_cases h0 : 0 ≤ k
  · have hk : k.toNat = j := by
      rw [seqIndex_of h0 h4] at h1
      exact Option.some.inj h1
    exact PySem.W.ki_setAt ho h0 (by omega) (by rw [List.size_toArray, ← hl]; exact h4) (by rw [hk]; exact ⟨_, I', q⟩)
  · have hk : (k + (its.toArray.size : Int)).toNat = j := by
      rw [seqIndex_neg (by omega) h3] at h1
      rw [List.size_toArray, ← hl]
      exact Option.some.inj h1
    exact PySem.W.ki_setBack ho (by omega) (by rw [List.size_toArray, ← hl]; exact h3) (by omega) (by rw [hk]; exact ⟨_, I', q⟩)

/-! ### slices -/
theorem slice_bounds (lo hi : Option Int) (n : Nat) : (sliceBounds lo hi none n).1 = ((HT.sIx n 0 lo : Nat) : Int) ∧ (sliceBounds lo hi none n).2.1 = ((HT.sIx n n hi : Nat) : Int) ∧ (sliceBounds lo hi none n).2.2 = 1 := by
  refine ⟨?_, ?_, rfl⟩
  · cases lo with
    | none => simp [sliceBounds, HT.sIx]
    | some i =>
      simp only [sliceBounds, HT.sIx, Option.getD_none, show (1 : Int) > 0 by decide, if_true]
      by_cases h : i < 0
      · simp only [h, if_true] <;> omega
      · simp only [h, if_false] <;> omega
  · cases hi with
    | none => simp [sliceBounds, HT.sIx]
    | some i =>
      simp only [sliceBounds, HT.sIx, Option.getD_none, show (1 : Int) > 0 by decide, if_true]
      by_cases h : i < 0
      · simp only [h, if_true] <;> omega
      · simp only [h, if_false] <;> omega
theorem slicePick_cut (its : List Value) (lo hi : Option Int) : slicePick its.toArray lo hi none = ((its.drop (HT.sIx its.length 0 lo)).take (HT.sIx its.length its.length hi - HT.sIx its.length 0 lo)).toArray := by
  obtain ⟨h1, h2, h3⟩ := slice_bounds lo hi its.toArray.size
  unfold slicePick
  rw [h1, h2, h3]
  simp only [sliceRange_one, pick_run, List.size_toArray] <;> rfl
/-- xs[lo:hi] of a list: a new list -/
noncomputable def rSlL (K : PySem.W.Frag) : V → Option Int → Option Int → Hp → VK → Prop := fun x lo hi H Q => ∃ a xs, x = .ref a ∧ SqL K H a xs ∧ ∀ p, H p = none → Q (.ref p) (upd H p (.lst (cutV xs lo hi)))
theorem sl_list : SlR X (rSlL X.K) := by
  intro pins s σ H x v vl vu lo hi sl Q I rx hs pl pu h
  obtain ⟨a, xs, rfl, hx, q⟩ := h
  cases rx
  obtain ⟨its, r, ht, hz⟩ := I.list hx
  have hlen := r.length
  refine ⟨"list", _, slot_list_getitem.lookup, ht.isList.typeIs, ?_⟩
  refine wpAny_getItem_list_slice ht.isList hs pl pu .none (by simp) ?_ (by rw [List.size_toArray] <;> omega)
  rw [slicePick_cut, ← hlen]
  refine ⟨.ref s.heap.objs.size, _, I.laid (t' := s.toks) (o := .lst (cutV xs lo hi)) (fun b ob q => Heap.get?_push_of_some _ q) (Nat.le_refl _) ?_, rfl, q _ (I.hok.fresh (Nat.le_refl _))⟩
  exact ⟨Nat.le_trans (cutV_length xs lo hi) hz, _, 0, (r.drop (HT.sIx xs.length 0 lo)).take (HT.sIx xs.length xs.length hi - HT.sIx xs.length 0 lo), Heap.get?_push_size _ rfl⟩

/-! ### in, not in: flat items -/
noncomputable def flatV : V → Bool
  | .non => true
  | .bl _ => true
  | .int _ => true
  | .str _ => true
  | _ => false
/-- == of flat values -/
noncomputable def eqV : V → V → Bool
  | .non, .non => true
  | .bl a, .bl b => a == b
  | .bl a, .int b => (if a then 1 else 0) == b
  | .int a, .bl b => a == (if b then 1 else 0)
  | .int a, .int b => a == b
  | .str a, .str b => a == b
  | _, _ => false
theorem eqAt_V {A : Around} {s : Shared} {y x : V} {u v : Value} (ry : RelV y u) (rx : RelV x v) (fy : flatV y = true) (fx : flatV x = true) : SeqAt.EqAt A s u v (eqV y x) := by
  cases y with
  | non =>
    cases ry
    cases x with
    | non => cases rx; exact SeqAt.EqAt.same _
    | bl b => cases rx; exact SeqAt.EqAt.none_bool b
    | int b => obtain ⟨t, rfl⟩ := rx; exact SeqAt.EqAt.none_int b t
    | str b => obtain ⟨t, rfl⟩ := rx; exact SeqAt.EqAt.none_str b t
    | _ => exact absurd (show false = true from fx) Bool.false_ne_true
  | bl a =>
    cases ry
    cases x with
    | non => cases rx; exact SeqAt.EqAt.bool_none a
    | bl b => cases rx; exact SeqAt.EqAt.bool_bool a b
    | int b => obtain ⟨t, rfl⟩ := rx; exact SeqAt.EqAt.bool_int a b t
    | str b => obtain ⟨t, rfl⟩ := rx; exact SeqAt.EqAt.bool_str a b t
    | _ => exact absurd (show false = true from fx) Bool.false_ne_true
  | int a =>
    obtain ⟨t', rfl⟩ := ry
    cases x with
    | non => cases rx; exact SeqAt.EqAt.int_none a t'
    | bl b => cases rx; exact SeqAt.EqAt.int_bool a t' b
    | int b => obtain ⟨t, rfl⟩ := rx; exact SeqAt.EqAt.int_int a t' b t
    | str b => obtain ⟨t, rfl⟩ := rx; exact SeqAt.EqAt.int_str a t' b t
    | _ => exact absurd (show false = true from fx) Bool.false_ne_true
  | str a =>
    obtain ⟨t', rfl⟩ := ry
    cases x with
    | non => cases rx; exact SeqAt.EqAt.str_none a t'
    | bl b => cases rx; exact SeqAt.EqAt.str_bool a t' b
    | int b => obtain ⟨t, rfl⟩ := rx; exact SeqAt.EqAt.str_int a t' b t
    | str b => obtain ⟨t, rfl⟩ := rx; exact SeqAt.EqAt.str_str a t' b t
    | _ => exact absurd (show false = true from fx) Bool.false_ne_true
  | _ => exact absurd (show false = true from fy) Bool.false_ne_true
/-- the items' answers, read off the values (a value's own answer does not lean on its token) -/
noncomputable def eqU (x : V) (u : Value) : Bool := match u with
  | .none => eqV .non x
  | .bool b => eqV (.bl b) x
  | .int i _ => eqV (.int i) x
  | .str z _ => eqV (.str z) x
  | _ => false
theorem eqU_of {x y : V} {u : Value} (r : RelV y u) (f : flatV y = true) : eqU x u = eqV y x := by
  cases y with
  | non => cases r; rfl
  | bl b => cases r; rfl
  | int i => obtain ⟨t, rfl⟩ := r; rfl
  | str z => obtain ⟨t, rfl⟩ := r; rfl
  | _ => exact absurd (show false = true from f) Bool.false_ne_true
theorem any_eqU {x : V} : ∀ {xs : List V} {us : List Value}, Vals xs us → xs.all flatV = true → us.any (eqU x) = xs.any fun y => eqV y x
  | _, _, .nil, _ => rfl
  | y :: xs, u :: us, .cons r t, f => by
    rw [List.all_cons, Bool.and_eq_true] at f
    rw [List.any_cons, List.any_cons, eqU_of r f.1, any_eqU t f.2]
theorem mem_eqAt {A : Around} {s : Shared} {x : V} {v : Value} (rx : RelV x v) (fx : flatV x = true) : ∀ {xs : List V} {us : List Value}, Vals xs us → xs.all flatV = true → ∀ u ∈ us, SeqAt.EqAt A s u v (eqU x u)
  | _, _, .nil, _ => fun u hu => by cases hu
  | y :: xs, u :: us, .cons r t, f => fun u' hu => by
    rw [List.all_cons, Bool.and_eq_true] at f
    rcases List.mem_cons.mp hu with rfl | hu
    · rw [eqU_of r f.1]; exact eqAt_V r rx f.1 fx
    · exact mem_eqAt rx fx t f.2 u' hu
noncomputable def inV (x : V) (xs : List V) : Bool := xs.any fun y => eqV y x
/-- x in a list or tuple of flat items -/
noncomputable def rIn (K : PySem.W.Frag) (neg : Bool) : R2 := fun x y H Q => ∃ p xs, y = .ref p ∧ (SqL K H p xs ∨ SqT K H p xs) ∧ flatV x = true ∧ xs.all flatV = true ∧ Q (.bl (if neg then !inV x xs else inV x xs)) H
theorem op_notIn_seq : OpR X (compareOp .NotIn) (rIn X.K true) := by
  intro pins s σ H x y v u Q I rx ry h
  obtain ⟨p, xs, rfl, hq, fx, fs, q⟩ := h
  cases ry
  rcases hq with hq | hq
  · obtain ⟨its, r, pl, hz⟩ := I.list hq
    refine SeqAt.notIn_listAt (eqU x) pl.isList (fun w hw => mem_eqAt rx fx r fs w (by simpa using hw)) ⟨.bl _, H, I, rfl, ?_⟩
    rw [show its.toArray.any (eqU x) = its.any (eqU x) by simp, any_eqU r fs]
    exact q
  · obtain ⟨its, r, pl, hz⟩ := I.tuple hq
    refine SeqAt.notIn_tupleAt (eqU x) pl (fun w hw => mem_eqAt rx fx r fs w (by simpa using hw)) ⟨.bl _, H, I, rfl, ?_⟩
    rw [show its.toArray.any (eqU x) = its.any (eqU x) by simp, any_eqU r fs]
    exact q
/-! ### len, list(x), tuple(x) of any list or tuple that is read -/
theorem call_len_seq : CallR X (.builtin "len") (fun xs H Q => ∃ p ys, xs = [.ref p] ∧ (SqL X.K H p ys ∨ SqT X.K H p ys) ∧ Q (.int ys.length) H) := by
  intro pins s σ H xs us Q I r h
  obtain ⟨p, ys, rfl, hq, q⟩ := h
  obtain ⟨u, rfl, rx⟩ := vals1 r
  cases rx
  have hn := line63
  rcases hq with hq | hq
  · obtain ⟨its, r', pl, hz⟩ := I.list hq
    have hlen := r'.length
    exact Calls.call_len_list pl.isList (by simp only [List.size_toArray] <;> omega) ⟨.int ys.length, H, I.tok _, ⟨s.toks + 1, by rw [List.size_toArray, hlen]⟩, q⟩
  · obtain ⟨its, r', pl, hz⟩ := I.tuple hq
    have hlen := r'.length
    exact len_tuple pl (by simp only [List.size_toArray] <;> omega) ⟨.int ys.length, H, I.tok _, ⟨s.toks + 1, by rw [List.size_toArray, hlen]⟩, q⟩
theorem call_list_of : CallR X (.type "list") (fun xs H Q => ∃ p ys, xs = [.ref p] ∧ (SqL X.K H p ys ∨ SqT X.K H p ys) ∧ ∀ l, H l = none → Q (.ref l) (upd H l (.lst ys))) := by
  intro pins s σ H xs us Q I r h
  obtain ⟨p, ys, rfl, hq, q⟩ := h
  obtain ⟨u, rfl, rx⟩ := vals1 r
  cases rx
  have fin : ∀ (its : List Value), Vals ys its → ys.length ≤ sizeLine → ∀ (h' : Heap) (c' : Nat), (∀ b o', s.heap.get? b = some o' → h'.get? b = some o') →
      h'.get? s.heap.objs.size = some { cls := .type "list", dict := none, data := .seq its.toArray c', slots := #[] } → EP X pins σ Q (.ref s.heap.objs.size) { s with heap := h' } := fun its r' hz h' c' kp e =>
    ⟨.ref s.heap.objs.size, _, I.laid (t' := s.toks) kp (Nat.le_refl _) (show ObjOk X.prog X.w _ h' _ (.lst ys) from ⟨hz, its, c', r', e⟩), rfl, q _ (I.hok.fresh (Nat.le_refl _))⟩
  rcases hq with hq | hq
  · obtain ⟨its, r', pl, hz⟩ := I.list hq
    have hlen := r'.length
    obtain ⟨o, ho, hc, n, hd⟩ := pl.isList
    exact call_list_seq p (.inl rfl) ho hc hd (fun h' c' kp e => fin its r' hz h' c' kp e) (by simp only [List.size_toArray] <;> omega)
  · obtain ⟨its, r', pl, hz⟩ := I.tuple hq
    have hlen := r'.length
    obtain ⟨o, ho, hc, n, hd⟩ := pl
    exact call_list_seq p (.inr rfl) ho hc hd (fun h' c' kp e => fin its r' hz h' c' kp e) (by simp only [List.size_toArray] <;> omega)
theorem call_tuple_of : CallR X (.type "tuple") (fun xs H Q => ∃ p ys, xs = [.ref p] ∧ ((SqL X.K H p ys ∧ ∀ l, H l = none → Q (.ref l) (upd H l (.tup ys))) ∨ (SqT X.K H p ys ∧ Q (.ref p) H))) := by
  intro pins s σ H xs us Q I r h
  obtain ⟨p, ys, rfl, h⟩ := h
  obtain ⟨u, rfl, rx⟩ := vals1 r
  cases rx
  rcases h with ⟨hq, q⟩ | ⟨hq, q⟩
  · obtain ⟨its, r', pl, hz⟩ := I.list hq
    have hlen := r'.length
    refine call_tuple_list pl.isList (fun h' kp => ?_) (by simp only [List.size_toArray] <;> omega)
    have I1 : Inv X pins σ H { s with heap := h' } := I.kept (t' := s.toks) kp
    have I2 : Inv X pins σ (upd H h'.objs.size (.tup ys)) { s with heap := h'.push { cls := .type "tuple", data := .seq its.toArray } } :=
      I1.laid (t' := s.toks) (fun b o e => Heap.get?_push_of_some _ e) (Nat.le_refl _) (show ObjOk X.prog X.w _ _ _ (.tup ys) from ⟨hz, its, r', IsTup.new _ _⟩)
    exact ⟨.ref h'.objs.size, _, I2, rfl, q _ (I1.hok.fresh (Nat.le_refl _))⟩
  · obtain ⟨its, r', pl, hz⟩ := I.tuple hq
    exact call_tuple_same pl ⟨.ref p, H, I, rfl, q⟩

/-! ### the call of a builtin's method: o.m(..) -/
/-- the value is of that builtin type -/
noncomputable def tyV (K : PySem.W.Frag) (T : String) (x : V) (H : Hp) : Prop := match x with
  | .str _ => T = "str"
  | .int _ => T = "int"
  | .ref p => (T = "list" ∧ ∃ xs, SqL K H p xs) ∨ (T = "tuple" ∧ ∃ o, K.lookup p = some o ∧ o.cls = .type "tuple" ∧ o.dict = none) ∨
      (T = "dict" ∧ ((∃ kvs, H p = some (.dK kvs)) ∨ ∃ kvs, H p = some (.dT kvs))) ∨ (T = "set" ∧ ∃ S n, H p = some (.set S n))
  | _ => False
theorem tyV_is {pins : List (Addr × Obj)} {σ : St} {H : Hp} {s : Shared} {T : String} {x : V} {v : Value} (I : Inv X pins σ H s) (r : RelV x v) (ty : tyV X.K T x H) :
    s.TypeIs v T ∧ ∀ a, v = .ref a → ∃ ob, s.heap.get? a = some ob ∧ ob.dict = none := by
  cases x with
  | str z =>
    obtain ⟨t, rfl⟩ := r
    cases (show T = "str" from ty)
    exact ⟨typeIs_str s z t, fun _ e => nomatch e⟩
  | int i =>
    obtain ⟨t, rfl⟩ := r
    cases (show T = "int" from ty)
    exact ⟨typeIs_int s i t, fun _ e => nomatch e⟩
  | ref p =>
    cases r
    rcases ty with ⟨rfl, xs, hq⟩ | ⟨rfl, o, hk, hc, hd⟩ | ⟨rfl, hk⟩ | ⟨rfl, S, n, hk⟩
    · obtain ⟨its, _, pl, _⟩ := I.list hq
      refine ⟨pl.isList.typeIs, fun a e => ?_⟩
      cases e
      obtain ⟨o, n, e, c, hd, _⟩ := pl
      exact ⟨o, e, hd⟩
    · refine ⟨⟨o, I.kIn p o hk, hc⟩, fun a e => ?_⟩
      cases e
      exact ⟨o, I.kIn _ o hk, hd⟩
    · have z : ∃ o, s.heap.get? p = some o ∧ o.ExactDict := by
        rcases hk with ⟨kvs, hk⟩ | ⟨kvs, hk⟩
        · obtain ⟨_, _, _, _, o, _, _, e, ex, _⟩ := I.hok p _ hk
          exact ⟨o, e, ex⟩
        · obtain ⟨_, _, _, _, o, _, _, e, ex, _⟩ := I.hok p _ hk
          exact ⟨o, e, ex⟩
      obtain ⟨o, e, ex⟩ := z
      refine ⟨⟨o, e, ex.1⟩, fun a e2 => ?_⟩
      cases e2
      exact ⟨o, e, ex.2.1⟩
    · obtain ⟨o, _, _, _, e, ex, _⟩ := I.hok p _ hk
      refine ⟨⟨o, e, ex.1⟩, fun a e2 => ?_⟩
      cases e2
      exact ⟨o, e, ex.2.1⟩
  | _ => exact False.elim ty
noncomputable def tBM0 (K : PySem.W.Frag) (T : String) (r : V → List V → Hp → VK → Prop) (to : TE) : TE := fun σ H Q => to σ H fun x H1 => tyV K T x H1 ∧ r x [] H1 Q
noncomputable def tBM (K : PySem.W.Frag) (T : String) (r : V → List V → Hp → VK → Prop) (to : TE) (t : TA) : TE := fun σ H Q => to σ H fun x H1 => tyV K T x H1 ∧ t σ H1 fun xs H2 => r x xs H2 Q
variable {o e : Expr} {es : List Expr} {to : TE} {t : TA} {name : Str} {apos cpos : Pos} {T id : String} {r : V → List V → Hp → VK → Prop}
theorem pe_bm0 (pa : PlainAttrs T) (slot : Slot T name id) (hty : typeOf (.builtin id) = pure (.type "method_descriptor")) (hm : MtR X id r) (ho : PE X o to)
    (hbase : attributeBase o name X.env (eval o X.env) = eval o X.env := by rfl) (hline : (apos.endLine == cpos.line) = true := by rfl) : PE X (.Call (.Attribute o name apos) [] [] cpos) (tBM0 X.K T r to) := by
  intro pins s σ H Q I h
  refine wpAny_Call_method0_late hbase hline (thn (ho pins s σ H _ I h) fun v s1 ⟨x, H1, I1, r1, ty, q1⟩ => ?_)
  obtain ⟨h1, h2⟩ := tyV_is I1 r1 ty
  exact ⟨T, id, pa, slot, hty, h1, h2, Calls.callWith_builtin rfl (PySem.evalArgs_none (hm pins s1 σ H1 x [] v [] Q I1 r1 .nil q1))⟩
theorem pe_bm (pa : PlainAttrs T) (slot : Slot T name id) (hty : typeOf (.builtin id) = pure (.type "method_descriptor")) (hm : MtR X id r) (ho : PE X o to) (ha : PA X (e :: es) t)
    (hbase : attributeBase o name X.env (eval o X.env) = eval o X.env := by rfl)
    (hfew : ((backTo cpos (starEach (e :: es) X.env)).all (fun x => !x.1) && (backToKw cpos (keywordEach [] X.env)).all (fun x => x.1.isSome)
      && decide ((e :: es).length + ([] : List Keyword).length + (if ([] : List Keyword).isEmpty then 0 else 1) < 30)) = true := by rfl)
    (hline : (apos.endLine == cpos.line) = true := by rfl) (hs : starEach (e :: es) X.env = (false, eval e X.env) :: starEach es X.env := by rfl) (hplain : (backTo cpos (starEach es X.env)).any (·.1) = false := by rfl) :
    PE X (.Call (.Attribute o name apos) (e :: es) [] cpos) (tBM X.K T r to t) := by
  intro pins s σ H Q I h
  refine wpAny_Call_method_late hbase hfew hline rfl (thn (ho pins s σ H _ I h) fun v s1 ⟨x, H1, I1, r1, ty, q1⟩ => ?_)
  obtain ⟨h1, h2⟩ := tyV_is I1 r1 ty
  refine ⟨T, id, pa, slot, hty, h1, h2, ?_⟩
  have hA := ha cpos pins s1 σ H1 _ I1 q1
  rw [hs] at hA ⊢
  refine Calls.callWith_builtin (by show (false || (backTo cpos (starEach es X.env)).any (·.1)) = false; rw [hplain] <;> rfl) (Calls.evalArgs_plain ?_)
  exact thn hA fun us s2 ⟨vs, H2, I2, r2, q2⟩ => hm pins s2 σ H2 x vs v us Q I2 r1 r2 q2
/- xs.append(e), list.index on a module's tuple .. are MtR facts of 06m -/
end
end L2

namespace L2
open PySem PySem.Spec PyProof.Rows

noncomputable def MtM (X : Cx) (id : String) (r : V → List V → Hp → VK → Prop) : Prop :=
  ∀ (pins : List (Addr × Obj)) (s : Shared) (σ : St) (H : Hp) (x : V) (xs : List V) (v : Value) (us : List Value) (Q : VK), Inv X pins σ H s → RelV x v → Vals xs us → r x xs H Q →
    wpAny (model X.prog X.w) X.A (call (.builtin id) (v :: us)) (EP X pins σ Q) X.xe s

/-! ### lists of values -/
theorem Vals.one : ∀ {x : V} {us : List Value}, Vals [x] us → ∃ u, us = [u] ∧ RelV x u
  | _, _, .cons r .nil => ⟨_, rfl, r⟩
theorem foldl_rep (its : List Value) : ∀ (k : Nat) (acc : List Value),
    List.foldl (fun x1 x2 => x1 ++ x2) acc.toArray (List.replicate k its.toArray) = (acc ++ (List.replicate k its).flatten).toArray
  | 0, acc => by simp
  | k + 1, acc => by
    have e : acc.toArray ++ its.toArray = (acc ++ its).toArray := by simp
    have e2 : (acc ++ its) ++ (List.replicate k its).flatten = acc ++ (List.replicate (k + 1) its).flatten := by
      rw [List.replicate_succ, List.flatten_cons, List.append_assoc]
    rw [← e2, ← foldl_rep its k (acc ++ its), ← e, List.replicate_succ, List.foldl_cons]

section
variable {X : Cx} {pins : List (Addr × Obj)} {σ : St} {H : Hp} {s : Shared} {l b : Addr} {xs ys zs : List V}

/-! ### the two steps: a tracked list is rewritten, a new list is laid -/
theorem Inv.lset {its its' : List Value} {n : Nat} {f : Array Value → Array Value} {t' : Nat} (I : Inv X pins σ H s) (hH : H l = some (.lst xs))
    (e : s.heap.get? l = some { cls := .type "list", data := .seq its.toArray n }) (hf : f its.toArray = its'.toArray) (hv : Vals ys its') (hz : ys.length ≤ sizeLine) :
    Inv X pins σ (upd H l (.lst ys)) { s with heap := s.heap.update l (Obj.mapSeq f), toks := t' } := by
  have q := PySem.IsL.update e f
  rw [hf] at q
  refine I.write (x := l) (e := l) (by rw [hH]; exact trivial) (.inl rfl) (fun b' u hb hu => (Heap.get?_update_other s.heap (Obj.mapSeq f) (Ne.symm hb)).trans hu) ⟨_, q⟩ ?_
  exact ⟨hz, its', _, hv, q⟩
theorem Inv.lnew {its : List Value} {t' : Nat} (I : Inv X pins σ H s) (hv : Vals ys its) (hz : ys.length ≤ sizeLine) :
    Inv X pins σ (upd H s.heap.objs.size (.lst ys)) { s with heap := s.heap.push { cls := .type "list", data := .seq its.toArray }, toks := t' } :=
  I.laid (fun _ _ q => Heap.get?_push_of_some _ q) (Nat.le_refl _) ⟨hz, its, 0, hv, Heap.get?_push_size _ rfl⟩
theorem Inv.fresh (I : Inv X pins σ H s) : H s.heap.objs.size = none := I.hok.fresh (Nat.le_refl _)
theorem Inv.lstM (I : Inv X pins σ H s) (hH : H l = some (.lst xs)) : xs.length ≤ sizeLine ∧ ∃ (its : List Value) (n : Nat), Vals xs its ∧ xs.length = its.length ∧ s.heap.get? l = some { cls := .type "list", data := .seq its.toArray n } := by
  obtain ⟨z, its, n, r, e⟩ := I.hok l _ hH
  exact ⟨z, its, n, r, r.length, e⟩

theorem notLongL {n : Nat} (h : n ≤ sizeLine) : Builtin.List.listTooLong n = false := by
  unfold Builtin.List.listTooLong
  exact decide_eq_false (by omega)
end

section
variable {X : Cx}

/-! ### methods -/
noncomputable def rAppend : V → List V → Hp → VK → Prop := fun x vs H Q => ∃ l xs y, x = .ref l ∧ vs = [y] ∧ H l = some (.lst xs) ∧ xs.length < sizeLine ∧ Q .non (upd H l (.lst (xs ++ [y])))
theorem mt_append : MtM X "list.append" rAppend := by
  intro pins s σ H x vs v us Q I rx rv h
  obtain ⟨l, xs, y, rfl, rfl, hH, hz, q⟩ := h
  cases rx
  obtain ⟨u, rfl, ru⟩ := rv.one
  obtain ⟨z, its, n, r, hl, e⟩ := I.lstM hH
  refine call_meets F.slot_list_append ⟨_, e, rfl⟩ F.entry_list_append (F.args_list_append_2 _ _) (PySem.list_append l its.toArray n u (by rw [List.size_toArray]; omega)) ⟨e, ?_⟩
  refine ⟨.non, _, I.lset (its' := its ++ [u]) hH e (by simp) (r.append (.cons ru .nil)) ?_, rfl, q⟩
  rw [List.length_append, List.length_singleton]
  omega

noncomputable def rExtend : V → List V → Hp → VK → Prop := fun x vs H Q => ∃ l b xs zs, x = .ref l ∧ vs = [.ref b] ∧ H l = some (.lst xs) ∧ H b = some (.lst zs) ∧ xs.length + zs.length ≤ sizeLine ∧ Q .non (upd H l (.lst (xs ++ zs)))
theorem mt_extend : MtM X "list.extend" rExtend := by
  intro pins s σ H x vs v us Q I rx rv h
  obtain ⟨l, b, xs, zs, rfl, rfl, hH, hB, hz, q⟩ := h
  cases rx
  obtain ⟨u, rfl, ru⟩ := rv.one
  cases ru
  obtain ⟨z, its, n, r, hl, e⟩ := I.lstM hH
  obtain ⟨z2, its2, n2, r2, hl2, e2⟩ := I.lstM hB
  have hsz : its.toArray.size + its2.toArray.size ≤ sizeLine := by rw [List.size_toArray, List.size_toArray]; omega
  have hlong : ¬ (!its.toArray.isEmpty && Builtin.List.listTooLong (its.toArray.size + its2.toArray.size)) = true := by
    rw [notLongL hsz, Bool.and_false]
    exact Bool.false_ne_true
  refine call_meets F.slot_list_extend ⟨_, e, rfl⟩ F.entry_list_extend (F.args_list_extend_2 _ _)
    (AutoSeq1.list_extend_list_list_0 l its.toArray n b its2.toArray n2 hlong (by rw [List.size_toArray]; omega) (by omega)) ⟨e, e2, ?_⟩
  refine ⟨.non, _, I.lset (its' := its ++ its2) hH e (by simp) (r.append r2) ?_, rfl, q⟩
  rw [List.length_append]
  omega

/-! ### list + list, list += list, list * int -/
noncomputable def rCat : R2 := fun x y H Q => ∃ l b xs zs, x = .ref l ∧ y = .ref b ∧ H l = some (.lst xs) ∧ H b = some (.lst zs) ∧ xs.length + zs.length ≤ sizeLine ∧ ∀ p, H p = none → Q (.ref p) (upd H p (.lst (xs ++ zs)))
theorem op_cat : OpR X (binaryOp .Add) rCat := by
  intro pins s σ H x y v u Q I rx ry h
  obtain ⟨l, b, xs, zs, rfl, rfl, hH, hB, hz, q⟩ := h
  cases rx
  cases ry
  obtain ⟨z, its, n, r, hl, e⟩ := I.lstM hH
  obtain ⟨z2, its2, n2, r2, hl2, e2⟩ := I.lstM hB
  refine PySem.P.add_list e e2 ?_ (by rw [List.size_toArray, List.size_toArray]; omega)
  have ea : its.toArray ++ its2.toArray = (its ++ its2).toArray := by simp
  rw [ea]
  exact ⟨.ref _, _, I.lnew (t' := s.toks) (r.append r2) (by rw [List.length_append]; omega), rfl, q _ I.fresh⟩
/-! ### del xs[i] -/
end

/-! ### xs[a:b] = ys -/
section
variable {prog : Program} {w : World} {A : Around} {E : Value → Shared → Prop} {s : Shared}
end

section
variable {X : Cx}
end
end L2

namespace Att
open PySem PySem.W PySem.Calls PyProof.Rows

/-! ### the script -/
theorem ints_of_wellAll {P : Params} {h : Heap} : ∀ (ns : List Int) (vs : List Value), WellAll P h vs (ns.map WData.int) → IntsAre vs ns := by
  intro ns
  induction ns with
  | nil =>
    intro vs w
    rw [List.map_nil] at w
    cases w
    exact .nil
  | cons n ns ih =>
    intro vs w
    rw [List.map_cons] at w
    cases w with
    | cons a b =>
      cases a
      exact .cons _ _ (ih _ b)

theorem script_of {l : OpenLaw} {n : Nat} (hn : l.most = some n) {P : Params} {h : Heap} {args : List WData} {vals : List Value}
    (hpre : l.row.toRowW.claim.pre args = true) (hwl : WellAll P h vals args) :
    ∃ a vs ns, vals = [Value.ref a] ∧ args = [WData.list (ns.map WData.int)] ∧ h.get? a = some { cls := .type "list", data := .seq vs.toArray } ∧ IntsAre vs ns ∧ ns.length ≤ n := by
  have hsh : WShape.hasAll [] args [.list .int] = true := (pre_splitW hpre).1
  have hc : l.pre.holds [] { args := args } = true := (pre_splitW hpre).2
  obtain ⟨d, r, rfl, h1, h2⟩ := hasAllW_cons hsh
  obtain rfl := hasAllW_nil h2
  obtain ⟨xs, rfl, h3⟩ := hasW_list h1
  obtain ⟨ns, rfl⟩ := items_int h3
  have hlen : ns.length ≤ n := by
    unfold OpenLaw.pre at hc
    have h4 : (WTm.not (.lt (.lit (.int (n : Int))) (.len (.arg 0)))).holds [] { args := [.list (ns.map .int)] } = true := by
      have h4 := (holds_andW hc).1
      rw [hn] at h4
      exact h4
    have h5 := condW_of h4 (w_not (w_lt w_lit (w_len_list (w_arg rfl))))
    rw [List.length_map] at h5
    refine Nat.le_of_not_lt fun q => ?_
    have q' : (n : Int) < ((ns.length : Nat) : Int) := by omega
    first
      | (rw [decide_eq_true q'] at h5; exact absurd h5 (by decide))
      | (simp at h5; omega)
  cases hwl with
  | cons w1 w2 =>
    cases w2
    cases w1 with
    | list ho hall => exact ⟨_, _, ns, rfl, rfl, ho, ints_of_wellAll ns _ hall, hlen⟩

theorem post_true (l : OpenLaw) (args : List WData) : l.row.toRowW.claim.post args (.bool true) args = true :=
  postW_of (r := l.row.toRowW) (X := (true == true))
    (show WShape.has [] (.bool true) .bool = true by first | rfl | decide | simp [WShape.has, WShape.arms, WShape.armsAll])
    (show (WTm.eq .res (.lit (.bool true))).value [] { args := args, res := some (.bool true), after := args } = some (.bool (true == true)) from w_eq_bool (w_res rfl) w_lit) rfl

/-! ### the attachment: holds_open's last premise (the goal 'hc' behind k_head) from a wpAny of the law's body -/
/-- the same from a codeAny of the CALL (for a layer whose function contracts speak of calls) -/
theorem attach_call {l : OpenLaw} {n : Nat} {q : Program} {loose : List Str} {XP : (Str → Option Value) → Heap → Prop} {YP : World → Heap → Prop} {d : DefRec}
    (hn : l.most = some n) (hdf : d.params.defaults = [])
    (call : ∀ (w : World) (s₀ s₁ : Shared) (mg mb : Str → Option Value) (fa : Addr) (o : Obj) (pm cd doc : Value) (a : Addr) (vs : List Value) (ns : List Int),
      Ground q loose [] XP w s₀ mg mb s₁.heap → YP w s₁.heap →
      s₁.heap.get? fa = some o → o.data = .func (docDef d.name d.params d.body d.scope pm cd doc) → s₁.heap.CodeRec cd d.name → mg d.name = some (.ref fa) →
      s₁.heap.get? a = some { cls := .type "list", data := .seq vs.toArray } → IntsAre vs ns → ns.length ≤ n → s₁.gens = #[] →
      codeAny (model l.prog w) callerA (.call (.ref fa) ⟨[.ref a], []⟩) (fun r s' => r = .ok (.ret (.bool true)) ∧ OldK s₁.heap s'.heap ∧ s'.os = s₁.os ∧ AllBare s'.gens) s₁) :
    WalkO q loose XP YP l.row.toRowW d [] (fun f vs => PySem.call f vs) := by
  intro w s₀ s₁ mg mb G Y fa o pm cd doc dV kV ho hd hcd hD hmg hg args vals as hpre hlay hrd hwl hlo
  obtain rfl : dV = .none := Dflts.none hD hdf
  obtain rfl : kV = .none := Dflts.noKw hD
  obtain ⟨a, vs, ns, rfl, rfl, hobj, hints, hlen⟩ := script_of hn hpre hwl
  refine enter_call (codeAny_mono (call w s₀ s₁ mg mb fa o pm cd doc a vs ns G Y ho (fd_plain hd) hcd hmg hobj hints hlen hg) fun r s' hq => ?_)
  obtain ⟨rfl, h2, h3, h4⟩ := hq
  exact ⟨.inl ⟨.bool true, .bool true, [], rfl, fun _ => rfl, .bool true, post_true l _, fun _ => ⟨List.Pairwise.nil, fun _ hm => (nomatch hm)⟩⟩, h2, h3, h4⟩

/-! ### rules over ANY heap (no ledger) from facts about the written part K: the library's own take a ledger (News) for what they write -/
section
variable {prog : Program} {w : World} {A : Around} {E : Value → Shared → Prop} {s : Shared} {K : Frag}

/-! the whole heap as the ledger: makes every rule that writes through a ledger a rule over any heap -/
end
end Att

namespace L2
open PySem PySem.Spec PyProof.Rows

theorem vals_ints : ∀ {vs : List Value} {ns : List Int}, IntsAre vs ns → Vals (ns.map V.int) vs
  | _, _, .nil => .nil
  | _, _, .cons n t h => .cons ⟨t, rfl⟩ (vals_ints h)

/-- nothing is tracked but the script, known to the object (or it is an object of the module) -/
noncomputable def Only (H : Hp) : Prop := ∀ b, H b = none ∨ ∃ o xs, H b = some (.frz o (.lst xs))

/-- THE HEAD: the law's promise, at the heap behind the top. F, the promise of the law's def, may use that base is part of the heap (so K.In base, base.Ns mainGlobals mg stand in Mod) -/
theorem law_call {P : Program} {w : World} {K : PySem.W.Frag} {mg mb : Str → Option Value} {CX : CXT} {k : Nat} {fa a : Addr} {fd : FuncData} {x : Str} {sp : Sp} {s₁ : Shared} {vs : List Value} {ns : List Int}
    (KX : K.In s₁.heap) (hns : s₁.heap.Ns mainGlobals mg) (hb : s₁.heap.Ns builtinsNs mb) (hbb : ∀ x : Str, x ≠ "__name__" → mb x = bootBuiltins x) (hlim : s₁.heap.NoLimit) (hg : s₁.gens = #[])
    (ha : s₁.heap.get? a = some { cls := .type "list", data := .seq vs.toArray }) (hi : IntsAre vs ns) (hl : ns.length ≤ sizeLine) (hr : Room k callerA)
    (F : ∀ base : Heap, K.In base → base.Ns mainGlobals mg → FnOk P w K mg base CX k fa fd [x] sp) (hbind : ∀ (s : Shared) (u : Value), BindsTo s fd ⟨[u], []⟩ [(x, u)])
    (hsp : ∀ H : Hp, Only H → SqL K H a (ns.map V.int) → sp [.ref a] H (fun v _ => v = .bl true) fun _ _ _ => False)
    (hCX : ∀ H e s', CX [] H s₁ (fun _ _ _ => False) e s' → False) :
    codeAny (model P w) callerA (.call (.ref fa) ⟨[.ref a], []⟩) (fun r s' => r = .ok (.ret (.bool true)) ∧ OldK s₁.heap s'.heap ∧ s'.os = s₁.os ∧ AllBare s'.gens) s₁ := by
  have rv := vals_ints hi
  have lenV := hi.length
  -- from an abstract heap in which nothing but the script may be tracked
  have core : ∀ H : Hp, Only H → SqL K H a (ns.map V.int) → HOk P w H s₁.heap → (∀ b, H b ≠ none → b = a) → (H a ≠ none → K.lookup a = none) →
      codeAny (model P w) callerA (.call (.ref fa) ⟨[.ref a], []⟩) (fun r s' => r = .ok (.ret (.bool true)) ∧ OldK s₁.heap s'.heap ∧ s'.os = s₁.os ∧ AllBare s'.gens) s₁ := by
    intro H hO hS hok hA hK
    have base_of : ∀ {b : Addr} {o : Obj}, s₁.heap.get? b = some o → H b = none → (hidT s₁.heap H).get? b = some o := fun e n => hidT_get e n
    have noA : ∀ {b : Addr} {o : Obj} {es : Array DictEntry} {ep : Nat}, s₁.heap.get? b = some o → o.data = .dict es ep → H b = none := fun {b o es ep} e d => by
      cases q : H b with
      | none => rfl
      | some u =>
        have e' : b = a := hA b (by rw [q]; simp)
        subst e'
        rw [ha] at e; cases e
        have d' : Data.seq vs.toArray _ = Data.dict es ep := d
        cases d'
    have nsK : ∀ {b : Addr} {m : Str → Option Value}, s₁.heap.Ns b m → (hidT s₁.heap H).Ns b m := fun {b m} ⟨o, es, ep, e, d, r⟩ => ⟨o, es, ep, base_of e (noA e d), d, r⟩
    have hKb : K.In (hidT s₁.heap H) := fun b o e => base_of (KX b o e) (by
      cases q : H b with
      | none => rfl
      | some u =>
        have e' : b = a := hA b (by rw [q]; simp)
        subst e'
        rw [hK (by rw [q]; simp)] at e; cases e)
    have hM : Mod K mg (hidT s₁.heap H) := ⟨hKb, nsK hns, ⟨mb, nsK hb, hbb⟩, let ⟨mc, h1, h2⟩ := hlim; ⟨mc, nsK h1, h2⟩⟩
    have e0 : Env0 P w K mg (hidT s₁.heap H) callerA [] s₁ H := ⟨rfl, hM, fun b o e => of_hidT e, Nat.le_of_eq (hidT_size _ _), trivial, fun b hb => absurd (show b ∈ ([] : List Addr) from hb) (by simp), hok, .of_eq hg⟩
    refine codeAny_mono ((F _ hKb (nsK hns)).run callerA [] s₁ H ⟨[.ref a], []⟩ [.ref a] [.ref a] _ _ hr e0 (hbind s₁ (.ref a)) (.cons rfl .nil) (hsp H hO hS)) fun r s' h => ?_
    cases r with
    | error e => exact (hCX H e s' h).elim
    | ok fl =>
      cases fl with
      | next => exact False.elim h
      | brk => exact False.elim h
      | cont => exact False.elim h
      | ret u =>
        obtain ⟨v, H', os, bare, un, hok', r', q⟩ := h
        have q' : v = .bl true := q
        subst q'
        obtain rfl : u = Value.bool true := r'
        refine ⟨rfl, OldK.of_keep fun b o e => ?_, os, bare⟩
        cases q : H b with
        | none => exact un.keep b o e q (by intro z; exact absurd (show b ∈ ([] : List Addr) from z) (by simp)) (by simp)
        | some u =>
          rcases hO b with z | ⟨ob, xs, z⟩
          · rw [q] at z; cases z
          · have z2 := un.frzs b ob _ z
            obtain ⟨e1, _⟩ := hok b _ z
            obtain ⟨e2, _⟩ := hok' b _ z2
            rw [e] at e1; cases e1
            exact e2
  cases hk : K.lookup a with
  | some o =>
    -- the script is one of the module's own objects
    have e := KX a o hk
    rw [ha] at e
    cases e
    refine core (fun _ => none) (fun _ => .inl rfl) (.inr ⟨_, vs.toArray, _, hk, rfl, rfl, rfl, by rw [List.size_toArray, lenV]; exact hl, by simpa using rv⟩) (fun b u z => by have z' : (none : Option HO) = some u := z; cases z') (fun b z => absurd rfl z) fun z => absurd rfl z
  | none =>
    refine core (fun b => if b = a then some (.frz { cls := .type "list", data := .seq vs.toArray } (.lst (ns.map V.int))) else none) (fun b => ?_) (.inl (.inr ⟨{ cls := .type "list", data := .seq vs.toArray }, if_pos rfl⟩)) (fun b u z => ?_) (fun b z => ?_) fun _ => hk
    · by_cases hb : b = a
      · exact .inr ⟨_, _, if_pos hb⟩
      · exact .inl (if_neg hb)
    · by_cases hb : b = a
      · have z' := (if_pos hb).symm.trans z
        cases z'
        subst hb
        exact ⟨ha, by rw [List.length_map]; exact hl, vs, _, rv, ha⟩
      · have z' := (if_neg hb).symm.trans z
        cases z'
    · by_cases hb : b = a
      · exact hb
      · exact absurd (if_neg hb) z
end L2

namespace L2
open PySem PySem.Spec PyProof.Rows

/-- the goal that k_head leaves (case hc), from the law's promise. F gives the function object fd (K's own) once, then the promise over every base -/
theorem walk_of {l : PySem.W.OpenLaw} {n k : Nat} {q : Program} {loose : List Str} {XP : (Str → Option Value) → Heap → Prop} {YP : World → Heap → Prop} {d : DefRec} {K : Params → PySem.W.Frag} {CX : World → CXT} {sp : World → Sp} {x : Str}
    (hn : l.most = some n) (hn2 : n ≤ sizeLine) (hdf : d.params.defaults = []) (hr : Room k callerA)
    (hY : ∀ (w : World) (h : Heap), YP w h → (K w.params).In h)
    (F : ∀ (w : World) (mg : Str → Option Value) (fa : Addr) (h : Heap), (K w.params).In h → h.Ns mainGlobals mg → mg d.name = some (.ref fa) →
      ∃ fd : FuncData, (∀ (s : Shared) (u : Value), BindsTo s fd ⟨[u], []⟩ [(x, u)]) ∧
        ∀ base : Heap, (K w.params).In base → base.Ns mainGlobals mg → FnOk l.prog w (K w.params) mg base (CX w) k fa fd [x] (sp w))
    (hsp : ∀ (w : World) (H : Hp) (a : Addr) (ns : List Int), ns.length ≤ n → Only H → SqL (K w.params) H a (ns.map V.int) → sp w [.ref a] H (fun v _ => v = .bl true) fun _ _ _ => False)
    (hCX : ∀ (w : World) (H : Hp) (s : Shared) (e : Value) (s' : Shared), CX w [] H s (fun _ _ _ => False) e s' → False) :
    PySem.W.WalkO q loose XP YP l.row.toRowW d [] (fun f vs => PySem.call f vs) := by
  refine Att.attach_call hn hdf fun w s₀ s₁ mg mb fa o pm cd doc a vs ns G Y ho hd hcd hmg hobj hints hlen hg => ?_
  have KX := hY w _ Y
  obtain ⟨fd, hb, hF⟩ := F w mg fa _ KX G.T.g hmg
  exact law_call KX G.T.g G.T.b G.T.builtins G.T.nolimit hg hobj hints (Nat.le_trans hlen hn2) hr hF hb (fun H hO hS => hsp w H a ns hlen hO hS) fun H e s' => hCX w H s₁ e s'
end L2

/- THE LAST THEOREM (shape; LID, My.* are yours):
   My.Adr: a structure of the addresses that your layer names (classes, functions); My.Txt K t: a structure (Prop) of the equations over K;
   My.txt_mk : {K} {implicit addresses ..} (e1 : nsIn K mainGlobals "law" = some (some (.ref f))) (e2 : K.lookup f = some ⟨oc, od, .func (fnOf "law" "law" params body scope dV kV doc pm an cdv ct), sl⟩) (e3 : codeIn K cdv "law" = true) .. : ∃ t, My.Txt K t

set_option maxRecDepth 100000 in
set_option maxHeartbeats 0 in
theorem PySem.Challenge.cw_LID_holds : PySem.Challenge.rw_LID.Holds := by
  w_on; o_law; k_head; (case hw => w_witness2)
  k_fill
  refine L2.walk_of (l := PySem.Challenge.rw_LID) (n := 63) (k := 40) (x := "script") (CX := fun w => ..) (sp := fun _ => My.sp_law) rfl (by decide) rfl ⟨rfl, by decide, by decide⟩ (fun w h Y => PySem.W.kIn_of Y) ?F ?S ?C
  case F =>
    intro w mg fa h KX G hmg
    have T : ∃ t, My.Txt (L2.KOf KX) t := by
      dsimp only [L2.KOf]                          -- K must stand as «<heap const> w.params» for k_is
      refine' My.txt_mk ?e1 ?e2 ?e3 ..
      (case e1 => PySem.W.k_is)                    -- in the order: a name -> its address -> its object -> its parts
      (case e2 => PySem.W.k_is)
      ..
    obtain ⟨t, T⟩ := T
    have e0 := hmg.symm.trans (PySem.W.mg_of KX G T.law)
    cases e0                                       -- fa is the law's own address
    exact ⟨_, fun s u => .of_eq rfl, fun base kb nb => My.law_fn T kb nb⟩     -- if «.of_eq rfl» comes too early: refine' ⟨_, ?b, fun base kb nb => My.law_fn T kb nb⟩; exact fun s u => .of_eq rfl
  case S => exact fun w H a ns hl hO hS => ..
  case C => exact ..
(the tactic k_is has no namespace: write k_is) -/

/-! SHORT WORDS over the layer: a def of the text, its body, what a loop and a test want. -/
namespace L2
open PySem PySem.Spec PyProof.Rows

/-! ### the text by places -/
noncomputable def defArgs (s : Stmt) : Arguments := match s with
  | .FunctionDef _ a _ _ _ _ _ _ _ _ => a
  | _ => { posonlyargs := [], args := [], vararg := none, kwonlyargs := [], kw_defaults := [], kwarg := none, defaults := [] }
noncomputable def defBody (s : Stmt) : List Stmt := match s with
  | .FunctionDef _ _ b _ _ _ _ _ _ _ => b
  | _ => []
noncomputable def defScope (s : Stmt) : Scope := match s with
  | .FunctionDef _ _ _ _ _ _ sc _ _ _ => sc
  | _ => { kind := .function, names := [], isGenerator := false, isCoroutine := false }

/-! ### no exception leaves a def -/
noncomputable abbrev CX0 : CXT := fun _ _ _ _ _ _ => False
noncomputable abbrev E0 : XK := fun _ _ _ => False
theorem pass0 {X : Cx} : Passes CX0 X E0 := fun _ _ _ _ _ _ _ h => h.elim

/-! ### a def (or method) of the text as it stands behind the top -/
structure Fun (K : PySem.W.Frag) (x qual : Str) (st : Stmt) (f : Addr) (fd : FuncData) : Prop where
  ex : ∃ (oc : Value) (od : Option Addr) (kV doc pm : Value) (an : Option Addr) (cdv ct : Value) (osl : Array (Option Value)),
    fd = PySem.W.fnOf x qual (defArgs st) (defBody st) (defScope st) .none kV doc pm an cdv ct ∧ K.lookup f = some ⟨oc, od, .func fd, osl⟩ ∧ PySem.W.codeIn K cdv qual = true
  kp : PySem.W.keepIn K (.ref f) = true
section
variable {P : Program} {w : World} {K : PySem.W.Frag} {mg : Str → Option Value} {base : Heap}
/-- THE RULE for a def: its body as a term of rules, and the reading of that term -/
theorem Fun.ok {x qual : Str} {st : Stmt} {f : Addr} {fd : FuncData} {N ps : List Str} {k : Nat} {sp : Sp} (F : Fun K x qual st f fd) (S : FnScope N ps (defScope st)) (len : ∀ vs H Q E, sp vs H Q E → vs.length = ps.length)
    (hbody : ∀ (cdv : Value) (A : Around) (outer : List Env) (s : Shared) (H : Hp) (vs : List V) (Q : VK) (E : XK), Room k (A.deeper (envOfC qual (defScope st) s.heap.objs.size f cdv)) → sp vs H Q E →
      ∃ t, PSs (cxOf CX0 P w K mg base N qual (defScope st) f cdv A outer s H E).nox (defBody st) t ∧ t { nx := fun _ H' => Q .non H', rt := Q } (start N vs) H) : FnOk P w K mg base CX0 (k + 1) f fd ps sp := by
  obtain ⟨oc, od, kV, doc, pm, an, cdv, ct, osl, rfl, lk, hcd⟩ := F.ex
  refine fn_of lk hcd S len fun A outer s H vs Q E hr hsp => ?_
  obtain ⟨t, h, q⟩ := hbody cdv A outer s H vs Q E hr hsp
  exact ⟨t, h.nox, q⟩
/-- how its arguments bind (no defaults): h is «fun _ _ _ _ _ _ us hl => match us, hl with | [_, _], _ => rfl», one _ a parameter -/
theorem Fun.binds {x qual : Str} {st : Stmt} {f : Addr} {fd : FuncData} {ps : List Str} (F : Fun K x qual st f fd)
    (h : ∀ (kV doc pm : Value) (an : Option Addr) (cdv ct : Value) (us : List Value), us.length = ps.length → bindArgs (PySem.W.fnOf x qual (defArgs st) (defBody st) (defScope st) .none kV doc pm an cdv ct) ⟨us, []⟩ = pure (ps.zip us)) : Binds K fd ps [] := by
  obtain ⟨oc, od, kV, doc, pm, an, cdv, ct, osl, rfl, lk, hcd⟩ := F.ex
  exact .all (h kV doc pm an cdv ct)
theorem fun_mk {x qual : Str} {st : Stmt} {f : Addr} {oc : Value} {od an : Option Addr} {osl : Array (Option Value)} {kV doc pm cdv ct : Value} (l : K.lookup f = some ⟨oc, od, .func (PySem.W.fnOf x qual (defArgs st) (defBody st) (defScope st) .none kV doc pm an cdv ct), osl⟩)
    (c : PySem.W.codeIn K cdv qual = true) (k : PySem.W.keepIn K (.ref f) = true) : Fun K x qual st f (PySem.W.fnOf x qual (defArgs st) (defBody st) (defScope st) .none kV doc pm an cdv ct) := ⟨⟨oc, od, kV, doc, pm, an, cdv, ct, osl, rfl, l, c⟩, k⟩
end
theorem hu_of {A : Around} {k : Nat} (hr : Room k A) : A.units + 1 < cLine := Nat.lt_of_le_of_lt (Nat.add_le_add_left (by decide : 1 ≤ 64) _) hr.units
theorem small1000 {n : Nat} (h : n ≤ 1000) : n < sizeLine := Nat.lt_of_le_of_lt h (by decide)

/-! ### expressions in short: the name that stands in the i-th slot -/
section
variable {X : Cx}
theorem pv (i : Nat) {x : Str} {pos : Pos} (hN : X.N[i]? = some x := by rfl) (hv : Vis X.env.scope x := by first | exact Or.inl rfl | exact Or.inr (Or.inl rfl) | exact Or.inr (Or.inr rfl)) (hd : (x == ("__debug__" : Str)) = false := by decide)
    (hcd : (x == ("__classdict__" : Str)) = false := by decide) : PE X (.Name x pos) (tVar i) := pe_var hN hv hd hcd
end

/-! ### tests -/
theorem iteF {A B : Prop} (h : B) : if false = true then A else B := by
  rw [if_neg Bool.false_ne_true]
  exact h
theorem iteT {A B : Prop} (h : A) : if true = true then A else B := by
  rw [if_pos rfl]
  exact h
theorem ite2 {c A B : Prop} [Decidable c] (h1 : c → A) (h2 : ¬ c → B) : if c then A else B := by
  by_cases h : c
  · rw [if_pos h]
    exact h1 h
  · rw [if_neg h]
    exact h2 h
/-! ### heaps -/
/-- all that was tracked is as it was -/
noncomputable def Same (H H' : Hp) : Prop := ∀ b o, H b = some o → H' b = some o
theorem Same.refl (H : Hp) : Same H H := fun _ _ h => h
theorem Same.trans {H H1 H2 : Hp} (a : Same H H1) (b : Same H1 H2) : Same H H2 := fun c o h => b c o (a c o h)
theorem Same.free {H H' : Hp} (e : Same H H') {l : Addr} (h : H' l = Option.none) : H l = Option.none := by
  cases q : H l with
  | none => rfl
  | some o =>
    rw [e l o q] at h
    cases h
theorem Same.seq {K : PySem.W.Frag} {H H' : Hp} {a : Addr} {xs : List V} (e : Same H H') (h : SqL K H a xs) : SqL K H' a xs := by
  rcases h with (h | ⟨o, h⟩) | h
  · exact .inl (.inl (e _ _ h))
  · exact .inl (.inr ⟨o, e _ _ h⟩)
  · exact .inr h

end L2

set_option maxHeartbeats 4000000
namespace L2
open PySem PySem.Spec PyProof.Rows

/-! ### the cells that a comprehension's block is handed -/
noncomputable def clF (cells : List (Str × Addr)) : List (Str × NameKind) → List (Str × Addr) → List (Str × Addr)
  | [], cs => cs
  | (n, k) :: r, cs => clF cells r (if k == .free then (match cells.lookup n with | some c => (n, c) :: cs | none => cs) else cs)

theorem clF_mem {cells : List (Str × Addr)} : ∀ (names : List (Str × NameKind)) (cs : List (Str × Addr)) (n : Str) (c : Addr), (n, c) ∈ clF cells names cs → (n, c) ∈ cs ∨ (cells.lookup n = some c ∧ (n, NameKind.free) ∈ names)
  | [], cs, n, c, h => .inl h
  | (m, k) :: r, cs, n, c, h => by
    rcases clF_mem r _ n c h with q | ⟨q, z⟩
    · by_cases hk : (k == NameKind.free) = true
      · rw [if_pos hk] at q
        have hk' : k = .free := by simpa using hk
        cases e : cells.lookup m with
        | none => rw [e] at q; exact .inl q
        | some d =>
          rw [e] at q
          rcases List.mem_cons.mp q with z | z
          · cases z; exact .inr ⟨e, by rw [hk']; exact List.mem_cons_self⟩
          · exact .inl z
      · rw [if_neg hk] at q; exact .inl q
    · exact .inr ⟨q, List.mem_cons_of_mem _ z⟩
theorem clF_sub {cells : List (Str × Addr)} : ∀ (names : List (Str × NameKind)) (cs : List (Str × Addr)), ∀ p ∈ cs, p ∈ clF cells names cs
  | [], cs, p, h => h
  | (m, k) :: r, cs, p, h => by
    refine clF_sub r _ p ?_
    by_cases hk : (k == NameKind.free) = true
    · rw [if_pos hk]
      cases cells.lookup m with
      | none => exact h
      | some d => exact List.mem_cons_of_mem _ h
    · rw [if_neg hk]; exact h
theorem clF_has {cells : List (Str × Addr)} : ∀ (names : List (Str × NameKind)) (cs : List (Str × Addr)) (n : Str) (c : Addr), (n, NameKind.free) ∈ names → cells.lookup n = some c → (n, c) ∈ clF cells names cs
  | [], _, _, _, h, _ => nomatch h
  | (m, k) :: r, cs, n, c, h, e => by
    rcases List.mem_cons.mp h with z | z
    · cases z
      refine clF_sub r _ _ ?_
      rw [if_pos (by rfl), e]
      exact List.mem_cons_self
    · exact clF_has r _ n c z e
theorem lookup_isSome_of_mem {β : Type} : ∀ {l : List (Str × β)} {n : Str} {c : β}, (n, c) ∈ l → ∃ d, l.lookup n = some d
  | (m, d) :: r, n, c, h => by
    cases e : n == m with
    | true => exact ⟨d, by simp [List.lookup_cons, e]⟩
    | false =>
      have e' : n ≠ m := by simpa using e
      rcases List.mem_cons.mp h with z | z
      · cases z; exact absurd rfl e'
      · obtain ⟨q, hq⟩ := lookup_isSome_of_mem z
        exact ⟨q, by simp [List.lookup_cons, e, hq]⟩
theorem clF_lookup {cells : List (Str × Addr)} {names : List (Str × NameKind)} {n : Str} {c : Addr} (h : (clF cells names []).lookup n = some c) : cells.lookup n = some c ∧ (n, NameKind.free) ∈ names := by
  rcases clF_mem names [] n c (PySem.mem_of_lookup h) with z | z
  · cases z
  · exact z
theorem closure_eq {env : Env} {scope : Scope} (hf : ∀ n, (n, NameKind.free) ∈ scope.names → ∃ c, env.cells.lookup n = some c) : closureFor scope env = pure (clF env.cells scope.names []) := by
  have go : ∀ (l : List (Str × NameKind)) (cs : List (Str × Addr)), (∀ n, (n, NameKind.free) ∈ l → ∃ c, env.cells.lookup n = some c) →
      (forIn l cs (fun x r => match x with | (name, kind) => if (kind == NameKind.free) = true then do
        let y ← cellOf env name
        pure (ForInStep.yield ((name, y) :: r)) else pure (ForInStep.yield r)) : Sem (List (Str × Addr))) = pure (clF env.cells l cs) := by
    intro l
    induction l with
    | nil => intro cs _; rfl
    | cons x r ih =>
      intro cs h
      obtain ⟨n, k⟩ := x
      rw [List.forIn_cons]
      by_cases hk : (k == NameKind.free) = true
      · have hk' : k = .free := by simpa using hk
        obtain ⟨c, e⟩ := h n (by rw [hk']; exact List.mem_cons_self)
        have ec : cellOf env n = pure c := by unfold cellOf; rw [e]
        simp only [hk, if_true, ec, pure_bind]
        rw [ih _ fun m hm => h m (List.mem_cons_of_mem _ hm)]
        show _ = pure (clF env.cells r _)
        rw [if_pos hk, e]
      · have hk' : (k == NameKind.free) = false := by simpa using hk
        have e1 := ih cs fun m hm => h m (List.mem_cons_of_mem _ hm)
        show (((if (k == NameKind.free) = true then _ else pure (ForInStep.yield cs)) : Sem _) >>= _) = _
        rw [if_neg hk, pure_bind]
        refine Eq.trans e1 ?_
        show _ = pure (clF env.cells r _)
        rw [if_neg hk]
  unfold closureFor
  have := go scope.names [] hf
  rw [bind_pure]
  exact this
end L2

namespace L2
open PySem PySem.Spec PyProof.Rows

/-- a comprehension's own scope against the block around it -/
structure CScope (X : Cx) (xs : List Str) (sc : Scope) : Prop where
  kind : sc.kind = .function
  nocell : ∀ y ∈ sc.names, y.2 ≠ .cell
  names : ∀ y ∈ sc.names, y.2 = .local → sc.names.lookup y.1 = some .local
  own : ∀ x ∈ xs, sc.names.lookup x = some .local
  sep : ∀ y ∈ X.N, sc.names.lookup y ≠ some .local
  frees : ∀ y ∈ sc.names, y.2 = .free → X.env.kindOf y.1 = some .cell ∨ X.env.kindOf y.1 = some .free
  nd : (xs ++ X.N).Nodup

/-- the context of a comprehension's block -/
noncomputable def cxC (X : Cx) (xs : List Str) (sc : Scope) (ex : List Addr) (s : Shared) (H : Hp) : Cx where
  prog := X.prog
  w := X.w
  K := X.K
  mg := X.mg
  base := X.base
  A := X.A
  N := xs ++ X.N
  s₀ := s
  H₀ := H
  env := compEnvC sc (clF X.env.cells sc.names []) s.heap.objs.size X.env
  outer := X.stack
  stack := X.stack
  ex := ex
  fn := fun _ => false
  calm := X.calm
  pn := []
  xe := fun _ _ => False

theorem lookup_relabel (env : Env) (x : Str) : ∀ names : List (Str × NameKind),
    (names.map fun (n, k) => if (k == NameKind.free && env.scope.kind == .function && env.kindOf n == some .cell) then (n, NameKind.cell) else (n, k)).lookup x =
      (names.lookup x).map fun k => if (k == NameKind.free && env.scope.kind == .function && env.kindOf x == some .cell) then NameKind.cell else k
  | [] => rfl
  | (n, k) :: r => by
    have ih := lookup_relabel env x r
    show List.lookup x ((if (k == NameKind.free && env.scope.kind == .function && env.kindOf n == some .cell) = true then (n, NameKind.cell) else (n, k)) :: _) = _
    cases hx : x == n with
    | true =>
      have e : x = n := by simpa using hx
      subst e
      by_cases hc : (k == NameKind.free && env.scope.kind == .function && env.kindOf x == some .cell) = true
      · rw [if_pos hc]
        simp only [List.lookup_cons, hx, Option.map_some]
        rw [if_pos hc]
      · rw [if_neg hc]
        simp only [List.lookup_cons, hx, Option.map_some]
        rw [if_neg hc]
    | false =>
      by_cases hc : (k == NameKind.free && env.scope.kind == .function && env.kindOf n == some .cell) = true
      · rw [if_pos hc]; simp only [List.lookup_cons, hx]; exact ih
      · rw [if_neg hc]; simp only [List.lookup_cons, hx]; exact ih

/-- a name of the block around, seen in the comprehension, is a free one -/
theorem vis_relabel {sc : Scope} {env : Env} {x : Str} (h : Vis (relabel sc env) x) (hl : sc.names.lookup x ≠ some .local) (hc : ∀ y ∈ sc.names, y.2 ≠ .cell) :
    (x, NameKind.free) ∈ sc.names ∧ ((relabel sc env).names.lookup x = some .cell ∨ (relabel sc env).names.lookup x = some .free) := by
  have e : (relabel sc env).names.lookup x = _ := lookup_relabel env x sc.names
  unfold Vis at h
  rw [e] at h
  cases k : sc.names.lookup x with
  | none => rw [k] at h; simp at h
  | some v =>
    have mem := PySem.mem_of_lookup k
    have nl : v ≠ .local := fun z => hl (by rw [k, z])
    have ncl : v ≠ .cell := fun z => hc _ mem z
    rw [k] at h
    rw [e, k]
    simp only [Option.map_some] at h ⊢
    by_cases hv : v = .free
    · subst hv
      refine ⟨mem, ?_⟩
      split
      · exact .inl rfl
      · exact .inr rfl
    · have : (v == NameKind.free) = false := by simpa using hv
      simp only [this, Bool.false_and] at h
      rcases h with h | h | h
      · exact absurd (Option.some.inj h) nl
      · exact absurd (Option.some.inj h) ncl
      · exact absurd (Option.some.inj h) hv

section
variable {X : Cx} {pins : List (Addr × Obj)} {σ : St} {H : Hp} {s : Shared} {xs : List Str} {sc : Scope} {ex : List Addr}
theorem CScope.cells (S : CScope X xs sc) (ok : X.Ok) : ∀ n, (n, NameKind.free) ∈ sc.names → ∃ c, X.env.cells.lookup n = some c := fun n h => ok.has n (S.frees _ h rfl)
theorem cxC_ok (S : CScope X xs sc) (I : Inv X pins σ H s) (he : ∀ b ∈ ex, b < s.heap.objs.size ∧ b ∉ frs X.stack ∧ (∀ x c, X.env.cells.lookup x = some c → c ≠ b) ∧ X.base.get? b = none) : (cxC X xs sc ex s H).Ok := by
  refine ⟨I.ok.mod, S.kind, I.ok.glob, I.ok.blt, Nat.le_refl _, fun x y c h1 h2 => ?_, fun x hx => ?_, fun _ _ h => (by cases h), I.ok.hd, I.ok.frames, .inl rfl, fun b hb => ⟨Nat.ne_of_lt (he b hb).1, fun x c h => (he b hb).2.2.1 x c (clF_lookup h).1⟩, fun b o e => ?_, ?_, fun b o e hb => ?_, fun b hb => (he b hb).2.1, I.stack, I.stkFree⟩
  · exact I.ok.inj x y c (clF_lookup h1).1 (clF_lookup h2).1
  · have hv : (relabel sc X.env).names.lookup x = some .cell ∨ (relabel sc X.env).names.lookup x = some .free := hx
    have q : (x, NameKind.free) ∈ sc.names := by
      have e : (relabel sc X.env).names.lookup x = _ := lookup_relabel X.env x sc.names
      rw [e] at hv
      cases k : sc.names.lookup x with
      | none => rw [k] at hv; simp at hv
      | some v =>
        have mem := PySem.mem_of_lookup k
        rw [k] at hv
        simp only [Option.map_some] at hv
        by_cases hvf : v = .free
        · rw [hvf] at mem; exact mem
        · have : (v == NameKind.free) = false := by simpa using hvf
          simp only [this, Bool.false_and] at hv
          rcases hv with h | h
          · exact absurd (Option.some.inj h) (S.nocell _ mem)
          · exact absurd (Option.some.inj h) hvf
    obtain ⟨c, e⟩ := S.cells I.ok x q
    exact lookup_isSome_of_mem (clF_has sc.names [] x c q e)
  · exact I.bs b o e
  · exact Nat.le_trans I.ok.bsz I.sz
  · have q : X.base.get? b = none := (he b hb).2.2.2
    have e' : X.base.get? b = some o := e
    rw [q] at e'; cases e'

/-- the block's first state -/
theorem inv_comp {h₁ : Heap} {tk : Nat} (S : CScope X xs sc) (I : Inv X pins σ H s) (he : ∀ b ∈ ex, b < s.heap.objs.size ∧ b ∉ frs X.stack ∧ (∀ x c, X.env.cells.lookup x = some c → c ≠ b) ∧ X.base.get? b = none)
    (hn : h₁.Ns s.heap.objs.size (fun _ => none)) (hk : ∀ b o, s.heap.get? b = some o → h₁.get? b = some o) :
    Inv (cxC X xs sc ex s H) [] (List.replicate xs.length none ++ σ) H { s with heap := h₁, toks := tk } := by
  have I1 : Inv X pins σ H { s with heap := h₁, toks := tk } := I.kept hk
  refine ⟨cxC_ok S I he, rfl, I.bare, Un.kept hk, ⟨_, hn, fun i x v h1 h2 h3 => ?_⟩, fun x c h => I1.cell x c (clF_lookup h).1, I.hok.fresh (Nat.le_refl _), fun x c h => I.freeC x c (clF_lookup h).1, fun p hp => absurd (show p ∈ ([] : List (Addr × Obj)) from hp) (by simp), I.hok.kept hk, ?_⟩
  · have h1' : (xs ++ X.N)[i]? = some x := h1
    by_cases hi : i < xs.length
    · rw [List.getElem?_append_left (by simpa using hi), List.getElem?_replicate, if_pos hi] at h2
      cases h2
    · have hi' : xs.length ≤ i := Nat.le_of_not_lt hi
      rw [List.getElem?_append_right (by simpa using hi')] at h2
      rw [List.getElem?_append_right hi'] at h1'
      rw [List.length_replicate] at h2
      have hm : x ∈ X.N := List.mem_of_getElem? h1'
      obtain ⟨hf, hkd⟩ := vis_relabel h3 (S.sep x hm) S.nocell
      have hko := S.frees _ hf rfl
      obtain ⟨m, _, hl⟩ := I1.loc
      obtain ⟨u, r, l⟩ := hl (i - xs.length) x v h1' h2 (by
        rcases hko with z | z
        · exact .inr (.inl z)
        · exact .inr (.inr z))
      refine ⟨u, r, .inr ⟨hkd, ?_⟩⟩
      rcases l with ⟨z, _⟩ | ⟨_, c, ec, hc⟩
      · rcases hko with q | q <;> (rw [q] at z; cases z)
      · obtain ⟨d, ed⟩ := lookup_isSome_of_mem (clF_has sc.names [] x c hf ec)
        have : c = d := by
          have := (clF_lookup ed).1
          rw [ec] at this
          exact Option.some.inj this
        subst this
        exact ⟨c, ed, hc⟩
  · show (List.replicate xs.length none ++ σ).length = (xs ++ X.N).length
    rw [List.length_append, List.length_append, List.length_replicate, I.len]
end
end L2

namespace L2
open PySem PySem.Spec PyProof.Rows

section
variable {prog : Program} {w : World} {A : Around} {R : Result → Shared → Prop} {s : Shared}
/-- a comprehension's loop, no exception leaving it -/
theorem compLoop_of {elt target iter : Expr} {ifs : List Expr} {scope : Scope} {pos : Pos} {it acc : Value} {env : Env} (I : Nat → Shared → Prop)
    (turn : ∀ n s, I n s → wpAny (model prog w) A (pyNext it) (fun r s₁ => match r with
      | none => R (.ok .next) s₁
      | some v => wpAny (model prog w) A (letOwnedTupleGo target it v) (fun _ s₁' => wpAny (model prog w) A (assign target env v) (fun _ s₂ =>
          wpAny (model prog w) A (forIn ifs true fun c r => if r = true then do let ok ← isTrue c env (eval c env); pure (ForInStep.yield ok) else pure (ForInStep.yield r)) (fun ok s₃ =>
            if ok = true then wpAny (model prog w) A (eval elt env) (fun x s₄ =>
              wpAny (model prog w) A (call (.builtin "list.append") [acc, x]) (fun _ s₅ => ∃ m, m < n ∧ I m s₅) (fun _ _ => False) s₄) (fun _ _ => False) s₃
            else ∃ m, m < n ∧ I m s₃) (fun _ _ => False) s₂) (fun _ _ => False) s₁') (fun _ _ => False) s₁) (fun _ _ => False) s)
    (n : Nat) (h : I n s) :
    codeAny (model prog w) A (.compLoop (.ListComp elt [⟨target, iter, ifs, 0⟩] scope pos) 0 it acc env) R s := by
  refine codeAny_loop rfl I (fun n s hI => ?_) n h
  show wpAny _ A ((compTurn (.ListComp elt [⟨target, iter, ifs, 0⟩] scope pos) 0 it acc env).onRaise (fun x => do noteFrame x env; theTreesLotGoes x)) _ _ s
  refine wpAny_noted ?_
  rw [compTurn_list]
  refine wpAny_bind (wpAny_standAt (wpAny_bind (wpAny_mono (turn n s hI) (fun r s₁ h₁ => ?_) fun _ _ h' => h'.elim)))
  cases r with
  | none => exact wpAny_pure h₁
  | some v =>
    refine wpAny_bind (wpAny_mono h₁ (fun _ s₁' h₁' => ?_) fun _ _ h' => h'.elim)
    refine wpAny_bind (wpAny_mono h₁' (fun _ s₂ h₂ => wpAny_bind (wpAny_mono h₂ (fun ok s₃ h₃ => ?_) fun _ _ h' => h'.elim)) fun _ _ h' => h'.elim)
    cases ok with
    | false => exact wpAny_pure ⟨rfl, h₃⟩
    | true =>
      exact wpAny_bind (wpAny_bind (wpAny_mono h₃ (fun x s₄ h₄ => wpAny_bind (wpAny_mono h₄ (fun _ s₅ h₅ => wpAny_pure (wpAny_pure ⟨rfl, h₅⟩)) fun _ _ h' => h'.elim)) fun _ _ h' => h'.elim))
end

/-- the tests of a clause -/
noncomputable def PTs (X : Cx) (ifs : List Expr) (t : TT) : Prop :=
  ∀ (pins : List (Addr × Obj)) (s : Shared) (σ : St) (H : Hp) (Q : Bool → Hp → Prop), Inv X pins σ H s → t σ H Q →
    wpAny (model X.prog X.w) X.A (forIn ifs true fun c r => if r = true then do let ok ← isTrue c X.env (eval c X.env); pure (ForInStep.yield ok) else pure (ForInStep.yield r)) (TP X pins σ Q) X.xe s
noncomputable def tYes : TT := fun _ H Q => Q true H
theorem pts_nil {X : Cx} : PTs X [] tYes := fun _ _ _ H _ I h => wpAny_tests_nil ⟨H, I, h⟩
theorem pts_one {X : Cx} {c : Expr} {t : TT} (h : PT X c t) : PTs X [c] t := fun pins s σ H Q I q => wpAny_tests_one (h pins s σ H Q I q)

section
variable {X : Cx} {pins : List (Addr × Obj)} {σ : St} {H : Hp} {s2 : Shared} {tg iter elt : Expr} {ifs : List Expr} {sc : Scope} {pos : Pos} {xs : List Str} {g : TG} {tc : TT} {te : TE} {J : It} {fp : List Addr} {it : Addr} {tn : Nat → Heap → Prop}
/-- a list object that stands untracked is taken into the tracked ones -/
theorem HOk.adopt {P : Program} {w : World} {H : Hp} {h : Heap} {a : Addr} {xs : List V} {its : List Value} {n : Nat} (x : HOk P w H h) (hn : H a = none) (hz : xs.length ≤ sizeLine) (r : Vals xs its) (e : h.get? a = some { cls := .type "list", data := .seq its.toArray n }) :
    HOk P w (upd H a (.lst xs)) h := fun b u q => by
  by_cases hb : b = a
  · subst hb; rw [upd_same] at q; cases q; exact ⟨hz, its, n, r, e⟩
  · rw [upd_ne hb] at q
    exact (x b u q).stay (fun c v _ q => q) (fun c q => by rw [upd_ne (ne_of_none q hn)]; exact q) fun c xs q => by rw [upd_ne (ne_of_none q hn)]; exact q

theorem comp_core {E : Value → Shared → Prop} {RR : Value → Addr → Result → Shared → Prop} (S : CScope X xs sc) (hcalm : X.calm = true)
    (hg : ∀ ex s3 H3, PG (cxC X xs sc ex s3 H3) tg g) (ht : ∀ ex s3 H3, PTs (cxC X xs sc ex s3 H3) ifs tc) (he : ∀ ex s3 H3, PE (cxC X xs sc ex s3 H3) elt te)
    (I : Inv X pins σ H s2) (T : Turn X.prog X.w X.K tg J fp it tn) (st : tn 0 s2.heap) (f2 : ∀ b ∈ fp, FpOk X pins H b)
    (W : Nat → Nat → List V → Hp → Prop) (w0 : ∃ m, W 0 m [] H) (F : List V → Hp → Prop)
    (turn : ∀ i m acc H, W i m acc H → (J.stop i H ∧ acc.length ≤ sizeLine ∧ F acc H) ∨
      (J.go i H ∧ acc.length < sizeLine ∧ ∃ N : List V → Hp → Prop, (∀ acc' H', N acc' H' → ∃ m', m' < m ∧ W (i + 1) m' acc' H') ∧ ∀ x H', J.yld i H x H' → g x (List.replicate xs.length none ++ σ) H' fun σ2 H2 => σ2.drop xs.length = σ ∧ tc σ2 H2 fun c H3 =>
        if c = true then te σ2 H3 fun y H4 => N (acc ++ [y]) H4 else N acc H3))
    (fin : ∀ D C s' acc H', (∃ m, s'.heap.Ns C m) → FpOk X pins (upd H' D (.lst acc)) C → F acc H' → H' D = none → Inv X pins σ (upd H' D (.lst acc)) s' → RR (.ref D) C (.ok .next) s') :
    wpAny (model X.prog X.w) X.A (newList []) (fun acc s3 => wpAny (model X.prog X.w) X.A (newFunctionEnv sc X.env.globals (clF X.env.cells sc.names []) [] X.env.qual none .none (some X.env)) (fun cenv s4 =>
      codeAny (model X.prog X.w) X.A (.compStart (.ListComp elt [⟨tg, iter, ifs, 0⟩] sc pos) 0 (.ref it) acc { cenv with scope := relabel sc X.env }) (RR acc cenv.locals) s4) E s3) E s2 := by
  refine wpAny_newObj_type (wpAny_newFunctionEnv S.nocell (by intro y hy; simp at hy) (fun h₁ hns₁ hsb₁ => ?_) S.kind)
  dsimp only at hns₁ hsb₁ ⊢
  generalize hH3 : s2.heap.push { cls := .type "list", dict := none, data := .seq ([] : List Value).toArray } = H3 at hns₁ hsb₁ ⊢
  have hC : H3.objs.size = s2.heap.objs.size + 1 := by rw [← hH3, Heap.size_push]
  have hDC : s2.heap.objs.size ≠ H3.objs.size := by rw [hC]; exact Nat.ne_of_lt (Nat.lt_succ_self _)
  have old3 : ∀ b o, s2.heap.get? b = some o → H3.get? b = some o := fun b o e => hH3 ▸ Heap.get?_push_of_some _ e
  have k1 : ∀ b o, H3.get? b = some o → h₁.get? b = some o := fun b o e => hsb₁.extBut b o (Nat.ne_of_lt (Heap.lt_size e)) (Heap.get?_push_of_some _ e)
  have I3 : Inv X pins σ H { s2 with heap := H3 } := I.kept old3
  have fpLt : ∀ b ∈ fp, b < s2.heap.objs.size := fun b hb => by
    obtain ⟨o, e, _⟩ := T.obj _ _ st b hb
    exact Heap.lt_size e
  have hnofr : ∀ b, s2.heap.objs.size ≤ b → b ∉ frs X.stack := fun b hb z => by
    rcases List.mem_cons.mp (I.stkSub b z) with q | q
    · exact absurd (Nat.lt_of_lt_of_le I.lt hb) (by rw [q]; exact Nat.lt_irrefl _)
    · exact I.nofs hb q
  have hnocell : ∀ b, s2.heap.objs.size ≤ b → ∀ x c, X.env.cells.lookup x = some c → c ≠ b := fun b hb x c e z => by
    obtain ⟨v, q⟩ := I.cell x c e
    exact absurd (Nat.lt_of_lt_of_le q.lt (by rw [z]; exact hb)) (Nat.lt_irrefl _)
  have hnobase : ∀ b, s2.heap.objs.size ≤ b → X.base.get? b = none := fun b hb => Heap.get?_none_of_le (Nat.le_trans (Nat.le_trans I.ok.bsz I.sz) hb)
  have fpfr : ∀ b ∈ fp, b ∉ frs X.stack := fun b hb z => by
    rcases List.mem_cons.mp (I.stkSub b z) with q | q
    · exact (f2 b hb).2.1 q
    · exact (f2 b hb).2.2.1 q
  have fpbase : ∀ b ∈ fp, X.base.get? b = none := fun b hb => by
    rcases (f2 b hb).2.2.2.1 with z | z
    · cases e : X.base.get? b with
      | none => rfl
      | some o => exact absurd z (I.ok.noex b o e)
    · exact Heap.get?_none_of_le (Nat.le_trans I.ok.bsz z)
  have hex : ∀ b ∈ (s2.heap.objs.size :: fp), b < H3.objs.size ∧ b ∉ frs X.stack ∧ (∀ x c, X.env.cells.lookup x = some c → c ≠ b) ∧ X.base.get? b = none := fun b hb => by
    rcases List.mem_cons.mp hb with z | z
    · subst z
      exact ⟨by rw [hC]; exact Nat.lt_succ_self _, hnofr _ (Nat.le_refl _), hnocell _ (Nat.le_refl _), hnobase _ (Nat.le_refl _)⟩
    · exact ⟨by rw [hC]; exact Nat.lt_succ_of_lt (fpLt b z), fpfr b z, (f2 b z).2.2.2.2.1, fpbase b z⟩
  have I4 := inv_comp (ex := s2.heap.objs.size :: fp) (tk := s2.toks + ([] : List (Str × Value)).length) S I3 hex hns₁ k1
  generalize hX' : cxC X xs sc (s2.heap.objs.size :: fp) { s2 with heap := H3 } H = X' at I4
  have hDn : H s2.heap.objs.size = none := I.hok.fresh (Nat.le_refl _)
  have hDobj : h₁.get? s2.heap.objs.size = some { cls := .type "list", data := .seq (([] : List Value)).toArray 0 } := k1 _ _ (hH3 ▸ Heap.get?_push_size _ rfl)
  have st1 : tn 0 h₁ := T.keep _ _ _ st fun b _ o e => k1 b o (old3 b o e)
  obtain ⟨m0, w0⟩ := w0
  -- the block's facts about D and the iterator, whatever the state
  have eXex : X'.ex = s2.heap.objs.size :: fp := by rw [← hX']; rfl
  have eXloc : X'.env.locals = H3.objs.size := by rw [← hX']; rfl
  have eXfs : X'.fs = frs X.stack := by rw [← hX']; rfl
  have eXcl : X'.env.cells = clF X.env.cells sc.names [] := by rw [← hX']; rfl
  have eXpn : X'.pn = [] := by rw [← hX']; rfl
  have eXm : X'.prog = X.prog ∧ X'.w = X.w ∧ X'.K = X.K ∧ X'.calm = true ∧ X'.A = X.A ∧ X'.xe = fun _ _ => False := by rw [← hX']; exact ⟨rfl, rfl, rfl, hcalm, rfl, rfl⟩
  obtain ⟨eP, ew, eK, ec, eA, exe⟩ := eXm
  have envE : X'.env = { newEnv sc H3.objs.size X.env.globals (clF X.env.cells sc.names []) X.env.qual none .none (some X.env) builtinsNs with scope := relabel sc X.env } := by rw [← hX']; rfl
  have hg' : PG X' tg g := hX' ▸ hg _ _ _
  have ht' : PTs X' ifs tc := hX' ▸ ht _ _ _
  have he' : PE X' elt te := hX' ▸ he _ _ _
  have hs0 : X'.s₀.heap = H3 := by rw [← hX']; rfl
  have hH0 : X'.H₀ = H := by rw [← hX']; rfl
  have hos : X'.s₀.os = s2.os := by rw [← hX']; rfl
  have loop : ∀ s₃ : Shared, s₃ = { s2 with heap := h₁, toks := s2.toks + ([] : List (Str × Value)).length } →
      codeAny (model X.prog X.w) X.A (.compLoop (.ListComp elt [⟨tg, iter, ifs, 0⟩] sc pos) 0 (.ref it) (.ref s2.heap.objs.size) X'.env) (RR (.ref s2.heap.objs.size) H3.objs.size) s₃ := by
    rintro s₃ rfl
    refine compLoop_of (fun n s' => ∃ i acc its k H', Inv X' [] (List.replicate xs.length none ++ σ) H' s' ∧ tn i s'.heap ∧ (∀ b ∈ fp, H' b = none) ∧ H' s2.heap.objs.size = none ∧ Vals acc its ∧
      s'.heap.get? s2.heap.objs.size = some { cls := .type "list", data := .seq its.toArray k } ∧ W i n acc H') ?_ m0
      ⟨0, [], [], 0, H, I4, st1, fun b hb => (f2 b hb).1, hDn, .nil, hDobj, w0⟩
    rintro n s' ⟨i, acc, its, k, H', I', st', fr', hD', rv, hobj, w'⟩
    have fpok : ∀ {o : Obj} {H'' : Hp}, (∀ b ∈ fp, H'' b = none) → ∀ b ∈ fp, FpOk X' [(s2.heap.objs.size, o)] H'' b := fun {o H''} hn b hb => by
      refine ⟨hn b hb, by rw [eXloc, hC]; exact Nat.ne_of_lt (Nat.lt_succ_of_lt (fpLt b hb)), by rw [eXfs]; exact fpfr b hb, .inl (by rw [eXex]; exact List.mem_cons_of_mem _ hb), fun x c e => ?_, fun p hp => ?_⟩
      · rw [eXcl] at e
        exact (f2 b hb).2.2.2.2.1 x c (clF_lookup e).1
      · rw [eXpn] at hp
        have : p = (s2.heap.objs.size, o) := by simpa using hp
        rw [this]
        exact Nat.ne_of_gt (fpLt b hb)
    have pinD : ∀ {H'' : Hp} {s'' : Shared} {σ'' : St} {o : Obj}, Inv X' [] σ'' H'' s'' → s''.heap.get? s2.heap.objs.size = some o → (∀ v, o.data ≠ .cell v) → H'' s2.heap.objs.size = none → Inv X' [(s2.heap.objs.size, o)] σ'' H'' s'' := fun {H'' s'' σ'' o} J e d hn =>
      J.pins_of fun p hp => by
        have : p = (s2.heap.objs.size, o) := by simpa using hp
        rw [this]
        exact ⟨e, hn, by rw [eXloc]; exact hDC, by rw [eXfs]; exact hnofr _ (Nat.le_refl _), d⟩
    have J := pinD I' hobj (fun v => by intro z; cases z) hD'
    rw [← eP, ← ew, ← eA]
    rcases turn i n acc H' w' with ⟨stop, hz, hF⟩ | ⟨go, hz, N, hN, step⟩
    · have q1 : wpAny (model X'.prog X'.w) X'.A (pyNext (.ref it)) (fun r s1 => r = none ∧ Inv X' [(s2.heap.objs.size, { cls := .type "list", data := .seq its.toArray k })] (List.replicate xs.length none ++ σ) H' s1) (fun _ _ => False) s' := by
        have := T.done X' eP ew eK ec i _ s' _ H' (fun _ _ => False) J (fpok fr') st' stop
        rw [eP, ew]; exact this
      refine thn q1 fun r s1 h1 => ?_
      obtain ⟨hr, J1⟩ := h1
      subst hr
      have e1 := J1.pin (s2.heap.objs.size, { cls := .type "list", data := .seq its.toArray k }) (List.mem_append_right _ List.mem_cons_self)
      -- back to the block around
      have un : Un (frs X.stack) (s2.heap.objs.size :: fp) H H' H3 s1.heap := by
        have := J1.base
        rw [eXfs, eXex, hH0, hs0] at this
        exact this
      have hok1 : HOk X.prog X.w H' s1.heap := by have := J1.hok; rw [eP, ew] at this; exact this
      obtain ⟨mC, hmC, _⟩ := J1.loc
      have hmC' : s1.heap.Ns H3.objs.size mC := by rw [eXloc] at hmC; exact hmC
      have hCfree : H' H3.objs.size = none := by have := J1.free; rw [eXloc] at this; exact this
      refine fin _ _ s1 acc H' ⟨mC, hmC'⟩ ?_ hF e1.2.1 ?_
      · refine I.fpOk (by rw [hC]; exact Nat.le_succ _) ?_
        rw [upd_ne (Ne.symm hDC)]
        exact hCfree
      · refine I.call' (ch := fp) (J1.os.trans hos) ?_ (hok1.adopt e1.2.1 hz rv e1.1) J1.bare fun b hb => ⟨(f2 b hb).2.2.2.1, (f2 b hb).2.1, (f2 b hb).2.2.2.2.1, (f2 b hb).2.2.2.2.2⟩
        have below : ∀ b o, s2.heap.get? b = some o → b ≠ s2.heap.objs.size := fun b o e => Nat.ne_of_lt (Heap.lt_size e)
        have nin : ∀ b o, s2.heap.get? b = some o → b ∉ fp → b ∉ s2.heap.objs.size :: fp := fun b o e hb z => (List.mem_cons.mp z).elim (below b o e) hb
        have trkne : ∀ b u, H b = some u → b ≠ s2.heap.objs.size := fun b u e z => by rw [z, hDn] at e; cases e
        refine ⟨fun b o e n hf hb => un.keep b o (old3 b o e) n hf (nin b o e hb), fun b o e n hf hb => un.slot b o (old3 b o e) n hf (nin b o e hb), fun b o e n hb => ?_, fun b o e hb => un.there b o (old3 b o e) (nin b o e hb), fun b ys e => ?_, fun b o u e => ?_, fun b ps e => ?_⟩
        · rw [upd_ne (below b o e)]; exact un.free b o (old3 b o e) n (nin b o e hb)
        · rw [upd_ne (trkne b _ e)]; exact un.tups b ys e
        · rw [upd_ne (trkne b _ e)]; exact un.frzs b o u e
        · rw [upd_ne (trkne b _ e)]; exact un.tbls b ps e
    · have q1 := T.item X' eP ew eK ec i _ s' _ H' (fun _ _ => False) J (fpok fr') st' go
      rw [← eP, ← ew] at q1
      have q2 := q1
      refine thn q2 fun r s1 h1 => ?_
      obtain ⟨u, hr, h4⟩ := h1
      subst hr
      dsimp only
      refine thn h4 fun _ s5 ⟨x, H5, J5, r5, y5, st5, fr5⟩ => ?_
      have J5' := J5.pinned (fpok fr5) (T.obj _ _ st5)
      have q5 := hg' _ s5 _ H5 x u _ J5' r5 (step x H5 y5)
      rw [exe] at q5
      refine thn q5 fun _ s6 ⟨σ6, H6, J6, hσ, q6⟩ => ?_
      have q7 := ht' _ s6 σ6 H6 _ J6 q6
      rw [exe] at q7
      refine thn q7 fun ok s7 ⟨H7, J7, q7⟩ => ?_
      -- the state behind a turn
      have lenσ : ∀ {H8 : Hp} {s8 : Shared} {pl : List (Addr × Obj)}, Inv X' pl σ6 H8 s8 → (List.replicate xs.length none ++ σ).length = σ6.length := fun {H8 s8 pl} J8 => J6.len.symm ▸ I4.len
      have weak : ∀ {H8 : Hp} {s8 : Shared} {pl : List (Addr × Obj)}, Inv X' pl σ6 H8 s8 → Inv X' pl (List.replicate xs.length none ++ σ) H8 s8 := fun {H8 s8 pl} J8 => by
        refine J8.weak (lenσ J8) fun j v e => ?_
        by_cases hj : j < xs.length
        · rw [List.getElem?_append_left (by simpa using hj), List.getElem?_replicate, if_pos hj] at e
          cases e
        · have hj' : xs.length ≤ j := Nat.le_of_not_lt hj
          rw [List.getElem?_append_right (by simpa using hj'), List.length_replicate, ← hσ, List.getElem?_drop] at e
          rw [← e]
          congr 1
          omega
      have back : ∀ {H8 : Hp} {s8 : Shared}, Inv X' ([(s2.heap.objs.size, { cls := .type "list", data := .seq its.toArray k })] ++ pinsAt fp s5.heap) σ6 H8 s8 →
          Inv X' [] (List.replicate xs.length none ++ σ) H8 s8 ∧ tn (i + 1) s8.heap ∧ (∀ b ∈ fp, H8 b = none) ∧ H8 s2.heap.objs.size = none ∧ s8.heap.get? s2.heap.objs.size = some { cls := .type "list", data := .seq its.toArray k } := fun {H8 s8} J8 => by
        have eD := J8.pin (s2.heap.objs.size, { cls := .type "list", data := .seq its.toArray k }) (List.mem_append_right _ (List.mem_append_left _ List.mem_cons_self))
        refine ⟨(weak J8).pins_of fun p hp => absurd hp (by simp), T.keep _ _ _ st5 fun b hb o e => (J8.pin (b, o) (List.mem_append_right _ (List.mem_append_right _ (mem_pinsAt hb e)))).1, fun b hb => ?_, eD.2.1, eD.1⟩
        obtain ⟨o, e, d⟩ := T.obj _ _ st5 b hb
        exact (J8.pin (b, o) (List.mem_append_right _ (List.mem_append_right _ (mem_pinsAt hb e)))).2.1
      cases ok with
      | false =>
        simp only [Bool.false_eq_true, if_false] at q7 ⊢
        obtain ⟨m', hm, w7⟩ := hN _ _ q7
        obtain ⟨a1, a2, a3, a4, a5⟩ := back J7
        exact ⟨m', hm, i + 1, acc, its, k, H7, a1, a2, a3, a4, rv, a5, w7⟩
      | true =>
        simp only [if_true] at q7 ⊢
        have q8 := he' _ s7 σ6 H7 _ J7 q7
        rw [exe] at q8
        refine thn q8 fun u8 s8 ⟨y, H8, J8, r8, q9⟩ => ?_
        obtain ⟨m', hm, w8⟩ := hN _ _ q9
        obtain ⟨a1, a2, a3, a4, a5⟩ := back J8
        have hits : its.length = acc.length := rv.length.symm
        refine wpAny_list_append_plain (hsz := by show its.toArray.size ≤ sizeLine; rw [List.size_toArray, hits]; exact Nat.le_of_lt hz) ⟨k, a5⟩ fun h9 hl9 hs9 => ?_
        obtain ⟨k9, e9⟩ := hl9
        refine ⟨m', hm, i + 1, acc ++ [y], its ++ [u8], k9, H8, ?_, ?_, a3, a4, rv.append (.cons r8 .nil), ?_, w8⟩
        · exact a1.turned (t' := s8.toks) (fun b o hb e => hs9.extBut b o hb e) a4 (by rw [eXloc]; exact hDC) (.inl (by rw [eXex]; exact List.mem_cons_self)) (fun x c e => by rw [eXcl] at e; exact hnocell _ (Nat.le_refl _) x c (clF_lookup e).1) (fun p hp => by rw [eXpn] at hp; simp at hp)
        · exact T.keep _ _ _ a2 fun b hb o e => hs9.extBut b o (Nat.ne_of_lt (fpLt b hb)) e
        · rw [e9]
          congr 2
          simp
  rw [show { newEnv sc H3.objs.size X.env.globals (clF X.env.cells sc.names []) X.env.qual none .none (some X.env) builtinsNs with scope := relabel sc X.env } = X'.env from envE.symm]
  exact codeAny_compStart_list (loop _ rfl) (T.self X.A 0 _ _ _ st1 (loop _ rfl))
end
end L2

namespace L2
open PySem PySem.Spec PyProof.Rows

/-- [elt for tg in iter if ..]: W the word by the turn, a measure, and what is gathered -/
noncomputable def LCW (n : Nat) (J : It) (g : TG) (tc : TT) (te : TE) (σ : St) (H1 : Hp) (F : List V → Hp → Prop) : Prop :=
  ∃ W : Nat → Nat → List V → Hp → Prop, (∃ m, W 0 m [] H1) ∧ ∀ i m acc H, W i m acc H → (J.stop i H ∧ acc.length ≤ sizeLine ∧ F acc H) ∨
    (J.go i H ∧ acc.length < sizeLine ∧ ∃ N : List V → Hp → Prop, (∀ acc' H', N acc' H' → ∃ m', m' < m ∧ W (i + 1) m' acc' H') ∧ ∀ x H', J.yld i H x H' → g x (List.replicate n none ++ σ) H' fun σ2 H2 => σ2.drop n = σ ∧ tc σ2 H2 fun c H3 =>
      if c = true then te σ2 H3 fun y H4 => N (acc ++ [y]) H4 else N acc H3)
noncomputable def tLC (n : Nat) (wi : TI) (g : TG) (tc : TT) (te : TE) : TE := fun σ H Q => wi σ H fun J H1 => LCW n J g tc te σ H1 fun acc H => ∀ p, H p = none → Q (.ref p) (upd H p (.lst acc))

section
variable {X : Cx} {tg iter elt : Expr} {ifs : List Expr} {sc : Scope} {pos : Pos} {xs : List Str} {wi : TI} {g : TG} {tc : TT} {te : TE}
theorem FpOk.turn {pins : List (Addr × Obj)} {σ : St} {H : Hp} {s : Shared} {C : Addr} {h' : Heap} (f : FpOk X pins H C) (I : Inv X pins σ H s) (hs : Heap.SameBut C s.heap h') : Inv X pins σ H { s with heap := h' } :=
  I.turned (t' := s.toks) (fun b o hb e => hs.extBut b o hb e) f.1 f.2.1 f.2.2.2.1 f.2.2.2.2.1 f.2.2.2.2.2
theorem pe_comp (S : CScope X xs sc) (hc : X.calm = true) (hi : PI X tg iter wi) (hg : ∀ ex s3 H3, PG (cxC X xs sc ex s3 H3) tg g) (ht : ∀ ex s3 H3, PTs (cxC X xs sc ex s3 H3) ifs tc) (he : ∀ ex s3 H3, PE (cxC X xs sc ex s3 H3) elt te)
    (hs : ∀ x, foldedSetIterable iter X.env x = pure x := by intro _; rfl) : PE X (.ListComp elt [⟨tg, iter, ifs, 0⟩] sc pos) (tLC xs.length wi g tc te) := by
  intro pins s σ H Q I h
  rw [eval_ListComp]
  refine wpAny_comprehension_free (use := none) rfl hs (closure_eq (S.cells I.ok)) S.kind S.names (thn (hi pins s σ H _ I h) fun v s1 h1 => thn h1 fun itv s2 h2 => ?_)
  obtain ⟨it, fp, tn, J, H2, e, I2, T, st2, f2, W, w0, turn⟩ := h2
  subst e
  refine comp_core (RR := fun acc C => compPost (model X.prog X.w) X.A X.xe none (EP X pins σ Q) acc C) S hc hg ht he I2 T st2 f2 W w0 _ turn fun D C s' acc H' hns fC hF hD IF => ?_
  obtain ⟨m, hm⟩ := hns
  exact ⟨m, hm, fun h' hs' => ⟨.ref D, _, fC.turn IF hs', rfl, hF D hD⟩⟩
/-- x = [..], the name stored ahead of the block's own names let go -/
theorem ps_comp {i : Nat} {y : Str} {pos' spos : Pos} (S : CScope X xs sc) (hc : X.calm = true) (hN : X.N.Nodup) (hy : X.N[i]? = some y) (hk : X.env.scope.names.lookup y = some .local)
    (hi : PI X tg iter wi) (hg : ∀ ex s3 H3, PG (cxC X xs sc ex s3 H3) tg g) (ht : ∀ ex s3 H3, PTs (cxC X xs sc ex s3 H3) ifs tc) (he : ∀ ex s3 H3, PE (cxC X xs sc ex s3 H3) elt te)
    (hsw : swapsWith (.ListComp elt [⟨tg, iter, ifs, 0⟩] sc pos) (some (.Name y pos')) spos.line X.env = pure true := by rfl)
    (hs : ∀ x, foldedSetIterable iter X.env x = pure x := by intro _; rfl) : PS X (.Assign [.Name y pos'] (.ListComp elt [⟨tg, iter, ifs, 0⟩] sc pos) spos) (tAsg (tLC xs.length wi g tc te) (gName i)) := by
  intro pins s σ H D I h
  rw [exec_Assign_Name_used _ _ _ _ hsw]
  refine wpAny_bind (wpAny_standAt (wpAny_bind ?_))
  show wpAny _ X.A (do let _ ← comprehension (.ListComp elt [⟨tg, iter, ifs, 0⟩] sc pos) sc X.env _ (newList []) false (eval iter X.env) (some (assign (.Name y pos') X.env))) _ _ s
  refine wpAny_bind (wpAny_mono (wpAny_comprehension_free (use := some (assign (.Name y pos') X.env)) (Q := fun _ s' => SP X pins D .next s') rfl hs (closure_eq (S.cells I.ok)) S.kind S.names
    (thn (hi pins s σ H _ I h) fun v s1 h1 => thn h1 fun itv s2 h2 => ?_)) (fun _ s' hq => wpAny_pure (wpAny_pure hq)) fun _ _ e => e)
  obtain ⟨it, fp, tn, J, H2, e, I2, T, st2, f2, W, w0, turn⟩ := h2
  subst e
  refine comp_core (RR := fun acc C => compPost (model X.prog X.w) X.A X.xe (some (assign (.Name y pos') X.env)) (fun _ s' => SP X pins D .next s') acc C) S hc hg ht he I2 T st2 f2 W w0 _ turn fun D' C s' acc H' hns fC hF hD IF => ?_
  obtain ⟨m, hm⟩ := hns
  refine wpAny_assign_Name (store_ok2 (v := .ref D') IF hN hy (.inl hk) rfl (fun s'' I'' hsb => ?_) (.inr hk))
  obtain ⟨a, hsb, ha⟩ := hsb
  have hne : C ≠ a := by
    rcases ha with z | z
    · rw [z]; exact fC.2.1
    · exact fun q => fC.2.2.2.2.1 y a z q.symm
  refine ⟨m, hm.sameBut hsb hne, fun h' hs' => ⟨_, _, fC.turn I'' hs', hF D' hD⟩⟩
end

/-! ### the forms one uses -/
theorem lc_list {K : PySem.W.Frag} {a : Addr} {xs : List V} {n : Nat} {g : TG} {tc : TT} {te : TE} {σ : St} {H : Hp} {F : List V → Hp → Prop} (Pv : Nat → List V → Hp → Prop) (hn : xs.length ≤ 1000000) (h0 : Pv 0 [] H)
    (hl : ∀ i acc H, i ≤ xs.length → Pv i acc H → SqL K H a xs ∧ acc.length ≤ i)
    (hs : ∀ i x acc H, xs[i]? = some x → Pv i acc H → g x (List.replicate n none ++ σ) H fun σ2 H2 => σ2.drop n = σ ∧ tc σ2 H2 fun c H3 => if c = true then te σ2 H3 fun y H4 => Pv (i + 1) (acc ++ [y]) H4 else Pv (i + 1) acc H3)
    (hd : ∀ acc H, Pv xs.length acc H → F acc H) : LCW n (Itl K a) g tc te σ H F := by
  have sz : (1000000 : Nat) < sizeLine := by rw [sizeLine_eq]; decide
  refine ⟨fun i m acc H => m = xs.length - i ∧ i ≤ xs.length ∧ Pv i acc H, ⟨xs.length, by simp, Nat.zero_le _, h0⟩, ?_⟩
  rintro i m acc H ⟨rfl, hi, p⟩
  have q := hl i acc H hi p
  by_cases hlt : i < xs.length
  · refine .inr ⟨⟨xs, xs[i], q.1, by simp [hlt]⟩, by omega, Pv (i + 1), fun acc' H' p' => ⟨xs.length - (i + 1), by omega, rfl, hlt, p'⟩, fun x H' y => ?_⟩
    obtain ⟨e, y⟩ := y
    subst e
    exact hs i x acc _ (y xs q.1) p
  · have e : i = xs.length := by omega
    subst e
    exact .inl ⟨⟨xs, q.1, Nat.le_refl _⟩, by omega, hd acc H p⟩
theorem lc_range {lo : Int} {k : Nat} {n : Nat} {g : TG} {tc : TT} {te : TE} {σ : St} {H : Hp} {F : List V → Hp → Prop} (Pv : Nat → List V → Hp → Prop) (hn : k ≤ 1000000) (h0 : Pv 0 [] H)
    (hl : ∀ i acc H, i ≤ k → Pv i acc H → acc.length ≤ i)
    (hs : ∀ i acc H, i < k → Pv i acc H → g (.int (lo + i)) (List.replicate n none ++ σ) H fun σ2 H2 => σ2.drop n = σ ∧ tc σ2 H2 fun c H3 => if c = true then te σ2 H3 fun y H4 => Pv (i + 1) (acc ++ [y]) H4 else Pv (i + 1) acc H3)
    (hd : ∀ acc H, Pv k acc H → F acc H) : LCW n (Itr lo k) g tc te σ H F := by
  have sz : (1000000 : Nat) < sizeLine := by rw [sizeLine_eq]; decide
  refine ⟨fun i m acc H => m = k - i ∧ i ≤ k ∧ Pv i acc H, ⟨k, by simp, Nat.zero_le _, h0⟩, ?_⟩
  rintro i m acc H ⟨rfl, hi, p⟩
  have q := hl i acc H hi p
  by_cases hlt : i < k
  · refine .inr ⟨hlt, by omega, Pv (i + 1), fun acc' H' p' => ⟨k - (i + 1), by omega, rfl, hlt, p'⟩, fun x H' y => ?_⟩
    obtain ⟨e, y⟩ := y
    subst e y
    exact hs i acc _ hlt p
  · have e : i = k := by omega
    subst e
    exact .inl ⟨Nat.le_refl _, by omega, hd acc H p⟩
end L2

namespace L2
open PySem PySem.Spec PyProof.Rows

section
variable {prog : Program} {w : World} {A : Around} {E : Value → Shared → Prop} {s : Shared}
theorem draw_list {it t : Addr} {items : Array Value} (hne : t ≠ it) : ∀ (n i : Nat) (s : Shared) (Q : List Value → Shared → Prop), s.heap.IsListIter it t i → s.heap.IsList t items → i + n ≤ items.size →
    (∀ h', h'.IsListIter it t (i + n) → Heap.SameBut it s.heap h' → Q ((items.toList.drop i).take n) { s with heap := h' }) → wpAny (model prog w) A (draw (.ref it) n) Q E s
  | 0, i, s, Q, hit, _, _, hQ => by
    show wpAny _ _ (pure []) Q E s
    exact wpAny_pure (by simpa using hQ s.heap hit (Heap.SameBut.refl ..))
  | n + 1, i, s, Q, hit, ht, hle, hQ => by
    have hlt : i < items.size := by omega
    show wpAny _ _ (pyNext (.ref it) >>= _) Q E s
    refine wpAny_bind (wpAny_pyNext_list_item hit ht (x := items[i]) (by simp [hlt]) fun h₁ hit₁ hs₁ => ?_)
    refine wpAny_bind (wpAny_holding (draw_list hne n (i + 1) _ _ hit₁ (ht.extBut hs₁.extBut hne) (by omega) fun h₂ hit₂ hs₂ => wpAny_pure ?_))
    have hd : items.toList.drop i = items[i] :: items.toList.drop (i + 1) := by simp [List.drop_eq_getElem_cons, hlt]
    have := hQ h₂ (by rw [show i + (n + 1) = i + 1 + n by omega]; exact hit₂) (hs₁.trans hs₂)
    rw [hd, List.take_succ_cons] at this
    exact this
theorem unpackItems_list {t : Addr} {items : Array Value} {Q : List Value → Shared → Prop} (hh : A.handled = none) (ht : s.heap.IsList t items)
    (hQ : ∀ h', Heap.ExtBut s.heap.objs.size s.heap h' → Q items.toList { s with heap := h' }) : wpAny (model prog w) A (unpackItems (.ref t) items.size none) Q E s := by
  have hlt : t ≠ s.heap.objs.size := by obtain ⟨o, ho, _⟩ := ht; exact Nat.ne_of_lt (Heap.lt_size ho)
  unfold unpackItems
  refine wpAny_bind ?_
  · unfold notIterableAtAll
    refine wpAny_bind (wpAny_specialOf ht.typeIs slot_list_iter.lookup ?_)
    refine wpAny_pure ?_
    simp only [Bool.false_eq_true, if_false]
    refine wpAny_bind (wpAny_holding (wpAny_pyIter_list ht ?_))
    refine wpAny_bind (wpAny_holding (draw_list hlt items.size 0 _ _ ⟨_, Heap.get?_push_size _ rfl, rfl, rfl⟩ (ht.push _) (by omega) fun h₁ hit₁ hs₁ => ?_))
    have hall : List.take items.size (List.drop 0 items.toList) = items.toList := by
      rw [List.drop_zero]; exact List.take_of_length_le (by simp)
    rw [hall]
    rw [if_neg (by simp)]
    have ht₁ : h₁.IsList t items := (ht.push _).extBut hs₁.extBut hlt
    refine wpAny_bind (wpAny_holding (wpAny_pyNext_list_end hh hit₁ ht₁ (by simp) fun h₂ he₂ => ?_))
    simp only [Option.isSome_none, Bool.false_eq_true, if_false]
    refine wpAny_pure (hQ h₂ fun b o hb e => he₂ b o hb (hs₁.extBut b o hb (Heap.get?_push_of_some _ e)))
theorem assign_Tuple_list {env : Env} {elts : List Expr} {x1} {pos : Pos} {t : Addr} {items : Array Value} {Q : Unit → Shared → Prop} (hh : A.handled = none) (ht : s.heap.IsList t items)
    (hn : (assignEach elts env).length = items.size) (hstar : (assignEach elts env).findIdx? (·.1) = none)
    (h : ∀ h', Heap.ExtBut s.heap.objs.size s.heap h' → wpAny (model prog w) A (assignInOrder ((assignEach elts env).map (·.2)) items.toList) Q E { s with heap := h' }) :
    wpAny (model prog w) A (assign (.Tuple elts x1 pos) env (.ref t)) Q E s := by
  rw [assign_Tuple]
  refine wpAny_bind (wpAny_standAt ?_)
  unfold unpack
  rw [hn, hstar]
  exact wpAny_bind (wpAny_holding (unpackItems_list hh ht h))
end

section
variable {X : Cx} {pos : Pos}
/-- (a, b, ..) = a list of that length -/
noncomputable def gLst (K : PySem.W.Frag) (n : Nat) (t : TGs) : TG := fun v σ H Q => ∃ a xs, v = .ref a ∧ SqL K H a xs ∧ xs.length = n ∧ t xs σ H Q
theorem pg_lst {es : List Expr} {k : Nat} {t : TGs} {n : Nat} (hc : X.calm = true) (h : PGs X es t)
    (hn : (assignEach es X.env).length = n := by rfl) (hst : (assignEach es X.env).findIdx? (·.1) = none := by rfl) : PG X (.Tuple es k pos) (gLst X.K n t) := by
  intro pins s σ H v u Q I r hw
  obtain ⟨a, xs, e1, hq, hl, hw⟩ := hw
  subst e1
  cases r
  obtain ⟨its, rv, ht, hz⟩ := I.list hq
  refine assign_Tuple_list (I.ok.hd hc) ht.isList (by simp [hn, ← hl, rv.length]) hst fun h' hx => ?_
  have I1 : Inv X pins σ H { s with heap := h' } := I.kept (t' := s.toks) fun b o e => hx b o (Nat.ne_of_lt (Heap.lt_size e)) e
  exact h pins _ σ H xs _ Q I1 (by simpa using rv) hw
/-- n.bit_length() -/
theorem mt_bitlen : MtR X "int.bit_length" (fun x xs H Q => ∃ i, x = .int i ∧ xs = [] ∧ Q (.int ((Builtin.Int.intBits i : Nat) : Int)) H) := by
  intro pins s σ H x xs v us Q I rx rs h
  obtain ⟨i, rfl, rfl, q⟩ := h
  obtain ⟨t, rfl⟩ := rx
  cases rs
  exact call_int_bit_length ⟨.int _, H, I.tok _, ⟨_, rfl⟩, q⟩
/-- two lists of ints compared -/
noncomputable def rEqL (K : PySem.W.Frag) (neg : Bool) : R2 := fun x y H Q => ∃ (a b : Addr) (ns ms : List Int), x = .ref a ∧ y = .ref b ∧ SqL K H a (ns.map V.int) ∧ SqL K H b (ms.map V.int) ∧ Q (.bl (if neg then !decide (ns = ms) else decide (ns = ms))) H
theorem op_eqL (hu : X.A.units + 64 < cLine) : OpR X (compareOp .Eq) (rEqL X.K false) := by
  intro pins s σ H x y v u Q I rx ry h
  obtain ⟨a, b, ns, ms, rfl, rfl, h1, h2, q⟩ := h
  cases rx; cases ry
  obtain ⟨its, rv, pl, _⟩ := I.list h1
  obtain ⟨its', rv', pl', _⟩ := I.list h2
  exact PySem.W.eq_intsK pl.isList (intsAre_of rv) pl'.isList (intsAre_of rv') hu ⟨.bl _, H, I, rfl, q⟩
theorem op_neL (hu : X.A.units + 64 < cLine) : OpR X (compareOp .NotEq) (rEqL X.K true) := by
  intro pins s σ H x y v u Q I rx ry h
  obtain ⟨a, b, ns, ms, rfl, rfl, h1, h2, q⟩ := h
  cases rx; cases ry
  obtain ⟨its, rv, pl, _⟩ := I.list h1
  obtain ⟨its', rv', pl', _⟩ := I.list h2
  exact PySem.W.ne_intsK pl.isList (intsAre_of rv) pl'.isList (intsAre_of rv') hu ⟨.bl _, H, I, rfl, q⟩
end
end L2

namespace L2
open PySem PySem.Spec PyProof.Rows

/-! ### small words -/
/-- all but what stands at st is as it was -/
noncomputable def But (st : Addr) (H H' : Hp) : Prop := ∀ b o, H b = some o → b ≠ st → H' b = some o
theorem But.refl (st : Addr) (H : Hp) : But st H H := fun _ _ h _ => h
theorem But.trans {st : Addr} {H H1 H2 : Hp} (a : But st H H1) (b : But st H1 H2) : But st H H2 := fun c o h n => b c o (a c o h n) n
theorem But.put (st : Addr) (H : Hp) (o : HO) : But st H (upd H st o) := fun b u e n => by rw [upd_ne n]; exact e
theorem Same.but {st : Addr} {H H' : Hp} (e : Same H H') : But st H H' := fun b o h _ => e b o h
theorem Same.new {H : Hp} {p : Addr} {o : HO} (h : H p = none) : Same H (upd H p o) := fun b u e => by rw [upd_ne (ne_of_none e h)]; exact e
theorem But.new {st : Addr} {H : Hp} {p : Addr} {o : HO} (h : H p = none) : But st H (upd H p o) := (Same.new h).but

theorem nat_of {x : Int} {n : Nat} (h0 : 0 ≤ x) (h1 : x < (n : Int)) : ∃ r : Nat, x = (r : Int) ∧ r < n := ⟨x.toNat, by omega, by omega⟩
theorem shl1 (m : Nat) : (1 : Int) * 2 ^ (m : Int).toNat = ((2 ^ m : Nat) : Int) := by simp
theorem cpow1 {m : Nat} (h : m ≤ 1000) : CPow 1 (m : Int) := ⟨by omega, by omega, by decide⟩
theorem and_lt {a b n : Nat} (h : a < n) : a &&& b < n := Nat.lt_of_le_of_lt Nat.and_le_left h
/-! ### sets as naturals -/
theorem bitAnd_nat (a b : Nat) : Builtin.bitAnd (a : Int) (b : Int) = ((a &&& b : Nat) : Int) := by
  simp [Builtin.bitAnd]
theorem bitNot_not (x : Int) : Builtin.bitNot (Builtin.bitNot x) = x := by unfold Builtin.bitNot; omega
theorem bitOr_nat (a b : Nat) : Builtin.bitOr (a : Int) (b : Int) = ((a ||| b : Nat) : Int) := by
  have ha : ¬ 0 ≤ Builtin.bitNot (a : Int) := by unfold Builtin.bitNot; omega
  have hb : ¬ 0 ≤ Builtin.bitNot (b : Int) := by unfold Builtin.bitNot; omega
  unfold Builtin.bitOr
  simp only [Builtin.bitAnd, ha, hb, decide_false, bitNot_not, Int.toNat_natCast]
theorem two_pow_int (k : Nat) : ((2 : Int) ^ k) = ((2 ^ k : Nat) : Int) := by simp
end L2

namespace L2
open PySem PySem.Spec PyProof.Rows
/-- what is asked of a comprehension's scope, reckoned -/
noncomputable def cscB (N xs : List Str) (osc sc : Scope) : Bool :=
  decide (sc.kind = .function) && sc.names.all (fun y => decide (y.2 ≠ .cell)) && sc.names.all (fun y => decide (y.2 ≠ .local) || decide (sc.names.lookup y.1 = some .local)) && xs.all (fun x => decide (sc.names.lookup x = some .local)) &&
    N.all (fun y => decide (sc.names.lookup y ≠ some .local)) && sc.names.all (fun y => decide (y.2 ≠ .free) || (decide (osc.names.lookup y.1 = some .cell) || decide (osc.names.lookup y.1 = some .free))) && decide ((xs ++ N).Nodup)
theorem cs {X : Cx} {xs : List Str} {sc : Scope} (N : List Str) (osc : Scope) (hN : X.N = N) (ho : X.env.scope = osc) (h : cscB N xs osc sc = true) : CScope X xs sc := by
  unfold cscB at h
  simp only [Bool.and_eq_true, List.all_eq_true, decide_eq_true_eq, Bool.or_eq_true] at h
  obtain ⟨⟨⟨⟨⟨⟨h1, h2⟩, h3⟩, h4⟩, h5⟩, h6⟩, h7⟩ := h
  refine ⟨h1, h2, fun y hy e => ?_, h4, by rw [hN]; exact h5, fun y hy e => ?_, by rw [hN]; exact h7⟩
  · rcases h3 y hy with z | z
    · exact absurd e z
    · exact z
  · rcases h6 y hy with z | z
    · exact absurd e z
    · show X.env.scope.names.lookup y.1 = _ ∨ X.env.scope.names.lookup y.1 = _
      rw [ho]; exact z
end L2

namespace L2
open PySem PySem.Spec PyProof.Rows
theorem mod_lo (x : Int) {m : Int} (h : 0 < m) : 0 ≤ x % m := Int.emod_nonneg _ (by omega)
theorem mod_hi (x : Int) {m : Int} (h : 0 < m) : x % m < m := Int.emod_lt_of_pos _ h
/-! ### columns of a set, as naturals -/
noncomputable def vN (k : Nat) : V := V.int (k : Int)
noncomputable def hasB (a k : Nat) : Bool := decide (a / 2 ^ k % 2 = 1)
noncomputable def bitsN (a : Nat) : Nat := Builtin.Int.intBits (a : Int)
noncomputable def colsN (a : Nat) : List Nat := (List.range (bitsN a)).filter (hasB a)
theorem map_int (l : List Nat) : (l.map fun (k : Nat) => (k : Int)).map V.int = l.map vN := by rw [List.map_map]; rfl
theorem bitsN_le {a : Nat} (h : a < 2 ^ 20) : bitsN a ≤ 20 := by
  unfold bitsN Builtin.Int.intBits
  split
  · omega
  · rename_i z
    have h0 : a ≠ 0 := by intro e; subst e; exact z rfl
    have : a.log2 < 20 := (Nat.log2_lt h0).mpr h
    show (a : Int).natAbs.log2 + 1 ≤ 20
    rw [Int.natAbs_natCast]
    omega
theorem dec_nat (a b : Nat) : decide (V.int (a : Int) = V.int (b : Int)) = decide (a = b) := by
  rw [dec_int, Bool.eq_iff_iff, beq_iff_eq, decide_eq_true_iff]
  exact Int.ofNat_inj
noncomputable def spHas : Sp := fun vs H Q _ => ∃ a k : Nat, vs = [vN a, vN k] ∧ Q (.bl (hasB a k)) H
noncomputable def spCols : Sp := fun vs H Q _ => ∃ a : Nat, vs = [vN a] ∧ a < 2 ^ 20 ∧ ∀ p, H p = none → Q (.ref p) (upd H p (.lst ((colsN a).map vN)))
noncomputable def spAllOf : Sp := fun vs H Q _ => ∃ m : Nat, vs = [vN m] ∧ m ≤ 1000 ∧ Q (vN (2 ^ m - 1)) H
theorem has_eq (a k : Nat) : decide (V.int (Builtin.bitAnd ((a : Int) / 2 ^ (k : Int).toNat) 1) = V.int 1) = hasB a k := by
  have e : ((a : Int) / 2 ^ (k : Int).toNat) = ((a / 2 ^ k : Nat) : Int) := by
    rw [Int.toNat_natCast, two_pow_int]; omega
  rw [e, show (1 : Int) = ((1 : Nat) : Int) from rfl, bitAnd_nat, dec_nat, Nat.and_one_is_mod]
  rfl
theorem filt_succ (p : Nat → Bool) (i : Nat) : (List.range (i + 1)).filter p = (List.range i).filter p ++ (if p i = true then [i] else []) := by
  rw [List.range_succ, List.filter_append]
  congr 1
  cases h : p i <;> simp [h]
end L2

namespace L2
open PySem PySem.Spec PyProof.Rows
/-! ### the rules that speak of the written part, with it told (in a comprehension's block it stands under a binder) -/
section
variable {X : Cx} {K : PySem.W.Frag}
theorem ix_listK (h : X.K = K) : IxR X (rIxL K) := h ▸ ix_list
theorem ix_tupK (h : X.K = K) : IxR X (rIxT K) := h ▸ ix_tup
theorem call_lenK (h : X.K = K) : CallR X (.builtin "len") (fun xs H Q => ∃ p ys, xs = [.ref p] ∧ (SqL K H p ys ∨ SqT K H p ys) ∧ Q (.int ys.length) H) := h ▸ call_len_seq
theorem call_listK (h : X.K = K) : CallR X (.type "list") (fun xs H Q => ∃ p ys, xs = [.ref p] ∧ (SqL K H p ys ∨ SqT K H p ys) ∧ ∀ l, H l = none → Q (.ref l) (upd H l (.lst ys))) := h ▸ call_list_of
theorem call_tupleK (h : X.K = K) : CallR X (.type "tuple") (fun xs H Q => ∃ p ys, xs = [.ref p] ∧ ((SqL K H p ys ∧ ∀ l, H l = none → Q (.ref l) (upd H l (.tup ys))) ∨ (SqT K H p ys ∧ Q (.ref p) H))) := h ▸ call_tuple_of
theorem op_eqLK (h : X.K = K) (hu : X.A.units + 64 < cLine) : OpR X (compareOp .Eq) (rEqL K false) := h ▸ op_eqL hu
theorem op_neLK (h : X.K = K) (hu : X.A.units + 64 < cLine) : OpR X (compareOp .NotEq) (rEqL K true) := h ▸ op_neL hu
theorem pi_listK {tg l : Expr} {tl : TE} (h : X.K = K) (hl : PE X l tl) : PI X tg l (iList K tl) := h ▸ pi_list hl
end
end L2

namespace L2
open PySem PySem.Spec PyProof.Rows
/-! ### arithmetic of naturals -/
noncomputable def rN (C : Nat → Nat → Prop) (g : Nat → Nat → V) : R2 := fun x y H Q => ∃ i j : Nat, x = vN i ∧ y = vN j ∧ C i j ∧ Q (g i j) H
noncomputable def rN0 (g : Nat → Nat → V) : R2 := fun x y H Q => ∃ i j : Nat, x = vN i ∧ y = vN j ∧ Q (g i j) H
section
variable {X : Cx}
theorem OpR.mono {f : Value → Value → Sem Value} {r r' : R2} (h : OpR X f r) (k : ∀ x y H Q, r' x y H Q → r x y H Q) : OpR X f r' := fun pins s σ H x y v u Q I rx ry q => h pins s σ H x y v u Q I rx ry (k x y H Q q)
theorem op_addN : OpR X (binaryOp .Add) (rN0 fun i j => vN (i + j)) := op_add.mono fun x y H Q ⟨i, j, h1, h2, q⟩ => ⟨i, j, h1, h2, by show Q (V.int ((i : Int) + j)) H; rw [← Int.natCast_add]; exact q⟩
theorem op_subN : OpR X (binaryOp .Sub) (rN (fun i j => j ≤ i) fun i j => vN (i - j)) := op_sub.mono fun x y H Q ⟨i, j, h1, h2, h, q⟩ => ⟨i, j, h1, h2, by show Q (V.int ((i : Int) - j)) H; rw [← Int.ofNat_sub h]; exact q⟩
theorem op_modN' : OpR X (binaryOp .Mod) (rN (fun _ j => 0 < j) fun i j => vN (i % j)) := op_mod.mono fun x y H Q ⟨i, j, h1, h2, h, q⟩ => ⟨i, j, h1, h2, by omega, by show Q (V.int ((i : Int) % j)) H; rw [← Int.natCast_emod]; exact q⟩
theorem op_fdivN' : OpR X (binaryOp .FloorDiv) (rN (fun _ j => 0 < j ∧ j < 1073741824) fun i j => vN (i / j)) := op_fdiv.mono fun x y H Q ⟨i, j, h1, h2, h, q⟩ => ⟨i, j, h1, h2, ⟨by omega, by omega⟩, by show Q (V.int ((i : Int) / j)) H; rw [← Int.natCast_ediv]; exact q⟩
theorem op_shlN : OpR X (binaryOp .LShift) (rN (fun i j => j ≤ 1000 ∧ i < 2 ^ 64) fun i j => vN (i * 2 ^ j)) := op_shl.mono fun x y H Q ⟨i, j, h1, h2, h, q⟩ => ⟨i, j, h1, h2, ⟨by omega, by omega, by rw [Int.natAbs_natCast]; exact h.2⟩, by
  show Q (V.int ((i : Int) * 2 ^ (j : Int).toNat)) H
  rw [Int.toNat_natCast, two_pow_int, ← Int.natCast_mul]; exact q⟩
/-- 1 << j -/
theorem op_shl1 : OpR X (binaryOp .LShift) (fun x y H Q => ∃ j : Nat, x = .int 1 ∧ y = vN j ∧ j ≤ 1000 ∧ Q (vN (2 ^ j)) H) := op_shlN.mono fun x y H Q ⟨j, h1, h2, h, q⟩ => ⟨1, j, h1, h2, ⟨h, by decide⟩, by show Q (vN (1 * 2 ^ j)) H; rw [Nat.one_mul]; exact q⟩
theorem op_andN : OpR X (binaryOp .BitAnd) (rN0 fun i j => vN (i &&& j)) := op_and.mono fun x y H Q ⟨i, j, h1, h2, q⟩ => ⟨i, j, h1, h2, by show Q (V.int (Builtin.bitAnd (i : Int) j)) H; rw [bitAnd_nat]; exact q⟩
theorem op_orN : OpR X (binaryOp .BitOr) (rN0 fun i j => vN (i ||| j)) := op_or.mono fun x y H Q ⟨i, j, h1, h2, q⟩ => ⟨i, j, h1, h2, by show Q (V.int (Builtin.bitOr (i : Int) j)) H; rw [bitOr_nat]; exact q⟩
theorem op_eqN : OpR X (compareOp .Eq) (rN0 fun i j => .bl (decide (i = j))) := op_eq.mono fun x y H Q ⟨i, j, h1, h2, q⟩ => by
  subst h1 h2
  refine ⟨rfl, ?_⟩
  show Q (V.bl (decide (V.int (i : Int) = V.int (j : Int)))) H
  rw [dec_nat]; exact q
theorem op_neN : OpR X (compareOp .NotEq) (rN0 fun i j => .bl (!decide (i = j))) := op_ne.mono fun x y H Q ⟨i, j, h1, h2, q⟩ => by
  subst h1 h2
  refine ⟨rfl, ?_⟩
  show Q (V.bl (!decide (V.int (i : Int) = V.int (j : Int)))) H
  rw [dec_nat]; exact q
theorem dlt (i j : Nat) : decide ((i : Int) < (j : Int)) = decide (i < j) := by rw [decide_eq_decide]; omega
theorem op_gtN : OpR X (compareOp .Gt) (rN0 fun i j => .bl (decide (j < i))) := op_gt.mono fun x y H Q ⟨i, j, h1, h2, q⟩ => ⟨i, j, h1, h2, by show Q (V.bl (decide ((j : Int) < i))) H; rw [dlt]; exact q⟩
end
/-- a range from nought, its numbers as naturals -/
theorem lc_rangeN {k : Nat} {n : Nat} {g : TG} {tc : TT} {te : TE} {σ : St} {H : Hp} {F : List V → Hp → Prop} (Pv : Nat → List V → Hp → Prop) (hn : k ≤ 1000000) (h0 : Pv 0 [] H)
    (hl : ∀ i acc H, i ≤ k → Pv i acc H → acc.length ≤ i)
    (hs : ∀ i acc H, i < k → Pv i acc H → g (vN i) (List.replicate n none ++ σ) H fun σ2 H2 => σ2.drop n = σ ∧ tc σ2 H2 fun c H3 => if c = true then te σ2 H3 fun y H4 => Pv (i + 1) (acc ++ [y]) H4 else Pv (i + 1) acc H3)
    (hd : ∀ acc H, Pv k acc H → F acc H) : LCW n (Itr 0 k) g tc te σ H F :=
  lc_range Pv hn h0 hl (fun i acc H hi p => by rw [Int.zero_add]; exact hs i acc H hi p) hd
theorem for_rangeN {n : Nat} {g : TG} {tb : TS} {D : Ends} {σ : St} {H : Hp} (Pv : Nat → St → Hp → Prop) (h0 : Pv 0 σ H)
    (hs : ∀ i σ H, i < n → Pv i σ H → g (vN i) σ H fun σ2 H2 => tb { D with nx := Pv (i + 1), ct := Pv (i + 1), bk := D.nx } σ2 H2) (hd : ∀ σ H, Pv n σ H → D.nx σ H) :
    ∃ W : Nat → Nat → St → Hp → Prop, (∃ m, W 0 m σ H) ∧ ∀ i m σ H, W i m σ H →
      ((Itr 0 n).stop i H ∧ D.nx σ H) ∨ ((Itr 0 n).go i H ∧ ∃ N : St → Hp → Prop, (∀ σ' H', N σ' H' → ∃ m', m' < m ∧ W (i + 1) m' σ' H') ∧ ∀ x H', (Itr 0 n).yld i H x H' → g x σ H' fun σ2 H2 => tb { D with nx := N, ct := N, bk := D.nx } σ2 H2) :=
  for_range (lo := 0) Pv h0 (fun i σ H hi p => by rw [Int.zero_add]; exact hs i σ H hi p) hd
end L2

namespace L2
open PySem PySem.Spec PyProof.Rows
/-! ### insert, index, sorted; a name let go -/
section
variable {X : Cx} {K : PySem.W.Frag}
theorem call_sortedK (h : X.K = K) : CallR X (.builtin "sorted") (fun xs H Q => ∃ (p : Addr) (ns : List Int), xs = [.ref p] ∧ SqL K H p (ns.map V.int) ∧ ns.length < 64 ∧ ∀ (l : Addr) (ns' : List Int), H l = none → ns'.Perm ns → ns'.Pairwise (· ≤ ·) → Q (.ref l) (upd H l (.lst (ns'.map V.int)))) := by
  subst h
  intro pins s σ H xs us Q I r h
  obtain ⟨p, ns, rfl, hq, h64, q⟩ := h
  obtain ⟨u, rfl, rx⟩ := vals1 r
  cases rx
  obtain ⟨its, rv, pl, hz⟩ := I.list hq
  refine sorted_ints pl.isList (intsAre_of rv) (by rw [← rv.length, List.length_map]; exact h64) fun out ns' a1 a2 a3 => ?_
  obtain ⟨e, he⟩ := sortedAll_at s.heap its out
  refine ⟨.ref (s.heap.objs.size + 1), _, I.laid (t' := s.toks) (fun b o => sortedAll_old) (Nat.le_succ _) (show ObjOk X.prog X.w _ _ _ (.lst (ns'.map V.int)) from ⟨?_, out.toList, e, vals_ints a1, by simpa using he⟩), rfl, q _ ns' (I.hok.fresh (Nat.le_succ _)) a2 a3⟩
  rw [List.length_map, a2.length_eq]
  exact Nat.le_of_lt (small1000 (by omega))
/-- a block whose own name is called like one that is let go around it -/
noncomputable abbrev Cx.withN (X : Cx) (N' : List Str) : Cx := { X with N := N' }
theorem Cx.Ok.withN {X : Cx} (ok : X.Ok) (N' : List Str) : (X.withN N').Ok :=
  ⟨ok.mod, ok.kind, ok.glob, ok.blt, ok.above, ok.inj, ok.has, ok.cab, ok.hd, ok.frames, ok.stk, ok.exf, ok.bs, ok.bsz, ok.noex, ok.exfs, ok.funs, ok.frf⟩
theorem Cx.Ok.ofN {X : Cx} {N' : List Str} (ok : (X.withN N').Ok) : X.Ok :=
  ⟨ok.mod, ok.kind, ok.glob, ok.blt, ok.above, ok.inj, ok.has, ok.cab, ok.hd, ok.frames, ok.stk, ok.exf, ok.bs, ok.bsz, ok.noex, ok.exfs, ok.funs, ok.frf⟩
theorem pe_hide {e : Expr} {t : TE} (j : Nat) (hv : ¬ Vis X.env.scope "") (h : PE (X.withN (X.N.set j "")) e t) : PE X e (fun σ H Q => (∀ v, σ[j]? ≠ some (some v)) ∧ t σ H Q) := by
  intro pins s σ H Q I ⟨hd, hw⟩
  have I' : Inv (X.withN (X.N.set j "")) pins σ H s := by
    refine ⟨I.ok.withN _, I.os, I.bare, I.base, ?_, I.cell, I.free, I.freeC, I.pin, I.hok, by rw [I.len]; simp⟩
    obtain ⟨m, h1, h2⟩ := I.loc
    refine ⟨m, h1, fun i x v e1 e2 e3 => ?_⟩
    by_cases hj : j = i
    · subst hj; exact absurd e2 (hd v)
    · exact h2 i x v (by rwa [show (X.withN (X.N.set j "")).N = X.N.set j "" from rfl, List.getElem?_set_ne hj] at e1) e2 e3
  refine thn (h pins s σ H Q I' hw) fun u s' ⟨v, H', J, r, q⟩ => ⟨v, H', ?_, r, q⟩
  refine ⟨J.ok.ofN, J.os, J.bare, J.base, ?_, J.cell, J.free, J.freeC, J.pin, J.hok, I.len⟩
  obtain ⟨m, h1, h2⟩ := J.loc
  refine ⟨m, h1, fun i x v e1 e2 e3 => ?_⟩
  by_cases hj : j = i
  · subst hj; exact absurd e2 (hd v)
  · exact h2 i x v (by rwa [show (X.withN (X.N.set j "")).N = X.N.set j "" from rfl, List.getElem?_set_ne hj]) e2 e3
end
/-! ### the law's script and its place, the script frozen: lists of one's own stand apart from it -/
noncomputable def SqF (K : PySem.W.Frag) (H : Hp) (a : Addr) (ns : List Int) : Prop := (∃ o, H a = some (.frz o (.lst (ns.map V.int)))) ∨
  ∃ (o : Obj) (its : Array Value) (n : Nat), K.lookup a = some o ∧ o.cls = .type "list" ∧ o.dict = none ∧ o.data = .seq its n ∧ its.size ≤ sizeLine ∧ Vals (ns.map V.int) its.toList
theorem SqF.sq {K : PySem.W.Frag} {H : Hp} {a : Addr} {ns : List Int} (h : SqF K H a ns) : SqL K H a (ns.map V.int) := by
  rcases h with ⟨o, h⟩ | h
  · exact .inl (.inr ⟨o, h⟩)
  · exact .inr h
theorem SqF.of {K : PySem.W.Frag} {H : Hp} {a : Addr} {ns : List Int} (hO : Only H) (h : SqL K H a (ns.map V.int)) : SqF K H a ns := by
  rcases h with (h | ⟨o, h⟩) | h
  · rcases hO a with z | ⟨o, xs, z⟩
    · rw [h] at z; cases z
    · rw [h] at z; cases z
  · exact .inl ⟨o, h⟩
  · exact .inr h
theorem SqF.imp {K : PySem.W.Frag} {H H' : Hp} {a : Addr} {ns : List Int} (h : SqF K H a ns) (e : ∀ o, H a = some (.frz o (.lst (ns.map V.int))) → H' a = some (.frz o (.lst (ns.map V.int)))) : SqF K H' a ns := by
  rcases h with ⟨o, h⟩ | h
  · exact .inl ⟨o, e o h⟩
  · exact .inr h
noncomputable def STF (K : PySem.W.Frag) (H : Hp) (st : Addr) (ns : List Int) (k : Nat) : Prop := ∃ sc, H st = some (.lst [.ref sc, .int (k : Int)]) ∧ SqF K H sc ns
theorem STF.seq {K : PySem.W.Frag} {H H' : Hp} {st sc : Addr} {ns : List Int} {v : V} (h : H st = some (.lst [.ref sc, v])) (hs : SqF K H sc ns) (b : But st H H') : SqF K H' sc ns :=
  hs.imp fun o z => b _ _ z fun e => by
    subst e
    rw [h] at z
    cases z
theorem STF.same {K : PySem.W.Frag} {H H' : Hp} {st : Addr} {ns : List Int} {k : Nat} (h : STF K H st ns k) (e : Same H H') : STF K H' st ns k := by
  obtain ⟨sc, h1, h2⟩ := h
  exact ⟨sc, e _ _ h1, h2.imp fun o z => e _ _ z⟩
theorem STF.new {K : PySem.W.Frag} {H : Hp} {st p : Addr} {ns : List Int} {k : Nat} {o : HO} (h : STF K H st ns k) (hp : H p = none) : STF K (upd H p o) st ns k := h.same (Same.new hp)
theorem STF.start {K : PySem.W.Frag} {H : Hp} {a p : Addr} {ns : List Int} (h : SqF K H a ns) (hp : H p = none) : STF K (upd H p (.lst [.ref a, .int 0])) p ns 0 :=
  ⟨a, upd_same, h.imp fun o z => (Same.new hp) _ _ z⟩
/-- a list of one's own is written -/
theorem STF.put {K : PySem.W.Frag} {H : Hp} {st p : Addr} {ns : List Int} {k : Nat} {xs ys : List V} (h : STF K H st ns k) (hp : H p = some (.lst xs)) (hn : p ≠ st) : STF K (upd H p (.lst ys)) st ns k := by
  obtain ⟨sc, h1, h2⟩ := h
  refine ⟨sc, by rw [upd_ne (Ne.symm hn)]; exact h1, h2.imp fun o z => ?_⟩
  rw [upd_ne]
  · exact z
  · intro e
    subst e
    rw [hp] at z
    cases z
theorem STF.some {K : PySem.W.Frag} {H : Hp} {st : Addr} {ns : List Int} {k : Nat} (h : STF K H st ns k) : ∃ o, H st = some o := by
  obtain ⟨sc, h1, _⟩ := h
  exact ⟨_, h1⟩
theorem But.own {st p : Addr} {H H' : Hp} {o : HO} (b : But st H H') (hp : H p = none) : But st H (upd H' p o) := fun c u e n => by
  rw [upd_ne (ne_of_none e hp)]
  exact b c u e n
noncomputable def spTakeF (K : PySem.W.Frag) : Sp := fun vs H Q _ => ∃ (st : Addr) (ns : List Int) (k : Nat) (most : Int), vs = [.ref st, .int most] ∧ STF K H st ns k ∧ k ≤ 1000000 ∧ ns.length ≤ 63 ∧ 0 < most ∧
  ∀ (r : Int) (H' : Hp), 0 ≤ r → r < most → STF K H' st ns (k + 1) → But st H H' → Q (.int r) H'
noncomputable def spSetF (K : PySem.W.Frag) : Sp := fun vs H Q _ => ∃ (st : Addr) (ns : List Int) (k m : Nat), vs = [.ref st, .int (m : Int)] ∧ STF K H st ns k ∧ k ≤ 900000 ∧ ns.length ≤ 63 ∧ 1 ≤ m ∧ m ≤ 7 ∧
  ∀ (r k' : Nat) (H' : Hp), r < 2 ^ m → k' ≤ k + 3 → STF K H' st ns k' → But st H H' → Q (.int (r : Int)) H'
end L2

namespace L2
open PySem PySem.Spec PyProof.Rows
/-! ### ints compared, truths compared, tuples compared, all -/
section
variable {X : Cx} {K : PySem.W.Frag}
theorem dInt (i j : Int) : decide (V.int i = V.int j) = decide (i = j) := by
  rw [dec_int, Bool.eq_iff_iff, beq_iff_eq, decide_eq_true_iff]
theorem op_eqI : OpR X (compareOp .Eq) (rI0 fun i j => .bl (decide (i = j))) := op_eq.mono fun x y H Q ⟨i, j, h1, h2, q⟩ => by
  subst h1 h2
  exact ⟨rfl, by rw [dInt]; exact q⟩
theorem op_neI : OpR X (compareOp .NotEq) (rI0 fun i j => .bl (!decide (i = j))) := op_ne.mono fun x y H Q ⟨i, j, h1, h2, q⟩ => by
  subst h1 h2
  exact ⟨rfl, by rw [dInt]; exact q⟩
theorem all_eq (ns ms : List Int) : ((List.range (min ns.length ms.length)).all (fun j => decide (ns.getD j 0 = ms.getD j 0)) && ns.length == ms.length) = decide (ns = ms) := by
  rw [Bool.eq_iff_iff, Bool.and_eq_true, List.all_eq_true, beq_iff_eq, decide_eq_true_iff]
  constructor
  · rintro ⟨h, hl⟩
    refine List.ext_getElem hl fun j h1 h2 => ?_
    have := of_decide_eq_true (h j (List.mem_range.mpr (by omega)))
    rw [List.getD_eq_getElem?_getD, List.getElem?_eq_getElem h1, List.getD_eq_getElem?_getD, List.getElem?_eq_getElem h2] at this
    exact this
  · rintro rfl
    exact ⟨fun j _ => decide_eq_true rfl, rfl⟩
/-- all of a list of truths -/
theorem all_range (bs : List Bool) : ((List.range bs.length).all fun i => bs.getD i true) = bs.all id := by
  rw [Bool.eq_iff_iff, List.all_eq_true, List.all_eq_true]
  constructor
  · intro h b hb
    obtain ⟨i, hi, rfl⟩ := List.getElem_of_mem hb
    have := h i (List.mem_range.mpr hi)
    rwa [List.getD_eq_getElem?_getD, List.getElem?_eq_getElem hi] at this
  · intro h i hi
    have hi' := List.mem_range.mp hi
    rw [List.getD_eq_getElem?_getD, List.getElem?_eq_getElem hi']
    exact h _ (List.getElem_mem hi')
theorem call_allK (h : X.K = K) (hc : X.calm = true) : CallR X (.builtin "all") (fun xs H Q => ∃ (p : Addr) (bs : List Bool), xs = [.ref p] ∧ SqL K H p (bs.map V.bl) ∧ Q (.bl (bs.all id)) H) := by
  subst h
  intro pins s σ H xs us Q I r h
  obtain ⟨p, bs, rfl, hq, q⟩ := h
  obtain ⟨u, rfl, rx⟩ := vals1 r
  cases rx
  obtain ⟨its, rv, pl, hz⟩ := I.list hq
  have len : its.length = bs.length := by rw [← rv.length, List.length_map]
  refine call_all_walk (wpAny_pyIter_list pl.isList ⟨s.heap.objs.size, [s.heap.objs.size, p], [s.heap.objs.size], its.toArray.size, _, _, fun i => bs.getD i true, rfl, Walks.list (A := X.A.in1) (I.ok.hd hc) _ p (Nat.ne_of_lt pl.lt) its.toArray, ⟨⟨_, Heap.get?_push_size _ rfl, rfl, rfl⟩, pl.isList.push _⟩, fun i v s' Q' E' hP hQ => ?_, fun h' tk hk => ?_⟩)
  · have hP' : its[i]? = some v := by simpa using hP
    have hi : i < bs.length := by rw [← len]; exact (List.getElem?_eq_some_iff.mp hP').1
    obtain ⟨c, e1, r1⟩ := rv.get (i := i) (x := V.bl bs[i]) (by rw [List.getElem?_map, List.getElem?_eq_getElem hi]; rfl)
    rw [hP'] at e1
    obtain rfl := Option.some.inj e1
    obtain rfl : v = Value.bool bs[i] := r1
    refine wpAny_truthy_bool ?_
    have hQ' : Q' (bs.getD i true) s' := hQ
    rwa [List.getD_eq_getElem?_getD, List.getElem?_eq_getElem hi] at hQ'
  · refine ⟨.bl (bs.all id), H, I.kept fun b o e => hk b o (fun hm => ?_) (Heap.get?_push_of_some _ e), ?_, q⟩
    · rw [List.mem_singleton.mp hm] at e
      exact Nat.lt_irrefl _ (Heap.lt_size e)
    · show _ = Value.bool _
      rw [List.size_toArray, len, all_range]
end
end L2

namespace L2
open PySem PySem.Spec PyProof.Rows
/-! ### two tuples walked side by side -/
section
variable {prog : Program} {w : World} {A : Around} {E : Value → Shared → Prop} {s : Shared}
end
/-! ### .. as the layer walks it -/
section
variable {X : Cx} {pins : List (Addr × Obj)} {σ : St} {H : Hp} {s : Shared}
theorem Inv.turnedL {t' : Nat} {h' : Heap} {ch : List Addr} (I : Inv X pins σ H s) (k : ∀ b o, b ∉ ch → s.heap.get? b = some o → h'.get? b = some o) (hf : ∀ b ∈ ch, FpOk X pins H b) : Inv X pins σ H { s with heap := h', toks := t' } := by
  have nit : ∀ b u, H b = some u → b ∉ ch := fun b u e z => by rw [(hf b z).1] at e; cases e
  refine I.step (g' := s.gens) (d' := s.drawn) (ch := ch) (fun b hb => ?_) (fun b o _ _ hc e _ => k b o hc e) (fun b o _ _ hc e _ => ⟨o.slots, k b o hc e⟩) (fun _ _ _ _ n => n) (fun b o hc e => ⟨o, k b o hc e⟩) (fun _ _ e => e) (fun _ _ _ e => e) (fun b ps e => ⟨#[], by rw [e]; simp⟩) (fun m hm => ?_) (fun b u e => ?_) I.bare
  · obtain ⟨f0, f1, f2, f3, f4, f5⟩ := hf b hb
    exact ⟨f3, f1, f4, f5⟩
  · obtain ⟨o, es, ep, ho, r⟩ := hm
    exact ⟨o, es, ep, k _ o (fun z => (hf _ z).2.1 rfl) ho, r⟩
  · refine (I.hok b u e).stay (fun c v hc q => k c v ?_ q) (fun _ q => q) fun _ _ q => q
    rcases hc with z | z
    · rw [z]; exact nit b u e
    · exact nit c _ z
end
end L2

namespace L2
open PySem PySem.Spec PyProof.Rows
/-! ### rows of a book in the heap -/
theorem stf_fresh {K : PySem.W.Frag} {H H1 : Hp} {st p : Addr} {ns : List Int} {k : Nat} (S : STF K H1 st ns k) (B : But st H H1) (hp : H1 p = none) : H p = none ∧ p ≠ st := by
  have hn : p ≠ st := fun e => by
    obtain ⟨o, z⟩ := S.some
    rw [← e, hp] at z; cases z
  refine ⟨?_, hn⟩
  cases e : H p with
  | none => rfl
  | some o => rw [B p o e hn] at hp; cases hp
theorem stf_tup {K : PySem.W.Frag} {H H1 : Hp} {st t : Addr} {ns : List Int} {k : Nat} {xs : List V} (S : STF K H st ns k) (B : But st H H1) (h : H t = some (.tup xs)) : H1 t = some (.tup xs) :=
  B _ _ h fun e => by
    obtain ⟨sc, h1, _⟩ := S
    rw [← e, h] at h1; cases h1
/-- a list is written: tuples stay -/
theorem tup_put {H : Hp} {p : Addr} {xs ys : List V} (hp : H p = some (.lst xs)) : ∀ t zs, H t = some (.tup zs) → (upd H p (.lst ys)) t = some (.tup zs) := fun t zs e => by
  rw [upd_ne]
  · exact e
  · intro z
    rw [z, hp] at e; cases e
/-! ### what the program says of rows -/
noncomputable def mixL (r1 r2 : List Int) (s : Nat) : List Int := (List.range r1.length).map fun k => if hasB s k = true then r1.getD k 0 else r2.getD k 0
noncomputable def alikeL (r1 r2 : List Int) (s : Nat) : Bool := ((colsN s).map fun c => decide (r1.getD c 0 = r2.getD c 0)).all id
noncomputable def offL (r1 r2 : List Int) (s : Nat) : List Nat := (List.range r1.length).filter fun k => hasB s k && !decide (r1.getD k 0 = r2.getD k 0)
noncomputable def agreeL (r1 r2 : List Int) (s : Nat) : Bool := decide (offL r1 r2 s = [])
theorem getD_int {r : List Int} {k : Nat} (h : k < r.length) : (r.map V.int)[k]? = some (V.int (r.getD k 0)) := by
  rw [List.getElem?_map, List.getElem?_eq_getElem h, List.getD_eq_getElem?_getD, List.getElem?_eq_getElem h]; rfl
noncomputable def spHas2 : Sp := fun vs H Q _ => ∃ a k : Nat, vs = [vN a, vN k] ∧ k ≤ 20 ∧ Q (.bl (hasB a k)) H
noncomputable def spAlike (K : PySem.W.Frag) : Sp := fun vs H Q _ => ∃ (a b : Addr) (r1 r2 : List Int) (s : Nat), vs = [.ref a, .ref b, vN s] ∧ SqT K H a (r1.map V.int) ∧ SqT K H b (r2.map V.int) ∧ s < 2 ^ 20 ∧ (∀ c ∈ colsN s, c < r1.length ∧ c < r2.length) ∧ ∀ H', Same H H' → Q (.bl (alikeL r1 r2 s)) H'
noncomputable def spMixed (K : PySem.W.Frag) : Sp := fun vs H Q _ => ∃ (a b : Addr) (r1 r2 : List Int) (s : Nat), vs = [.ref a, .ref b, vN s] ∧ SqT K H a (r1.map V.int) ∧ SqT K H b (r2.map V.int) ∧ r1.length = r2.length ∧ r1.length ≤ 20 ∧
  ∀ p H', Same H H' → H p = none → H' p = some (.tup ((mixL r1 r2 s).map V.int)) → Q (.ref p) H'
noncomputable def spAgree (K : PySem.W.Frag) : Sp := fun vs H Q _ => ∃ (a b : Addr) (r1 r2 : List Int) (s : Nat), vs = [.ref a, .ref b, vN s] ∧ SqT K H a (r1.map V.int) ∧ SqT K H b (r2.map V.int) ∧ r1.length = r2.length ∧ r1.length ≤ 20 ∧
  ∀ H', Same H H' → Q (.bl (agreeL r1 r2 s)) H'
theorem Same.tupS {K : PySem.W.Frag} {H H' : Hp} {a : Addr} {xs : List V} (e : Same H H') (h : SqT K H a xs) : SqT K H' a xs := by
  rcases h with (h | ⟨o, h⟩) | h
  · exact .inl (.inl (e _ _ h))
  · exact .inl (.inr ⟨o, e _ _ h⟩)
  · exact .inr h
end L2

namespace L2
open PySem PySem.Spec PyProof.Rows

/-! ### lists of pairs as tables -/
section
variable {κ : Type} [DecidableEq κ]
noncomputable def valV (kvs : List (κ × V)) (k : κ) : Option V := (kvs.find? fun kv => decide (kv.1 = k)).map (·.2)
/-- in its place, or at the end -/
noncomputable def putK (kvs : List (κ × V)) (k : κ) (v : V) : List (κ × V) :=
  if (kvs.any fun kv => decide (kv.1 = k)) = true then kvs.map (fun kv => if kv.1 = k then (kv.1, v) else kv) else kvs ++ [(k, v)]
theorem valV_pos {p : κ × V} {r : List (κ × V)} {k : κ} (e : p.1 = k) : valV (p :: r) k = some p.2 := by simp [valV, List.find?_cons, e]
theorem valV_neg {p : κ × V} {r : List (κ × V)} {k : κ} (e : ¬ p.1 = k) : valV (p :: r) k = valV r k := by simp [valV, List.find?_cons, e]
theorem valV_any (k : κ) : ∀ kvs : List (κ × V), (kvs.any fun kv => decide (kv.1 = k)) = (valV kvs k).isSome
  | [] => rfl
  | p :: r => by
    rw [List.any_cons]
    by_cases e : p.1 = k
    · simp only [valV_pos e, decide_eq_true e, Bool.true_or, Option.isSome_some]
    · rw [valV_neg e, decide_eq_false e, Bool.false_or]; exact valV_any k r
theorem valV_map (k j : κ) (y : V) : ∀ kvs : List (κ × V), valV (kvs.map fun kv => if kv.1 = k then (kv.1, y) else kv) j = (valV kvs j).map fun x => if j = k then y else x
  | [] => rfl
  | p :: r => by
    have ih := valV_map k j y r
    rw [List.map_cons]
    by_cases h : p.1 = k
    · rw [if_pos h]
      by_cases e : p.1 = j
      · rw [valV_pos (p := (p.1, y)) e, valV_pos e, Option.map_some, if_pos (e.symm.trans h)]
      · rw [valV_neg (p := (p.1, y)) e, valV_neg e, ih]
    · rw [if_neg h]
      by_cases e : p.1 = j
      · rw [valV_pos (p := p) e, valV_pos e, Option.map_some, if_neg (fun z => h (e.trans z))]
      · rw [valV_neg (p := p) e, valV_neg e, ih]
theorem valV_snoc (k j : κ) (y : V) : ∀ kvs : List (κ × V), valV kvs k = none → valV (kvs ++ [(k, y)]) j = if j = k then some y else valV kvs j
  | [], _ => by
    by_cases e : k = j
    · rw [if_pos e.symm]; exact valV_pos (p := (k, y)) e
    · rw [if_neg (fun z => e z.symm)]; exact valV_neg (p := (k, y)) e
  | p :: r, hn => by
    rw [List.cons_append]
    have hk : ¬ p.1 = k := fun z => by rw [valV_pos z] at hn; cases hn
    rw [valV_neg hk] at hn
    have ih := valV_snoc k j y r hn
    by_cases e : p.1 = j
    · rw [valV_pos e, valV_pos e, if_neg (fun z => hk (e.trans z))]
    · rw [valV_neg e, valV_neg e, ih]
theorem valV_put (kvs : List (κ × V)) (k j : κ) (y : V) : valV (putK kvs k y) j = if j = k then some y else valV kvs j := by
  unfold putK
  by_cases a : (kvs.any fun kv => decide (kv.1 = k)) = true
  · rw [if_pos a, valV_map]
    rw [valV_any] at a
    by_cases e : j = k
    · obtain ⟨x, hx⟩ := Option.isSome_iff_exists.mp a
      rw [if_pos e, e, hx, Option.map_some, if_pos rfl]
    · rw [if_neg e]
      cases valV kvs j with
      | none => rfl
      | some x => rw [Option.map_some, if_neg e]
  · rw [if_neg a]
    refine valV_snoc k j y kvs ?_
    rw [valV_any] at a
    cases q : valV kvs k with
    | none => rfl
    | some x => rw [q] at a; exact (a rfl).elim
theorem length_putK (kvs : List (κ × V)) (k : κ) (v : V) : (putK kvs k v).length ≤ kvs.length + 1 := by
  unfold putK
  split
  · rw [List.length_map]; omega
  · rw [List.length_append, List.length_cons, List.length_nil]; omega
theorem putK_new {kvs : List (κ × V)} {k : κ} (v : V) (h : valV kvs k = none) : putK kvs k v = kvs ++ [(k, v)] := by
  unfold putK
  rw [valV_any, h]
  exact if_neg (by decide)

theorem RelO.isSome_eq {o : Option V} {u : Option Value} (r : RelO o u) : o.isSome = u.isSome := by
  cases o with
  | none => cases u with
    | none => rfl
    | some _ => exact (show False from r).elim
  | some _ => cases u with
    | none => exact (show False from r).elim
    | some _ => rfl
/-- raw tables of the same keys -/
theorem KV.val {kvs : List (κ × V)} {vs : List (κ × Value)} (r : KV kvs vs) (k : κ) : RelO (valV kvs k) (valueAt vs k) := by
  unfold KV at r
  induction r with
  | nil => exact True.intro
  | @cons p q ps qs h t ih =>
    obtain ⟨h1, h2⟩ := h
    by_cases e : p.1 = k
    · have e' : q.1 = k := h1.symm.trans e
      have b : valueAt (q :: qs) k = some q.2 := by simp [valueAt, List.find?_cons, e']
      rw [valV_pos e, b]; exact h2
    · have e' : ¬ q.1 = k := fun z => e (h1.trans z)
      have b : valueAt (q :: qs) k = valueAt qs k := by simp [valueAt, List.find?_cons, e']
      rw [valV_neg e, b]; exact ih
end


/-! ### a tracked dict, its keys ints and texts or tuples of these -/
theorem kV_is {P : Program} {w : World} {k : Key} {u : Value} (r : RelV (kV k) u) : (mixKind P w).is k u = true := by
  cases k with
  | inl i => obtain ⟨t, e⟩ := (show ∃ t, u = Value.int i t from r); subst e; exact mixKind_int P w i t
  | inr x => obtain ⟨t, e⟩ := (show ∃ t, u = Value.str x t from r); subst e; exact mixKind_str P w x t
theorem items_are {P : Program} {w : World} : ∀ {ks : List Key} {us : List Value}, Vals (ks.map kV) us → ItemsAre (mixKind P w) ks us
  | [], _, r => by rw [List.map_nil] at r; cases r; exact .nil
  | k :: ks, _, r => by
    rw [List.map_cons] at r
    cases r with
    | cons h t => exact .cons (kV_is h) (items_are t)

/-- raw entries of a dict with tuple keys -/
noncomputable abbrev KT (H : Hp) : List (List Key × V) → List (List Key × Addr × Value) → Prop := Paired fun p q => p.1 = q.1 ∧ H q.2.1 = some (.tup (p.1.map kV)) ∧ RelV p.2 q.2.2
theorem KT.val {H : Hp} {kvs : List (List Key × V)} {xs : List (List Key × Addr × Value)} (r : KT H kvs xs) (k : List Key) : RelO (valV kvs k) ((atKey xs k).map (·.2)) := by
  induction r with
  | nil => exact True.intro
  | @cons p q ps qs h t ih =>
    obtain ⟨h1, _, h2⟩ := h
    by_cases e : p.1 = k
    · have e' : q.1 = k := h1.symm.trans e
      have b : atKey (q :: qs) k = some q.2 := by simp [atKey, List.find?_cons, e']
      rw [valV_pos e, b]; exact h2
    · have e' : ¬ q.1 = k := fun z => e (h1.trans z)
      have b : atKey (q :: qs) k = atKey qs k := by simp [atKey, List.find?_cons, e']
      rw [valV_neg e, b]; exact ih
theorem KT.repl {H : Hp} {kvs : List (List Key × V)} {xs : List (List Key × Addr × Value)} (r : KT H kvs xs) (k : List Key) {y : V} {u : Value} (ry : RelV y u) :
    KT H (kvs.map fun kv => if kv.1 = k then (kv.1, y) else kv) (xs.map (putAt k u)) := by
  induction r with
  | nil => exact .nil
  | @cons p q ps qs h t ih =>
    rw [List.map_cons, List.map_cons]
    refine .cons ?_ ih
    obtain ⟨h1, h2, h3⟩ := h
    unfold putAt
    by_cases e : p.1 = k
    · rw [if_pos e, if_pos (h1.symm.trans e)]; exact ⟨h1, h2, ry⟩
    · rw [if_neg e, if_neg (fun z => e (h1.trans z))]; exact ⟨h1, h2, h3⟩
theorem KT.put {H : Hp} {kvs : List (List Key × V)} {xs : List (List Key × Addr × Value)} (r : KT H kvs xs) (k : List Key) {b : Addr} {y : V} {u : Value} (hb : H b = some (.tup (k.map kV))) (ry : RelV y u) :
    KT H (putK kvs k y) (storedH xs k b u) := by
  have e : (kvs.any fun kv => decide (kv.1 = k)) = (atKey xs k).isSome := by
    rw [valV_any, (r.val k).isSome_eq, Option.isSome_map]
  unfold putK storedH
  rw [e]
  by_cases q : (atKey xs k).isSome = true
  · rw [if_pos q, if_pos q]; exact r.repl k ry
  · rw [if_neg q, if_neg q]; exact Paired.snoc r ⟨rfl, hb, ry⟩
theorem KT.keeps {H H' : Hp} {kvs : List (List Key × V)} {xs : List (List Key × Addr × Value)} (r : KT H kvs xs) (ht : ∀ b ys, H b = some (.tup ys) → H' b = some (.tup ys)) : KT H' kvs xs :=
  Paired.mapP r fun _ _ z => ⟨z.1, ht _ _ z.2.1, z.2.2⟩

section
variable {P : Program} {w : World} {H : Hp} {h : Heap} {a : Addr}
theorem rd_of {u : HO} (ok : HOk P w H h) (e : Rd H a u) : ObjOk P w H h a u := e.ok ok
theorem dk_rd {kvs : List (Key × V)} (ok : HOk P w H h) (e : Rd H a (.dK kvs)) : kvs.length ≤ sizeLine ∧ (a == sysModules) = false ∧ ∃ vs, KV kvs vs ∧ h.DictOf (mixKind P w) a vs :=
  show ObjOk P w H h a (.dK kvs) from rd_of ok e
/-- a tracked tuple of ints and texts is a key -/
theorem key_of {ks : List Key} (ok : HOk P w H h) (e : H a = some (.tup (ks.map kV))) : (tupleKind (mixKind P w)).is h ks a := by
  obtain ⟨_, its, r, o, h1, h2, n, h3⟩ := (show ObjOk P w H h a (.tup (ks.map kV)) from ok a _ e)
  exact ⟨o, its.toArray, n, h1, h2, h3, by simpa using items_are r⟩
theorem dt_rd {kvs : List (List Key × V)} (ok : HOk P w H h) (e : Rd H a (.dT kvs)) : kvs.length ≤ sizeLine ∧ (a == sysModules) = false ∧
    ∃ xs, KT H kvs xs ∧ h.DictOfH (tupleKind (mixKind P w)) a xs := by
  obtain ⟨z, y, xs, r, o, es, ep, h1, h2, h3, h4, h5⟩ := (show ObjOk P w H h a (.dT kvs) from rd_of ok e)
  refine ⟨z, y, xs, r, o, es, ep, h1, h2, h3, h4, fun x hx => ?_, h5⟩
  have all : ∀ {l : List (List Key × V)} {m : List (List Key × Addr × Value)}, KT H l m → ∀ x ∈ m, (tupleKind (mixKind P w)).is h x.1 x.2.1 := by
    intro l m q
    induction q with
    | nil => intro x hx; exact nomatch hx
    | @cons p q ps qs hq t ih =>
      intro x hx
      rcases List.mem_cons.mp hx with e | hx
      · subst e
        exact key_of ok (by rw [← hq.1]; exact hq.2.1)
      · exact ih x hx
  exact all r x hx
theorem dt_of {kvs : List (List Key × V)} (ok : HOk P w H h) (e : H a = some (.dT kvs)) : kvs.length ≤ sizeLine ∧ (a == sysModules) = false ∧
    ∃ xs, KT H kvs xs ∧ h.DictOfH (tupleKind (mixKind P w)) a xs := dt_rd ok (.inl e)
end

/-- what the dict at a holds at the key y -/
noncomputable def DGet (H : Hp) (a : Addr) (y : V) (r : Option V) : Prop :=
  (∃ kvs k, Rd H a (.dK kvs) ∧ y = kV k ∧ r = valV kvs k) ∨ ∃ kvs k b, Rd H a (.dT kvs) ∧ y = .ref b ∧ H b = some (.tup (k.map kV)) ∧ r = valV kvs k
theorem DGet.t {H : Hp} {a b : Addr} {kvs : List (List Key × V)} {k : List Key} (e : H a = some (.dT kvs)) (eb : H b = some (.tup (k.map kV))) : DGet H a (.ref b) (valV kvs k) := .inr ⟨kvs, k, b, .inl e, rfl, eb, rfl⟩
section
variable {X : Cx} {pins : List (Addr × Obj)} {σ : St} {H : Hp} {s : Shared} {a : Addr} {y v : V} {u r : Value} {o : Option V} {A : Around} {E : Value → Shared → Prop}

theorem Inv.big (I : Inv X pins σ H s) : sysModules < s.heap.objs.size := by
  have h : mainGlobals < s.heap.objs.size := (I.mod.glob.keeps I.bk).lt
  exact Nat.lt_trans (by decide) h

theorem d_notIn {Q : Value → Shared → Prop} (hu : A.units + 1 < cLine) (I : Inv X pins σ H s) (g : DGet H a y o) (ry : RelV y u) (h : ∀ s', Inv X pins σ H s' → Q (.bool (!o.isSome)) s') :
    wpAny (model X.prog X.w) A (compareOp .NotIn u (.ref a)) Q E s := by
  rcases g with ⟨kvs, k, e, ey, l⟩ | ⟨kvs, k, b, e, ey, eb, l⟩
  · subst ey
    obtain ⟨z, hd, vs, rel, dd⟩ := dk_rd I.hok e
    refine wpAny_notIn_of (kV_is ry) hd dd.mapOf ?_
    rw [← (rel.val k).isSome_eq, ← l]
    exact h _ (I.tok _)
  · subst ey
    cases (show u = Value.ref b from ry)
    obtain ⟨z, hd, xs, rel, dd⟩ := dt_rd I.hok e
    refine wpAny_notIn_heap (tupleKind_room_in1 hu) (key_of I.hok eb) hd dd ?_
    have q := (rel.val k).isSome_eq
    rw [Option.isSome_map] at q
    rw [← q, ← l]
    exact h _ (I.tok _)
/-- a dict's object is replaced -/
theorem d_write {h' : Heap} {t' : Nat} {ob : HO} (I : Inv X pins σ H s) (mu : Mut (H a)) (hs : Heap.SameBut a s.heap h') (he : ∃ q, h'.get? a = some q) (new : ObjOk X.prog X.w (upd H a ob) h' a ob) :
    Inv X pins σ (upd H a ob) { s with heap := h', toks := t' } :=
  I.write (x := a) (e := a) mu (.inl rfl) (fun b q hb z => (hs.2 b hb).trans z) he new
end

section
variable {X : Cx} {pins : List (Addr × Obj)} {σ : St} {H : Hp} {s : Shared} {a : Addr} {kvs : List (Key × V)} {k : Key} {u : Value} {A : Around} {E : Value → Shared → Prop}
end


/-! ### readings and rules -/
noncomputable def tDNotIn (ty td : TE) : TE := fun σ H Q => ty σ H fun y H1 => td σ H1 fun x H2 => ∃ a o, x = .ref a ∧ DGet H2 a y o ∧ Q (.bl (!o.isSome)) H2
section
variable {X : Cx} {o i e value : Expr} {pos pos' tpos : Pos} {td ty tv : TE}
theorem pc_dnotin (hu : X.A.units + 1 < cLine) (hi : PE X i ty) (ho : PE X o td) : PC X .NotIn i o (tDNotIn ty td) := by
  intro pins s σ H Q I h
  refine thn (hi pins s σ H _ I h) fun iv s1 ⟨y, H1, I1, ry, q1⟩ => thn (ho pins s1 σ H1 _ I1 q1) fun u s2 ⟨x, H2, I2, rx, a, ov, ex, g, q2⟩ => ?_
  subst ex
  obtain rfl : u = Value.ref a := rx
  exact d_notIn hu I2 g ry fun s3 I3 => ⟨.bl (!ov.isSome), H2, I3, rfl, q2⟩
end


/-! ### displays -/
theorem dt_empty {P : Program} {w : World} {H : Hp} (h : Heap) (hb : sysModules < h.objs.size) : ObjOk P w H (h.push { cls := .type "dict", data := .dict #[] }) h.objs.size (.dT []) :=
  ⟨Nat.zero_le _, beq_eq_false_iff_ne.mpr (Ne.symm (Nat.ne_of_lt hb)), [], .nil, _, #[], 0, Heap.get?_push_size _ rfl, ⟨rfl, rfl, rfl⟩, rfl, rfl, List.nodup_nil⟩
noncomputable def tDNewT : TE := fun _ H Q => ∀ p, H p = none → Q (.ref p) (upd H p (.dT []))
section
variable {X : Cx} {pos : Pos}
theorem pe_dnewT : PE X (.Dict [] [] pos) tDNewT := fun pins s σ H Q I h =>
  wpAny_Dict_empty ⟨.ref s.heap.objs.size, _, I.laid (a := s.heap.objs.size) (o := .dT []) (t' := s.toks) (fun _ _ q => Heap.get?_push_of_some _ q) (Nat.le_refl _) (dt_empty s.heap I.big), rfl, h _ (I.hok.fresh (Nat.le_refl _))⟩
end

/-! ### methods -/
structure M2 (X : Cx) (o : Expr) (m : Str) (apos : Pos) (e f : Expr) (cpos : Pos) : Prop where
  base : attributeBase o m X.env (eval o X.env) = eval o X.env
  few : ((backTo cpos (starEach [e, f] X.env)).all (fun x => !x.1) && (backToKw cpos (keywordEach [] X.env)).all (fun x => x.1.isSome)
    && decide (([e, f] : List Expr).length + ([] : List Keyword).length + (if ([] : List Keyword).isEmpty then 0 else 1) < 30)) = true
  line : (apos.endLine == cpos.line) = true
  trees : backTo cpos (starEach [e, f] X.env) = [(false, eval e X.env), (false, eval f X.env)]

/-- a is a dict, whatever its keys -/
noncomputable def IsD (H : Hp) (a : Addr) : Prop := (∃ kvs, Rd H a (.dK kvs)) ∨ ∃ kvs, Rd H a (.dT kvs)
theorem isD_at {X : Cx} {pins : List (Addr × Obj)} {σ : St} {H : Hp} {s : Shared} {a : Addr} (I : Inv X pins σ H s) (d : IsD H a) :
    s.TypeIs (.ref a) "dict" ∧ (∀ b, Value.ref a = .ref b → ∃ ob, s.heap.get? b = some ob ∧ ob.dict = none) ∧ (a == sysModules) = false := by
  rcases d with ⟨kvs, e⟩ | ⟨kvs, e⟩
  · obtain ⟨_, hd, vs, _, dd⟩ := dk_rd I.hok e
    refine ⟨dd.typeIs, fun b q => ?_, hd⟩
    cases q
    obtain ⟨ob, _, _, h1, h2, _⟩ := dd
    exact ⟨ob, h1, h2.2.1⟩
  · obtain ⟨_, hd, xs, _, dd⟩ := dt_rd I.hok e
    refine ⟨dd.typeIs, fun b q => ?_, hd⟩
    cases q
    obtain ⟨ob, _, _, h1, h2, _⟩ := dd
    exact ⟨ob, h1, h2.2.1⟩

section
variable {X : Cx} {pins : List (Addr × Obj)} {σ : St} {H : Hp} {s : Shared} {a : Addr} {y d : V} {u r : Value} {o : Option V} {A : Around} {E : Value → Shared → Prop}
end

section
variable {X : Cx} {o e f : Expr} {apos cpos : Pos} {td ty tx : TE}
end

/-! ### dict(d): a copy -/
section
variable {X : Cx} {pins : List (Addr × Obj)} {σ : St} {H : Hp} {s : Shared} {a : Addr} {kvs : List (Key × V)} {A : Around} {E : Value → Shared → Prop}
end


section
variable {X : Cx} {pins : List (Addr × Obj)} {σ : St} {H : Hp} {s : Shared} {a : Addr} {y : V} {u : Value} {A : Around} {E : Value → Shared → Prop}
end
end L2

namespace L2
open PySem PySem.Spec PyProof.Rows
/-! ### d.setdefault(k, x), the keys tuples -/
section
variable {prog : Program} {w : World} {A : Around} {E : Value → Shared → Prop} {s : Shared} {κ : Type} [DecidableEq κ] {kd : HeapKind prog w κ}
theorem sdH {d a : Addr} {xs : List (κ × Addr × Value)} {k : κ} {df : Value} {Q : Value → Shared → Prop} (hu : kd.room A) (hk : kd.is s.heap k a) (hm : s.heap.DictOfH kd d xs) (hz : xs.length ≤ sizeLine)
    (there : ∀ p, atKey xs k = some p → Q p.2 { s with toks := s.toks + kd.draws k })
    (fresh : atKey xs k = none → ∀ g, g.DictOfH kd d (storedH xs k a df) → Heap.SameBut d s.heap g → Q df { s with heap := g, toks := s.toks + kd.draws k }) : wpAny (model prog w) A (dictSetDefault d (.ref a) df) Q E s := by
  obtain ⟨o, es, ep, ho, hc, hd, he, his, hn⟩ := hm
  unfold dictSetDefault
  try with_reducible refine wpAny_holding ?_
  refine wpAny_bind (kd.pyHash hu hk (wpAny_bind (wpAny_dictFind_heap (s := { s with toks := s.toks + kd.draws k }) hu hk ho hd he his hn (fun no => ?_) fun j p hj => ?_)))
  · have none' : atKey xs k = none := atKey_none_of_get no
    have out : k ∉ xs.map (·.1) := not_mem_keys_of_get no
    refine wpAny_bind (wpAny_rule (wpAny_bind (wpAny_updateDictKeys (hz := by rw [size_of_entries he]; exact hz) (s := { s with toks := s.toks + kd.draws k }) ho hd (wpAny_pure (fresh none' _ ?_ (Heap.SameBut.update ..))))))
    rw [storedH_new none']
    refine ⟨_, _, ep + 1, Heap.get?_update_self _ ho (Obj.isFreed_of_dict (Obj.data_mapDictKeys hd _)), hc.mapDictKeys _, Obj.data_mapDictKeys hd _, ?_, fun x hx => ?_, ?_⟩
    · simp [he, entryOfKey]
    · rcases List.mem_append.mp hx with hx | hx
      · exact kd.keeps (his x hx) ho hd (Heap.SameBut.update ..)
      · rw [List.mem_singleton.mp hx]
        exact kd.keeps hk ho hd (Heap.SameBut.update ..)
    · rw [List.map_append, List.nodup_append]
      refine ⟨hn, by simp, fun x hx y hy e => out ?_⟩
      have hy' : y = k := by simpa using hy
      rw [← hy', ← e]
      exact hx
  · have e1 := atKey_of_get hn hj
    refine wpAny_bind (wpAny_dictEntries (s := { s with toks := s.toks + kd.draws k }) ho hd ?_)
    rw [entry_at he j, hj]
    exact wpAny_bind (wpAny_rule (wpAny_pure (there p e1)))
theorem sdH_meets {d a : Addr} {df : Value} (hd : (d == sysModules) = false) :
    MeetsIn prog w (Builtin.«dict.setdefault» ⟨[.ref d, .ref a, df], []⟩) (fun A R s => kd.room A.in1 ∧ ∃ k xs, kd.is s.heap k a ∧ s.heap.DictOfH kd d xs ∧ xs.length ≤ sizeLine ∧
      (∀ p, atKey xs k = some p → R (.ok (.ret p.2)) { s with toks := s.toks + kd.draws k }) ∧
      (atKey xs k = none → ∀ g, g.DictOfH kd d (storedH xs k a df) → Heap.SameBut d s.heap g → R (.ok (.ret df)) { s with heap := g, toks := s.toks + kd.draws k })) :=
  .of_wp fun A R s ⟨hu, k, xs, hk, hm, hz, h1, h2⟩ => by
    unfold Builtin.«dict.setdefault» Builtin.Dict.keyAndDefault
    refine wpAny_bind (wpAny_bind (wpAny_notOrdered_dict hm.typeIs (wpAny_pure ?_)))
    refine (show wpAny _ _ (if (d == sysModules) = true then _ else (dictSetDefault d (.ref a) df >>= _)) _ _ s from ?_)
    rw [hd, if_neg Bool.false_ne_true]
    exact wpAny_bind (sdH hu hk hm hz (fun p e => wpAny_pure ⟨p.2, rfl, h1 p e⟩) fun e g hg hs => wpAny_pure ⟨df, rfl, h2 e g hg hs⟩)
end
noncomputable def tDSd (td ty tx : TE) : TE := fun σ H Q => td σ H fun x H1 => ∃ a, x = .ref a ∧ IsD H1 a ∧ ty σ H1 fun y H2 => tx σ H2 fun z H3 => ∃ kvs k b, H3 a = some (.dT kvs) ∧ y = .ref b ∧ H3 b = some (.tup (k.map kV)) ∧ kvs.length < sizeLine ∧
  (∀ v, valV kvs k = some v → Q v H3) ∧ (valV kvs k = none → Q z (upd H3 a (.dT (putK kvs k z))))
section
variable {X : Cx} {o e f : Expr} {apos cpos : Pos} {td ty tx : TE}
theorem pe_dsd (hu : X.A.units + 1 < cLine) (ho : PE X o td) (he : PE X e ty) (hf : PE X f tx) (m : M2 X o "setdefault" apos e f cpos) : PE X (.Call (.Attribute o "setdefault" apos) [e, f] [] cpos) (tDSd td ty tx) := by
  intro pins s σ H Q I h
  refine wpAny_Call_method m.base m.few m.line PySem.F.plainAttrs_dict PySem.F.slot_dict_setdefault PySem.F.type_dict_setdefault (thn (ho pins s σ H _ I h) fun u s1 ⟨x, H1, I1, rx, a, ex, d, q1⟩ => ?_)
  subst ex
  obtain rfl : u = Value.ref a := rx
  obtain ⟨t1, t2, _⟩ := isD_at I1 d
  refine ⟨t1, t2, ?_⟩
  rw [m.trees]
  refine Calls.callWith_builtin rfl (Calls.evalArgs_plain (Calls.spliced_cons (thn (he pins s1 σ H1 _ I1 q1) fun iv s2 ⟨y, H2, I2, ry, q2⟩ => Calls.spliced_cons (thn (hf pins s2 σ H2 _ I2 q2) fun fv s3 ⟨z, H3, I3, rz, kvs, k, b, ea, ey, eb, hl, q3, q4⟩ => Calls.spliced_nil ?_))))
  subst ey
  obtain rfl : iv = Value.ref b := ry
  obtain ⟨zz, hd, xs, rel, dd⟩ := dt_of I3.hok ea
  have hz : xs.length ≤ sizeLine := by rw [← Paired.length rel]; exact zz
  have hv := rel.val k
  refine call_meetsIn PySem.F.slot_dict_setdefault dd.typeIs PySem.F.entry_dict_setdefault (PySem.F.args_dict_setdefault_3 _ _ _) (sdH_meets (kd := tupleKind (mixKind X.prog X.w)) hd) ⟨tupleKind_room_in1 hu, k, xs, key_of I3.hok eb, dd, hz, fun p ep => ?_, fun en g hg hs => ?_⟩
  · rw [ep] at hv
    cases ev : valV kvs k with
    | none => rw [ev] at hv; exact hv.elim
    | some v =>
      rw [ev] at hv
      exact ⟨v, H3, I3.tok _, hv, q3 v ev⟩
  · have ev : valV kvs k = none := by
      rw [en] at hv
      cases ev : valV kvs k with
      | none => rfl
      | some v => rw [ev] at hv; exact hv.elim
    have hl' : (putK kvs k z).length ≤ sizeLine := by have := length_putK kvs k z; omega
    obtain ⟨qo, es, ep, hq, h2, h3, h4, _, h5⟩ := hg
    refine ⟨z, _, d_write (ob := .dT (putK kvs k z)) I3 (by rw [ea]; exact True.intro) hs ⟨qo, hq⟩ ⟨hl', hd, _, (rel.put k eb rz).keeps fun c ys ec => ?_, qo, es, ep, hq, h2, h3, h4, h5⟩, rz, q4 ev⟩
    rw [upd_ne (ne_of ec ea (fun z => nomatch z))]
    exact ec
end
end L2

namespace L2
open PySem PySem.Spec PyProof.Rows
/-! ### for v in d.values(), whatever the keys -/
section
variable {prog : Program} {w : World} {A : Around} {E : Value → Shared → Prop} {s : Shared}
theorem valsNew {d : Addr} (hd : (d == sysModules) = false) :
    MeetsIn prog w (Builtin.«dict.values» ⟨[.ref d], []⟩) (fun _ R s => s.TypeIs (.ref d) "dict" ∧ R (.ok (.ret (.ref s.heap.objs.size))) { s with heap := s.heap.push { cls := .type "dict_values", data := .fields #[.ref d] } }) :=
  .of_wp fun A R s ⟨ty, h⟩ => by
    refine wpAny_bind ?_
    unfold Builtin.Dict.noArgs
    refine wpAny_bind (wpAny_notOrdered_dict ty (wpAny_pure ?_))
    refine (show wpAny _ _ (Builtin.Dict.showsAll d >>= _) _ _ s from ?_)
    unfold Builtin.Dict.showsAll
    rw [hd, if_neg Bool.false_ne_true]
    exact wpAny_bind (wpAny_pure (wpAny_bind (wpAny_newObj_type (wpAny_pure ⟨_, rfl, h⟩))))
theorem valsIter {v d : Addr} {od : Obj} {es : Array DictEntry} {ep : Nat} {Q : Value → Shared → Prop} (hv : s.heap.IsValuesView v d) (eo : s.heap.get? d = some od) (dd : od.data = .dict es ep)
    (k : Q (.ref s.heap.objs.size) { s with heap := s.heap.push { cls := .type "dict_valueiterator", data := .fields #[.ref d, .int 0 0, .int es.size 0, .int ep 0] } }) : wpAny (model prog w) A (pyIter (.ref v)) Q E s := by
  obtain ⟨ov, ev, cv, dv⟩ := id hv
  refine wpAny_pyIter_slot hv.typeIs F.slot_dict_values_iter (wpAny_call_entry F.slot_dict_values_iter hv.typeIs F.entry_dict_values_iter ?_ (F.args_dict_values_iter_1 _))
  unfold Builtin.«dict_values.__iter__» Builtin.Dict_items.dictOf Builtin.Dict_items.newIterator
  refine wpAny_bind (wpAny_pure (wpAny_bind (wpAny_bind (wpAny_field ev dv (x := .ref d) rfl (wpAny_pure (wpAny_bind (wpAny_bind (wpAny_dictEntries eo dd (wpAny_bind (wpAny_dictEpoch eo dd ?_))))))))))
  rw [show Builtin.Dict_items.ownsTuple "dict_valueiterator" = false by decide]
  simp only [Bool.false_eq_true, if_false]
  refine wpAny_newObj_type (wpAny_pure ⟨_, rfl, "dict_valueiterator", _, ⟨_, Heap.get?_push_size _ rfl, rfl⟩, F.slot_dict_valueiterator_next.lookup, ?_⟩)
  simpa [rawInt] using k
theorem valsItem {it d : Addr} {i ep : Nat} {od : Obj} {es : Array DictEntry} {e : DictEntry} {Q : Option Value → Shared → Prop} (hI : s.heap.IsValIter it d i es.size ep) (eo : s.heap.get? d = some od) (dd : od.data = .dict es ep) (hx : es[i]? = some e)
    (k : ∀ g, g.IsValIter it d (i + 1) es.size ep → Heap.SameBut it s.heap g → Q (some e.val) { s with heap := g }) : wpAny (model prog w) A (pyNext (.ref it)) Q E s := by
  obtain ⟨oi, ei, ci, di⟩ := id hI
  unfold pyNext
  refine wpAny_bind (wpAny_attempt (wpAny_callSpecial?_slot (name := Str.ofString "__next__") hI.typeIs F.slot_dict_valueiterator_next (wpAny_call_entry F.slot_dict_valueiterator_next hI.typeIs F.entry_dict_valueiterator_next ?_ (F.args_dict_valueiterator_next_1 _))))
  refine wpAny_bind (wpAny_pure (wpAny_bind (wpAny_bind (wpAny_bind (wpAny_typeNameOfWhole_valiter hI.typeIs (wpAny_pure ?_))))))
  refine wpAny_bind (wpAny_fieldsOf ei di ?_)
  simp only [show Builtin.Dict_items.ownsTuple "dict_valueiterator" = false by decide, Bool.false_eq_true, if_false]
  refine (show wpAny _ _ (if (Value.ref d == Value.none) = true then _ else _) _ _ s from ?_)
  rw [show (Value.ref d == Value.none) = false from rfl, if_neg Bool.false_ne_true]
  refine wpAny_bind (wpAny_pure (wpAny_bind (wpAny_dictEntries eo dd ?_)))
  rw [if_neg (by simp)]
  refine wpAny_bind (wpAny_pure (wpAny_bind (wpAny_dictEpoch eo dd ?_)))
  rw [if_neg (by simp)]
  refine wpAny_pure ?_
  simp only [show ¬ ((i : Int) < 0) from by omega, if_false, Int.toNat_natCast, hx]
  refine wpAny_bind (wpAny_bind (wpAny_typeNameOfWhole_valiter hI.typeIs (wpAny_pure (wpAny_bind (wpAny_isOneOf_valiter hI.typeIs ?_)))))
  refine (show wpAny _ _ (setField (.ref it) 1 (rawInt ((i : Int) + 1)) >>= _) _ _ s from wpAny_bind (wpAny_setField ei di (by simp) ?_))
  have hI' : (s.heap.update it (Obj.mapFields (·.setIfInBounds 1 (rawInt ((i : Int) + 1))))).IsValIter it d (i + 1) es.size ep :=
    ⟨_, Heap.get?_update_self _ ei (Obj.isFreed_of_fields (Obj.data_mapFields di _)), (Obj.cls_mapFields ..).trans ci, by rw [Obj.data_mapFields di]; simp [rawInt]⟩
  have ty' : Shared.TypeIs { s with heap := s.heap.update it (Obj.mapFields (·.setIfInBounds 1 (rawInt ((i : Int) + 1)))) } (.ref it) "dict_valueiterator" := hI'.typeIs
  refine wpAny_bind (wpAny_holding (wpAny_bind (wpAny_isOneOf_valiter ty' (wpAny_bind (wpAny_isOneOf_valiter ty' ?_)))))
  exact wpAny_pure (wpAny_pure ⟨e.val, rfl, wpAny_pure (k _ hI' (Heap.SameBut.update ..))⟩)
theorem valsEnd {it d : Addr} {i ep : Nat} {od : Obj} {es : Array DictEntry} {Q : Option Value → Shared → Prop} (hh : A.handled = none) (hI : s.heap.IsValIter it d i es.size ep) (eo : s.heap.get? d = some od) (dd : od.data = .dict es ep) (hx : es[i]? = none)
    (k : ∀ g, Heap.ExtBut it s.heap g → Q none { s with heap := g }) : wpAny (model prog w) A (pyNext (.ref it)) Q E s := by
  obtain ⟨oi, ei, ci, di⟩ := id hI
  unfold pyNext
  refine wpAny_bind (wpAny_attempt (wpAny_callSpecial?_slot (name := Str.ofString "__next__") hI.typeIs F.slot_dict_valueiterator_next (wpAny_call_entry F.slot_dict_valueiterator_next hI.typeIs F.entry_dict_valueiterator_next ?_ (F.args_dict_valueiterator_next_1 _))))
  refine wpAny_bind (wpAny_pure (wpAny_bind (wpAny_bind (wpAny_bind (wpAny_typeNameOfWhole_valiter hI.typeIs (wpAny_pure ?_))))))
  refine wpAny_bind (wpAny_fieldsOf ei di ?_)
  simp only [show Builtin.Dict_items.ownsTuple "dict_valueiterator" = false by decide, Bool.false_eq_true, if_false]
  refine (show wpAny _ _ (if (Value.ref d == Value.none) = true then _ else _) _ _ s from ?_)
  rw [show (Value.ref d == Value.none) = false from rfl, if_neg Bool.false_ne_true]
  refine wpAny_bind (wpAny_pure (wpAny_bind (wpAny_dictEntries eo dd ?_)))
  rw [if_neg (by simp)]
  refine wpAny_bind (wpAny_pure (wpAny_bind (wpAny_dictEpoch eo dd ?_)))
  rw [if_neg (by simp)]
  refine wpAny_pure ?_
  simp only [show ¬ ((i : Int) < 0) from by omega, if_false, Int.toNat_natCast, hx]
  refine wpAny_bind (wpAny_bind (wpAny_typeNameOfWhole_valiter hI.typeIs (wpAny_pure ?_)))
  refine (show wpAny _ _ (setField (.ref it) 0 .none >>= _) _ _ s from wpAny_bind (wpAny_setField ei di (by simp) (wpAny_bind (m := newExc (.type "StopIteration") []) ?_)))
  simp only [newExc, newTuple]
  refine wpAny_bind (wpAny_newObj_type (wpAny_bind (m := firstArgMember _ _) (wpAny_of_eq (a := Value.none) (by first | rfl | (simp only [firstArgMember]; rfl)) (wpAny_newObj_type ?_ (by size_fits)))) (by size_fits))
  simp only [raiseNew]
  refine wpAny_bind (wpAny_handled ?_)
  rw [show A.in1.handled = none from hh]
  refine wpAny_bind (wpAny_pure (wpAny_throw ?_))
  exact wpAny_bind (wpAny_isInstance (T := "StopIteration") (b := true) ⟨_, Heap.get?_push_size _ rfl, rfl⟩ isSubtype_stop (wpAny_pure (k _ (((Heap.SameBut.update ..).extBut.push _).push _))))
end
/-- the dict at a, frozen, its values in turn -/
noncomputable def Itv (a : Addr) (o : Obj) (kvs : List (List Key × V)) : It :=
  ⟨fun i H => H a = some (.frz o (.dT kvs)) ∧ i < kvs.length, fun i H x H' => H' = H ∧ ∃ k, kvs[i]? = some (k, x), fun i H => H a = some (.frz o (.dT kvs)) ∧ kvs.length ≤ i⟩
theorem KT.at {H : Hp} : ∀ {kvs : List (List Key × V)} {xs : List (List Key × Addr × Value)} {i : Nat}, KT H kvs xs → i < kvs.length → ∃ k v b u, kvs[i]? = some (k, v) ∧ xs[i]? = some (k, b, u) ∧ RelV v u
  | [], _, _, _, h => absurd h (Nat.not_lt_zero _)
  | (k, v) :: kvs, (k', b, u) :: xs, 0, .cons ⟨e, _, r⟩ _, _ => by
    have e' : k = k' := e
    subst e'
    exact ⟨k, v, b, u, rfl, rfl, r⟩
  | _ :: kvs, _ :: xs, i + 1, .cons _ t, h => by
    obtain ⟨k, v, b, u, h1, h2, h3⟩ := KT.at t (by simpa using h)
    exact ⟨k, v, b, u, by simpa using h1, by simpa using h2, h3⟩
section
variable {X : Cx} {pins : List (Addr × Obj)} {σ : St} {H : Hp} {s : Shared}
theorem turn_vals {P : Program} {w : World} {K : PySem.W.Frag} {tg : Expr} {a it : Addr} {o : Obj} {es : Array DictEntry} {ep : Nat} {kvs : List (List Key × V)} (dd : o.data = .dict es ep) : Turn P w K tg (Itv a o kvs) [it] it (fun i h => h.IsValIter it a i es.size ep) where
  mem := by simp
  obj := fun i h st b hb => by
    obtain rfl : b = it := by simpa using hb
    obtain ⟨o, e, c, d⟩ := st
    exact ⟨o, e, fun v z => by rw [d] at z; cases z⟩
  keep := fun i h h' st k => st.at fun o e => k it (by simp) o e
  item := by
    intro X hP hw hK hc i pins s σ H E I hf st hg
    subst hP hw hK
    obtain ⟨ea, hlt⟩ := hg
    obtain ⟨eo, zz, hd, xs, rel, o', es', ep', e1, _, e3, e4, _⟩ := (show ObjOk X.prog X.w H s.heap a (.frz o (.dT kvs)) from I.hok a _ ea)
    have oe : o' = o := Option.some.inj (e1.symm.trans eo)
    subst oe
    have de : es' = es ∧ ep' = ep := by
      rw [dd] at e3
      injection e3 with u1 u2
      exact ⟨u1.symm, u2.symm⟩
    obtain ⟨rfl, rfl⟩ := de
    obtain ⟨k, v, b, u, k1, k2, k3⟩ := KT.at rel hlt
    obtain ⟨f0, f1, f2, f3, f4, f5⟩ := hf it (by simp)
    have ent : es'[i]? = some (entryOfKey (tupleKind (mixKind X.prog X.w)) (k, b, u)) := by rw [entry_at e4 i, k2]; rfl
    refine valsItem st eo dd ent fun g st' sb => ⟨u, rfl, ?_⟩
    have I1 : Inv X pins σ H { s with heap := g } := I.turned (t' := s.toks) (fun b o hb e => (sb.2 b hb).trans e) f0 f1 f3 f4 f5
    obtain ⟨oi, ei, ci, di⟩ := id st'
    exact go_of (s := { s with heap := g }) ei ci di (by decide) ⟨v, H, I1, k3, ⟨rfl, k, k1⟩, st', fun b hb => (hf b hb).1⟩
  done := by
    intro X hP hw hK hc i pins s σ H E I hf st hg
    subst hP hw hK
    obtain ⟨ea, hge⟩ := hg
    obtain ⟨eo, zz, hd, xs, rel, o', es', ep', e1, _, e3, e4, _⟩ := (show ObjOk X.prog X.w H s.heap a (.frz o (.dT kvs)) from I.hok a _ ea)
    have oe : o' = o := Option.some.inj (e1.symm.trans eo)
    subst oe
    have de : es' = es ∧ ep' = ep := by
      rw [dd] at e3
      injection e3 with u1 u2
      exact ⟨u1.symm, u2.symm⟩
    obtain ⟨rfl, rfl⟩ := de
    obtain ⟨f0, f1, f2, f3, f4, f5⟩ := hf it (by simp)
    have sz : es'.size = kvs.length := by rw [size_of_entries e4, ← Paired.length rel]
    exact valsEnd (I.ok.hd hc) st eo dd (Array.getElem?_eq_none (by omega)) fun g eb => ⟨rfl, I.turned (t' := s.toks) (fun b o hb e => eb b o hb e) f0 f1 f3 f4 f5⟩
  self := fun _ _ _ _ _ st h => wpAny_pyIter_valiter st h
noncomputable def iVals (td : TE) : TI := fun σ H R => td σ H fun x H1 => ∃ a kvs, x = .ref a ∧ H1 a = some (.dT kvs) ∧ ∀ o, R (Itv a o kvs) (upd H1 a (.frz o (.dT kvs)))
theorem pi_vals {tg oe : Expr} {apos cpos : Pos} {td : TE} (ho : PE X oe td) (hbase : attributeBase oe "values" X.env (eval oe X.env) = eval oe X.env := by rfl) (hline : (apos.endLine == cpos.line) = true := by rfl) :
    PI X tg (.Call (.Attribute oe "values" apos) [] [] cpos) (iVals td) := by
  intro pins s σ H R I h
  refine wpAny_Call_method0_late hbase hline (thn (ho pins s σ H _ I h) fun v s1 ⟨x, H1, I1, r1, a, kvs, ex, ea, q⟩ => ?_)
  subst ex
  obtain rfl : v = Value.ref a := r1
  obtain ⟨t1, t2, hd⟩ := isD_at I1 (.inr ⟨kvs, .inl ea⟩)
  refine ⟨"dict", "dict.values", PySem.F.plainAttrs_dict, PySem.F.slot_dict_values, PySem.F.type_dict_values, t1, t2, Calls.callWith_builtin rfl (PySem.evalArgs_none ?_)⟩
  refine call_meetsIn PySem.F.slot_dict_values t1 PySem.F.entry_dict_values (PySem.F.args_dict_values_1 _) (valsNew hd) ⟨t1, ?_⟩
  obtain ⟨zz, hd2, xs, rel, o, es, ep, e1, e2, e3, e4, e5⟩ := (show ObjOk X.prog X.w H1 s1.heap a (.dT kvs) from I1.hok a _ ea)
  have Iv : Inv X pins σ H1 { s1 with heap := s1.heap.push { cls := .type "dict_values", data := .fields #[.ref a] } } := I1.kept (t' := s1.toks) fun b ob e => Heap.get?_push_of_some _ e
  refine valsIter (s := { s1 with heap := s1.heap.push { cls := .type "dict_values", data := .fields #[.ref a] } }) ⟨_, Heap.get?_push_size _ rfl, rfl, rfl⟩ (Heap.get?_push_of_some _ e1) e3 ?_
  have Iw := Iv.kept (t' := s1.toks) (h' := (s1.heap.push { cls := .type "dict_values", data := .fields #[.ref a] }).push { cls := .type "dict_valueiterator", data := .fields #[.ref a, .int 0 0, .int es.size 0, .int ep 0] }) fun b ob e => Heap.get?_push_of_some _ e
  have eo : ((s1.heap.push { cls := .type "dict_values", data := .fields #[.ref a] }).push { cls := .type "dict_valueiterator", data := .fields #[.ref a, .int 0 0, .int es.size 0, .int ep 0] }).get? a = some o := Heap.get?_push_of_some _ (Heap.get?_push_of_some _ e1)
  have If := Iw.write (x := a) (e := a) (o := .frz o (.dT kvs)) (t' := s1.toks) (h' := (s1.heap.push { cls := .type "dict_values", data := .fields #[.ref a] }).push { cls := .type "dict_valueiterator", data := .fields #[.ref a, .int 0 0, .int es.size 0, .int ep 0] }) (by rw [ea]; exact True.intro) (.inl rfl) (fun b u _ e => e) ⟨o, eo⟩
    ⟨eo, zz, hd2, xs, KT.keeps rel (fun b ys eb => by rw [upd_ne (ne_of eb ea (fun z => nomatch z))]; exact eb), o, es, ep, eo, e2, e3, e4, e5⟩
  refine ⟨_, [_], _, Itv a o kvs, _, rfl, If, turn_vals e3, ⟨_, Heap.get?_push_size _ rfl, rfl, rfl⟩, fun b hb => ?_, q o⟩
  have eb : b = (s1.heap.push { cls := .type "dict_values", data := .fields #[.ref a] }).objs.size := by simpa using hb
  subst eb
  refine Iv.fpOk (Nat.le_refl _) ?_
  rw [upd_ne]
  · exact Iv.hok.fresh (Nat.le_refl _)
  · intro z
    have := Iv.hok.fresh (a := (s1.heap.push { cls := .type "dict_values", data := .fields #[.ref a] }).objs.size) (Nat.le_refl _)
    rw [z, ea] at this
    cases this
/-! ### the forms one uses -/
theorem for_vals {a : Addr} {o : Obj} {kvs : List (List Key × V)} {g : TG} {tb : TS} {D : Ends} {σ : St} {H : Hp} (Pv : Nat → St → Hp → Prop) (h0 : Pv 0 σ H) (hl : ∀ i σ H, i ≤ kvs.length → Pv i σ H → H a = some (.frz o (.dT kvs)))
    (hs : ∀ i k x σ H, kvs[i]? = some (k, x) → Pv i σ H → g x σ H fun σ2 H2 => tb { D with nx := Pv (i + 1), ct := Pv (i + 1), bk := D.nx } σ2 H2) (hd : ∀ σ H, Pv kvs.length σ H → D.nx σ H) :
    ∃ W : Nat → Nat → St → Hp → Prop, (∃ m, W 0 m σ H) ∧ ∀ i m σ H, W i m σ H →
      ((Itv a o kvs).stop i H ∧ D.nx σ H) ∨ ((Itv a o kvs).go i H ∧ ∃ N : St → Hp → Prop, (∀ σ' H', N σ' H' → ∃ m', m' < m ∧ W (i + 1) m' σ' H') ∧ ∀ x H', (Itv a o kvs).yld i H x H' → g x σ H' fun σ2 H2 => tb { D with nx := N, ct := N, bk := D.nx } σ2 H2) := by
  refine ⟨fun i m σ H => m = kvs.length - i ∧ i ≤ kvs.length ∧ Pv i σ H, ⟨kvs.length, by simp, Nat.zero_le _, h0⟩, ?_⟩
  rintro i m σ H ⟨rfl, hi, p⟩
  have q := hl i σ H hi p
  by_cases lt : i < kvs.length
  · refine .inr ⟨⟨q, lt⟩, Pv (i + 1), fun σ' H' p' => ⟨kvs.length - (i + 1), by omega, rfl, lt, p'⟩, fun x H' y => ?_⟩
    obtain ⟨rfl, k, e⟩ := y
    exact hs i k x σ _ e p
  · obtain rfl : i = kvs.length := by omega
    exact .inl ⟨⟨q, Nat.le_refl _⟩, hd σ H p⟩
theorem lc_vals {a : Addr} {o : Obj} {kvs : List (List Key × V)} {n : Nat} {g : TG} {tc : TT} {te : TE} {σ : St} {H : Hp} {F : List V → Hp → Prop} (Pv : Nat → List V → Hp → Prop) (hn : kvs.length ≤ 1000000) (h0 : Pv 0 [] H)
    (hl : ∀ i acc H, i ≤ kvs.length → Pv i acc H → H a = some (.frz o (.dT kvs)) ∧ acc.length ≤ i)
    (hs : ∀ i k x acc H, kvs[i]? = some (k, x) → Pv i acc H → g x (List.replicate n none ++ σ) H fun σ2 H2 => σ2.drop n = σ ∧ tc σ2 H2 fun c H3 => if c = true then te σ2 H3 fun y H4 => Pv (i + 1) (acc ++ [y]) H4 else Pv (i + 1) acc H3)
    (hd : ∀ acc H, Pv kvs.length acc H → F acc H) : LCW n (Itv a o kvs) g tc te σ H F := by
  have sz : (1000000 : Nat) < sizeLine := by rw [sizeLine_eq]; decide
  refine ⟨fun i m acc H => m = kvs.length - i ∧ i ≤ kvs.length ∧ Pv i acc H, ⟨kvs.length, by simp, Nat.zero_le _, h0⟩, ?_⟩
  rintro i m acc H ⟨rfl, hi, p⟩
  obtain ⟨q, ql⟩ := hl i acc H hi p
  by_cases lt : i < kvs.length
  · refine .inr ⟨⟨q, lt⟩, by omega, Pv (i + 1), fun acc' H' p' => ⟨kvs.length - (i + 1), by omega, rfl, lt, p'⟩, fun x H' y => ?_⟩
    obtain ⟨rfl, k, e⟩ := y
    exact hs i k x acc _ e p
  · obtain rfl : i = kvs.length := by omega
    exact .inl ⟨⟨q, Nat.le_refl _⟩, by omega, hd acc H p⟩
end
end L2

namespace L2
open PySem PySem.Spec PyProof.Rows
/-! ### dict of a list of pairs, the keys tuples -/
section
variable {prog : Program} {w : World} {A : Around} {E : Value → Shared → Prop} {s : Shared}
theorem noKeys : typeLookup (.type "list") "keys" = pure none := by rw [typeLookup_type, builtinLookup_eq_fast]; kernel_rfl
theorem noGetattr : typeLookup (.type "list") "__getattr__" = pure none := by rw [typeLookup_type, builtinLookup_eq_fast]; kernel_rfl
theorem lacksKeys (a : Addr) (u : Tok) (its : Array Value) (n : Nat) (sl : Array (Option Value)) :
    Meets (Builtin.«object.__getattribute__» ⟨[.ref a, .str "keys" u], []⟩) (fun A R s => s.heap.get? a = some { cls := .type "list", dict := none, data := .seq its n, slots := sl } ∧ raisesAttr (.ref a) "keys" A R s) :=
  Meets.of_wp fun prog w A R s hs => by
    obtain ⟨hp, g, d, tk, os⟩ := s
    obtain ⟨hx, hs⟩ := hs
    have hT : (⟨hp, g, d, tk, os⟩ : Shared).TypeIs (.ref a) "list" := ⟨_, hx, rfl⟩
    have f1 := noKeys
    unfold Builtin.«object.__getattribute__»
    repeat (any_goals (first | assumption | wp_step))
    exact wpAny_raiseAttrError hs.1 hs.2 (attrMsg_fits (by decide +kernel) (by size_fits))
theorem keysNone {a : Addr} {its : Array Value} {n : Nat} {sl : Array (Option Value)} {Q : Option Value → Shared → Prop} (hA : A.handled = none) (hx : s.heap.get? a = some { cls := .type "list", dict := none, data := .seq its n, slots := sl })
    (k : ∀ g tk, (∀ b ob, s.heap.get? b = some ob → g.get? b = some ob) → Q none { s with heap := g, toks := tk }) : wpAny (model prog w) A (getAttr? (.ref a) "keys") Q E s := by
  obtain ⟨hp, g, d, tk, os⟩ := s
  have hT : (⟨hp, g, d, tk, os⟩ : Shared).TypeIs (.ref a) "list" := ⟨_, hx, rfl⟩
  have hT' : ∀ t' : Nat, (⟨hp, g, d, t', os⟩ : Shared).TypeIs (.ref a) "list" := fun _ => ⟨_, hx, rfl⟩
  have f1 := sub_AttributeError
  have f3 := F.slot_list_getattribute.lookup
  have f4 := F.slot_list_getattribute.bind (.ref a)
  have f5 := noGetattr
  unfold getAttr? getAttrBy? getAttrBy
  repeat (any_goals (first | assumption | ((with_reducible show wpAny _ _ (call (Value.builtin "list.__getattribute__") _ _) _ _ _); refine call_meets F.slot_list_getattribute (hT' _) F.entry_list_ga (F.args_list_getattribute_2 _ _) (lacksKeys a _ its n sl) ⟨hx, hA, fun h' tk' e he => ?_⟩) | wp_step))
  obtain ⟨t', u', ee⟩ := he.there
  refine (show wpAny _ _ (getattributeRaised _ _ _ _ _ _ _) _ _ _ from ?_)
  unfold getattributeRaised
  repeat (any_goals (first | assumption | wp_step))
  exact k _ _ he.keeps
end
end L2

namespace L2
open PySem PySem.Spec PyProof.Rows
/-! ### dict of a list of pairs: the loop, the call -/
theorem entry_updLoop : entryFor table "dict.update.loop" = some Builtin.«dict.update.loop» := entryFor_of_fast (by kernel_rfl)
theorem plain_updLoop : plainId "dict.update.loop" = true := by decide +kernel
/-- a pair in the list: its tuple, its key, the key's tuple, its value -/
structure Pr where
  t : Addr
  k : List Key
  b : Addr
  v : V
noncomputable def Pr.At (H : Hp) (p : Pr) : Prop := H p.t = some (.tup [.ref p.b, p.v]) ∧ H p.b = some (.tup (p.k.map kV))
noncomputable def putAll (kvs : List (List Key × V)) (ps : List Pr) : List (List Key × V) := ps.foldl (fun acc p => putK acc p.k p.v) kvs
section
variable {X : Cx} {pins : List (Addr × Obj)} {σ : St} {H : Hp}
theorem updLoop {A : Around} {E : Value → Shared → Prop} {R : Result → Shared → Prop} {d it l : Addr} {ps : List Pr} (hh : A.handled = none) (hu : A.units + 1 < cLine) (hl : H l = some (.lst (ps.map fun p => V.ref p.t))) (hp : ∀ p ∈ ps, p.At H) (hd : H d = none) (hit : H it = none) (hdi : d ≠ it) :
    ∀ (n i : Nat) (s : Shared) (kvs : List (List Key × V)), ps.length - i = n → i ≤ ps.length → kvs.length + n ≤ sizeLine → Inv X pins σ (upd H d (.dT kvs)) s → FpOk X pins (upd H d (.dT kvs)) it → s.heap.IsListIter it l i →
      (∀ s', Inv X pins σ (upd H d (.dT (putAll kvs (ps.drop i)))) s' → R (.ok (.ret .none)) s') →
      codeAny (model X.prog X.w) A (.builtin "dict.update.loop" ⟨[.ref d, .ref it, rawInt i, .none], []⟩) R s := by
  intro n
  induction n with
  | zero =>
    intro i s kvs hn hi hz I fp st k
    have e : i = ps.length := by omega
    refine codeAny_builtin entry_updLoop ?_
    rw [Around.under_plainId plain_updLoop _]
    have hl' : (upd H d (.dT kvs)) l = some (.lst (ps.map fun p => V.ref p.t)) := (Same.new hd) _ _ hl
    obtain ⟨z, its, m, r, len, el⟩ := I.lstM hl'
    refine (show wpAny _ A.in1 (pyNext (.ref it) >>= _) _ _ s from wpAny_bind (wpAny_pyNext_list_end (show A.in1.handled = none from hh) st ⟨_, el, rfl, _, rfl⟩ (by rw [List.length_map] at len; simp; omega) fun g eb => ?_))
    have I1 := I.turned (t' := s.toks) (h' := g) (fun b o hb e => eb b o hb e) fp.1 fp.2.1 fp.2.2.2.1 fp.2.2.2.2.1 fp.2.2.2.2.2
    rw [e, List.drop_length] at k
    exact wpAny_bind (wpAny_pure (wpAny_pure (k _ I1)))
  | succ n ih =>
    intro i s kvs hn hi hz I fp st k
    have lt : i < ps.length := by omega
    have ei : ps[i]? = some ps[i] := List.getElem?_eq_getElem lt
    obtain ⟨ht, hb⟩ := hp ps[i] (List.getElem_mem lt)
    refine codeAny_builtin entry_updLoop ?_
    rw [Around.under_plainId plain_updLoop _]
    have hl' : (upd H d (.dT kvs)) l = some (.lst (ps.map fun p => V.ref p.t)) := (Same.new hd) _ _ hl
    have ht' : (upd H d (.dT kvs)) ps[i].t = some (.tup [.ref ps[i].b, ps[i].v]) := (Same.new hd) _ _ ht
    have hb' : (upd H d (.dT kvs)) ps[i].b = some (.tup (ps[i].k.map kV)) := (Same.new hd) _ _ hb
    obtain ⟨z, its, m, r, len, el⟩ := I.lstM hl'
    obtain ⟨u, eu, ru⟩ := r.get (i := i) (x := V.ref ps[i].t) (by rw [List.getElem?_map, ei]; rfl)
    obtain rfl : u = Value.ref ps[i].t := ru
    refine (show wpAny _ A.in1 (pyNext (.ref it) >>= _) _ _ s from wpAny_bind (wpAny_pyNext_list_item st ⟨_, el, rfl, _, rfl⟩ (x := Value.ref ps[i].t) (by simpa using eu) fun g st' sb => ?_))
    have I1 : Inv X pins σ (upd H d (.dT kvs)) { s with heap := g } := I.turned (t' := s.toks) (fun b o hb e => sb.extBut b o hb e) fp.1 fp.2.1 fp.2.2.2.1 fp.2.2.2.2.1 fp.2.2.2.2.2
    obtain ⟨_, prs, rp, ot, eo, co, nt, dt⟩ := (show ObjOk X.prog X.w _ g ps[i].t (.tup [.ref ps[i].b, ps[i].v]) from I1.hok _ _ ht')
    obtain ⟨u1, u2, rfl, r1, r2⟩ := vals2 rp
    obtain rfl : u1 = Value.ref ps[i].b := r1
    refine wpAny_bind (wpAny_holding (wpAny_bind (wpAny_tryCatch ?_)))
    unfold Builtin.Dict.pairItems
    refine wpAny_bind (wpAny_typeOf (T := "tuple") ⟨ot, eo, co⟩ ?_)
    rw [if_pos (by decide)]
    refine wpAny_bind (wpAny_seqItems eo dt (wpAny_pure ?_))
    obtain ⟨zz, hd2, xs, rel, dd⟩ := dt_of I1.hok (show (upd H d (.dT kvs)) d = some (.dT kvs) from upd_same)
    have xl : xs.length = kvs.length := (Paired.length rel).symm
    refine wpAny_holding (wpAny_dictSet_heap (knd := tupleKind (mixKind X.prog X.w)) (hsz := by rw [xl]; omega) (tupleKind_room_in1 hu) (key_of I1.hok hb') dd fun g2 dd2 sb2 => ?_)
    have hl2 : (putK kvs ps[i].k ps[i].v).length ≤ sizeLine := by have := length_putK kvs ps[i].k ps[i].v; omega
    obtain ⟨qo, es, ep, hq, h2, h3, h4, _, h5⟩ := dd2
    have I2 := d_write (ob := .dT (putK kvs ps[i].k ps[i].v)) (t' := s.toks + (tupleKind (mixKind X.prog X.w)).draws ps[i].k) I1 (by rw [upd_same]; exact True.intro) sb2 ⟨qo, hq⟩ ⟨hl2, hd2, _, KT.keeps (KT.put rel ps[i].k hb' r2) (fun c ys ec => by
      rw [upd_ne (ne_of ec (show (upd H d (.dT kvs)) d = some (.dT kvs) from upd_same) (fun z => nomatch z))]; exact ec), qo, es, ep, hq, h2, h3, h4, h5⟩
    rw [upd_upd] at I2
    have fp2 : FpOk X pins (upd H d (.dT (putK kvs ps[i].k ps[i].v))) it := ⟨by rw [upd_ne (Ne.symm hdi)]; exact hit, fp.2⟩
    refine wpAny_pure ⟨plainId_quiet plain_updLoop _, ?_⟩
    have st2 : g2.IsListIter it l (i + 1) := st'.extBut sb2.extBut (Ne.symm hdi)
    refine ih (i + 1) _ (putK kvs ps[i].k ps[i].v) (by omega) lt ?_ I2 fp2 st2 fun s' I' => k s' ?_
    · have := length_putK kvs ps[i].k ps[i].v; omega
    · rw [List.drop_eq_getElem_cons lt]
      exact I'
theorem call_dictPrs (hc : X.calm = true) (hu : X.A.units + 64 < cLine) : CallR X (.type "dict") (fun xs H Q => ∃ (l : Addr) (ps : List Pr), xs = [.ref l] ∧ H l = some (.lst (ps.map fun p => V.ref p.t)) ∧ (∀ p ∈ ps, p.At H) ∧ ps.length ≤ 1000 ∧ ∀ d, H d = none → Q (.ref d) (upd H d (.dT (putAll [] ps)))) := by
  intro pins s σ H xs us Q I r h
  obtain ⟨l, ps, rfl, hl, hp, hz, q⟩ := h
  obtain ⟨u, rfl, rx⟩ := vals1 r
  cases rx
  have nd : H s.heap.objs.size = none := I.fresh
  have I1 : Inv X pins σ (upd H s.heap.objs.size (.dT [])) { s with heap := s.heap.push { cls := .type "dict", data := .dict #[] } } := I.laid (t' := s.toks) (fun b o e => Heap.get?_push_of_some _ e) (Nat.le_refl _) (dt_empty _ I.big)
  obtain ⟨_, its, m, rv, len, el⟩ := I1.lstM ((Same.new nd) _ _ hl)
  have ty : Shared.TypeIs { s with heap := s.heap.push { cls := .type "dict", data := .dict #[] } } (.ref s.heap.objs.size) "dict" := ⟨_, Heap.get?_push_size _ rfl, rfl⟩
  refine callType_codes (Q₁ := fun obj s₁ => obj = .ref s.heap.objs.size ∧ s₁ = { s with heap := s.heap.push { cls := .type "dict", data := .dict #[] } }) F.kt_called_dict (F.kt_typeCall_dict_1 _) F.entry_dict_init (kt_code_dict_new _ ⟨rfl, rfl⟩) ?_
  rintro obj s₁ ⟨rfl, rfl⟩
  refine ⟨ty, F.args_dict_init_2 _ _, ?_⟩
  unfold Builtin.«dict.__init__» Builtin.Dict.selfAndRest
  refine wpAny_bind (wpAny_bind (wpAny_notOrdered_dict ty (wpAny_pure ?_)))
  refine (show wpAny _ _ (Builtin.Dict.updateFrom "dict.__init__" s.heap.objs.size (.ref l) [] .none) _ _ _ from ?_)
  unfold Builtin.Dict.updateFrom
  refine wpAny_bind (wpAny_typeOf (T := "list") ⟨_, el, rfl⟩ ?_)
  rw [if_pos (by decide)]
  refine wpAny_bind (keysNone (show X.A.in1.in1.handled = none from I.ok.hd hc) el fun g tk kp => ?_)
  have I2 : Inv X pins σ (upd H s.heap.objs.size (.dT [])) { s with heap := g, toks := tk } := I1.kept kp
  have el2 := kp _ _ el
  rw [if_pos (by rfl)]
  refine wpAny_bind (wpAny_rule (wpAny_bind (wpAny_pyIter_list (s := { s with heap := g, toks := tk }) ⟨_, el2, rfl, _, rfl⟩ ?_)))
  have nit : (upd H s.heap.objs.size (.dT [])) g.objs.size = none := I2.hok.fresh (Nat.le_refl _)
  have hne : s.heap.objs.size ≠ g.objs.size := fun z => by rw [← z, upd_same] at nit; cases nit
  have I3 := I2.kept (t' := tk) (h' := g.push { cls := .type "list_iterator", data := .fields #[.ref l, .int 0 0] }) fun b o e => Heap.get?_push_of_some _ e
  refine wpAny_pure ⟨plainId_quiet plain_updLoop _, ?_⟩
  refine updLoop (E := X.xe) (H := H) (ps := ps) (l := l) (show X.A.in1.handled = none from I.ok.hd hc) (show X.A.units + 1 + 1 < cLine by omega) hl hp nd (by rw [upd_ne (Ne.symm hne)] at nit; exact nit) hne ps.length 0 _ [] rfl (Nat.zero_le _) (Nat.le_of_lt (small1000 (by simpa using hz))) I3 (I2.fpOk (Nat.le_refl _) nit) ⟨_, Heap.get?_push_size _ rfl, rfl, rfl⟩ fun s' I' => ?_
  exact ⟨rfl, .ref s.heap.objs.size, _, I', rfl, q _ nd⟩
end
end L2

namespace L2
open PySem PySem.Spec PyProof.Rows
/-! ### (x,) * n -/
theorem noMulT : fillsNumberSlot (.type "tuple") "mul" = pure false := by first | (rw [fillsNumberSlot_type]; kernel_rfl) | (unfold fillsNumberSlot; kernel_rfl) | kernel_rfl
theorem repT : seqRepeat? (.type "tuple") = pure (some (.builtin "tuple.__mul__")) := by first | (unfold seqRepeat?; kernel_rfl) | kernel_rfl
theorem rmulT (a : Int) (t : Tok) (l : Addr) (its : Array Value) (n : Nat) (sl : Array (Option Value)) (dd : Option Addr) :
    Meets (Builtin.«int.__rmul__» ⟨[.int a t, .ref l], []⟩) (fun _ R s => s.heap.get? l = some { cls := .type "tuple", dict := dd, data := .seq its n, slots := sl } ∧ R (.ok (.ret .notImplemented)) s) :=
  .of_wp fun prog w A R s h => by
    obtain ⟨hp, g, d, tk, os⟩ := s; obtain ⟨hl, h⟩ := h
    wp_walk
    exact ⟨_, rfl, h⟩
theorem mulT1 (l : Addr) (its : Array Value) (n : Nat) (u : Tok) (sl : Array (Option Value)) (dd : Option Addr) (hne : its.isEmpty = false) :
    Meets (Builtin.«tuple.__mul__» ⟨[.ref l, .int 1 u], []⟩) (fun _ R s => s.heap.get? l = some { cls := .type "tuple", dict := dd, data := .seq its n, slots := sl } ∧ R (.ok (.ret (.ref l))) s) :=
  .of_wp fun prog w A R s h => by
    obtain ⟨hp, g, d, tk, os⟩ := s; obtain ⟨hl, h⟩ := h
    have f1 := AutoSeq1.idx_int
    wp_walk using wpAny_loadPart' hl
    exact ⟨_, rfl, h⟩
theorem mulTn (l : Addr) (its : Array Value) (n : Nat) (x : Int) (u : Tok) (sl : Array (Option Value)) (dd : Option Addr) (hne : its.isEmpty = false) (h0 : (decide (x < -(2 ^ 63)) || decide (x ≥ 2 ^ 63)) = false) (h1 : (x == 1) = false) (h2 : decide (x ≤ 0) = false)
    (h3 : ¬ (its.size : Int) * x > (2 ^ 63 - 1) / 8) (h4 : Builtin.Tuple.tupleTooMany ((its.size : Int) * x) = false) (h5 : (List.foldl (fun x1 x2 => x1 ++ x2) #[] (List.replicate x.toNat its)).size ≤ sizeLine) :
    Meets (Builtin.«tuple.__mul__» ⟨[.ref l, .int x u], []⟩) (fun _ R s => s.heap.get? l = some { cls := .type "tuple", dict := dd, data := .seq its n, slots := sl } ∧ R (.ok (.ret (.ref s.heap.objs.size))) { s with heap := s.heap.push { cls := .type "tuple", data := .seq (List.foldl (fun x1 x2 => x1 ++ x2) #[] (List.replicate x.toNat its)) } }) :=
  .of_wp fun prog w A R s h => by
    obtain ⟨hp, g, d, tk, os⟩ := s; obtain ⟨hl, h⟩ := h
    have f1 := AutoSeq1.idx_int
    wp_walk using wpAny_loadPart' hl
    refine wpAny_ite_false (decide_eq_false (by rw [h0]; exact Bool.false_ne_true)) ?_
    wp_walk using wpAny_loadPart' hl
    refine wpAny_ite_false (decide_eq_false h3) ?_
    wp_walk using wpAny_loadPart' hl
    exact ⟨_, rfl, h⟩
/-- (x,) * k, 1 ≤ k -/
noncomputable def rRepT : R2 := fun x y H Q => ∃ (l : Addr) (v : V) (k : Nat), x = .ref l ∧ y = vN k ∧ H l = some (.tup [v]) ∧ 1 ≤ k ∧ k ≤ 1000 ∧ (k = 1 → Q (.ref l) H) ∧ (2 ≤ k → ∀ p, H p = none → Q (.ref p) (upd H p (.tup (List.replicate k v))))
theorem foldl_one (u : Value) : ∀ (k : Nat), List.foldl (fun x1 x2 => x1 ++ x2) #[] (List.replicate k #[u]) = (List.replicate k u).toArray := fun k => by
  have h := foldl_rep [u] k []
  rw [List.nil_append] at h
  refine h.trans ?_
  congr 1
  induction k with
  | zero => rfl
  | succ k ih => rw [List.replicate_succ, List.flatten_cons, ih (by
      have h := foldl_rep [u] k []
      rw [List.nil_append] at h
      exact h), List.replicate_succ]; rfl
theorem vals_rep {v : V} {u : Value} (r : RelV v u) : ∀ k : Nat, Vals (List.replicate k v) (List.replicate k u)
  | 0 => .nil
  | k + 1 => by rw [List.replicate_succ, List.replicate_succ]; exact .cons r (vals_rep r k)
theorem op_repTI {X : Cx} (i : Int) : OpR X (binaryOp .Mult) (fun x y H Q => ∃ (l : Addr) (v : V), x = .ref l ∧ y = .int i ∧ H l = some (.tup [v]) ∧ 1 ≤ i ∧ i ≤ 1000 ∧ (i = 1 → Q (.ref l) H) ∧ (2 ≤ i → ∀ p, H p = none → Q (.ref p) (upd H p (.tup (List.replicate i.toNat v))))) := by
  intro pins s σ H x y v u Q I rx ry h
  obtain ⟨l, w, rfl, rfl, hH, h1, h2, q1, q2⟩ := h
  cases rx
  obtain ⟨t, rfl⟩ := ry
  obtain ⟨_, its, rv, ⟨cls, dd, data, sl⟩, e, hc, n, hd⟩ := (show ObjOk X.prog X.w H s.heap l (.tup [w]) from I.hok l _ hH)
  simp only at hc hd
  subst hc hd
  obtain ⟨c, rfl, rc⟩ := vals1 rv
  refine wpAny_binaryOp_repeat_ref (T := "tuple") (U := "int") (by decide) ⟨_, e, rfl⟩ (fun s' => typeIs_int s' i t) noMulT F.fills_int_mul F.slot_int_rmul repT F.slot_int_index.lookup
    (call_meets F.slot_int_rmul (typeIs_int s i t) F.entry_int_rmul (F.args_int_rmul_2 _ _) (rmulT i t l [c].toArray n sl dd) ⟨e, rfl, ⟨_, e, rfl⟩, ?_⟩)
  by_cases hi : i = 1
  · subst hi
    exact call_meets F.slot_tuple_mul ⟨_, e, rfl⟩ F.entry_tuple_mul (F.args_tuple_mul_2 _ _) (mulT1 l [c].toArray n t sl dd rfl) ⟨e, ⟨.ref l, H, I, rfl, q1 rfl⟩⟩
  · have hf := foldl_one c i.toNat
    have hsz : (1000 : Nat) ≤ sizeLine := by rw [sizeLine_eq]; decide
    refine call_meets F.slot_tuple_mul ⟨_, e, rfl⟩ F.entry_tuple_mul (F.args_tuple_mul_2 _ _) (mulTn l [c].toArray n i t sl dd rfl (by rw [Bool.or_eq_false_iff, decide_eq_false_iff_not, decide_eq_false_iff_not]; omega) (by rw [beq_eq_false_iff_ne]; exact hi) (by rw [decide_eq_false_iff_not]; omega)
      (by rw [List.size_toArray]; show ¬ ((1 : Nat) : Int) * i > _; omega) (by unfold Builtin.Tuple.tupleTooMany; rw [decide_eq_false_iff_not, List.size_toArray]; show ¬ ((1 : Nat) : Int) * i > _; omega) (by rw [show ([c].toArray : Array Value) = #[c] from rfl, hf, List.size_toArray, List.length_replicate]; omega)) ⟨e, ?_⟩
    rw [show ([c].toArray : Array Value) = #[c] from rfl, hf]
    refine ⟨.ref s.heap.objs.size, _, I.laid (t' := s.toks) (fun b o eb => Heap.get?_push_of_some _ eb) (Nat.le_refl _) (show ObjOk X.prog X.w _ _ _ (.tup (List.replicate i.toNat w)) from ⟨by rw [List.length_replicate]; omega, _, vals_rep rc i.toNat, ⟨_, Heap.get?_push_size _ rfl, rfl, _, rfl⟩⟩), rfl, q2 (by omega) _ I.fresh⟩
theorem op_repT {X : Cx} : OpR X (binaryOp .Mult) rRepT := fun pins s σ H x y v u Q I rx ry ⟨l, w, k, h1, h2, h3, h4, h5, q1, q2⟩ =>
  op_repTI (k : Int) pins s σ H x y v u Q I rx ry ⟨l, w, h1, h2, h3, by omega, by omega, fun e => q1 (by omega), fun e p hp => by
    have := q2 (by omega) p hp
    rw [Int.toNat_natCast]
    exact this⟩
end L2

namespace L2
open PySem PySem.Spec PyProof.Rows
/-! ### books: rows with their places, groups of rows -/
noncomputable abbrev RW := Addr × List Int
noncomputable def seenL (r : List Int) (s : Nat) : List Int := mixL r (List.replicate r.length 0) s
noncomputable def tks (r : List Int) : List Key := r.map Sum.inl
theorem tks_kV (r : List Int) : (tks r).map kV = r.map V.int := by unfold tks; rw [List.map_map]; rfl
theorem tks_inj : ∀ {a b : List Int}, tks a = tks b → a = b
  | [], [], _ => rfl
  | [], _ :: _, h => by cases h
  | _ :: _, [], h => by cases h
  | x :: a, y :: b, h => by
    have h1 : (Sum.inl x : Key) = Sum.inl y := (List.cons.inj h).1
    have h2 : tks a = tks b := (List.cons.inj h).2
    rw [Sum.inl.inj h1, tks_inj h2]
/-- a group: its key, its list's place, its rows -/
structure Gr where
  key : List Int
  at_ : Addr
  rows : List RW
noncomputable def kvsOf (G : List Gr) : List (List Key × V) := G.map fun g => (tks g.key, V.ref g.at_)
noncomputable def refsOf (rs : List RW) : List V := rs.map fun rw => V.ref rw.1
structure GroupsAt (H : Hp) (d : Addr) (G : List Gr) : Prop where
  dict : H d = some (.dT (kvsOf G))
  lists : ∀ g ∈ G, H g.at_ = some (.lst (refsOf g.rows))
  keys : (G.map (·.key)).Nodup
  ats : (G.map (·.at_)).Nodup
noncomputable def addG (gs : List (List Int × List RW)) (key : List Int) (rw : RW) : List (List Int × List RW) :=
  if gs.any (fun g => decide (g.1 = key)) = true then gs.map (fun g => if g.1 = key then (g.1, g.2 ++ [rw]) else g) else gs ++ [(key, [rw])]
noncomputable def groupsL (rws : List RW) (s : Nat) : List (List Int × List RW) := rws.foldl (fun gs rw => addG gs (seenL rw.2 s) rw) []
noncomputable def forget (G : List Gr) : List (List Int × List RW) := G.map fun g => (g.key, g.rows)
theorem groupsL_snoc (rws : List RW) (rw : RW) (s : Nat) : groupsL (rws ++ [rw]) s = addG (groupsL rws s) (seenL rw.2 s) rw := by
  unfold groupsL; rw [List.foldl_append]; rfl
theorem valV_G {key : List Int} : ∀ G : List Gr, valV (kvsOf G) (tks key) = (G.find? fun g => decide (g.key = key)).map fun g => V.ref g.at_
  | [] => rfl
  | g :: G => by
    by_cases h : g.key = key
    · rw [show kvsOf (g :: G) = (tks g.key, V.ref g.at_) :: kvsOf G from rfl, valV_pos (by show tks g.key = _; rw [h]), List.find?_cons, decide_eq_true h]
      rfl
    · rw [show kvsOf (g :: G) = (tks g.key, V.ref g.at_) :: kvsOf G from rfl, valV_neg (fun e => h (tks_inj e)), List.find?_cons, decide_eq_false h, valV_G G]
noncomputable def updG (G : List Gr) (key : List Int) (rw : RW) : List Gr := G.map fun g => if g.key = key then { g with rows := g.rows ++ [rw] } else g
theorem updG_keys (G : List Gr) (key : List Int) (rw : RW) : (updG G key rw).map (·.key) = G.map (·.key) := by
  unfold updG; rw [List.map_map]
  refine List.map_congr_left fun g _ => ?_
  show (if g.key = key then _ else g).key = g.key
  split <;> rfl
theorem updG_ats (G : List Gr) (key : List Int) (rw : RW) : (updG G key rw).map (·.at_) = G.map (·.at_) := by
  unfold updG; rw [List.map_map]
  refine List.map_congr_left fun g _ => ?_
  show (if g.key = key then _ else g).at_ = g.at_
  split <;> rfl
theorem updG_kvs (G : List Gr) (key : List Int) (rw : RW) : kvsOf (updG G key rw) = kvsOf G := by
  unfold kvsOf updG; rw [List.map_map]
  refine List.map_congr_left fun g _ => ?_
  show (tks (if g.key = key then _ else g).key, V.ref (if g.key = key then _ else g).at_) = _
  split <;> rfl
theorem any_forget (G : List Gr) (key : List Int) : ((forget G).any fun g => decide (g.1 = key)) = (G.find? fun g => decide (g.key = key)).isSome := by
  unfold forget
  rw [Bool.eq_iff_iff, List.any_eq_true, List.find?_isSome]
  constructor
  · rintro ⟨x, hx, e⟩
    obtain ⟨g, hg, rfl⟩ := List.mem_map.mp hx
    exact ⟨g, hg, e⟩
  · rintro ⟨g, hg, e⟩
    exact ⟨(g.key, g.rows), List.mem_map.mpr ⟨g, hg, rfl⟩, e⟩
theorem forget_upd {G : List Gr} {key : List Int} {rw : RW} (h : (G.find? fun g => decide (g.key = key)).isSome = true) : forget (updG G key rw) = addG (forget G) key rw := by
  unfold addG
  rw [if_pos (by rw [any_forget]; exact h)]
  unfold forget updG
  rw [List.map_map, List.map_map]
  refine List.map_congr_left fun g _ => ?_
  show ((if g.key = key then _ else g : Gr).key, (if g.key = key then _ else g : Gr).rows) = if g.key = key then _ else _
  split <;> rfl
theorem forget_new {G : List Gr} {key : List Int} {rw : RW} {l : Addr} (h : (G.find? fun g => decide (g.key = key)) = none) : forget (G ++ [⟨key, l, [rw]⟩]) = addG (forget G) key rw := by
  unfold addG
  rw [if_neg (by rw [any_forget, h]; exact Bool.false_ne_true)]
  unfold forget
  rw [List.map_append]
  rfl
theorem find_none_key {G : List Gr} {key : List Int} (h : (G.find? fun g => decide (g.key = key)) = none) : key ∉ G.map (·.key) := fun hm => by
  obtain ⟨g, hg, e⟩ := List.mem_map.mp hm
  have := List.find?_eq_none.mp h g hg
  exact this (decide_eq_true e)
/-- a row goes into a group that is there -/
theorem GroupsAt.old {H : Hp} {d : Addr} {G : List Gr} {key : List Int} {rw : RW} {g : Gr} (A : GroupsAt H d G) (h : (G.find? fun g => decide (g.key = key)) = some g) : g ∈ G ∧ g.key = key ∧ GroupsAt (upd H g.at_ (.lst (refsOf g.rows ++ [V.ref rw.1]))) d (updG G key rw) := by
  have hm := List.mem_of_find?_eq_some h
  have hk : g.key = key := by
    have h1 := List.find?_some (p := fun g : Gr => decide (g.key = key)) h
    exact of_decide_eq_true h1
  have hl := A.lists g hm
  have ne : g.at_ ≠ d := ne_of hl A.dict (fun z => nomatch z)
  refine ⟨hm, hk, ⟨by rw [updG_kvs, upd_ne (Ne.symm ne)]; exact A.dict, fun g' hg' => ?_, by rw [updG_keys]; exact A.keys, by rw [updG_ats]; exact A.ats⟩⟩
  obtain ⟨g0, h0, rfl⟩ := List.mem_map.mp hg'
  have uniq : ∀ g1 ∈ G, ∀ g2 ∈ G, g1.at_ = g2.at_ → g1 = g2 := by
    have : ∀ (L : List Gr), (L.map (·.at_)).Nodup → ∀ g1 ∈ L, ∀ g2 ∈ L, g1.at_ = g2.at_ → g1 = g2 := by
      intro L
      induction L with
      | nil => intro _ g1 h1; cases h1
      | cons x L ih =>
        intro hn g1 h1 g2 h2 e
        rw [List.map_cons, List.nodup_cons] at hn
        rcases List.mem_cons.mp h1 with rfl | k1 <;> rcases List.mem_cons.mp h2 with rfl | k2
        · rfl
        · exact absurd (List.mem_map.mpr ⟨g2, k2, e.symm⟩) hn.1
        · exact absurd (List.mem_map.mpr ⟨g1, k1, e⟩) hn.1
        · exact ih hn.2 g1 k1 g2 k2 e
    exact this G A.ats
  have uniqk : ∀ g1 ∈ G, g1.key = key → g1 = g := by
    have : ∀ (L : List Gr), (L.map (·.key)).Nodup → ∀ g1 ∈ L, ∀ g2 ∈ L, g1.key = g2.key → g1 = g2 := by
      intro L
      induction L with
      | nil => intro _ g1 h1; cases h1
      | cons x L ih =>
        intro hn g1 h1 g2 h2 e
        rw [List.map_cons, List.nodup_cons] at hn
        rcases List.mem_cons.mp h1 with rfl | k1 <;> rcases List.mem_cons.mp h2 with rfl | k2
        · rfl
        · exact absurd (List.mem_map.mpr ⟨g2, k2, e.symm⟩) hn.1
        · exact absurd (List.mem_map.mpr ⟨g1, k1, e⟩) hn.1
        · exact ih hn.2 g1 k1 g2 k2 e
    exact fun g1 h1 e => this G A.keys g1 h1 g hm (e.trans hk.symm)
  by_cases e : g0.key = key
  · obtain rfl := uniqk g0 h0 e
    rw [if_pos e]
    show upd H g0.at_ _ g0.at_ = some (.lst (refsOf (g0.rows ++ [rw])))
    rw [upd_same]
    unfold refsOf
    rw [List.map_append]
    rfl
  · rw [if_neg e, upd_ne]
    · exact A.lists g0 h0
    · intro z
      exact e ((uniq g0 h0 g hm z) ▸ hk)
/-- a new group -/
theorem GroupsAt.snoc {H : Hp} {d l : Addr} {G : List Gr} {key : List Int} {rw : RW} (A : GroupsAt H d G) (h : (G.find? fun g => decide (g.key = key)) = none) (hl : H l = some (.lst [])) (hn : ∀ g ∈ G, g.at_ ≠ l) :
    GroupsAt (upd (upd H d (.dT (putK (kvsOf G) (tks key) (V.ref l)))) l (.lst ([] ++ [V.ref rw.1]))) d (G ++ [⟨key, l, [rw]⟩]) := by
  have ne : l ≠ d := ne_of hl A.dict (fun z => nomatch z)
  have hv : valV (kvsOf G) (tks key) = none := by rw [valV_G, h]; rfl
  refine ⟨?_, fun g hg => ?_, ?_, ?_⟩
  · rw [upd_ne (Ne.symm ne), upd_same, putK_new _ hv]
    unfold kvsOf
    rw [List.map_append]
    rfl
  · rcases List.mem_append.mp hg with hg | hg
    · have hgl := A.lists g hg
      rw [upd_ne (hn g hg), upd_ne (ne_of hgl A.dict (fun z => nomatch z))]
      exact hgl
    · rw [List.mem_singleton.mp hg]
      exact upd_same
  · rw [List.map_append, List.nodup_append]
    refine ⟨A.keys, by simp, fun x hx y hy e => find_none_key h ?_⟩
    have hy' : y = key := by simpa using hy
    rw [← hy', ← e]; exact hx
  · rw [List.map_append, List.nodup_append]
    refine ⟨A.ats, by simp, fun x hx y hy e => ?_⟩
    have hy' : y = l := by simpa using hy
    obtain ⟨g, hg, rfl⟩ := List.mem_map.mp hx
    exact hn g hg (e.trans hy')
/-! ### what a group is -/
theorem addG_mem {gs : List (List Int × List RW)} {key : List Int} {rw : RW} (hn : (gs.map (·.1)).Nodup) : ∀ g ∈ addG gs key rw, (g ∈ gs ∧ g.1 ≠ key) ∨ (g.1 = key ∧ ((∃ rs, (key, rs) ∈ gs ∧ g.2 = rs ++ [rw]) ∨ ((∀ g' ∈ gs, g'.1 ≠ key) ∧ g.2 = [rw]))) := by
  intro g hg
  unfold addG at hg
  by_cases h : (gs.any fun g => decide (g.1 = key)) = true
  · rw [if_pos h] at hg
    obtain ⟨g0, h0, rfl⟩ := List.mem_map.mp hg
    by_cases e : g0.1 = key
    · rw [if_pos e]
      exact .inr ⟨e, .inl ⟨g0.2, by rw [← e]; exact h0, rfl⟩⟩
    · rw [if_neg e]
      exact .inl ⟨h0, e⟩
  · rw [if_neg h] at hg
    have all : ∀ g' ∈ gs, g'.1 ≠ key := fun g' h' e => h (List.any_eq_true.mpr ⟨g', h', decide_eq_true e⟩)
    rcases List.mem_append.mp hg with hg | hg
    · exact .inl ⟨hg, all g hg⟩
    · rw [List.mem_singleton.mp hg]
      exact .inr ⟨rfl, .inr ⟨all, rfl⟩⟩
theorem addG_keys {gs : List (List Int × List RW)} {key : List Int} {rw : RW} (hn : (gs.map (·.1)).Nodup) : ((addG gs key rw).map (·.1)).Nodup := by
  unfold addG
  by_cases h : (gs.any fun g => decide (g.1 = key)) = true
  · rw [if_pos h, List.map_map]
    have e : gs.map ((·.1) ∘ fun g => if g.1 = key then (g.1, g.2 ++ [rw]) else g) = gs.map (·.1) := List.map_congr_left fun g _ => by
      show (if g.1 = key then _ else g : List Int × List RW).1 = g.1
      split <;> rfl
    rw [e]; exact hn
  · rw [if_neg h, List.map_append, List.nodup_append]
    refine ⟨hn, by simp, fun x hx y hy e => h ?_⟩
    have hy' : y = key := by simpa using hy
    obtain ⟨g, hg, rfl⟩ := List.mem_map.mp hx
    exact List.any_eq_true.mpr ⟨g, hg, decide_eq_true (e.trans hy')⟩
theorem snocInd {α : Type} {P : List α → Prop} (h0 : P []) (hs : ∀ l x, P l → P (l ++ [x])) (l : List α) : P l := by
  have : ∀ m : List α, P m.reverse := by
    intro m
    induction m with
    | nil => exact h0
    | cons x m ih => rw [List.reverse_cons]; exact hs _ _ ih
  rw [← List.reverse_reverse l]
  exact this _
/-- the groups of a book: each holds just the rows that are seen as its key, none is empty, each row stands in one -/
theorem groups_spec (s : Nat) (rws : List RW) : ((groupsL rws s).map (·.1)).Nodup ∧ (∀ g ∈ groupsL rws s, g.2 ≠ [] ∧ ∀ rw, rw ∈ g.2 ↔ rw ∈ rws ∧ seenL rw.2 s = g.1) ∧ ∀ rw ∈ rws, ∃ g ∈ groupsL rws s, g.1 = seenL rw.2 s := by
  refine snocInd (P := fun rws => ((groupsL rws s).map (·.1)).Nodup ∧ (∀ g ∈ groupsL rws s, g.2 ≠ [] ∧ ∀ rw, rw ∈ g.2 ↔ rw ∈ rws ∧ seenL rw.2 s = g.1) ∧ ∀ rw ∈ rws, ∃ g ∈ groupsL rws s, g.1 = seenL rw.2 s) ?_ ?_ rws
  · exact ⟨List.nodup_nil, fun g hg => absurd hg List.not_mem_nil, fun rw h => absurd h List.not_mem_nil⟩
  · intro rws x ih
    obtain ⟨hn, hg, hc⟩ := ih
    rw [groupsL_snoc]
    refine ⟨addG_keys hn, fun g hm => ?_, fun rw hr => ?_⟩
    · rcases addG_mem hn g hm with ⟨h1, h2⟩ | ⟨h1, ⟨rs, h2, h3⟩ | ⟨h2, h3⟩⟩
      · refine ⟨(hg g h1).1, fun rw => ?_⟩
        rw [(hg g h1).2 rw, List.mem_append, List.mem_singleton]
        exact ⟨fun ⟨a, b⟩ => ⟨.inl a, b⟩, fun ⟨a, b⟩ => ⟨a.resolve_right fun e => h2 (by rw [← b, e]), b⟩⟩
      · refine ⟨by rw [h3]; simp, fun rw => ?_⟩
        rw [h3, List.mem_append, List.mem_singleton, (hg _ h2).2 rw, List.mem_append, List.mem_singleton, h1]
        constructor
        · rintro (⟨a, b⟩ | rfl)
          · exact ⟨.inl a, b⟩
          · exact ⟨.inr rfl, rfl⟩
        · rintro ⟨a | a, b⟩
          · exact .inl ⟨a, b⟩
          · exact .inr a
      · refine ⟨by rw [h3]; simp, fun rw => ?_⟩
        rw [h3, List.mem_singleton, List.mem_append, List.mem_singleton, h1]
        constructor
        · rintro rfl; exact ⟨.inr rfl, rfl⟩
        · rintro ⟨a | a, b⟩
          · obtain ⟨g', hg', e'⟩ := hc rw a
            exact absurd (e'.trans b) (h2 g' hg')
          · exact a
    · have mem : ∀ key, (∃ g ∈ groupsL rws s, g.1 = key) ∨ key = seenL x.2 s → ∃ g ∈ addG (groupsL rws s) (seenL x.2 s) x, g.1 = key := by
        intro key h
        unfold addG
        by_cases hany : ((groupsL rws s).any fun g => decide (g.1 = seenL x.2 s)) = true
        · rw [if_pos hany]
          have h' : ∃ g ∈ groupsL rws s, g.1 = key := by
            rcases h with h | h
            · exact h
            · obtain ⟨g, hg1, hg2⟩ := List.any_eq_true.mp hany
              exact ⟨g, hg1, (of_decide_eq_true hg2).trans h.symm⟩
          obtain ⟨g, hg1, hg2⟩ := h'
          refine ⟨_, List.mem_map.mpr ⟨g, hg1, rfl⟩, ?_⟩
          split <;> exact hg2
        · rw [if_neg hany]
          rcases h with ⟨g, hg1, hg2⟩ | h
          · exact ⟨g, List.mem_append_left _ hg1, hg2⟩
          · exact ⟨(seenL x.2 s, [x]), List.mem_append_right _ (List.mem_singleton.mpr rfl), h.symm⟩
      rcases List.mem_append.mp hr with hr | hr
      · exact mem _ (.inl (hc rw hr))
      · rw [List.mem_singleton.mp hr]
        exact mem _ (.inr rfl)
end L2

namespace L2
open PySem PySem.Spec PyProof.Rows
/-! ### the promises of the program's own defs about books -/
theorem GroupsAt.same {H H' : Hp} {d : Addr} {G : List Gr} (A : GroupsAt H d G) (e : Same H H') : GroupsAt H' d G := ⟨e _ _ A.dict, fun g hg => e _ _ (A.lists g hg), A.keys, A.ats⟩
noncomputable def RowsOk (H : Hp) (m : Nat) (rws : List RW) : Prop := ∀ rw ∈ rws, H rw.1 = some (.tup (rw.2.map V.int)) ∧ rw.2.length = m
theorem RowsOk.same {H H' : Hp} {m : Nat} {rws : List RW} (r : RowsOk H m rws) (e : Same H H') : RowsOk H' m rws := fun rw h => ⟨e _ _ (r rw h).1, (r rw h).2⟩
noncomputable def spNoughts : Sp := fun vs H Q _ => ∃ m : Nat, vs = [vN m] ∧ 1 ≤ m ∧ m ≤ 20 ∧ ∀ p H', Same H H' → H p = none → H' p = some (.tup ((List.replicate m (0 : Int)).map V.int)) → Q (.ref p) H'
noncomputable def spSeen : Sp := fun vs H Q _ => ∃ (a : Addr) (r : List Int) (s : Nat), vs = [.ref a, vN s] ∧ H a = some (.tup (r.map V.int)) ∧ 1 ≤ r.length ∧ r.length ≤ 20 ∧ ∀ p H', Same H H' → H p = none → H' p = some (.tup ((seenL r s).map V.int)) → Q (.ref p) H'
noncomputable def spGroups (K : PySem.W.Frag) : Sp := fun vs H Q _ => ∃ (bk : Addr) (rws : List RW) (s m : Nat), vs = [.ref bk, vN s] ∧ SqL K H bk (refsOf rws) ∧ RowsOk H m rws ∧ 1 ≤ m ∧ m ≤ 20 ∧ rws.length ≤ 300 ∧
  ∀ d G H', Same H H' → H d = none → GroupsAt H' d G → forget G = groupsL rws s → Q (.ref d) H'
noncomputable def spFirsts (K : PySem.W.Frag) : Sp := fun vs H Q _ => ∃ (bk : Addr) (rws : List RW) (s m : Nat), vs = [.ref bk, vN s] ∧ SqL K H bk (refsOf rws) ∧ RowsOk H m rws ∧ 1 ≤ m ∧ m ≤ 20 ∧ rws.length ≤ 300 ∧
  ∀ p (fs : List RW) H', Same H H' → H p = none → H' p = some (.lst (refsOf fs)) → (∀ f ∈ fs, f ∈ rws) → (∀ rw ∈ rws, ∃ f ∈ fs, seenL f.2 s = seenL rw.2 s) → fs.length ≤ 300 → Q (.ref p) H'
theorem groups_len (s : Nat) (rws : List RW) : (groupsL rws s).length ≤ rws.length ∧ ∀ g ∈ groupsL rws s, g.2.length ≤ rws.length := by
  refine snocInd (P := fun rws => (groupsL rws s).length ≤ rws.length ∧ ∀ g ∈ groupsL rws s, g.2.length ≤ rws.length) ⟨Nat.le_refl _, fun g hg => absurd hg List.not_mem_nil⟩ ?_ rws
  intro rws x ih
  obtain ⟨h1, h2⟩ := ih
  rw [groupsL_snoc, List.length_append, List.length_singleton]
  refine ⟨?_, fun g hg => ?_⟩
  · unfold addG
    split
    · rw [List.length_map]; omega
    · rw [List.length_append, List.length_singleton]; omega
  · unfold addG at hg
    split at hg
    · obtain ⟨g0, h0, rfl⟩ := List.mem_map.mp hg
      have := h2 g0 h0
      split
      · rw [List.length_append, List.length_singleton]; omega
      · omega
    · rcases List.mem_append.mp hg with hg | hg
      · have := h2 g hg; omega
      · rw [List.mem_singleton.mp hg]
        show 1 ≤ rws.length + 1
        omega
theorem forget_len {G : List Gr} {gs : List (List Int × List RW)} (e : forget G = gs) : G.length = gs.length := by rw [← e]; unfold forget; rw [List.length_map]
theorem forget_mem {G : List Gr} {gs : List (List Int × List RW)} (e : forget G = gs) {g : Gr} (h : g ∈ G) : (g.key, g.rows) ∈ gs := by rw [← e]; exact List.mem_map.mpr ⟨g, h, rfl⟩
theorem mem_forget {G : List Gr} {gs : List (List Int × List RW)} (e : forget G = gs) {x : List Int × List RW} (h : x ∈ gs) : ∃ g ∈ G, g.key = x.1 ∧ g.rows = x.2 := by
  rw [← e] at h
  obtain ⟨g, hg, rfl⟩ := List.mem_map.mp h
  exact ⟨g, hg, rfl, rfl⟩
theorem kvs_at {G : List Gr} {i : Nat} {k : List Key} {x : V} (h : (kvsOf G)[i]? = some (k, x)) : ∃ g, G[i]? = some g ∧ x = V.ref g.at_ := by
  unfold kvsOf at h
  rw [List.getElem?_map] at h
  cases e : G[i]? with
  | none => rw [e] at h; cases h
  | some g =>
    rw [e] at h
    have := Option.some.inj h
    exact ⟨g, rfl, (congrArg Prod.snd this).symm⟩
end L2

namespace L2
open PySem PySem.Spec PyProof.Rows
/-! ### rows alike and mixed: the mathematics -/
theorem cols_rng : ∀ m, m < 8 → ∀ x, x < 2 ^ m → (List.range m).filter (hasB x) = colsN x := by decide +kernel
theorem has_rest : ∀ m, m < 8 → ∀ x, x < 2 ^ m → ∀ k, k < m → hasB (2 ^ m - 1 - x) k = !hasB x k := by decide +kernel
theorem mem_cols {m x k : Nat} (hm : m < 8) (hx : x < 2 ^ m) : k ∈ colsN x ↔ k < m ∧ hasB x k = true := by rw [← cols_rng m hm x hx, List.mem_filter, List.mem_range]
theorem alike_iff {r1 r2 : List Int} {x m : Nat} (hm : m < 8) (hx : x < 2 ^ m) : alikeL r1 r2 x = true ↔ ∀ k, k < m → hasB x k = true → r1.getD k 0 = r2.getD k 0 := by
  unfold alikeL
  rw [List.all_eq_true]
  constructor
  · intro h k hk hb
    exact of_decide_eq_true (h _ (List.mem_map.mpr ⟨k, (mem_cols hm hx).mpr ⟨hk, hb⟩, rfl⟩))
  · intro h b hb
    obtain ⟨k, hk, rfl⟩ := List.mem_map.mp hb
    obtain ⟨h1, h2⟩ := (mem_cols hm hx).mp hk
    exact decide_eq_true (h k h1 h2)
theorem agree_iff {r1 r2 : List Int} {x : Nat} : agreeL r1 r2 x = true ↔ ∀ k, k < r1.length → hasB x k = true → r1.getD k 0 = r2.getD k 0 := by
  unfold agreeL offL
  rw [decide_eq_true_iff, List.filter_eq_nil_iff]
  constructor
  · intro h k hk hb
    have := h k (List.mem_range.mpr hk)
    rw [hb, Bool.true_and] at this
    cases hd : decide (r1.getD k 0 = r2.getD k 0) with
    | true => exact of_decide_eq_true hd
    | false => rw [hd] at this; exact absurd rfl this
  · intro h k hk hb
    rw [Bool.and_eq_true] at hb
    rw [decide_eq_true (h k (List.mem_range.mp hk) hb.1)] at hb
    cases hb.2
theorem mix_len (r1 r2 : List Int) (x : Nat) : (mixL r1 r2 x).length = r1.length := by unfold mixL; rw [List.length_map, List.length_range]
theorem mix_get {r1 r2 : List Int} {x k : Nat} (h : k < r1.length) : (mixL r1 r2 x).getD k 0 = if hasB x k = true then r1.getD k 0 else r2.getD k 0 := by
  unfold mixL
  rw [List.getD_eq_getElem?_getD, List.getElem?_map, List.getElem?_range h]
  rfl
theorem ext_getD {r1 r2 : List Int} (hl : r1.length = r2.length) (h : ∀ k, k < r1.length → r1.getD k 0 = r2.getD k 0) : r1 = r2 := by
  refine List.ext_getElem hl fun j j1 j2 => ?_
  have := h j j1
  rwa [List.getD_eq_getElem?_getD, List.getElem?_eq_getElem j1, List.getD_eq_getElem?_getD, List.getElem?_eq_getElem j2] at this
theorem mix_self (r : List Int) (x : Nat) : mixL r r x = r := ext_getD (mix_len r r x) fun k hk => by
  rw [mix_len] at hk
  rw [mix_get hk]; split <;> rfl
theorem getD_rep (m k : Nat) : (List.replicate m (0 : Int)).getD k 0 = 0 := by
  rw [List.getD_eq_getElem?_getD, List.getElem?_replicate]
  split <;> rfl
theorem seen_len (r : List Int) (s : Nat) : (seenL r s).length = r.length := mix_len _ _ _
theorem seen_get {r : List Int} {s k : Nat} (h : k < r.length) : (seenL r s).getD k 0 = if hasB s k = true then r.getD k 0 else 0 := by
  unfold seenL
  rw [mix_get h, getD_rep]
theorem seen_iff {r1 r2 : List Int} {s m : Nat} (h1 : r1.length = m) (h2 : r2.length = m) : seenL r1 s = seenL r2 s ↔ ∀ k, k < m → hasB s k = true → r1.getD k 0 = r2.getD k 0 := by
  constructor
  · intro h k hk hb
    have e := congrArg (fun l => l.getD k 0) h
    replace e : (seenL r1 s).getD k 0 = (seenL r2 s).getD k 0 := e
    rw [seen_get (by omega), seen_get (by omega), if_pos hb, if_pos hb] at e
    exact e
  · intro h
    refine ext_getD (by rw [seen_len, seen_len, h1, h2]) fun k hk => ?_
    rw [seen_len] at hk
    rw [seen_get (by omega), seen_get (by omega)]
    split
    · rename_i hb; exact h k (by omega) hb
    · rfl
theorem alike_seen {r1 r2 : List Int} {s m : Nat} (hm : m < 8) (hs : s < 2 ^ m) (h1 : r1.length = m) (h2 : r2.length = m) : alikeL r1 r2 s = true ↔ seenL r1 s = seenL r2 s := by
  rw [alike_iff hm hs, seen_iff h1 h2]
theorem mix_congr {a b c d : List Int} {s m : Nat} (hm : m < 8) (hs : s < 2 ^ m) (ha : a.length = m) (hb : b.length = m) (hc : c.length = m) (hd : d.length = m) (h1 : seenL a s = seenL c s) (h2 : seenL b (2 ^ m - 1 - s) = seenL d (2 ^ m - 1 - s)) : mixL a b s = mixL c d s := by
  refine ext_getD (by rw [mix_len, mix_len, ha, hc]) fun k hk => ?_
  rw [mix_len] at hk
  rw [mix_get hk, mix_get (by omega)]
  split
  · rename_i hb'; exact (seen_iff ha hc).mp h1 k (by omega) hb'
  · rename_i hb'
    refine (seen_iff hb hd).mp h2 k (by omega) ?_
    rw [has_rest m hm s hs k (by omega)]
    cases e : hasB s k with
    | true => exact absurd e hb'
    | false => rfl
theorem has_or : ∀ x, x < 128 → ∀ y, y < 128 → ∀ k, k < 7 → hasB (x ||| y) k = (hasB x k || hasB y k) := fun x _ y _ k _ => by
  unfold hasB
  have e1 : ∀ z : Nat, decide (z / 2 ^ k % 2 = 1) = z.testBit k := fun z => by
    rw [Nat.testBit_eq_decide_div_mod_eq]
  rw [e1, e1, e1, Nat.testBit_or]
/-- a row mixed of two that are seen alike on x is seen as they are there -/
theorem seen_mix {a b : List Int} {x y m : Nat} (hm : m < 8) (hx : x < 2 ^ m) (hy : y < 2 ^ m) (ha : a.length = m) : seenL (mixL a b (x ||| y)) x = seenL a x := by
  have pw : 2 ^ m ≤ 2 ^ 7 := Nat.pow_le_pow_right (by decide) (by omega)
  refine (seen_iff (m := m) (by rw [mix_len, ha]) ha).mpr fun k hk hb => ?_
  rw [mix_get (by omega), if_pos (by rw [has_or x (by omega) y (by omega) k (by omega), hb]; rfl)]
theorem rest_eq : ∀ m, m < 8 → ∀ h : Nat, h < 2 ^ m → Builtin.bitAnd ((2 ^ m - 1 : Nat) : Int) (Builtin.bitNot (h : Int)) = ((2 ^ m - 1 - h : Nat) : Int) := by decide +kernel
/-! ### the promises -/
noncomputable def SetOk (rws : List RW) (x y : Nat) : Prop := ∀ a ∈ rws, ∀ b ∈ rws, seenL a.2 x = seenL b.2 x → seenL a.2 y = seenL b.2 y
noncomputable def DealOk (rws : List RW) (x y : Nat) : Prop := ∀ a ∈ rws, ∀ b ∈ rws, seenL a.2 x = seenL b.2 x → ∃ c ∈ rws, c.2 = mixL a.2 b.2 (x ||| y)
noncomputable def SetBad (rws : List RW) (x y : Nat) (a b : RW) : Prop := a ∈ rws ∧ b ∈ rws ∧ seenL a.2 x = seenL b.2 x ∧ seenL a.2 y ≠ seenL b.2 y
noncomputable def DealBad (rws : List RW) (x y : Nat) (a b : RW) : Prop := a ∈ rws ∧ b ∈ rws ∧ seenL a.2 x = seenL b.2 x ∧ ∀ c ∈ rws, c.2 ≠ mixL a.2 b.2 (x ||| y)
noncomputable def Found (H : Hp) (Q : VK) (Ok : Prop) (Bad : RW → RW → Prop) : Prop :=
  (∀ H', Same H H' → Ok → Q .non H') ∧ ∀ (p : Addr) (a b : RW) (H' : Hp), Bad a b → Same H H' → H p = none → H' p = some (.tup [.ref a.1, .ref b.1]) → Q (.ref p) H'
noncomputable def BookAt (K : PySem.W.Frag) (H : Hp) (bk : Addr) (rws : List RW) (m : Nat) : Prop := SqL K H bk (refsOf rws) ∧ RowsOk H m rws ∧ 1 ≤ m ∧ m ≤ 7 ∧ rws.length ≤ 300
theorem BookAt.same {K : PySem.W.Frag} {H H' : Hp} {bk : Addr} {rws : List RW} {m : Nat} (b : BookAt K H bk rws m) (e : Same H H') : BookAt K H' bk rws m := ⟨e.seq b.1, b.2.1.same e, b.2.2⟩
noncomputable def spSettle (K : PySem.W.Frag) : Sp := fun vs H Q _ => ∃ (bk : Addr) (rws : List RW) (x y m : Nat), vs = [.ref bk, vN x, vN y] ∧ BookAt K H bk rws m ∧ x < 2 ^ m ∧ y < 2 ^ m ∧ Found H Q (SetOk rws x y) (SetBad rws x y)
noncomputable def spDeal (K : PySem.W.Frag) : Sp := fun vs H Q _ => ∃ (bk : Addr) (rws : List RW) (x y m : Nat), vs = [.ref bk, vN x, vN y] ∧ BookAt K H bk rws m ∧ x < 2 ^ m ∧ y < 2 ^ m ∧ Found H Q (DealOk rws x y) (DealBad rws x y)
noncomputable def spLack (K : PySem.W.Frag) : Sp := fun vs H Q _ => ∃ (bk : Addr) (rws : List RW) (h m : Nat), vs = [.ref bk, vN h] ∧ BookAt K H bk rws m ∧ h < 2 ^ m ∧ rws ≠ [] ∧
  Found H Q (∀ a ∈ rws, ∀ b ∈ rws, ∃ c ∈ rws, c.2 = mixL a.2 b.2 h) (fun a b => a ∈ rws ∧ b ∈ rws ∧ ∀ c ∈ rws, c.2 ≠ mixL a.2 b.2 h)
/-- a rule in the heap: its word (settle or not), its sets -/
noncomputable def wordS (st : Bool) : Str := if st = true then "settle" else "deal"
noncomputable def RuleAt (H : Hp) (r : Addr) (st : Bool) (x y : Nat) : Prop := H r = some (.tup [.str (wordS st), vN x, vN y])
noncomputable def ROk (rws : List RW) (st : Bool) (x y : Nat) : Prop := if st = true then SetOk rws x y else DealOk rws x y
noncomputable def RBad (rws : List RW) (st : Bool) (x y : Nat) (a b : RW) : Prop := if st = true then SetBad rws x y a b else DealBad rws x y a b
theorem RBad.not {rws : List RW} {st : Bool} {x y : Nat} {a b : RW} (h : RBad rws st x y a b) : ¬ ROk rws st x y := fun ok => by
  unfold RBad at h
  unfold ROk at ok
  cases st with
  | true =>
    simp only [if_true] at h ok
    exact h.2.2.2 (ok a h.1 b h.2.1 h.2.2.1)
  | false =>
    simp only [Bool.false_eq_true, if_false] at h ok
    obtain ⟨c, hc, e⟩ := ok a h.1 b h.2.1 h.2.2.1
    exact h.2.2.2 c hc e
noncomputable def spBreach (K : PySem.W.Frag) : Sp := fun vs H Q _ => ∃ (bk r : Addr) (rws : List RW) (st : Bool) (x y m : Nat), vs = [.ref bk, .ref r] ∧ BookAt K H bk rws m ∧ RuleAt H r st x y ∧ x < 2 ^ m ∧ y < 2 ^ m ∧ Found H Q (ROk rws st x y) (RBad rws st x y)
structure Rl where
  r : Addr
  st : Bool
  x : Nat
  y : Nat
noncomputable def spKeeps (K : PySem.W.Frag) : Sp := fun vs H Q _ => ∃ (bk rl : Addr) (rws : List RW) (rs : List Rl) (m : Nat), vs = [.ref bk, .ref rl] ∧ BookAt K H bk rws m ∧ SqL K H rl (rs.map fun r => V.ref r.r) ∧ rs.length ≤ 300 ∧ (∀ r ∈ rs, RuleAt H r.r r.st r.x r.y ∧ r.x < 2 ^ m ∧ r.y < 2 ^ m) ∧
  ∀ (k : Bool) (H' : Hp), Same H H' → (k = true ↔ ∀ r ∈ rs, ROk rws r.st r.x r.y) → Q (.bl k) H'
theorem valV_putAll (k : List Key) : ∀ (ps : List Pr) (kvs : List (List Key × V)), (valV (putAll kvs ps) k).isSome = ((valV kvs k).isSome || ps.any fun p => decide (p.k = k))
  | [], kvs => by rw [List.any_nil, Bool.or_false]; rfl
  | p :: ps, kvs => by
    show (valV (putAll (putK kvs p.k p.v) ps) k).isSome = _
    rw [valV_putAll k ps, valV_put, List.any_cons]
    by_cases e : k = p.k
    · rw [if_pos e, decide_eq_true e.symm]
      simp
    · rw [if_neg e, decide_eq_false (fun z => e z.symm), Bool.false_or]
end L2

namespace L2
open PySem PySem.Spec PyProof.Rows
/-! ### the book of a set -/
noncomputable def onesL (m x : Nat) : List Int := mixL (List.replicate m 1) (List.replicate m 0) x
noncomputable def bookL (m x : Nat) : List (List Int) := if x = 0 then [List.replicate m 0] else [List.replicate m 0, onesL m x]
noncomputable def spNewBook (K : PySem.W.Frag) : Sp := fun vs H Q _ => ∃ m x : Nat, vs = [vN m, vN x] ∧ 1 ≤ m ∧ m ≤ 7 ∧ x < 2 ^ m ∧ ∀ p (rws : List RW) H', Same H H' → H p = none → H' p = some (.lst (refsOf rws)) → RowsOk H' m rws → rws.map (·.2) = bookL m x → Q (.ref p) H'
noncomputable def spRules (K : PySem.W.Frag) : Sp := fun vs H Q _ => ∃ (st : Addr) (ns : List Int) (k m n : Nat), vs = [.ref st, vN m, vN n] ∧ STF K H st ns k ∧ k ≤ 800000 ∧ ns.length ≤ 63 ∧ 1 ≤ m ∧ m ≤ 7 ∧ n ≤ 100 ∧
  ∀ (rs : List Rl) (p : Addr) (k' : Nat) (H' : Hp), rs.length = n → (∀ r ∈ rs, RuleAt H' r.r r.st r.x r.y ∧ r.x < 2 ^ m ∧ r.y < 2 ^ m) → k' ≤ k + 7 * n → H p = none → H' p = some (.lst (rs.map fun r => V.ref r.r)) → STF K H' st ns k' → But st H H' → Q (.ref p) H'
noncomputable def keptB (st : Bool) (x y d : Nat) : Bool := decide (0 < x &&& d) || decide (y &&& d = 0) || (!st && decide (y &&& d = d))
theorem hasB_tb (x k : Nat) : hasB x k = x.testBit k := by
  unfold hasB
  rw [Nat.testBit_eq_decide_div_mod_eq]
theorem and_zero {x d m : Nat} (hd : d < 2 ^ m) : x &&& d = 0 ↔ ∀ k, k < m → hasB d k = true → hasB x k = false := by
  constructor
  · intro h k hk hb
    have e := congrArg (fun z => z.testBit k) h
    replace e : (x &&& d).testBit k = (0 : Nat).testBit k := e
    rw [Nat.testBit_and, Nat.zero_testBit, ← hasB_tb, ← hasB_tb, hb, Bool.and_true] at e
    exact e
  · intro h
    refine Nat.eq_of_testBit_eq fun k => ?_
    rw [Nat.testBit_and, Nat.zero_testBit]
    by_cases hk : k < m
    · cases hb : d.testBit k with
      | false => rw [Bool.and_false]
      | true => rw [Bool.and_true, ← hasB_tb]; exact h k hk (by rw [hasB_tb]; exact hb)
    · have : d.testBit k = false := Nat.testBit_lt_two_pow (Nat.lt_of_lt_of_le hd (Nat.pow_le_pow_right (by decide) (by omega)))
      rw [this, Bool.and_false]
theorem and_all {y d m : Nat} (hd : d < 2 ^ m) : y &&& d = d ↔ ∀ k, k < m → hasB d k = true → hasB y k = true := by
  constructor
  · intro h k hk hb
    have e := congrArg (fun z => z.testBit k) h
    replace e : (y &&& d).testBit k = d.testBit k := e
    rw [Nat.testBit_and, ← hasB_tb, ← hasB_tb, hb, Bool.and_true] at e
    exact e
  · intro h
    refine Nat.eq_of_testBit_eq fun k => ?_
    rw [Nat.testBit_and]
    by_cases hk : k < m
    · cases hb : d.testBit k with
      | false => rw [Bool.and_false]
      | true => rw [Bool.and_true, ← hasB_tb]; exact h k hk (by rw [hasB_tb]; exact hb)
    · have : d.testBit k = false := Nat.testBit_lt_two_pow (Nat.lt_of_lt_of_le hd (Nat.pow_le_pow_right (by decide) (by omega)))
      rw [this, Bool.and_false]
theorem ones_len (m x : Nat) : (onesL m x).length = m := by unfold onesL; rw [mix_len, List.length_replicate]
theorem ones_get {m x k : Nat} (h : k < m) : (onesL m x).getD k 0 = if hasB x k = true then 1 else 0 := by
  unfold onesL
  rw [mix_get (by rw [List.length_replicate]; exact h), getD_rep, List.getD_eq_getElem?_getD, List.getElem?_replicate, if_pos h]
  rfl
theorem zeros_get (m k : Nat) : (List.replicate m (0 : Int)).getD k 0 = 0 := getD_rep m k
/-- the row of noughts and the row of ones are seen alike on x just where x has none of the set's columns -/
theorem seen_zo {m d x : Nat} (hd : d < 2 ^ m) : seenL (List.replicate m 0) x = seenL (onesL m d) x ↔ x &&& d = 0 := by
  rw [seen_iff (m := m) List.length_replicate (ones_len m d), and_zero hd]
  constructor
  · intro h k hk hb
    cases hx : hasB x k with
    | false => rfl
    | true =>
      have := h k hk hx
      rw [zeros_get, ones_get hk, if_pos hb] at this
      cases this
  · intro h k hk hx
    rw [zeros_get, ones_get hk, if_neg]
    intro hb
    rw [h k hk hb] at hx
    cases hx
theorem mix_zo {m d h : Nat} (hd : d < 2 ^ m) : (mixL (List.replicate m 0) (onesL m d) h = List.replicate m 0 ↔ h &&& d = d) ∧ (mixL (List.replicate m 0) (onesL m d) h = onesL m d ↔ h &&& d = 0) ∧ (mixL (onesL m d) (List.replicate m 0) h = onesL m d ↔ h &&& d = d) ∧ (mixL (onesL m d) (List.replicate m 0) h = List.replicate m 0 ↔ h &&& d = 0) := by
  have l1 : (mixL (List.replicate m 0) (onesL m d) h).length = m := by rw [mix_len, List.length_replicate]
  have l2 : (mixL (onesL m d) (List.replicate m 0) h).length = m := by rw [mix_len, ones_len]
  have g1 : ∀ k, k < m → (mixL (List.replicate m 0) (onesL m d) h).getD k 0 = if hasB h k = true then 0 else if hasB d k = true then 1 else 0 := fun k hk => by
    rw [mix_get (by rw [List.length_replicate]; exact hk), zeros_get, ones_get hk]
  have g2 : ∀ k, k < m → (mixL (onesL m d) (List.replicate m 0) h).getD k 0 = if hasB h k = true then (if hasB d k = true then 1 else 0) else 0 := fun k hk => by
    rw [mix_get (by rw [ones_len]; exact hk), zeros_get, ones_get hk]
  have use : ∀ (r t : List Int), r.length = m → t.length = m → (r = t ↔ ∀ k, k < m → r.getD k 0 = t.getD k 0) := fun r t hr ht => ⟨fun e k _ => by rw [e], fun e => ext_getD (hr.trans ht.symm) fun k hk => e k (by omega)⟩
  refine ⟨?_, ?_, ?_, ?_⟩
  · rw [use _ _ l1 List.length_replicate, and_all hd]
    constructor
    · intro e k hk hb
      have := e k hk
      rw [g1 k hk, zeros_get, hb] at this
      cases hh : hasB h k with
      | true => rfl
      | false => rw [hh] at this; simp at this
    · intro e k hk
      rw [g1 k hk, zeros_get]
      cases hb : hasB d k with
      | false => simp
      | true => rw [e k hk hb]; rfl
  · rw [use _ _ l1 (ones_len m d), and_zero hd]
    constructor
    · intro e k hk hb
      have := e k hk
      rw [g1 k hk, ones_get hk, hb] at this
      cases hh : hasB h k with
      | false => rfl
      | true => rw [hh] at this; simp at this
    · intro e k hk
      rw [g1 k hk, ones_get hk]
      cases hb : hasB d k with
      | false => simp
      | true => rw [e k hk hb]; rfl
  · rw [use _ _ l2 (ones_len m d), and_all hd]
    constructor
    · intro e k hk hb
      have := e k hk
      rw [g2 k hk, ones_get hk, hb] at this
      cases hh : hasB h k with
      | true => rfl
      | false => rw [hh] at this; simp at this
    · intro e k hk
      rw [g2 k hk, ones_get hk]
      cases hb : hasB d k with
      | false => simp
      | true => rw [e k hk hb]; rfl
  · rw [use _ _ l2 List.length_replicate, and_zero hd]
    constructor
    · intro e k hk hb
      have := e k hk
      rw [g2 k hk, zeros_get, hb] at this
      cases hh : hasB h k with
      | false => rfl
      | true => rw [hh] at this; simp at this
    · intro e k hk
      rw [g2 k hk, zeros_get]
      cases hb : hasB d k with
      | false => simp
      | true => rw [e k hk hb]; rfl
theorem or_and {x y d : Nat} (h : x &&& d = 0) : (x ||| y) &&& d = y &&& d := by
  rw [Nat.and_comm, Nat.and_or_distrib_left, Nat.and_comm d x, h, Nat.zero_or, Nat.and_comm]
/-- which rules the book of a set keeps -/
theorem book_keeps {rws : List RW} {m d x y : Nat} {st : Bool} (hd : d < 2 ^ m) (hb : rws.map (·.2) = bookL m d) : ROk rws st x y ↔ keptB st x y d = true := by
  have mem : ∀ r, (∃ a ∈ rws, a.2 = r) ↔ r ∈ bookL m d := fun r => by rw [← hb, List.mem_map]
  by_cases h0 : d = 0
  · -- one row
    have one : ∀ a ∈ rws, a.2 = List.replicate m 0 := fun a ha => by
      have := (mem a.2).mp ⟨a, ha, rfl⟩
      unfold bookL at this
      rw [if_pos h0] at this
      exact List.mem_singleton.mp this
    have k1 : keptB st x y d = true := by unfold keptB; rw [h0, Nat.and_zero]; simp
    rw [k1]
    refine ⟨fun _ => rfl, fun _ => ?_⟩
    unfold ROk
    cases st with
    | true =>
      simp only [if_true]
      exact fun a ha b hb' _ => by rw [one a ha, one b hb']
    | false =>
      simp only [Bool.false_eq_true, if_false]
      exact fun a ha b hb' _ => ⟨a, ha, by rw [one a ha, one b hb', mix_self]⟩
  · have two : ∀ a ∈ rws, a.2 = List.replicate m 0 ∨ a.2 = onesL m d := fun a ha => by
      have := (mem a.2).mp ⟨a, ha, rfl⟩
      unfold bookL at this
      rw [if_neg h0] at this
      simpa using this
    obtain ⟨z, hz, ez⟩ : ∃ a ∈ rws, a.2 = List.replicate m 0 := (mem _).mpr (by unfold bookL; rw [if_neg h0]; simp)
    obtain ⟨o, ho, eo⟩ : ∃ a ∈ rws, a.2 = onesL m d := (mem _).mpr (by unfold bookL; rw [if_neg h0]; simp)
    by_cases hx : x &&& d = 0
    · have kb : keptB st x y d = (decide (y &&& d = 0) || (!st && decide (y &&& d = d))) := by unfold keptB; rw [hx]; simp
      rw [kb]
      unfold ROk
      cases st with
      | true =>
        simp only [if_true, Bool.not_true, Bool.false_and, Bool.or_false, decide_eq_true_iff]
        constructor
        · intro ok
          have := ok z hz o ho (by rw [ez, eo]; exact (seen_zo hd).mpr hx)
          rw [ez, eo] at this
          exact (seen_zo hd).mp this
        · intro hy a ha b hb' _
          have e := (seen_zo (m := m) (x := y) hd).mpr hy
          rcases two a ha with h1 | h1 <;> rcases two b hb' with h2 | h2 <;> rw [h1, h2]
          · exact e
          · exact e.symm
      | false =>
        simp only [Bool.false_eq_true, if_false, Bool.not_false, Bool.true_and, Bool.or_eq_true, decide_eq_true_iff]
        have oa := or_and (y := y) hx
        constructor
        · intro ok
          obtain ⟨c, hc, ec⟩ := ok z hz o ho (by rw [ez, eo]; exact (seen_zo hd).mpr hx)
          rw [ez, eo] at ec
          rcases two c hc with h1 | h1
          · rw [h1] at ec
            have := (mix_zo (h := x ||| y) hd).1.mp ec.symm
            rw [oa] at this
            exact .inr this
          · rw [h1] at ec
            have := (mix_zo (h := x ||| y) hd).2.1.mp ec.symm
            rw [oa] at this
            exact .inl this
        · intro hy a ha b hb' _
          rcases two a ha with h1 | h1 <;> rcases two b hb' with h2 | h2 <;> rw [h1, h2]
          · exact ⟨a, ha, by rw [h1, mix_self]⟩
          · rcases hy with hy | hy
            · exact ⟨o, ho, by rw [eo, (mix_zo (h := x ||| y) hd).2.1.mpr (by rw [oa]; exact hy)]⟩
            · exact ⟨z, hz, by rw [ez, (mix_zo (h := x ||| y) hd).1.mpr (by rw [oa]; exact hy)]⟩
          · rcases hy with hy | hy
            · exact ⟨z, hz, by rw [ez, (mix_zo (h := x ||| y) hd).2.2.2.mpr (by rw [oa]; exact hy)]⟩
            · exact ⟨o, ho, by rw [eo, (mix_zo (h := x ||| y) hd).2.2.1.mpr (by rw [oa]; exact hy)]⟩
          · exact ⟨a, ha, by rw [h1, mix_self]⟩
    · have k1 : keptB st x y d = true := by
        unfold keptB
        rw [decide_eq_true (show 0 < x &&& d by omega)]
        simp
      rw [k1]
      refine ⟨fun _ => rfl, fun _ => ?_⟩
      have same : ∀ a ∈ rws, ∀ b ∈ rws, seenL a.2 x = seenL b.2 x → a.2 = b.2 := fun a ha b hb' e => by
        rcases two a ha with h1 | h1 <;> rcases two b hb' with h2 | h2
        · rw [h1, h2]
        · rw [h1, h2] at e; exact absurd ((seen_zo hd).mp e) hx
        · rw [h1, h2] at e; exact absurd ((seen_zo hd).mp e.symm) hx
        · rw [h1, h2]
      unfold ROk
      cases st with
      | true =>
        simp only [if_true]
        exact fun a ha b hb' e => by rw [same a ha b hb' e]
      | false =>
        simp only [Bool.false_eq_true, if_false]
        exact fun a ha b hb' e => ⟨b, hb', by rw [same a ha b hb' e, mix_self]⟩
end L2

namespace L2
open PySem PySem.Spec PyProof.Rows
/-! ### tuples in lists, lists of lists compared -/
section
variable {X : Cx} {K : PySem.W.Frag} {pins : List (Addr × Obj)} {σ : St} {H : Hp} {s : Shared}
theorem map_int_inj : ∀ {a b : List Int}, a.map V.int = b.map V.int → a = b
  | [], [], _ => rfl
  | [], _ :: _, h => by cases h
  | _ :: _, [], h => by cases h
  | x :: a, y :: b, h => by
    have h1 : V.int x = V.int y := (List.cons.inj h).1
    rw [V.int.inj h1, map_int_inj (List.cons.inj h).2]
theorem eqAt_tups {A : Around} {a b : Addr} {ns ms : List Int} (hu : A.units < cLine) (I : Inv X pins σ H s) (ha : H a = some (.tup (ns.map V.int))) (hb : H b = some (.tup (ms.map V.int))) : SeqAt.EqAt A s (.ref a) (.ref b) (decide (ns = ms)) := by
  by_cases hab : a = b
  · subst hab
    rw [ha] at hb
    have e : ns = ms := map_int_inj (HO.tup.inj (Option.some.inj hb))
    rw [decide_eq_true e]
    exact SeqAt.EqAt.same _
  · obtain ⟨its, rv, pl, _⟩ := I.tuple (SqT.of ha)
    obtain ⟨its', rv', pl', _⟩ := I.tuple (SqT.of hb)
    have l1 : its.length = ns.length := by rw [← rv.length, List.length_map]
    have l2 : its'.length = ms.length := by rw [← rv'.length, List.length_map]
    have r := SeqAt.RcAt.tuples (A := A) (s := s) (e := fun j => decide (ns.getD j 0 = ms.getD j 0)) pl pl' hu (fun j j1 j2 => by
      have j1' : j < ns.length := by rw [← l1]; simpa using j1
      have j2' : j < ms.length := by rw [← l2]; simpa using j2
      obtain ⟨c, hc, rc⟩ := rv.get (i := j) (x := V.int ns[j]) (by rw [List.getElem?_map, List.getElem?_eq_getElem j1']; rfl)
      obtain ⟨d, hd, rd⟩ := rv'.get (i := j) (x := V.int ms[j]) (by rw [List.getElem?_map, List.getElem?_eq_getElem j2']; rfl)
      have ec : its.toArray[j] = c := by
        rw [List.getElem?_eq_getElem (by simpa using j1)] at hc
        simpa using hc
      have ed : its'.toArray[j] = d := by
        rw [List.getElem?_eq_getElem (by simpa using j2)] at hd
        simpa using hd
      have q := eqAt_V (A := A.in1) (s := s) rc rd rfl rfl
      rw [ec, ed]
      have e2 : eqV (V.int ns[j]) (V.int ms[j]) = decide (ns.getD j 0 = ms.getD j 0) := by
        rw [List.getD_eq_getElem?_getD, List.getElem?_eq_getElem j1', List.getD_eq_getElem?_getD, List.getElem?_eq_getElem j2']
        show (ns[j] == ms[j]) = decide (ns[j] = ms[j])
        rw [Bool.eq_iff_iff, beq_iff_eq, decide_eq_true_iff]
      rw [← e2]
      exact q)
    rw [List.size_toArray, List.size_toArray, l1, l2, all_eq] at r
    exact SeqAt.EqAt.of_refs hab r
theorem vals_refs : ∀ {as : List Addr} {us : List Value}, Vals (as.map V.ref) us → us = as.map Value.ref
  | [], _, .nil => rfl
  | a :: as, _, .cons r t => by
    obtain rfl := (show _ = Value.ref a from r)
    rw [List.map_cons, vals_refs t]
/-- a row is not in a book -/
theorem op_notInTK (h : X.K = K) (hu : X.A.units + 64 < cLine) : OpR X (compareOp .NotIn) (fun x y H Q => ∃ (t l : Addr) (ns : List Int) (rws : List RW), x = .ref t ∧ y = .ref l ∧ H t = some (.tup (ns.map V.int)) ∧ SqL K H l (refsOf rws) ∧ (∀ rw0 ∈ rws, H rw0.1 = some (.tup (rw0.2.map V.int))) ∧
    ∀ b : Bool, (b = true ↔ ∀ c ∈ rws, c.2 ≠ ns) → Q (.bl b) H) := by
  subst h
  intro pins s σ H x y v u Q I rx ry h
  obtain ⟨t, l, ns, rws, rfl, rfl, ht, hl, hr, q⟩ := h
  cases rx; cases ry
  obtain ⟨its, rv, pl, hz⟩ := I.list hl
  have eits : its = rws.map fun rw0 => Value.ref rw0.1 := by
    have : Vals ((rws.map (·.1)).map V.ref) its := by rw [List.map_map]; exact rv
    rw [vals_refs this, List.map_map]
    rfl
  have content : ∀ a ∈ rws, ∀ b ∈ rws, a.1 = b.1 → a.2 = b.2 := fun a ha b hb e => by
    have h1 := hr a ha
    rw [e, hr b hb] at h1
    exact (map_int_inj (HO.tup.inj (Option.some.inj h1))).symm
  refine SeqAt.notIn_listAt (fun v => rws.any fun rw0 => decide (v = Value.ref rw0.1) && decide (rw0.2 = ns)) pl.isList (fun w hw => ?_) ?_
  · have hw' : w ∈ rws.map fun rw0 => Value.ref rw0.1 := by rw [← eits]; simpa using hw
    obtain ⟨a, ha, rfl⟩ := List.mem_map.mp hw'
    have e1 : (rws.any fun rw0 => decide (Value.ref a.1 = Value.ref rw0.1) && decide (rw0.2 = ns)) = decide (a.2 = ns) := by
      rw [Bool.eq_iff_iff, List.any_eq_true, decide_eq_true_iff]
      constructor
      · rintro ⟨b, hb, e⟩
        rw [Bool.and_eq_true] at e
        have eab : a.1 = b.1 := Value.ref.inj (of_decide_eq_true e.1)
        rw [content a ha b hb eab]
        exact of_decide_eq_true e.2
      · intro e
        exact ⟨a, ha, by rw [decide_eq_true rfl, decide_eq_true e]; rfl⟩
    show SeqAt.EqAt X.A.in1 s (Value.ref a.1) (Value.ref t) (rws.any fun rw0 => decide (Value.ref a.1 = Value.ref rw0.1) && decide (rw0.2 = ns))
    rw [e1]
    exact eqAt_tups (show X.A.units + 1 < cLine by omega) I (hr a ha) ht
  · refine ⟨.bl _, H, I, rfl, q _ ?_⟩
    rw [Bool.not_eq_true', eits]
    constructor
    · intro e c hc ec
      have : ((rws.map fun rw0 => Value.ref rw0.1).toArray.any fun v => rws.any fun rw0 => decide (v = Value.ref rw0.1) && decide (rw0.2 = ns)) = true := by
        rw [List.any_toArray, List.any_eq_true]
        exact ⟨Value.ref c.1, List.mem_map.mpr ⟨c, hc, rfl⟩, List.any_eq_true.mpr ⟨c, hc, by rw [decide_eq_true rfl, decide_eq_true ec]; rfl⟩⟩
      rw [this] at e
      cases e
    · intro all
      cases e : ((rws.map fun rw0 => Value.ref rw0.1).toArray.any fun v => rws.any fun rw0 => decide (v = Value.ref rw0.1) && decide (rw0.2 = ns)) with
      | false => rfl
      | true =>
        rw [List.any_toArray, List.any_eq_true] at e
        obtain ⟨v, _, hv⟩ := e
        obtain ⟨c, hc, hcc⟩ := List.any_eq_true.mp hv
        rw [Bool.and_eq_true] at hcc
        exact absurd (of_decide_eq_true hcc.2) (all c hc)
end
end L2

namespace L2
open PySem PySem.Spec PyProof.Rows
/-! ### k11: what two rows show -/
end L2

namespace L2
open PySem PySem.Spec PyProof.Rows
/-! ### paths joined -/
section
variable {X : Cx} {st : Stmt} {rest : List Stmt} {t u : TS}
theorem pss_cut (P : St → Hp → Prop) (h1 : PS X st t) (h2 : PSs X rest u) : PSs X (st :: rest) (fun D σ H => t { D with nx := P } σ H ∧ ∀ σ' H', P σ' H' → u D σ' H') := by
  intro pins s σ H D I h
  refine wpAny_execs_cons (thn (h1 pins s σ H { D with nx := P } I h.1) fun f s1 q => ?_)
  cases f with
  | next =>
    obtain ⟨σ', H', I', q⟩ := q
    exact h2 pins s1 σ' H' D I' (h.2 σ' H' q)
  | ret v => exact q
  | brk => exact q
  | cont => exact q
end
/-! ### truths told one by one -/
end L2

namespace L2
open PySem PySem.Spec PyProof.Rows
/-! ### for i, x in enumerate(a list) -/
section
variable {X : Cx} {pins : List (Addr × Obj)} {σ : St} {H : Hp} {s : Shared}
noncomputable def Itn (K : PySem.W.Frag) (l : Addr) : It :=
  ⟨fun i H => ∃ xs x, SqL K H l xs ∧ xs[i]? = some x,
   fun i H v H' => ∃ t x, v = .ref t ∧ H t = none ∧ (∀ xs, SqL K H l xs → xs[i]? = some x) ∧ H' = upd H t (.tup [.int (i : Int), x]),
   fun i H => ∃ xs, SqL K H l xs ∧ xs.length ≤ i⟩
noncomputable def tnN (e it l : Addr) (i : Nat) (h : Heap) : Prop := (∃ old, IsEnum h e it (i : Int) old) ∧ h.IsListIter it l i
theorem turn_enum {P : Program} {w : World} {K : PySem.W.Frag} {es : List Expr} {n : Nat} {tp : Pos} {e it l : Addr} (hne : e ≠ it) : Turn P w K (.Tuple es n tp) (Itn K l) [e, it] e (tnN e it l) where
  mem := by simp
  obj := fun i h st c hc => by
    obtain ⟨⟨old, hE⟩, ⟨oa, ea, _, da⟩⟩ := st
    simp only [List.mem_cons, List.not_mem_nil, or_false] at hc
    rcases hc with rfl | rfl
    · exact ⟨_, hE, fun v r => by cases r⟩
    · exact ⟨_, ea, fun v r => by rw [da] at r; cases r⟩
  keep := fun i h h' st k => by
    obtain ⟨⟨old, hE⟩, ha⟩ := st
    exact ⟨⟨old, k e (by simp) _ hE⟩, ha.at fun o z => k it (by simp) o z⟩
  item := by
    intro X hP hw hK hc i pins s σ H E I hf st hg
    subst hP hw hK
    obtain ⟨xs, x, hx, ex⟩ := hg
    obtain ⟨⟨old, hE⟩, ha⟩ := st
    obtain ⟨i1, r1, t1, _⟩ := I.list hx
    obtain ⟨x', ex', rx⟩ := r1.get ex
    refine wpAny_pyNext_enum_item hE ha t1.isList (x := x') (by simpa using ex') hne fun g c1 c2 c3 c4 c5 => ⟨_, rfl, ?_⟩
    refine wpAny_letOwnedTupleGo_enum c1 fun g' z' k' => ?_
    have nT : H s.heap.objs.size = none := I.fresh
    have lz : s.heap.objs.size ≠ e := Nat.ne_of_gt (Heap.lt_size hE)
    have IA : Inv X pins σ (upd H s.heap.objs.size (.tup [.int (i : Int), x])) { s with heap := s.heap.push { cls := .type "tuple", data := .seq #[.int (i : Int) s.toks, x'] }, toks := s.toks + 1 } :=
      I.laid (t' := s.toks + 1) (fun c o z => Heap.get?_push_of_some _ z) (Nat.le_refl _) (show ObjOk X.prog X.w _ _ _ (.tup [.int (i : Int), x]) from ⟨by show 2 ≤ sizeLine; decide, [.int (i : Int) s.toks, x'], .cons ⟨_, rfl⟩ (.cons rx .nil), ⟨_, Heap.get?_push_size _ rfl, rfl, _, rfl⟩⟩)
    have fp : ∀ c ∈ [e, it], FpOk X pins (upd H s.heap.objs.size (.tup [.int (i : Int), x])) c := fun c hc' => by
      obtain ⟨f0, f1, f2, f3, f4, f5⟩ := hf c hc'
      refine ⟨?_, f1, f2, f3, f4, f5⟩
      rw [upd_ne]
      · exact f0
      · have lt : c < s.heap.objs.size := by
          simp only [List.mem_cons, List.not_mem_nil, or_false] at hc'
          rcases hc' with rfl | rfl
          · exact Heap.lt_size hE
          · obtain ⟨_, z, _⟩ := ha; exact Heap.lt_size z
        exact Nat.ne_of_lt lt
    have IB : Inv X pins σ (upd H s.heap.objs.size (.tup [.int (i : Int), x])) { s with heap := g', toks := s.toks + 1 } := by
      refine IA.turnedL (t' := s.toks + 1) (h' := g') (fun c o hc' z => ?_) fp
      simp only [List.mem_cons, List.not_mem_nil, or_false, not_or] at hc'
      refine k'.extBut _ _ hc'.1 ?_
      by_cases hcT : c = s.heap.objs.size
      · subst hcT
        have e1 : (s.heap.push { cls := .type "tuple", data := .seq #[.int (i : Int) s.toks, x'] }).get? s.heap.objs.size = some { cls := .type "tuple", data := .seq #[.int (i : Int) s.toks, x'] } := Heap.get?_push_size _ rfl
        have e2 := e1.symm.trans z
        rw [← Option.some.inj e2]
        exact c3
      · exact c5 c o hc'.1 hc'.2 (by
          have e1 : (s.heap.push { cls := .type "tuple", data := .seq #[.int (i : Int) s.toks, x'] }).get? c = s.heap.get? c := Heap.get?_push_ne _ _ _ hcT
          rw [← e1]; exact z)
    refine ⟨.ref s.heap.objs.size, _, IB, rfl, ⟨_, x, rfl, nT, fun zs hz => by rw [I.list_inj hz hx]; exact ex, rfl⟩, ⟨⟨x', ?_⟩, c2.extBut k'.extBut hne.symm⟩, fun c hc' => (fp c hc').1⟩
    have ei : ((i + 1 : Nat) : Int) = (i : Int) + 1 := Int.natCast_succ i
    rw [ei]
    exact z'
  done := by
    intro X hP hw hK hc i pins s σ H E I hf st hg
    subst hP hw hK
    obtain ⟨xs, hx, hl⟩ := hg
    obtain ⟨⟨old, hE⟩, ha⟩ := st
    obtain ⟨i1, r1, t1, _⟩ := I.list hx
    have len := r1.length
    refine wpAny_pyNext_enum_end (I.ok.hd hc) hE ha t1.isList (by simp; omega) fun g hk => ⟨rfl, ?_⟩
    refine I.turnedL (t' := s.toks) (h' := g) (ch := [e, it]) (fun c o hc' z => ?_) hf
    simp only [List.mem_cons, List.not_mem_nil, or_false, not_or] at hc'
    exact hk c o hc'.2 z
  self := fun _ _ _ _ _ st h => by
    obtain ⟨⟨old, hE⟩, _⟩ := st
    exact wpAny_pyIter_enum hE h
noncomputable def iEnum (K : PySem.W.Frag) (ta : TA) : TI := fun σ H R => ta σ H fun vs H1 => ∃ (l : Addr) (xs : List V), vs = [.ref l] ∧ SqL K H1 l xs ∧ R (Itn K l) H1
theorem pi_enum {K : PySem.W.Frag} {es : List Expr} {n : Nat} {tp : Pos} {e1 : Expr} {ta : TA} {np pos : Pos} (hK : X.K = K) (hg : Gl X "enumerate") (hm : X.mg "enumerate" = none) (ha : PA X [e1] ta)
    (hs : starEach [e1] X.env = [(false, eval e1 X.env)] := by rfl) :
    PI X (.Tuple es n tp) (.Call (.Name "enumerate" np) [e1] [] pos) (iEnum K ta) := by
  subst hK
  intro pins s σ H R I h
  refine Call_ (ld_blt I hg hm boot_enumerate (PyProof.Rows.callWith_type1 (thn (ha pos pins s σ H _ I h) fun us s1 ⟨vs, H1, I1, r1, q1⟩ => ?_) (by rw [hs]; rfl) (by rfl)))
  obtain ⟨l, xs, rfl, hl, r⟩ := q1
  obtain ⟨u1, rfl, ru1⟩ := r1.one
  cases ru1
  obtain ⟨i1, v1, t1, _⟩ := I1.list hl
  refine call_enumerate_list t1.isList fun g hE hi hz hk => ?_
  refine wpAny_pyIter_enum hE ⟨s1.heap.objs.size + 1, [s1.heap.objs.size + 1, s1.heap.objs.size], tnN (s1.heap.objs.size + 1) s1.heap.objs.size l, Itn X.K l, H1, rfl, I1.kept (t' := s1.toks) hk, turn_enum (Nat.succ_ne_self _), ⟨⟨_, hE⟩, hi⟩, fun c hc => ?_, r⟩
  have lc : s1.heap.objs.size ≤ c := by
    simp only [List.mem_cons, List.not_mem_nil, or_false] at hc
    rcases hc with rfl | rfl <;> omega
  exact I1.fpOk lc (I1.hok.fresh lc)
theorem for_enum {K : PySem.W.Frag} {l : Addr} {xs : List V} {g : TG} {tb : TS} {D : Ends} {σ : St} {H : Hp} (Pv : Nat → St → Hp → Prop) (h0 : Pv 0 σ H) (hl : ∀ i σ H, i ≤ xs.length → Pv i σ H → SqL K H l xs)
    (hs : ∀ i x σ H t, xs[i]? = some x → Pv i σ H → H t = none → g (.ref t) σ (upd H t (.tup [.int (i : Int), x])) fun σ2 H2 => tb { D with nx := Pv (i + 1), ct := Pv (i + 1), bk := D.nx } σ2 H2) (hd : ∀ σ H, Pv xs.length σ H → D.nx σ H) :
    ∃ W : Nat → Nat → St → Hp → Prop, (∃ m, W 0 m σ H) ∧ ∀ i m σ H, W i m σ H →
      ((Itn K l).stop i H ∧ D.nx σ H) ∨ ((Itn K l).go i H ∧ ∃ N : St → Hp → Prop, (∀ σ' H', N σ' H' → ∃ m', m' < m ∧ W (i + 1) m' σ' H') ∧ ∀ x H', (Itn K l).yld i H x H' → g x σ H' fun σ2 H2 => tb { D with nx := N, ct := N, bk := D.nx } σ2 H2) := by
  refine ⟨fun i m σ H => m = xs.length - i ∧ i ≤ xs.length ∧ Pv i σ H, ⟨xs.length, by simp, Nat.zero_le _, h0⟩, ?_⟩
  rintro i m σ H ⟨rfl, hi, pv⟩
  have h1 := hl i σ H hi pv
  by_cases lt : i < xs.length
  · refine .inr ⟨⟨xs, xs[i], h1, by simp [lt]⟩, Pv (i + 1), fun σ' H' p' => ⟨xs.length - (i + 1), by omega, rfl, lt, p'⟩, fun v H' yv => ?_⟩
    obtain ⟨t, x, rfl, nt, a3, rfl⟩ := yv
    exact hs i x σ H t (a3 xs h1) pv nt
  · obtain rfl : i = xs.length := by omega
    exact .inl ⟨⟨xs, h1, Nat.le_refl _⟩, hd σ H pv⟩
end
end L2

namespace L2
open PySem PySem.Spec PyProof.Rows
/-! ### == and != of values told as data -/
section
variable {X : Cx} {K : PySem.W.Frag} {pins : List (Addr × Obj)} {σ : St} {H : Hp} {s : Shared}
end
/-! lists of data of one form -/
section
variable {α : Type} {f : α → PyData}
end
/-! xs[::-1] -/
section
variable {X : Cx} {K : PySem.W.Frag} {e : Expr} {te : TE} {ste : Expr} {tst : TO} {pos p2 : Pos}
end
/-! slices told in naturals -/
theorem cut_take (xs : List V) (k : Nat) : cutV xs none (some (k : Int)) = xs.take k := by
  unfold cutV
  show (xs.drop 0).take (HT.sIx xs.length xs.length (some ((k : Nat) : Int)) - 0) = _
  rw [HT.sIx_nat, List.drop_zero, Nat.sub_zero, List.take_eq_take_iff]
  omega
theorem cut_drop (xs : List V) (k : Nat) : cutV xs (some (k : Int)) none = xs.drop k := by
  unfold cutV
  rw [HT.sIx_nat, HT.sIx_none]
  by_cases h : k ≤ xs.length
  · rw [Nat.min_eq_left h, List.take_of_length_le (by rw [List.length_drop]; exact Nat.le_refl _)]
  · rw [Nat.min_eq_right (by omega), List.drop_eq_nil_of_le (Nat.le_refl _), List.drop_eq_nil_of_le (by omega), List.take_nil]
end L2

namespace L2
open PySem PySem.Spec PyProof.Rows
theorem Same.none {H H' : Hp} {p : Addr} (e : Same H H') (h : H' p = none) : H p = none := by
  cases z : H p with
  | none => rfl
  | some o => rw [e _ _ z] at h; cases h
/-! ### stage 2's laws: what their shared defs promise -/
noncomputable def usableB (st : Bool) (x y b : Nat) : Bool := decide (x &&& b = 0) && !decide (y &&& b = 0) && (st || !decide (y &&& b = b))
noncomputable def spUsable : Sp := fun vs H Q _ => ∃ (r : Addr) (st : Bool) (x y b : Nat), vs = [.ref r, vN b] ∧ RuleAt H r st x y ∧ Q (.bl (usableB st x y b)) H
noncomputable def inN (y : Nat) (bs : List Nat) (at_ : Nat) : Nat := bs.getD at_ 0 &&& y
noncomputable def outN (y : Nat) (bs : List Nat) (at_ : Nat) : Nat := bs.getD at_ 0 - inN y bs at_
noncomputable def behindFx (st : Bool) (y fx : Nat) (bs : List Nat) (at_ : Nat) : Nat := if st = true then fx + inN y bs at_ else fx
noncomputable def behindBs (st : Bool) (y : Nat) (bs : List Nat) (at_ : Nat) : List Nat :=
  bs.take at_ ++ (if st = true then (if 0 < outN y bs at_ then [outN y bs at_] else []) else [inN y bs at_, outN y bs at_]) ++ bs.drop (at_ + 1)
end L2

namespace L2
/-! ### why a draw by 48271 comes to a multiple of four -/
end L2

namespace L2
/-! ### the mathematics of unfolding -/
theorem or_add : ∀ (a b : Nat), a &&& b = 0 → a ||| b = a + b := by
  intro a
  induction a using Nat.strongRecOn with
  | _ a ih =>
    intro b h
    by_cases a0 : a = 0
    · subst a0; simp
    have i := ih (a / 2) (by omega) (b / 2) (by rw [← Nat.and_div_two, h])
    rw [← Nat.or_div_two] at i
    have m1 := Nat.and_mod_two_eq_one (a := a) (b := b)
    have m2 := Nat.or_mod_two_eq_one (a := a) (b := b)
    rw [h] at m1
    omega
theorem dis_iff {a b : Nat} : a &&& b = 0 ↔ ∀ k, a.testBit k = true → b.testBit k = false := by
  constructor
  · intro h k ha
    have e : (a &&& b).testBit k = (0 : Nat).testBit k := by rw [h]
    rw [Nat.testBit_and, Nat.zero_testBit, ha, Bool.true_and] at e
    exact e
  · intro h
    refine Nat.eq_of_testBit_eq fun k => ?_
    rw [Nat.testBit_and, Nat.zero_testBit]
    cases ha : a.testBit k with
    | false => rfl
    | true => rw [h k ha]; rfl
theorem dis_comm {a b : Nat} (h : a &&& b = 0) : b &&& a = 0 := by rw [Nat.and_comm]; exact h
noncomputable def SubN (c b : Nat) : Prop := ∀ k, c.testBit k = true → b.testBit k = true
theorem dis_sub {a b c : Nat} (h : a &&& b = 0) (s : SubN c b) : a &&& c = 0 := dis_iff.mpr fun k ha => by
  cases hc : c.testBit k with
  | false => rfl
  | true => have := dis_iff.mp h k ha; rw [s k hc] at this; exact this
theorem dis_sub' {a b c : Nat} (h : b &&& a = 0) (s : SubN c b) : c &&& a = 0 := dis_comm (dis_sub (dis_comm h) s)
theorem sub_xor (b y : Nat) : b - (b &&& y) = b ^^^ (b &&& y) := by
  have h0 : (b ^^^ (b &&& y)) &&& (b &&& y) = 0 := dis_iff.mpr fun k h => by
    rw [Nat.testBit_xor, Nat.testBit_and] at h
    rw [Nat.testBit_and]
    cases hb : b.testBit k <;> cases hy : y.testBit k <;> rw [hb, hy] at h <;> first | rfl | (simp at h)
  have h1 : (b ^^^ (b &&& y)) ||| (b &&& y) = b := by
    refine Nat.eq_of_testBit_eq fun k => ?_
    rw [Nat.testBit_or, Nat.testBit_xor, Nat.testBit_and]
    cases hb : b.testBit k <;> cases hy : y.testBit k <;> rfl
  have h2 := or_add _ _ h0
  omega
theorem tb_out (b y k : Nat) : (b - (b &&& y)).testBit k = (b.testBit k && !y.testBit k) := by
  rw [sub_xor, Nat.testBit_xor, Nat.testBit_and]
  cases b.testBit k <;> cases y.testBit k <;> rfl
theorem sub_in (b y : Nat) : SubN (b &&& y) b := fun k h => by
  rw [Nat.testBit_and, Bool.and_eq_true] at h
  exact h.1
theorem sub_out (b y : Nat) : SubN (b - (b &&& y)) b := fun k h => by
  rw [tb_out, Bool.and_eq_true] at h
  exact h.1
theorem dis_in_out (b y : Nat) : (b &&& y) &&& (b - (b &&& y)) = 0 := dis_iff.mpr fun k h => by
  rw [Nat.testBit_and, Bool.and_eq_true] at h
  rw [tb_out, h.1, h.2]; rfl
theorem full_dis {m x : Nat} (h : x < 2 ^ m) : x &&& (2 ^ m - 1 - x) = 0 := dis_iff.mpr fun k hk => by
  have e : 2 ^ m - 1 - x = 2 ^ m - (x + 1) := by omega
  rw [e, Nat.testBit_two_pow_sub_succ h, hk]
  simp
structure Good (m fx : Nat) (bs : List Nat) : Prop where
  sum : fx + bs.sum = 2 ^ m - 1
  pos : ∀ b ∈ bs, 0 < b
  dis : ∀ b ∈ bs, fx &&& b = 0
  pw : bs.Pairwise fun a b => a &&& b = 0
theorem len_sum : ∀ {bs : List Nat}, (∀ b ∈ bs, 0 < b) → bs.length ≤ bs.sum
  | [], _ => Nat.le_refl _
  | b :: bs, h => by
    have h1 := h b (List.mem_cons_self ..)
    have h2 := len_sum (bs := bs) fun c hc => h c (List.mem_cons_of_mem _ hc)
    rw [List.length_cons, List.sum_cons]
    omega
theorem mem_sum : ∀ {bs : List Nat} {b : Nat}, b ∈ bs → b ≤ bs.sum
  | c :: bs, b, h => by
    rw [List.sum_cons]
    rcases List.mem_cons.mp h with rfl | h
    · omega
    · have := mem_sum h
      omega
theorem pow7 {m : Nat} (h : m ≤ 7) : 2 ^ m ≤ 128 := Nat.pow_le_pow_right (by decide) h
theorem Good.len {m fx : Nat} {bs : List Nat} (g : Good m fx bs) (h : m ≤ 7) : bs.length ≤ 127 := by
  have h1 := len_sum g.pos
  have h2 := g.sum
  have h3 := pow7 h
  omega
theorem Good.lt {m fx : Nat} {bs : List Nat} (g : Good m fx bs) {b : Nat} (hb : b ∈ bs) : b < 2 ^ m := by
  have h1 := mem_sum hb
  have h2 := g.sum
  have h3 := Nat.two_pow_pos m
  omega
theorem split_at {bs : List Nat} {i : Nat} (h : i < bs.length) : bs = bs.take i ++ bs.getD i 0 :: bs.drop (i + 1) := by
  have e : bs.getD i 0 = bs[i] := by rw [List.getD_eq_getElem?_getD, List.getElem?_eq_getElem h]; rfl
  rw [e, ← List.drop_eq_getElem_cons h, List.take_append_drop]
theorem usable_in {st : Bool} {x y b : Nat} (h : usableB st x y b = true) : x &&& b = 0 ∧ 0 < b &&& y ∧ (st = true ∨ b &&& y < b) := by
  unfold usableB at h
  rw [Bool.and_eq_true, Bool.and_eq_true] at h
  obtain ⟨⟨h1, h2⟩, h3⟩ := h
  have e1 := of_decide_eq_true h1
  have e2 : ¬ (y &&& b = 0) := by
    intro z; rw [decide_eq_true z] at h2; cases h2
  rw [Nat.and_comm] at e2
  refine ⟨e1, by omega, ?_⟩
  rw [Bool.or_eq_true] at h3
  rcases h3 with h3 | h3
  · exact .inl h3
  · right
    have e3 : ¬ (y &&& b = b) := by
      intro z; rw [decide_eq_true z] at h3; cases h3
    rw [Nat.and_comm] at e3
    have := Nat.and_le_left (n := b) (m := y)
    omega
theorem Good.use {m fx : Nat} {bs : List Nat} (g : Good m fx bs) {st : Bool} {x y i : Nat} (hi : i < bs.length) (hu : usableB st x y (bs.getD i 0) = true) :
    Good m (behindFx st y fx bs i) (behindBs st y bs i) ∧ 2 * (behindBs st y bs i).sum - (behindBs st y bs i).length < 2 * bs.sum - bs.length := by
  obtain ⟨_, hin, hout⟩ := usable_in hu
  have e := split_at hi
  have ls := len_sum g.pos
  unfold behindFx behindBs outN inN
  generalize bs.getD i 0 = b at e hin hout
  generalize bs.take i = p at e
  generalize bs.drop (i + 1) = q at e
  subst e
  have le : b &&& y ≤ b := Nat.and_le_left
  obtain ⟨sm, ps, ds, pw⟩ := g
  have hb : b ∈ p ++ b :: q := List.mem_append_right _ (List.mem_cons_self ..)
  have hp : ∀ c ∈ p, c ∈ p ++ b :: q := fun c hc => List.mem_append_left _ hc
  have hq : ∀ c ∈ q, c ∈ p ++ b :: q := fun c hc => List.mem_append_right _ (List.mem_cons_of_mem _ hc)
  have db := ds b hb
  rw [List.pairwise_append, List.pairwise_cons] at pw
  obtain ⟨pp, ⟨bq, qq⟩, pq⟩ := pw
  have pb : ∀ c ∈ p, c &&& b = 0 := fun c hc => pq c hc b (List.mem_cons_self ..)
  have pq' : ∀ c ∈ p, ∀ d ∈ q, c &&& d = 0 := fun c hc d hd => pq c hc d (List.mem_cons_of_mem _ hd)
  have sm' : (p ++ b :: q).sum = p.sum + (b + q.sum) := by rw [List.sum_append, List.sum_cons]
  have ln' : (p ++ b :: q).length = p.length + (q.length + 1) := by rw [List.length_append, List.length_cons]
  rw [sm'] at sm ls
  rw [sm', ln']
  rw [ln'] at ls
  have lp : p.length ≤ p.sum := len_sum fun c hc => ps c (hp c hc)
  have lq : q.length ≤ q.sum := len_sum fun c hc => ps c (hq c hc)
  have orfx : ∀ c, fx &&& c = 0 → (b &&& y) &&& c = 0 → (fx + (b &&& y)) &&& c = 0 := fun c h1 h2 => by
    rw [← or_add _ _ (dis_sub db (sub_in b y))]
    refine dis_iff.mpr fun k hk => ?_
    rw [Nat.testBit_or, Bool.or_eq_true] at hk
    rcases hk with hk | hk
    · exact dis_iff.mp h1 k hk
    · exact dis_iff.mp h2 k hk
  have inp : ∀ c ∈ p, (b &&& y) &&& c = 0 := fun c hc => dis_comm (dis_sub (pb c hc) (sub_in b y))
  have inq : ∀ c ∈ q, (b &&& y) &&& c = 0 := fun c hc => dis_sub' (bq c hc) (sub_in b y)
  have outp : ∀ c ∈ p, c &&& (b - (b &&& y)) = 0 := fun c hc => dis_sub (pb c hc) (sub_out b y)
  have outq : ∀ c ∈ q, (b - (b &&& y)) &&& c = 0 := fun c hc => dis_sub' (bq c hc) (sub_out b y)
  cases st with
  | true =>
    simp only [if_true]
    by_cases ho : 0 < b - (b &&& y)
    · rw [if_pos ho]
      refine ⟨⟨?_, ?_, ?_, ?_⟩, ?_⟩
      · rw [List.append_assoc, List.sum_append, List.singleton_append, List.sum_cons]; omega
      · intro c hc
        rcases List.mem_append.mp hc with hc | hc
        · rcases List.mem_append.mp hc with hc | hc
          · exact ps c (hp c hc)
          · rw [List.mem_singleton.mp hc]; exact ho
        · exact ps c (hq c hc)
      · intro c hc
        rcases List.mem_append.mp hc with hc | hc
        · rcases List.mem_append.mp hc with hc | hc
          · exact orfx c (ds c (hp c hc)) (inp c hc)
          · rw [List.mem_singleton.mp hc]; exact orfx _ (dis_sub db (sub_out b y)) (dis_in_out b y)
        · exact orfx c (ds c (hq c hc)) (inq c hc)
      · rw [List.append_assoc, List.singleton_append, List.pairwise_append, List.pairwise_cons]
        refine ⟨pp, ⟨outq, qq⟩, fun c hc d hd => ?_⟩
        rcases List.mem_cons.mp hd with rfl | hd
        · exact outp c hc
        · exact pq' c hc d hd
      · rw [List.append_assoc, List.sum_append, List.singleton_append, List.sum_cons, List.length_append, List.length_cons]; omega
    · rw [if_neg ho, List.append_nil]
      refine ⟨⟨?_, ?_, ?_, ?_⟩, ?_⟩
      · rw [List.sum_append]; omega
      · intro c hc
        rcases List.mem_append.mp hc with hc | hc
        · exact ps c (hp c hc)
        · exact ps c (hq c hc)
      · intro c hc
        rcases List.mem_append.mp hc with hc | hc
        · exact orfx c (ds c (hp c hc)) (inp c hc)
        · exact orfx c (ds c (hq c hc)) (inq c hc)
      · rw [List.pairwise_append]
        exact ⟨pp, qq, pq'⟩
      · rw [List.sum_append, List.length_append]; omega
  | false =>
    have ho : 0 < b - (b &&& y) := by
      rcases hout with h | h
      · cases h
      · omega
    simp only [Bool.false_eq_true, if_false]
    rw [List.append_assoc, List.cons_append, List.cons_append, List.nil_append]
    refine ⟨⟨?_, ?_, ?_, ?_⟩, ?_⟩
    · rw [List.sum_append, List.sum_cons, List.sum_cons]; omega
    · intro c hc
      rcases List.mem_append.mp hc with hc | hc
      · exact ps c (hp c hc)
      · rcases List.mem_cons.mp hc with rfl | hc
        · exact hin
        · rcases List.mem_cons.mp hc with rfl | hc
          · exact ho
          · exact ps c (hq c hc)
    · intro c hc
      rcases List.mem_append.mp hc with hc | hc
      · exact ds c (hp c hc)
      · rcases List.mem_cons.mp hc with rfl | hc
        · exact dis_sub db (sub_in b y)
        · rcases List.mem_cons.mp hc with rfl | hc
          · exact dis_sub db (sub_out b y)
          · exact ds c (hq c hc)
    · rw [List.pairwise_append, List.pairwise_cons, List.pairwise_cons]
      refine ⟨pp, ⟨fun d hd => ?_, outq, qq⟩, fun c hc d hd => ?_⟩
      · rcases List.mem_cons.mp hd with rfl | hd
        · exact dis_in_out b y
        · exact inq d hd
      · rcases List.mem_cons.mp hd with rfl | hd
        · exact dis_comm (inp c hc)
        · rcases List.mem_cons.mp hd with rfl | hd
          · exact outp c hc
          · exact pq' c hc d hd
    · rw [List.sum_append, List.sum_cons, List.sum_cons, List.length_append, List.length_cons, List.length_cons]; omega
/-- the blocks at the beginning -/
noncomputable def beginBs (m x : Nat) : List Nat := if x < 2 ^ m - 1 then [2 ^ m - 1 - x] else []
theorem Good.begin {m x : Nat} (h : x < 2 ^ m) : Good m x (beginBs m x) := by
  unfold beginBs
  split
  · refine ⟨by simp; omega, fun b hb => ?_, fun b hb => ?_, List.pairwise_singleton _ _⟩
    · rw [List.mem_singleton.mp hb]; omega
    · rw [List.mem_singleton.mp hb]; exact full_dis h
  · exact ⟨by simp; omega, fun b hb => absurd hb List.not_mem_nil, fun b hb => absurd hb List.not_mem_nil, List.Pairwise.nil⟩
/-! uses, in their order -/
noncomputable abbrev RD := Bool × Nat × Nat
noncomputable def usB (r : RD) (b : Nat) : Bool := usableB r.1 r.2.1 r.2.2 b
noncomputable def usesR (r : RD) (k : Nat) (bs : List Nat) (n : Nat) : List (Nat × Nat) := ((List.range n).filter fun a => usB r (bs.getD a 0)).map fun a => (k, a)
noncomputable def rdAt (rs : List RD) (k : Nat) : RD := rs.getD k (false, 0, 0)
noncomputable def usesN (rs : List RD) (bs : List Nat) (i : Nat) : List (Nat × Nat) := (List.range i).flatMap fun k => usesR (rdAt rs k) k bs bs.length
theorem usesR_succ (r : RD) (k : Nat) (bs : List Nat) (n : Nat) : usesR r k bs (n + 1) = usesR r k bs n ++ (if usB r (bs.getD n 0) = true then [(k, n)] else []) := by
  unfold usesR
  rw [List.range_succ, List.filter_append, List.map_append]
  congr 1
  cases h : usB r (bs.getD n 0) <;> simp only [List.filter_cons, List.filter_nil, h] <;> rfl
theorem usesN_succ (rs : List RD) (bs : List Nat) (i : Nat) : usesN rs bs (i + 1) = usesN rs bs i ++ usesR (rdAt rs i) i bs bs.length := by
  unfold usesN
  rw [List.range_succ, List.flatMap_append, List.flatMap_cons, List.flatMap_nil, List.append_nil]
theorem mem_usesR {r : RD} {k n : Nat} {bs : List Nat} {u : Nat × Nat} (h : u ∈ usesR r k bs n) : u.1 = k ∧ u.2 < n ∧ usB r (bs.getD u.2 0) = true := by
  unfold usesR at h
  obtain ⟨a, ha, rfl⟩ := List.mem_map.mp h
  obtain ⟨h1, h2⟩ := List.mem_filter.mp ha
  exact ⟨rfl, List.mem_range.mp h1, h2⟩
theorem mem_usesN {rs : List RD} {bs : List Nat} {i : Nat} {u : Nat × Nat} (h : u ∈ usesN rs bs i) : u.1 < i ∧ u.2 < bs.length ∧ usB (rdAt rs u.1) (bs.getD u.2 0) = true := by
  unfold usesN at h
  obtain ⟨k, hk, hu⟩ := List.mem_flatMap.mp h
  obtain ⟨rfl, h2, h3⟩ := mem_usesR hu
  exact ⟨List.mem_range.mp hk, h2, h3⟩
theorem uses_nil {rs : List RD} {bs : List Nat} (h : usesN rs bs rs.length = []) {r : RD} (hr : r ∈ rs) {b : Nat} (hb : b ∈ bs) : usB r b = false := by
  cases e : usB r b with
  | false => rfl
  | true =>
    exfalso
    obtain ⟨k, hk, rfl⟩ := List.getElem_of_mem hr
    obtain ⟨a, ha, rfl⟩ := List.getElem_of_mem hb
    have e1 : rdAt rs k = rs[k] := by unfold rdAt; rw [List.getD_eq_getElem?_getD, List.getElem?_eq_getElem hk]; rfl
    have e2 : bs.getD a 0 = bs[a] := by rw [List.getD_eq_getElem?_getD, List.getElem?_eq_getElem ha]; rfl
    have : (k, a) ∈ usesN rs bs rs.length := by
      unfold usesN
      refine List.mem_flatMap.mpr ⟨k, List.mem_range.mpr hk, ?_⟩
      unfold usesR
      refine List.mem_map.mpr ⟨a, List.mem_filter.mpr ⟨List.mem_range.mpr ha, ?_⟩, rfl⟩
      rw [e1, e2]; exact e
    rw [h] at this
    exact absurd this List.not_mem_nil
/-! a run -/
structure US where
  fx : Nat
  bs : List Nat
  st : List (Nat × Nat)
noncomputable def stepS (rs : List RD) (s : US) (u : Nat × Nat) : US :=
  ⟨behindFx (rdAt rs u.1).1 (rdAt rs u.1).2.2 s.fx s.bs u.2, behindBs (rdAt rs u.1).1 (rdAt rs u.1).2.2 s.bs u.2, s.st ++ [(u.1, s.bs.getD u.2 0)]⟩
inductive Run (rs : List RD) : US → US → Prop
  | done {s : US} : usesN rs s.bs rs.length = [] → Run rs s s
  | step {s t : US} {u : Nat × Nat} {us : List (Nat × Nat)} : usesN rs s.bs rs.length = u :: us → Run rs (stepS rs s u) t → Run rs s t
theorem Run.det {rs : List RD} {s t : US} (h : Run rs s t) : ∀ {t' : US}, Run rs s t' → t = t' := by
  induction h with
  | done h =>
    intro t' h'
    cases h' with
    | done _ => rfl
    | step e _ => rw [h] at e; cases e
  | step e _ ih =>
    intro t' h'
    cases h' with
    | done h => rw [h] at e; cases e
    | step e' r' =>
      rw [e] at e'
      injection e' with e1 e2
      subst e1
      exact ih r'
noncomputable def muS (bs : List Nat) : Nat := 2 * bs.sum - bs.length
theorem step_good {rs : List RD} {s : US} {u : Nat × Nat} {m : Nat} (g : Good m s.fx s.bs) (h : u ∈ usesN rs s.bs rs.length) : Good m (stepS rs s u).fx (stepS rs s u).bs ∧ muS (stepS rs s u).bs < muS s.bs := by
  obtain ⟨_, h2, h3⟩ := mem_usesN h
  exact g.use h2 h3
theorem step_st (rs : List RD) (s : US) (u : Nat × Nat) : (stepS rs s u).st.length = s.st.length + 1 := by
  unfold stepS
  rw [List.length_append]; rfl
theorem usesR_pre (r : RD) (k : Nat) (bs : List Nat) (j : Nat) : ∀ d, ∃ z, usesR r k bs (j + d) = usesR r k bs j ++ z
  | 0 => ⟨[], by rw [List.append_nil]; rfl⟩
  | d + 1 => by
    obtain ⟨z, e⟩ := usesR_pre r k bs j d
    exact ⟨_, by rw [← Nat.add_assoc, usesR_succ, e, List.append_assoc]⟩
theorem usesN_pre (rs : List RD) (bs : List Nat) (i : Nat) : ∀ d, ∃ z, usesN rs bs (i + d) = usesN rs bs i ++ z
  | 0 => ⟨[], by rw [List.append_nil]; rfl⟩
  | d + 1 => by
    obtain ⟨z, e⟩ := usesN_pre rs bs i d
    exact ⟨_, by rw [← Nat.add_assoc, usesN_succ, e, List.append_assoc]⟩
theorem uses_first {rs : List RD} {bs : List Nat} {i j n : Nat} (h0 : usesN rs bs i = []) (h1 : usesR (rdAt rs i) i bs j = []) (hi : i < n) (hj : j < bs.length) (hu : usB (rdAt rs i) (bs.getD j 0) = true) : ∃ us, usesN rs bs n = (i, j) :: us := by
  obtain ⟨z, e⟩ := usesN_pre rs bs (i + 1) (n - (i + 1))
  obtain ⟨z', e'⟩ := usesR_pre (rdAt rs i) i bs (j + 1) (bs.length - (j + 1))
  rw [show i + 1 + (n - (i + 1)) = n by omega] at e
  rw [show j + 1 + (bs.length - (j + 1)) = bs.length by omega, usesR_succ, h1, if_pos hu] at e'
  rw [e, usesN_succ, h0, e']
  exact ⟨_, rfl⟩
/-! the parts drawn by k20's law -/
/-! every column is fixed or in a block -/
noncomputable def orL (bs : List Nat) : Nat := bs.foldr (· ||| ·) 0
theorem orL_dis {c : Nat} : ∀ {bs : List Nat}, (∀ b ∈ bs, c &&& b = 0) → c &&& orL bs = 0
  | [], _ => by simp [orL]
  | b :: bs, h => by
    show c &&& (b ||| orL bs) = 0
    have h1 := h b (List.mem_cons_self ..)
    have h2 := orL_dis (bs := bs) fun d hd => h d (List.mem_cons_of_mem _ hd)
    refine dis_iff.mpr fun k hk => ?_
    rw [Nat.testBit_or, dis_iff.mp h1 k hk, dis_iff.mp h2 k hk]; rfl
theorem orL_sum : ∀ {bs : List Nat}, (bs.Pairwise fun a b => a &&& b = 0) → orL bs = bs.sum
  | [], _ => rfl
  | b :: bs, h => by
    rw [List.pairwise_cons] at h
    show b ||| orL bs = _
    rw [or_add _ _ (orL_dis h.1), orL_sum h.2, List.sum_cons]
theorem tb_orL {k : Nat} : ∀ {bs : List Nat}, (orL bs).testBit k = true ↔ ∃ b ∈ bs, b.testBit k = true
  | [] => by simp [orL]
  | b :: bs => by
    show (b ||| orL bs).testBit k = true ↔ _
    rw [Nat.testBit_or, Bool.or_eq_true, tb_orL (bs := bs)]
    constructor
    · rintro (h | ⟨c, hc, h⟩)
      · exact ⟨b, List.mem_cons_self .., h⟩
      · exact ⟨c, List.mem_cons_of_mem _ hc, h⟩
    · rintro ⟨c, hc, h⟩
      rcases List.mem_cons.mp hc with rfl | hc
      · exact .inl h
      · exact .inr ⟨c, hc, h⟩
theorem Good.col {m fx : Nat} {bs : List Nat} (g : Good m fx bs) {k : Nat} : fx.testBit k = true ↔ k < m ∧ ∀ b ∈ bs, b.testBit k = false := by
  have e : fx ||| orL bs = 2 ^ m - 1 := by rw [or_add _ _ (orL_dis g.dis), orL_sum g.pw, g.sum]
  have t : (fx ||| orL bs).testBit k = decide (k < m) := by rw [e, Nat.testBit_two_pow_sub_one]
  rw [Nat.testBit_or] at t
  constructor
  · intro h
    rw [h, Bool.true_or] at t
    exact ⟨of_decide_eq_true t.symm, fun b hb => dis_iff.mp (g.dis b hb) k h⟩
  · rintro ⟨hk, h⟩
    rw [decide_eq_true hk, Bool.or_eq_true] at t
    rcases t with t | t
    · exact t
    · obtain ⟨b, hb, hbk⟩ := tb_orL.mp t
      rw [h b hb] at hbk; cases hbk
/-! a set whose book keeps the rules stays within one block -/
theorem usable_sub {st : Bool} {x y b d : Nat} (hu : usableB st x y b = true) (hd : usableB st x y d = false) (s : SubN d b) : y &&& d = 0 ∨ (st = false ∧ y &&& d = d) := by
  obtain ⟨h1, _, _⟩ := usable_in hu
  have h2 : x &&& d = 0 := dis_sub h1 s
  unfold usableB at hd
  rw [decide_eq_true h2, Bool.true_and] at hd
  by_cases h3 : y &&& d = 0
  · exact .inl h3
  · right
    rw [decide_eq_false h3, Bool.not_false, Bool.true_and, Bool.or_eq_false_iff] at hd
    refine ⟨hd.1, ?_⟩
    by_cases h4 : y &&& d = d
    · exact h4
    · rw [decide_eq_false h4] at hd; cases hd.2
theorem keep_in {st : Bool} {x y d i : Nat} {bs : List Nat} (hi : i < bs.length) (hu : usableB st x y (bs.getD i 0) = true) (hd : usableB st x y d = false) (d0 : d ≠ 0) (h : ∃ b ∈ bs, SubN d b) : ∃ b ∈ behindBs st y bs i, SubN d b := by
  obtain ⟨b, hb, hs⟩ := h
  have e := split_at hi
  unfold behindBs outN inN
  generalize bs.getD i 0 = c at e hu
  generalize bs.take i = p at e
  generalize bs.drop (i + 1) = q at e
  subst e
  rcases List.mem_append.mp hb with hb | hb
  · exact ⟨b, List.mem_append_left _ (List.mem_append_left _ hb), hs⟩
  rcases List.mem_cons.mp hb with rfl | hb
  · have so : y &&& d = 0 → SubN d (b - (b &&& y)) := fun z k hk => by
      rw [tb_out, hs k hk, dis_iff.mp (dis_comm z) k hk]; rfl
    have si : y &&& d = d → SubN d (b &&& y) := fun z k hk => by
      have : (y &&& d).testBit k = true := by rw [z]; exact hk
      rw [Nat.testBit_and, Bool.and_eq_true] at this
      rw [Nat.testBit_and, hs k hk, this.1]; rfl
    have ne : SubN d (b - (b &&& y)) → 0 < b - (b &&& y) := fun z => by
      apply Nat.pos_of_ne_zero
      intro e0
      apply d0
      refine Nat.eq_of_testBit_eq fun k => ?_
      rw [Nat.zero_testBit]
      cases hk : d.testBit k with
      | false => rfl
      | true => have := z k hk; rw [e0, Nat.zero_testBit] at this; cases this
    rcases usable_sub hu hd hs with z | ⟨rfl, z⟩
    · refine ⟨b - (b &&& y), List.mem_append_left _ (List.mem_append_right _ ?_), so z⟩
      cases st with
      | true => rw [if_pos rfl, if_pos (ne (so z))]; exact List.mem_singleton.mpr rfl
      | false => rw [if_neg Bool.false_ne_true]; exact List.mem_cons_of_mem _ (List.mem_singleton.mpr rfl)
    · exact ⟨b &&& y, List.mem_append_left _ (List.mem_append_right _ (List.mem_cons_self ..)), si z⟩
  · exact ⟨b, List.mem_append_right _ hb, hs⟩
theorem rd_mem {rs : List RD} {k : Nat} (h : k < rs.length) : rdAt rs k ∈ rs := by
  unfold rdAt
  rw [List.getD_eq_getElem?_getD, List.getElem?_eq_getElem h]
  exact List.getElem_mem h
/-- what a run comes to -/
theorem Run.good {rs : List RD} {s t : US} {m : Nat} (h : Run rs s t) : Good m s.fx s.bs → Good m t.fx t.bs ∧ usesN rs t.bs rs.length = [] := by
  induction h with
  | done h => exact fun g => ⟨g, h⟩
  | step e _ ih => exact fun g => ih (step_good g (by rw [e]; exact List.mem_cons_self ..)).1
theorem Run.keep {rs : List RD} {s t : US} {d : Nat} (h : Run rs s t) (d0 : d ≠ 0) (hd : ∀ r ∈ rs, usB r d = false) : (∃ b ∈ s.bs, SubN d b) → ∃ b ∈ t.bs, SubN d b := by
  induction h with
  | done h => exact id
  | step e _ ih =>
    intro z
    obtain ⟨h1, h2, h3⟩ := mem_usesN (rs := rs) (by rw [e]; exact List.mem_cons_self ..)
    exact ih (keep_in h2 h3 (hd _ (rd_mem h1)) d0 z)
theorem begin_sub {m x d : Nat} (hx : x < 2 ^ m) (hd : d < 2 ^ m) (d0 : d ≠ 0) (z : d &&& x = 0) : ∃ b ∈ beginBs m x, SubN d b := by
  have s : SubN d (2 ^ m - 1 - x) := fun k hk => by
    have e : 2 ^ m - 1 - x = 2 ^ m - (x + 1) := by omega
    rw [e, Nat.testBit_two_pow_sub_succ hx, dis_iff.mp z k hk]
    have : k < m := by
      apply Nat.lt_of_not_le
      intro le
      have : d.testBit k = false := Nat.testBit_lt_two_pow (Nat.lt_of_lt_of_le hd (Nat.pow_le_pow_right (by decide) le))
      rw [this] at hk; cases hk
    rw [decide_eq_true this]; rfl
  have lt : x < 2 ^ m - 1 := by
    apply Nat.lt_of_not_le
    intro le
    apply d0
    have e : 2 ^ m - 1 - x = 0 := by omega
    refine Nat.eq_of_testBit_eq fun k => ?_
    rw [Nat.zero_testBit]
    cases hk : d.testBit k with
    | false => rfl
    | true => have := s k hk; rw [e, Nat.zero_testBit] at this; cases this
  unfold beginBs
  rw [if_pos lt]
  exact ⟨_, List.mem_singleton.mpr rfl, s⟩
theorem behind_sub {st : Bool} {y i k : Nat} {bs : List Nat} (hi : i < bs.length) (h : ∃ b ∈ behindBs st y bs i, b.testBit k = true) : ∃ b ∈ bs, b.testBit k = true := by
  obtain ⟨b, hb, hk⟩ := h
  have e := split_at hi
  unfold behindBs outN inN at hb
  generalize bs.getD i 0 = c at e hb
  generalize bs.take i = p at e hb
  generalize bs.drop (i + 1) = q at e hb
  subst e
  rcases List.mem_append.mp hb with hb | hb
  · rcases List.mem_append.mp hb with hb | hb
    · exact ⟨b, List.mem_append_left _ hb, hk⟩
    · refine ⟨c, List.mem_append_right _ (List.mem_cons_self ..), ?_⟩
      cases st with
      | true =>
        rw [if_pos rfl] at hb
        split at hb
        · rw [List.mem_singleton.mp hb] at hk; exact sub_out c y k hk
        · exact absurd hb List.not_mem_nil
      | false =>
        rw [if_neg Bool.false_ne_true] at hb
        rcases List.mem_cons.mp hb with rfl | hb
        · exact sub_in c y k hk
        · rw [List.mem_singleton.mp hb] at hk; exact sub_out c y k hk
  · exact ⟨b, List.mem_append_right _ (List.mem_cons_of_mem _ hb), hk⟩
/-- no block at the end has a column that no block had -/
theorem Run.sub {rs : List RD} {s t : US} {k : Nat} (h : Run rs s t) : (∃ b ∈ t.bs, b.testBit k = true) → ∃ b ∈ s.bs, b.testBit k = true := by
  induction h with
  | done h => exact id
  | step e _ ih =>
    intro z
    obtain ⟨_, h2, _⟩ := mem_usesN (rs := rs) (by rw [e]; exact List.mem_cons_self ..)
    exact behind_sub h2 (ih z)
end L2

namespace L2
open PySem PySem.Spec PyProof.Rows
/-! ### what is not in a set, min, an object of one's own written -/
theorem Same.own {H H' : Hp} {p : Addr} {o : HO} (e : Same H H') (h : H p = Option.none) : Same H (upd H' p o) := fun c u z => by
  rw [upd_ne (ne_of_none z h)]
  exact e c u z
theorem and_not (b y : Nat) : Builtin.bitAnd (b : Int) (Builtin.bitNot (y : Int)) = ((b - (b &&& y) : Nat) : Int) := by
  have hy : ¬ 0 ≤ Builtin.bitNot (y : Int) := by unfold Builtin.bitNot; omega
  have hb : 0 ≤ (b : Int) := by omega
  have le := Nat.and_le_left (n := b) (m := y)
  simp only [Builtin.bitAnd, hy, hb, decide_false, decide_true, bitNot_not, Int.toNat_natCast]
  omega
section
variable {X : Cx} {K : PySem.W.Frag}
theorem op_andInv : OpR X (binaryOp .BitAnd) (fun x y H Q => ∃ a b : Nat, x = vN a ∧ y = .int (Builtin.bitNot (b : Int)) ∧ Q (vN (a - (a &&& b))) H) := op_and.mono fun x y H Q ⟨a, b, h1, h2, q⟩ => ⟨a, _, h1, h2, by
  show Q (V.int (Builtin.bitAnd (a : Int) (Builtin.bitNot (b : Int)))) H
  rw [and_not]; exact q⟩
end
/-! ### what the unfolding's defs promise -/
noncomputable def spListed : Sp := fun vs H Q _ => ∃ b : Nat, vs = [vN b] ∧ ∀ p, H p = none → Q (.ref p) (upd H p (.lst ((if 0 < b then [b] else []).map vN)))
noncomputable def spUsed (K : PySem.W.Frag) : Sp := fun vs H Q _ => ∃ (r l : Addr) (st : Bool) (x y fx at_ : Nat) (bs : List Nat), vs = [.ref r, vN fx, .ref l, vN at_] ∧ RuleAt H r st x y ∧ SqL K H l (bs.map vN) ∧ at_ < bs.length ∧ bs.length ≤ 200 ∧ fx &&& bs.getD at_ 0 = 0 ∧
  ∀ (t p : Addr) (H' : Hp), Same H H' → H t = none → H' t = some (.tup [vN (behindFx st y fx bs at_), .ref p]) → H p = none → H' p = some (.lst ((behindBs st y bs at_).map vN)) → Q (.ref t) H'
noncomputable def spBegun (K : PySem.W.Frag) : Sp := fun vs H Q _ => ∃ m x : Nat, vs = [vN m, vN x] ∧ m ≤ 7 ∧ x < 2 ^ m ∧
  ∀ (t p : Addr) (H' : Hp), Same H H' → H t = none → H' t = some (.tup [vN x, .ref p]) → H p = none → H' p = some (.lst ((beginBs m x).map vN)) → Q (.ref t) H'
noncomputable def Rl.d (r : Rl) : RD := (r.st, r.x, r.y)
theorem rd_at {rs : List Rl} {k : Nat} {r : Rl} (h : rs[k]? = some r) : rdAt (rs.map Rl.d) k = r.d := by
  unfold rdAt
  rw [List.getD_eq_getElem?_getD, List.getElem?_map, h]; rfl
noncomputable def RulesAt (H : Hp) (m : Nat) (rs : List Rl) : Prop := ∀ r ∈ rs, RuleAt H r.r r.st r.x r.y ∧ r.x < 2 ^ m ∧ r.y < 2 ^ m
theorem RulesAt.same {H H' : Hp} {m : Nat} {rs : List Rl} (h : RulesAt H m rs) (e : Same H H') : RulesAt H' m rs := fun r hr => ⟨e _ _ (h r hr).1, (h r hr).2⟩
noncomputable def spFirstUse (K : PySem.W.Frag) : Sp := fun vs H Q _ => ∃ (rl bl : Addr) (rs : List Rl) (bs : List Nat) (m : Nat), vs = [.ref rl, .ref bl] ∧ SqL K H rl (rs.map fun r => V.ref r.r) ∧ RulesAt H m rs ∧ SqL K H bl (bs.map vN) ∧ rs.length ≤ 200 ∧ bs.length ≤ 200 ∧
  (∀ H', Same H H' → usesN (rs.map Rl.d) bs rs.length = [] → Q .non H') ∧
  ∀ (u : Nat × Nat) (us : List (Nat × Nat)) (t : Addr) (H' : Hp), Same H H' → usesN (rs.map Rl.d) bs rs.length = u :: us → H t = none → H' t = some (.tup [vN u.1, vN u.2]) → Q (.ref t) H'
/-- tuples of two numbers in the heap -/
noncomputable abbrev SW := Addr × (Nat × Nat)
noncomputable def StepsAt (H : Hp) (sw : List SW) : Prop := ∀ w ∈ sw, H w.1 = some (.tup [vN w.2.1, vN w.2.2])
theorem StepsAt.same {H H' : Hp} {sw : List SW} (h : StepsAt H sw) (e : Same H H') : StepsAt H' sw := fun w hw => e _ _ (h w hw)
theorem StepsAt.put {H : Hp} {sw : List SW} {q : Addr} {xs ys : List V} (h : StepsAt H sw) (hq : H q = some (.lst xs)) : StepsAt (upd H q (.lst ys)) sw := fun w hw => by
  rw [upd_ne (ne_of (h w hw) hq (by intro z; cases z))]
  exact h w hw
theorem StepsAt.snoc {H : Hp} {sw : List SW} {w : SW} (h : StepsAt H sw) (hw : H w.1 = some (.tup [vN w.2.1, vN w.2.2])) : StepsAt H (sw ++ [w]) := fun v hv => by
  rcases List.mem_append.mp hv with hv | hv
  · exact h v hv
  · rw [List.mem_singleton.mp hv]; exact hw
theorem rd_len (rs : List Rl) : (rs.map Rl.d).length = rs.length := List.length_map ..
noncomputable def spUnfolded (K : PySem.W.Frag) : Sp := fun vs H Q _ => ∃ (m x : Nat) (rl : Addr) (rs : List Rl), vs = [vN m, .ref rl, vN x] ∧ m ≤ 7 ∧ x < 2 ^ m ∧ SqL K H rl (rs.map fun r => V.ref r.r) ∧ RulesAt H m rs ∧ rs.length ≤ 200 ∧
  ∀ (t p q : Addr) (s : US) (sw : List SW) (H' : Hp), Run (rs.map Rl.d) ⟨x, beginBs m x, []⟩ s → Same H H' → H t = none → H' t = some (.tup [vN s.fx, .ref p, .ref q]) → H p = none → H' p = some (.lst (s.bs.map vN)) → H q = none → H' q = some (.lst (sw.map fun w => V.ref w.1)) → StepsAt H' sw → sw.map (·.2) = s.st → sw.length ≤ 300 → p ≠ q → Q (.ref t) H'
/-! data -/
end L2

namespace L2
open PySem PySem.Spec PyProof.Rows
/-! ### an unfolding under way, in the heap -/
structure UCore (H : Hp) (m x : Nat) (rs : List Rl) (s : US) (p qa : Addr) (sw : List SW) (H' : Hp) : Prop where
  same : Same H H'
  hp0 : H p = none
  hp : H' p = some (.lst (s.bs.map vN))
  npq : p ≠ qa
  hq0 : H qa = none
  hq : H' qa = some (.lst (sw.map fun w => V.ref w.1))
  st : StepsAt H' sw
  est : sw.map (·.2) = s.st
  good : Good m s.fx s.bs
  run : ∀ z, Run (rs.map Rl.d) s z → Run (rs.map Rl.d) ⟨x, beginBs m x, []⟩ z
  len : s.st.length + muS s.bs ≤ 254
theorem UCore.mono {H : Hp} {m x : Nat} {rs : List Rl} {s : US} {p qa : Addr} {sw : List SW} {H' H'' : Hp} (c : UCore H m x rs s p qa sw H') (e : Same H' H'') : UCore H m x rs s p qa sw H'' :=
  ⟨c.same.trans e, c.hp0, e _ _ c.hp, c.npq, c.hq0, e _ _ c.hq, c.st.same e, c.est, c.good, c.run, c.len⟩
theorem UCore.begin {H H' : Hp} {m x : Nat} {rs : List Rl} {p qa : Addr} (m7 : m ≤ 7) (hx : x < 2 ^ m) (e : Same H H') (hp0 : H p = none) (hp : H' p = some (.lst ((beginBs m x).map vN))) (hq : H' qa = none) : UCore H m x rs ⟨x, beginBs m x, []⟩ p qa [] (upd H' qa (.lst [])) := by
  have g := Good.begin hx
  refine ⟨e.trans (Same.new hq), hp0, Same.new hq _ _ hp, ne_of_none hp hq, e.none hq, upd_same, fun w h => absurd h List.not_mem_nil, rfl, g, fun z h => h, ?_⟩
  have e := g.sum
  have p7 := pow7 m7
  show 0 + muS (beginBs m x) ≤ 254
  unfold muS
  omega
theorem UCore.slen {H : Hp} {m x : Nat} {rs : List Rl} {s : US} {p qa : Addr} {sw : List SW} {H' : Hp} (c : UCore H m x rs s p qa sw H') : sw.length ≤ 254 := by
  have := c.len
  have e := congrArg List.length c.est
  rw [List.length_map] at e
  omega
theorem UCore.next {H : Hp} {m x : Nat} {rs : List Rl} {s : US} {p p' qa : Addr} {sw : List SW} {w : SW} {H1 H3 : Hp} {u : Nat × Nat} {us : List (Nat × Nat)} (c : UCore H m x rs s p qa sw H1) (hu : usesN (rs.map Rl.d) s.bs rs.length = u :: us) (ew : w.2 = (u.1, s.bs.getD u.2 0)) (hw : H1 w.1 = some (.tup [vN w.2.1, vN w.2.2]))
    (s3 : Same (upd H1 qa (.lst ((sw.map fun w => V.ref w.1) ++ [V.ref w.1]))) H3) (hp' : (upd H1 qa (.lst ((sw.map fun w => V.ref w.1) ++ [V.ref w.1]))) p' = none) (hp3 : H3 p' = some (.lst ((stepS (rs.map Rl.d) s u).bs.map vN))) :
    UCore H m x rs (stepS (rs.map Rl.d) s u) p' qa (sw ++ [w]) H3 ∧ muS (stepS (rs.map Rl.d) s u).bs < muS s.bs := by
  rw [← rd_len] at hu
  obtain ⟨g, mu⟩ := step_good (m := m) (rs := rs.map Rl.d) (s := s) (u := u) c.good (by rw [hu]; exact List.mem_cons_self ..)
  have sH : Same H (upd H1 qa (.lst ((sw.map fun w => V.ref w.1) ++ [V.ref w.1]))) := c.same.own c.hq0
  refine ⟨⟨sH.trans s3, sH.none hp', hp3, Ne.symm (ne_of_none upd_same hp'), c.hq0, ?_, ?_, ?_, g, fun z h => c.run z (Run.step hu h), ?_⟩, mu⟩
  · rw [s3 _ _ upd_same, List.map_append]; rfl
  · refine ((c.st.put c.hq).snoc ?_).same s3
    rw [upd_ne (ne_of hw c.hq (by intro z; cases z))]
    exact hw
  · rw [List.map_append, c.est]
    show s.st ++ [w.2] = s.st ++ [(u.1, s.bs.getD u.2 0)]
    rw [ew]
  · rw [step_st]
    have := c.len
    omega
noncomputable def UInv (H : Hp) (m x : Nat) (rl : Addr) (rs : List Rl) (n : Nat) (σ : St) (H' : Hp) : Prop :=
  ∃ (s : US) (t p qa : Addr) (sw : List SW) (v : V), σ = [some (vN m), some (.ref rl), some (vN x), some (.ref t), some (.ref qa), some v] ∧ n = muS s.bs ∧ H' t = some (.tup [vN s.fx, .ref p]) ∧ UCore H m x rs s p qa sw H' ∧
    ((usesN (rs.map Rl.d) s.bs rs.length = [] ∧ v = .non) ∨ ∃ u us t5, usesN (rs.map Rl.d) s.bs rs.length = u :: us ∧ v = .ref t5 ∧ H' t5 = some (.tup [vN u.1, vN u.2]))
/-- what a use of the law's list gives -/
theorem uses_at {rs : List Rl} {bs : List Nat} {u : Nat × Nat} {m : Nat} {H : Hp} (hu : u ∈ usesN (rs.map Rl.d) bs rs.length) (hR : RulesAt H m rs) : ∃ r : Rl, rs[u.1]? = some r ∧ rdAt (rs.map Rl.d) u.1 = r.d ∧ u.2 < bs.length ∧ bs[u.2]? = some (bs.getD u.2 0) ∧ (RuleAt H r.r r.st r.x r.y ∧ r.x < 2 ^ m ∧ r.y < 2 ^ m) := by
  obtain ⟨h1, h2, _⟩ := mem_usesN hu
  have e : rs[u.1]? = some rs[u.1] := List.getElem?_eq_getElem h1
  exact ⟨rs[u.1], e, rd_at e, h2, by rw [List.getD_eq_getElem?_getD, List.getElem?_eq_getElem h2]; rfl, hR _ (List.getElem_mem h1)⟩
end L2

namespace L2
open PySem PySem.Spec PyProof.Rows
/-! ### what follows -/
section
variable {X : Cx} {K : PySem.W.Frag}
end
end L2

namespace L2
/-! ### the settled columns, found by books of two rows -/
open PySem PySem.Spec PyProof.Rows
/-- a statement whose comprehension's own name is called like a local that is let go -/
theorem ps_hide {X : Cx} {st : Stmt} {t : TS} (j : Nat) (h : PS (X.withN (X.N.set j "")) st t) : PS X st (fun D σ H => (∀ v, σ[j]? ≠ some (some v)) ∧ t { nx := fun σ' H' => (∀ v, σ'[j]? ≠ some (some v)) ∧ D.nx σ' H', rt := fun _ _ => False, bk := fun _ _ => False, ct := fun _ _ => False } σ H) := by
  intro pins s σ H D I ⟨hd, hw⟩
  have I' : Inv (X.withN (X.N.set j "")) pins σ H s := by
    refine ⟨I.ok.withN _, I.os, I.bare, I.base, ?_, I.cell, I.free, I.freeC, I.pin, I.hok, by rw [I.len]; simp⟩
    obtain ⟨m, h1, h2⟩ := I.loc
    refine ⟨m, h1, fun i x v e1 e2 e3 => ?_⟩
    by_cases hj : j = i
    · subst hj; exact absurd e2 (hd v)
    · exact h2 i x v (by rwa [show (X.withN (X.N.set j "")).N = X.N.set j "" from rfl, List.getElem?_set_ne hj] at e1) e2 e3
  refine thn (h pins s σ H _ I' hw) fun f s1 q => ?_
  cases f with
  | next =>
    obtain ⟨σ', H', J, hd', q⟩ := q
    refine ⟨σ', H', ⟨J.ok.ofN, J.os, J.bare, J.base, ?_, J.cell, J.free, J.freeC, J.pin, J.hok, by have := J.len; rw [this]; simp⟩, q⟩
    obtain ⟨m, h1, h2⟩ := J.loc
    refine ⟨m, h1, fun i x v e1 e2 e3 => ?_⟩
    by_cases hj : j = i
    · subst hj; exact absurd e2 (hd' v)
    · exact h2 i x v (by rwa [show (X.withN (X.N.set j "")).N = X.N.set j "" from rfl, List.getElem?_set_ne hj]) e2 e3
  | brk => obtain ⟨_, _, _, q⟩ := q; exact q.elim
  | cont => obtain ⟨_, _, _, q⟩ := q; exact q.elim
  | ret v => obtain ⟨_, _, _, _, _, q⟩ := q; exact q.elim
end L2

namespace L2
/-! ### what follows, told by the sets whose books keep the rules -/
theorem Run.apart0 {rs : List RD} {m x : Nat} {s : US} (hx : x < 2 ^ m) (h : Run rs ⟨x, beginBs m x, []⟩ s) {b : Nat} (hb : b ∈ s.bs) : x &&& b = 0 := by
  refine dis_iff.mpr fun k hk => ?_
  cases hbk : b.testBit k with
  | false => rfl
  | true =>
    obtain ⟨c, hc, hck⟩ := h.sub ⟨b, hb, hbk⟩
    have := (Good.begin hx).dis c hc
    rw [dis_iff.mp this k hk] at hck
    cases hck
noncomputable def KeptS (m : Nat) (rs : List RD) (d : Nat) : Prop := 1 ≤ d ∧ d < 2 ^ m ∧ ∀ r ∈ rs, usB r d = false
noncomputable def HasB (a k : Nat) : Prop := a.testBit k = true
theorem bit_of_ne {a : Nat} (h : a ≠ 0) : ∃ k, HasB a k := by
  by_cases z : ∃ k, HasB a k
  · exact z
  · exfalso
    apply h
    refine Nat.eq_of_testBit_eq fun k => ?_
    rw [Nat.zero_testBit]
    cases e : a.testBit k with
    | false => rfl
    | true => exact absurd ⟨k, e⟩ z
theorem hasb_and (a b k : Nat) : HasB (a &&& b) k ↔ HasB a k ∧ HasB b k := by unfold HasB; rw [Nat.testBit_and, Bool.and_eq_true]
theorem hasb_or (a b k : Nat) : HasB (a ||| b) k ↔ HasB a k ∨ HasB b k := by unfold HasB; rw [Nat.testBit_or, Bool.or_eq_true]
theorem hasb_out (b y k : Nat) : HasB (b - (b &&& y)) k ↔ HasB b k ∧ ¬ HasB y k := by
  unfold HasB
  rw [tb_out, Bool.and_eq_true]
  cases y.testBit k <;> simp
theorem hasb_full {m x : Nat} (hx : x < 2 ^ m) (k : Nat) : HasB (2 ^ m - 1 - x) k ↔ k < m ∧ ¬ HasB x k := by
  unfold HasB
  rw [show 2 ^ m - 1 - x = 2 ^ m - (x + 1) by omega, Nat.testBit_two_pow_sub_succ hx, Bool.and_eq_true, decide_eq_true_iff]
  cases x.testBit k <;> simp
theorem hasb_lt {m a k : Nat} (ha : a < 2 ^ m) (h : HasB a k) : k < m := by
  apply Nat.lt_of_not_le
  intro le
  have : a.testBit k = false := Nat.testBit_lt_two_pow (Nat.lt_of_lt_of_le ha (Nat.pow_le_pow_right (by decide) le))
  unfold HasB at h
  rw [this] at h; cases h
theorem and_ne {a b : Nat} : a &&& b ≠ 0 ↔ ∃ k, HasB a k ∧ HasB b k := by
  constructor
  · intro h
    obtain ⟨k, hk⟩ := bit_of_ne h
    exact ⟨k, (hasb_and a b k).mp hk⟩
  · rintro ⟨k, h1, h2⟩ e
    have := (hasb_and a b k).mpr ⟨h1, h2⟩
    unfold HasB at this
    rw [e, Nat.zero_testBit] at this
    cases this
theorem and_nall {y d : Nat} : y &&& d ≠ d ↔ ∃ k, HasB d k ∧ ¬ HasB y k := by
  constructor
  · intro h
    by_cases z : ∃ k, HasB d k ∧ ¬ HasB y k
    · exact z
    · exfalso
      apply h
      refine Nat.eq_of_testBit_eq fun k => ?_
      rw [Nat.testBit_and]
      cases hd : d.testBit k with
      | false => rw [Bool.and_false]
      | true =>
        cases hy : y.testBit k with
        | true => rfl
        | false => exact absurd ⟨k, hd, fun q => by unfold HasB at q; rw [hy] at q; cases q⟩ z
  · rintro ⟨k, h1, h2⟩ e
    apply h2
    have : HasB (y &&& d) k := by rw [e]; exact h1
    exact ((hasb_and y d k).mp this).1
theorem us_iff {st : Bool} {x y d : Nat} : usB (st, x, y) d = true ↔ (∀ k, HasB d k → ¬ HasB x k) ∧ (∃ k, HasB d k ∧ HasB y k) ∧ (st = true ∨ ∃ k, HasB d k ∧ ¬ HasB y k) := by
  show usableB st x y d = true ↔ _
  unfold usableB
  rw [Bool.and_eq_true, Bool.and_eq_true, decide_eq_true_iff, Bool.or_eq_true]
  have e2 : (!decide (y &&& d = 0)) = true ↔ ∃ k, HasB d k ∧ HasB y k := by
    rw [Bool.not_eq_true', decide_eq_false_iff_not]
    exact and_ne.trans ⟨fun ⟨k, a, b⟩ => ⟨k, b, a⟩, fun ⟨k, a, b⟩ => ⟨k, b, a⟩⟩
  have e3 : (!decide (y &&& d = d)) = true ↔ ∃ k, HasB d k ∧ ¬ HasB y k := by
    rw [Bool.not_eq_true', decide_eq_false_iff_not]
    exact and_nall
  have e1 : x &&& d = 0 ↔ ∀ k, HasB d k → ¬ HasB x k := by
    constructor
    · intro h k h1 h2
      exact and_ne.mpr ⟨k, h2, h1⟩ h
    · intro h
      by_cases z : x &&& d = 0
      · exact z
      · obtain ⟨k, a, b⟩ := and_ne.mp z
        exact absurd a (h k b)
  rw [e1, e2, e3, and_assoc]
theorem not_us {st : Bool} {x y d : Nat} : usB (st, x, y) d = false ↔ ((∀ k, HasB d k → ¬ HasB x k) → (∃ k, HasB d k ∧ HasB y k) → (st = true ∨ ∃ k, HasB d k ∧ ¬ HasB y k) → False) := by
  constructor
  · intro h a b c
    have := us_iff.mpr ⟨a, b, c⟩
    rw [h] at this; cases this
  · intro h
    cases e : usB (st, x, y) d with
    | false => rfl
    | true =>
      obtain ⟨a, b, c⟩ := us_iff.mp e
      exact (h a b c).elim
theorem Run.kept {rs : List RD} {m x : Nat} {s : US} (hx : x < 2 ^ m) (R : Run rs ⟨x, beginBs m x, []⟩ s) {b : Nat} (hb : b ∈ s.bs) : KeptS m rs b := by
  obtain ⟨g, un⟩ := R.good (m := m) (Good.begin hx)
  exact ⟨g.pos b hb, g.lt hb, fun r hr => uses_nil un hr hb⟩
theorem Run.holds {rs : List RD} {m x d : Nat} {s : US} (hx : x < 2 ^ m) (R : Run rs ⟨x, beginBs m x, []⟩ s) (hd : KeptS m rs d) (ha : ∀ k, HasB d k → ¬ HasB x k) : ∃ b ∈ s.bs, SubN d b := by
  have h0 := hd.1
  refine R.keep (by omega) hd.2.2 (begin_sub hx hd.2.1 (by omega) ?_)
  by_cases z : d &&& x = 0
  · exact z
  · obtain ⟨k, a, b⟩ := and_ne.mp z
    exact absurd b (ha k a)
end L2
namespace L2
/-! ### the rules of following -/
section
variable {m : Nat} {rs : List RD} {x y z v : Nat}
end
open PySem PySem.Spec PyProof.Rows
end L2

namespace L2
/-! ### which sets are blocks; more rules -/
noncomputable def Apart (x d : Nat) : Prop := ∀ k, HasB d k → ¬ HasB x k
theorem apart_of {x b : Nat} (h : x &&& b = 0) : Apart x b := fun k h1 h2 => by
  have := dis_iff.mp h k h2
  unfold HasB at h1
  rw [this] at h1; cases h1
theorem pw_ne : ∀ {bs : List Nat}, (bs.Pairwise fun a b => a &&& b = 0) → ∀ {a b}, a ∈ bs → b ∈ bs → a ≠ b → a &&& b = 0
  | c :: bs, h, a, b, ha, hb, hn => by
    rw [List.pairwise_cons] at h
    rcases List.mem_cons.mp ha with rfl | ha'
    · rcases List.mem_cons.mp hb with rfl | hb'
      · exact absurd rfl hn
      · exact h.1 b hb'
    · rcases List.mem_cons.mp hb with rfl | hb'
      · exact dis_comm (h.1 a ha')
      · exact pw_ne h.2 ha' hb' hn
structure Blocks (m : Nat) (rs : List RD) (x fx : Nat) (bs : List Nat) : Prop where
  good : Good m fx bs
  kept : ∀ b ∈ bs, KeptS m rs b
  apart : ∀ b ∈ bs, Apart x b
  holds : ∀ d, KeptS m rs d → Apart x d → ∃ b ∈ bs, SubN d b
theorem Run.blocks {rs : List RD} {m x : Nat} {s : US} (hx : x < 2 ^ m) (R : Run rs ⟨x, beginBs m x, []⟩ s) : Blocks m rs x s.fx s.bs :=
  ⟨(R.good (m := m) (Good.begin hx)).1, fun b hb => R.kept hx hb, fun b hb => apart_of (R.apart0 hx hb), fun d hd ha => R.holds hx hd ha⟩
theorem Blocks.fix {m x fx : Nat} {rs : List RD} {bs : List Nat} (B : Blocks m rs x fx bs) {k : Nat} : HasB fx k ↔ k < m ∧ ∀ d, KeptS m rs d → Apart x d → ¬ HasB d k := by
  unfold HasB
  rw [B.good.col]
  constructor
  · rintro ⟨h1, h2⟩
    refine ⟨h1, fun d hd ha hk => ?_⟩
    obtain ⟨b, hb, hs⟩ := B.holds d hd ha
    have := hs k hk
    rw [h2 b hb] at this; cases this
  · rintro ⟨h1, h2⟩
    refine ⟨h1, fun b hb => ?_⟩
    cases e : b.testBit k with
    | false => rfl
    | true => exact absurd e (h2 b (B.kept b hb) (B.apart b hb))
end L2
namespace L2
theorem few_with {k : Nat} {bs : List Nat} (h : bs.Pairwise fun a b => a &&& b = 0) : (bs.filter fun b => b.testBit k).length ≤ 1 := by
  have hp : (bs.filter fun b => b.testBit k).Pairwise fun a b => a &&& b = 0 := h.sublist List.filter_sublist
  have hm : ∀ b ∈ bs.filter fun b => b.testBit k, b.testBit k = true := fun b hb => (List.mem_filter.mp hb).2
  generalize bs.filter (fun b => b.testBit k) = l at hp hm
  match l, hp, hm with
  | [], _, _ => exact Nat.zero_le _
  | [_], _, _ => exact Nat.le_refl _
  | a :: b :: l, hp, hm =>
    exfalso
    rw [List.pairwise_cons] at hp
    have := dis_iff.mp (hp.1 b (List.mem_cons_self ..)) k (hm a (List.mem_cons_self ..))
    rw [hm b (List.mem_cons_of_mem _ (List.mem_cons_self ..))] at this
    cases this
theorem few_blocks : ∀ (m : Nat) {bs : List Nat}, (bs.Pairwise fun a b => a &&& b = 0) → (∀ b ∈ bs, 0 < b) → (∀ b ∈ bs, b < 2 ^ m) → bs.length ≤ m
  | 0, bs, _, h0, h1 => by
    cases bs with
    | nil => exact Nat.le_refl _
    | cons a l =>
      have := h0 a (List.mem_cons_self ..)
      have := h1 a (List.mem_cons_self ..)
      omega
  | m + 1, bs, hp, h0, h1 => by
    have f := few_with (k := m) hp
    have g := few_blocks m (bs := bs.filter fun b => !b.testBit m) (hp.sublist List.filter_sublist) (fun b hb => h0 b (List.mem_filter.mp hb).1) (fun b hb => by
      obtain ⟨h2, h3⟩ := List.mem_filter.mp hb
      have h4 := h1 b h2
      apply Nat.lt_of_not_le
      intro le
      have : b.testBit m = true := by
        rw [Nat.testBit_eq_decide_div_mod_eq]
        have : b / 2 ^ m = 1 := by
          have p := Nat.two_pow_pos m
          rw [Nat.pow_succ] at h4
          exact Nat.div_eq_of_lt_le (by omega) (by omega)
        rw [this]; rfl
      rw [this] at h3; cases h3)
    have e : bs.length = (bs.filter fun b => b.testBit m).length + (bs.filter fun b => !b.testBit m).length := by
      have := List.length_eq_countP_add_countP (fun b : Nat => b.testBit m) (l := bs)
      rw [List.countP_eq_length_filter, List.countP_eq_length_filter] at this
      rw [this]
      congr 2
      refine List.filter_congr fun b _ => ?_
      cases b.testBit m <;> rfl
    omega
theorem Good.few {m fx : Nat} {bs : List Nat} (g : Good m fx bs) : bs.length ≤ m := few_blocks m g.pw g.pos fun b hb => g.lt hb
open PySem PySem.Spec PyProof.Rows
end L2

namespace L2
/-! ### covers -/
open PySem PySem.Spec PyProof.Rows
end L2

namespace L2
open PySem PySem.Spec PyProof.Rows
end L2

namespace L2
open PySem PySem.Spec PyProof.Rows
/-! ### sorted(.., reverse=True) of what stands so already: one run, of any length -/
section
variable {prog : Program} {w : World} {A : Around} {E : Value → Shared → Prop} {s : Shared} {a₀ : Array Keyed} {κ : KeyKind}
end
section
variable {X : Cx} {K : PySem.W.Frag}
end
end L2

namespace L2
open PySem PySem.Spec PyProof.Rows
/-! ### a rule in a list of rules; covers say the same (k42) -/
section
variable {X : Cx} {K : PySem.W.Frag}
end
end L2

namespace L2
/-! ### any steps lead to the same blocks -/
open PySem PySem.Spec PyProof.Rows
end L2

namespace L2
open PySem PySem.Spec PyProof.Rows
/-! ### all blocks at once -/
/-! ### covers, rule by rule -/
end L2

namespace L2
open PySem PySem.Spec PyProof.Rows
/-! ### two lists walked side by side -/
section
variable {X : Cx} {pins : List (Addr × Obj)} {σ : St} {H : Hp} {s : Shared}
end
end L2

namespace L2
open PySem PySem.Spec PyProof.Rows
/-! ### covers told exactly -/
end L2

namespace L2
open PySem PySem.Spec PyProof.Rows
end L2

namespace L2
open PySem PySem.Spec PyProof.Rows PySem.W
/-! ### all sets within a set, size by size -/
noncomputable def manyN (a : Nat) : Nat := ((List.range 7).filter (hasB a)).length
noncomputable def rowN (a m : Nat) : List Nat := (List.range (a + 1)).filter fun x => decide (x &&& a = x) && decide (manyN x = m)
noncomputable def dueM (a m : Nat) : List Nat := (List.range m).flatMap (rowN a)
noncomputable def dueN (a : Nat) : List Nat := dueM a 8
/-- one column more for one set -/
noncomputable def upOf (a x : Nat) : List Nat := ((colsN a).filter fun c => decide (x < 2 ^ c)).map fun c => x ||| 2 ^ c
noncomputable def moreN (a : Nat) (l : List Nat) : List Nat := l.flatMap (upOf a)
theorem more_perm : ∀ a, a < 128 → ∀ i, i < 8 → (moreN a (rowN a i)).isPerm (rowN a (i + 1)) = true := by decide +kernel
theorem row_len : ∀ a, a < 128 → ∀ i, i < 9 → (rowN a i).length ≤ 35 := by decide +kernel
theorem row_zero : ∀ a, a < 128 → rowN a 0 = [0] := by decide +kernel
theorem row_last : ∀ a, a < 128 → rowN a 8 = [] := by decide +kernel
theorem row_due : ∀ a, a < 128 → ∀ i, i < 9 → rowN a i = [] → dueM a i = dueN a := by decide +kernel
theorem cols7 : ∀ a, a < 128 → (colsN a).length ≤ 7 ∧ (colsN a).all (fun c => decide (c < 7)) = true := by decide +kernel
theorem row_up (a m : Nat) : (rowN a m).Pairwise (· ≤ ·) := by
  have h : ∀ n, (List.range n).Pairwise (· ≤ ·) := fun n => List.Pairwise.imp Nat.le_of_lt List.pairwise_lt_range
  exact (h _).filter _
theorem row_is {a i : Nat} (ha : a < 128) (hi : i < 8) {ns : List Int} (p : ns.Perm ((moreN a (rowN a i)).map fun (k : Nat) => (k : Int))) (s : ns.Pairwise (· ≤ ·)) : ns = (rowN a (i + 1)).map fun (k : Nat) => (k : Int) := by
  have p2 := p.trans ((List.isPerm_iff.mp (more_perm a ha i hi)).map fun (k : Nat) => (k : Int))
  refine List.Perm.eq_of_pairwise (le := fun (x y : Int) => x ≤ y) (fun x y _ _ h1 h2 => Int.le_antisymm h1 h2) s ?_ p2
  rw [List.pairwise_map]
  exact (row_up a (i + 1)).imp fun h => Int.ofNat_le.mpr h
theorem dueM_succ (a m : Nat) : dueM a (m + 1) = dueM a m ++ rowN a m := by
  unfold dueM
  rw [List.range_succ, List.flatMap_append]
  simp
theorem upOf_len (a x : Nat) (ha : a < 128) : (upOf a x).length ≤ 7 := by
  unfold upOf
  rw [List.length_map]
  exact Nat.le_trans (List.length_filter_le _ _) (cols7 a ha).1
theorem moreN_len (a : Nat) (ha : a < 128) : ∀ l : List Nat, (moreN a l).length ≤ 7 * l.length
  | [] => Nat.zero_le _
  | x :: l => by
    have h1 := moreN_len a ha l
    have h2 := upOf_len a x ha
    show (upOf a x ++ moreN a l).length ≤ _
    rw [List.length_append, List.length_cons]
    omega
theorem moreN_succ {a i x : Nat} {l : List Nat} (h : l[i]? = some x) : moreN a (l.take (i + 1)) = moreN a (l.take i) ++ upOf a x := by
  unfold moreN
  rw [List.take_succ, h, List.flatMap_append]
  simp
theorem Same.own3 {H H' : Hp} {p : Addr} {o : HO} (e : Same H H') (h : H p = Option.none) : Same H (upd H' p o) := fun c u z => by
  rw [upd_ne (ne_of_none z h)]; exact e _ _ z
noncomputable def spOneUp : Sp := fun vs H Q _ => ∃ (p : Addr) (a i : Nat), vs = [.ref p, vN a] ∧ a < 128 ∧ i < 8 ∧ H p = some (.lst ((rowN a i).map vN)) ∧ ∀ (l : Addr) (H' : Hp), Same H H' → H l = none → H' l = some (.lst ((rowN a (i + 1)).map vN)) → Q (.ref l) H'
end L2

namespace L2
open PySem PySem.Spec PyProof.Rows
section
variable {X : Cx} {K : PySem.W.Frag}
end
/-! ### what a set settles, told by the sets that keep the rules; keys -/
/-! keys -/
end L2

namespace L2
open PySem PySem.Spec PyProof.Rows
/-! ### what a set settles, as a number; gains part by part -/
end L2

namespace L2
open PySem PySem.Spec PyProof.Rows
/-! ### the laws of cuts: their rules and parts; a cut in two -/
section
variable {K : PySem.W.Frag} {H H1 H2 : Hp} {st g p : Addr} {ns : List Int} {m k k' : Nat} {rs rs' : List Rl} {o : HO} {ys : List V}
end
theorem bits_eq {a b : Nat} (h : ∀ k, HasB a k ↔ HasB b k) : a = b := Nat.eq_of_testBit_eq fun k => by
  rw [Bool.eq_iff_iff]; exact h k
end L2

namespace L2
open PySem PySem.Spec PyProof.Rows
end L2

namespace L2
open PySem PySem.Spec PyProof.Rows
section
variable {X : Cx} {K : PySem.W.Frag}
end
/-! ### keys told by the sets that keep the rules -/
end L2

namespace L2
open PySem PySem.Spec PyProof.Rows
/-! ### every set is unfolded; gains told by the sets that keep the rules -/
theorem run_ex {rs : List RD} {m : Nat} : ∀ (n : Nat) (s : US), muS s.bs ≤ n → Good m s.fx s.bs → ∃ t, Run rs s t
  | 0, s, hn, g => by
    cases e : usesN rs s.bs rs.length with
    | nil => exact ⟨s, .done e⟩
    | cons u us =>
      have := (step_good (m := m) (rs := rs) (s := s) (u := u) g (by rw [e]; exact List.mem_cons_self ..)).2
      omega
  | n + 1, s, hn, g => by
    cases e : usesN rs s.bs rs.length with
    | nil => exact ⟨s, .done e⟩
    | cons u us =>
      obtain ⟨g', mu⟩ := step_good (m := m) (rs := rs) (s := s) (u := u) g (by rw [e]; exact List.mem_cons_self ..)
      obtain ⟨t, R⟩ := run_ex n (stepS rs s u) (by omega) g'
      exact ⟨t, .step e R⟩
theorem sub_and {a b : Nat} (h : ∀ k, HasB a k → HasB b k) : a &&& b = a := bits_eq fun k => by
  rw [hasb_and]
  exact ⟨fun z => z.1, fun z => ⟨z, h k z⟩⟩
end L2

namespace L2
open PySem PySem.Spec PyProof.Rows
/-! ### what is told twice, and the tree of cuts -/
open Classical in
noncomputable def unfF (m : Nat) (rs : List RD) (x : Nat) : US := if h : ∃ t, Run rs ⟨x, beginBs m x, []⟩ t then h.choose else ⟨x, [], []⟩
theorem Run.unfF {m x : Nat} {rs : List RD} {s : US} (R : Run rs ⟨x, beginBs m x, []⟩ s) : L2.unfF m rs x = s := by
  have h : ∃ t, Run rs ⟨x, beginBs m x, []⟩ t := ⟨s, R⟩
  unfold L2.unfF
  rw [dif_pos h]
  exact h.choose_spec.det R
noncomputable def bitsIn (p : Nat) (bs : List Nat) : List Nat := (bs.filter fun b => !decide (b &&& p = 0)).map fun b => b &&& p
noncomputable def gainedN (m : Nat) (rs : List RD) (p x : Nat) : Nat := (p &&& (unfF m rs x).fx) - ((p &&& (unfF m rs x).fx) &&& x)
noncomputable def againN (m : Nat) (rs : List RD) (p x : Nat) : Option Nat :=
  if p &&& (unfF m rs x).fx = p then none else if gainedN m rs p x ≠ 0 then some (gainedN m rs p x) else
    if 1 < (bitsIn p (unfF m rs x).bs).length then (bitsIn p (unfF m rs x).bs).head? else none
noncomputable def hitT (m : Nat) (rs : List RD) (p x : Nat) : Option (Nat × Nat) := (againN m rs p x).map fun g => (x, g)
noncomputable def twF (m : Nat) (rs : List RD) (p : Nat) : Option (Nat × Nat) := (dueN p).findSome? (hitT m rs p)
theorem bitsIn_pw {p : Nat} {bs : List Nat} (h : bs.Pairwise fun a b => a &&& b = 0) : (bitsIn p bs).Pairwise fun a b => a &&& b = 0 := by
  unfold bitsIn
  rw [List.pairwise_map]
  refine (h.filter _).imp fun {a b} e => ?_
  refine dis_iff.mpr fun k hk => ?_
  rw [Nat.testBit_and, Bool.and_eq_true] at hk
  rw [Nat.testBit_and, dis_iff.mp e k hk.1]; rfl
theorem bitsIn_mem {p c : Nat} {bs : List Nat} (h : c ∈ bitsIn p bs) : c ≠ 0 ∧ ∃ b ∈ bs, c = b &&& p := by
  unfold bitsIn at h
  obtain ⟨b, hb, rfl⟩ := List.mem_map.mp h
  obtain ⟨h1, h2⟩ := List.mem_filter.mp hb
  refine ⟨fun e => ?_, b, h1, rfl⟩
  rw [decide_eq_true e] at h2
  cases h2
theorem again_ok {m x p g : Nat} {rs : List RD} (hx : x < 2 ^ m) (h : againN m rs p x = some g) : g ≠ 0 ∧ (∀ k, HasB g k → HasB p k) ∧ x ||| g ≠ p := by
  obtain ⟨s, R⟩ := run_ex (rs := rs) _ ⟨x, beginBs m x, []⟩ (Nat.le_refl _) (Good.begin hx)
  have G := (R.good (Good.begin hx)).1
  have e := R.unfF
  have xf : ∀ k, HasB x k → HasB s.fx k := fun k hk => G.col.mpr ⟨hasb_lt hx hk, fun b hb => dis_iff.mp (R.apart0 hx hb) k hk⟩
  unfold againN gainedN at h
  rw [e] at h
  split at h
  · cases h
  · rename_i n1
    split at h
    · rename_i n2
      injection h with h
      rw [h] at n2
      have gb : ∀ k, HasB g k ↔ (HasB p k ∧ HasB s.fx k) ∧ ¬ HasB x k := fun k => by rw [← h, hasb_out, hasb_and]
      refine ⟨n2, fun k hk => ((gb k).mp hk).1.1, fun z => n1 (sub_and fun k hk => ?_)⟩
      rw [← z, hasb_or] at hk
      rcases hk with hk | hk
      · exact xf k hk
      · exact ((gb k).mp hk).1.2
    · split at h
      · rename_i n3
        have pw := bitsIn_pw (p := p) G.pw
        have mem := fun c => bitsIn_mem (c := c) (p := p) (bs := s.bs)
        revert n3 h pw mem
        match bitsIn p s.bs with
        | [] => intro n3; cases n3
        | [_] => intro n3; exact absurd n3 (Nat.lt_irrefl 1)
        | y :: c :: l =>
          intro n3 h pw mem
          injection h with h
          subst h
          obtain ⟨y0, b, hb, rfl⟩ := mem y (List.mem_cons_self ..)
          obtain ⟨c0, b', hb', ec⟩ := mem c (List.mem_cons_of_mem _ (List.mem_cons_self ..))
          refine ⟨y0, fun k hk => ((hasb_and _ _ _).mp hk).2, fun z => ?_⟩
          obtain ⟨k, hk⟩ := bit_of_ne c0
          have h1 := (List.pairwise_cons.mp pw).1 c (List.mem_cons_self ..)
          have h2 : HasB b' k ∧ HasB p k := (hasb_and _ _ _).mp (ec ▸ hk)
          have h3 := h2.2
          rw [← z, hasb_or] at h3
          rcases h3 with h3 | h3
          · have := dis_iff.mp (R.apart0 hx hb') k h3
            rw [show b'.testBit k = true from h2.1] at this
            cases this
          · have := dis_iff.mp h1 k h3
            rw [show c.testBit k = true from hk] at this
            cases this
      · cases h
theorem due_sub {p x : Nat} (h : x ∈ dueN p) : x &&& p = x := by
  unfold dueN dueM rowN at h
  obtain ⟨i, _, h⟩ := List.mem_flatMap.mp h
  have := (List.mem_filter.mp h).2
  rw [Bool.and_eq_true] at this
  exact of_decide_eq_true this.1
/-- a pair that is told twice in p cuts p in two smaller ones that have all of p -/
structure TwP (p : Nat) (u : Nat × Nat) : Prop where
  one : u.1 ||| u.2 < p
  oth : p - (p &&& u.2) < p
  all : ∀ k, HasB p k ↔ HasB (u.1 ||| u.2) k ∨ HasB (p - (p &&& u.2)) k
theorem tw_ok {m p : Nat} {rs : List RD} {u : Nat × Nat} (hp : p < 2 ^ m) (h : twF m rs p = some u) : TwP p u := by
  unfold twF at h
  obtain ⟨x, hx, e⟩ := List.exists_of_findSome?_eq_some h
  unfold hitT at e
  obtain ⟨g, hg, rfl⟩ := Option.map_eq_some_iff.mp e
  have sx := due_sub hx
  have xp : ∀ k, HasB x k → HasB p k := fun k hk => ((hasb_and _ _ _).mp (sx.symm ▸ hk)).2
  have lx : x < 2 ^ m := by
    have : x &&& p ≤ p := Nat.and_le_right
    rw [sx] at this
    omega
  obtain ⟨g0, gp, ne⟩ := again_ok lx hg
  have e1 : p &&& g = g := by rw [Nat.and_comm]; exact sub_and gp
  have l1 : g ≤ p := by have : p &&& g ≤ p := Nat.and_le_left; rw [e1] at this; exact this
  have e2 : (x ||| g) &&& p = x ||| g := sub_and fun k hk => by
    rcases (hasb_or _ _ _).mp hk with z | z
    · exact xp k z
    · exact gp k z
  have l2 : x ||| g ≤ p := by have : (x ||| g) &&& p ≤ p := Nat.and_le_right; rw [e2] at this; exact this
  refine ⟨Nat.lt_of_le_of_ne l2 ne, by show p - (p &&& g) < p; rw [e1]; omega, fun k => ?_⟩
  show _ ↔ HasB (x ||| g) k ∨ HasB (p - (p &&& g)) k
  rw [hasb_out, hasb_or]
  constructor
  · intro hk
    by_cases z : HasB g k
    · exact Or.inl (Or.inr z)
    · exact Or.inr ⟨hk, z⟩
  · rintro ((z | z) | z)
    · exact xp k z
    · exact gp k z
    · exact z.1
/-! the run by levels -/
theorem tw_hit {m p i j x : Nat} {rs : List RD} {u : Nat × Nat} (h0 : (dueM p i).findSome? (hitT m rs p) = none) (h1 : ((rowN p i).take j).findSome? (hitT m rs p) = none) (hi : i < 8) (e : (rowN p i)[j]? = some x) (h : hitT m rs p x = some u) : twF m rs p = some u := by
  unfold twF dueN
  have e1 : ∀ d, ∃ z, dueM p (i + 1 + d) = dueM p (i + 1) ++ z := fun d => by
    induction d with
    | zero => exact ⟨[], by rw [List.append_nil, Nat.add_zero]⟩
    | succ d ih => obtain ⟨z, ez⟩ := ih; exact ⟨z ++ rowN p (i + 1 + d), by rw [← Nat.add_assoc, dueM_succ, ez, List.append_assoc]⟩
  obtain ⟨z, ez⟩ := e1 (7 - i)
  rw [show 8 = i + 1 + (7 - i) by omega, ez, dueM_succ, List.findSome?_append, List.findSome?_append, h0]
  have hj : j < (rowN p i).length := (List.getElem?_eq_some_iff.mp e).1
  have e2 : rowN p i = (rowN p i).take j ++ x :: (rowN p i).drop (j + 1) := by
    have ex : (rowN p i)[j] = x := (List.getElem?_eq_some_iff.mp e).2
    rw [← ex, ← List.drop_eq_getElem_cons hj, List.take_append_drop]
  rw [e2, List.findSome?_append, h1, List.findSome?_cons, h]
  rfl
theorem tw_miss {m p i j x : Nat} {rs : List RD} (h1 : ((rowN p i).take j).findSome? (hitT m rs p) = none) (e : (rowN p i)[j]? = some x) (h : hitT m rs p x = none) : ((rowN p i).take (j + 1)).findSome? (hitT m rs p) = none := by
  rw [List.take_succ, e, List.findSome?_append, h1]
  simp [h]
theorem tw_level {m p i j : Nat} {rs : List RD} (h0 : (dueM p i).findSome? (hitT m rs p) = none) (h1 : ((rowN p i).take j).findSome? (hitT m rs p) = none) (hj : (rowN p i).length ≤ j) : (dueM p (i + 1)).findSome? (hitT m rs p) = none := by
  rw [List.take_of_length_le hj] at h1
  rw [dueM_succ, List.findSome?_append, h0, h1]
  rfl
theorem tw_none {m p i : Nat} {rs : List RD} (hp : p < 128) (hi : i < 9) (h0 : (dueM p i).findSome? (hitT m rs p) = none) (e : rowN p i = []) : twF m rs p = none := by
  unfold twF
  rw [← row_due p hp i hi e]
  exact h0
/-! trees -/
theorem bitsIn_succ {p k b : Nat} {bs : List Nat} (h : bs[k]? = some b) : bitsIn p (bs.take (k + 1)) = bitsIn p (bs.take k) ++ (if b &&& p = 0 then [] else [b &&& p]) := by
  unfold bitsIn
  rw [List.take_succ, h, List.filter_append, List.map_append]
  split
  · rename_i z
    simp [z]
  · rename_i z
    simp [z]
theorem bitsIn_len (p : Nat) (bs : List Nat) (k : Nat) : (bitsIn p (bs.take k)).length ≤ k := by
  unfold bitsIn
  rw [List.length_map]
  exact Nat.le_trans (List.length_filter_le _ _) (List.length_take_le _ _)
theorem row_sub {p i x : Nat} (h : x ∈ rowN p i) : x &&& p = x := by
  unfold rowN at h
  have := (List.mem_filter.mp h).2
  rw [Bool.and_eq_true] at this
  exact of_decide_eq_true this.1
end L2

namespace L2
open PySem PySem.W PyProof.Rows
namespace ST
/-! ### what the library's tree of questions comes to, where each question has an answer -/
noncomputable def run {α : Type} (lt : Nat → Nat → Bool) : KasT α → α
  | .ret a => a
  | .ask i j k => run lt (k (lt i j))
theorem run_bind {α β : Type} (lt : Nat → Nat → Bool) (f : α → KasT β) : ∀ t : KasT α, run lt (t.bind f) = run lt (f (run lt t))
  | .ret _ => rfl
  | .ask i j k => run_bind lt f (k (lt i j))
/-- only numbers below n are asked for, and what comes of it is such -/
noncomputable def Asks {α : Type} (n : Nat) (P : α → Prop) : KasT α → Prop
  | .ret a => P a
  | .ask i j k => i < n ∧ j < n ∧ ∀ b, Asks n P (k b)
theorem Asks.bind {α β : Type} {n : Nat} {P : α → Prop} {R : β → Prop} {f : α → KasT β} : ∀ {t : KasT α}, Asks n P t → (∀ a, P a → Asks n R (f a)) → Asks n R (t.bind f)
  | .ret a, p, h => h a p
  | .ask _ _ _, ⟨h1, h2, h3⟩, h => ⟨h1, h2, fun b => (h3 b).bind h⟩
theorem wp_run {α : Type} {n : Nat} {P : α → Prop} {lt : Nat → Nat → Bool} {cmp : Nat → Nat → (Bool → Shared → Prop) → Shared → Prop} {s : Shared} (hc : ∀ i j C, i < n → j < n → C (lt i j) s → cmp i j C s) {G : α → Shared → Prop} : ∀ {t : KasT α}, Asks n P t → G (run lt t) s → t.kasWp cmp G s
  | .ret _, _, h => h
  | .ask _ _ _, ⟨h1, h2, h3⟩, h => hc _ _ _ h1 h2 (wp_run hc (h3 _) h)
/-! the order asked for -/
structure Ord (lt : Nat → Nat → Bool) : Prop where
  as_ : ∀ {a b}, lt a b = true → lt b a = false
  tr : ∀ {a b c}, lt b a = false → lt c b = false → lt c a = false
noncomputable abbrev gt (p : Array Nat) (k : Nat) : Nat := p.getD k 0
theorem gt_of {p : Array Nat} {k : Nat} : gt p k = (p[k]?).getD 0 := Array.getD_eq_getD_getElem? ..
theorem gt_rev {p : Array Nat} {i j : Nat} (hj : j ≤ p.size) (k : Nat) : gt (kas_rev p i j) k = if i ≤ k ∧ k < j then gt p (i + j - 1 - k) else gt p k := by
  rw [gt_of, gt_of, gt_of]
  unfold kas_rev
  rw [getElem?_mirror_all hj]
  split <;> rfl
theorem rev_perm (p : Array Nat) (i j : Nat) : (kas_rev p i j).Perm p := mirror_perm ..
theorem rev_size (p : Array Nat) (i j : Nat) : (kas_rev p i j).size = p.size := mirror_size ..
theorem gt_bub {p : Array Nat} {k d : Nat} (hk : k < p.size) (hd : d ≤ k) (c : Nat) : gt (bubble p k d) c = if c = k - d then gt p k else if k - d < c ∧ c ≤ k then gt p (c - 1) else gt p c := by
  rw [gt_of, gt_of, gt_of, gt_of, getElem?_bubble hk d hd]
  split
  · rfl
  · split <;> rfl
section
variable {lt : Nat → Nat → Bool}
noncomputable def Up (lt : Nat → Nat → Bool) (p : Array Nat) (n : Nat) : Prop := ∀ a b, a < b → b < n → lt (gt p b) (gt p a) = false
noncomputable def Dn (lt : Nat → Nat → Bool) (p : Array Nat) (n : Nat) : Prop := ∀ a b, a < b → b < n → lt (gt p a) (gt p b) = false
theorem irr (O : Ord lt) (a : Nat) : lt a a = false := by
  cases h : lt a a with
  | false => rfl
  | true => have := O.as_ h; rw [h] at this; exact this
theorem Up.more (O : Ord lt) {p : Array Nat} {n : Nat} (U : Up lt p n) (h1 : 1 ≤ n) (h : lt (gt p n) (gt p (n - 1)) = false) : Up lt p (n + 1) := fun a b hab hb => by
  by_cases c : b < n
  · exact U a b hab c
  · have e : b = n := by omega
    subst e
    by_cases d : a = b - 1
    · rw [d]; exact h
    · exact O.tr (U a (b - 1) (by omega) (by omega)) h
theorem Dn.more (O : Ord lt) {p : Array Nat} {n : Nat} (U : Dn lt p n) (h1 : 1 ≤ n) (h : lt (gt p (n - 1)) (gt p n) = false) : Dn lt p (n + 1) := fun a b hab hb => by
  by_cases c : b < n
  · exact U a b hab c
  · have e : b = n := by omega
    subst e
    by_cases d : a = b - 1
    · rw [d]; exact h
    · exact O.tr h (U a (b - 1) (by omega) (by omega))
theorem asc_ok (O : Ord lt) {p : Array Nat} : ∀ (f n : Nat), 1 ≤ n → Up lt p n → n ≤ run lt (kas_asc p f n) ∧ run lt (kas_asc p f n) ≤ n + f ∧ Up lt p (run lt (kas_asc p f n)) ∧ (run lt (kas_asc p f n) = n + f ∨ lt (gt p (run lt (kas_asc p f n))) (gt p (run lt (kas_asc p f n) - 1)) = true)
  | 0, n, h1, U => ⟨Nat.le_refl _, Nat.le_refl _, U, Or.inl rfl⟩
  | f + 1, n, h1, U => by
    have step : run lt (kas_asc p (f + 1) n) = if lt (gt p n) (gt p (n - 1)) = true then n else run lt (kas_asc p f (n + 1)) := by
      conv => lhs; unfold kas_asc
      show run lt (if _ then _ else _) = _
      split <;> rfl
    rw [step]
    cases c : lt (gt p n) (gt p (n - 1)) with
    | true =>
      rw [if_pos rfl]
      exact ⟨Nat.le_refl _, by omega, U, Or.inr c⟩
    | false =>
      rw [if_neg Bool.false_ne_true]
      obtain ⟨a1, a2, a3, a4⟩ := asc_ok O f (n + 1) (by omega) (U.more O h1 c)
      exact ⟨by omega, by omega, a3, a4.imp (fun z => by omega) id⟩
structure DI (lt : Nat → Nat → Bool) (p : Array Nat) (n q : Nat) : Prop where
  q1 : q + 1 ≤ n
  sz : n ≤ p.size
  dn : Dn lt p n
  eq : ∀ a b, n - (q + 1) ≤ a → a < n → n - (q + 1) ≤ b → b < n → lt (gt p a) (gt p b) = false
/-- things that are alike may be turned about -/
theorem DI.rev (O : Ord lt) {p : Array Nat} {n q : Nat} (D : DI lt p n q) : Dn lt (kas_rev p (n - (q + 1)) n) n ∧ ∀ a, n - (q + 1) ≤ a → a < n → lt (gt (kas_rev p (n - (q + 1)) n) a) (gt p (n - 1)) = false ∧ lt (gt p (n - 1)) (gt (kas_rev p (n - (q + 1)) n) a) = false := by
  have q1 := D.q1
  have pos : ∀ a, n - (q + 1) ≤ a → a < n → ∃ a', n - (q + 1) ≤ a' ∧ a' < n ∧ gt (kas_rev p (n - (q + 1)) n) a = gt p a' := fun a h1 h2 => ⟨n - (q + 1) + n - 1 - a, by omega, by omega, by rw [gt_rev D.sz, if_pos ⟨h1, h2⟩]⟩
  have out : ∀ a, a < n - (q + 1) → gt (kas_rev p (n - (q + 1)) n) a = gt p a := fun a h => by rw [gt_rev D.sz, if_neg (by omega)]
  refine ⟨fun a b hab hb => ?_, fun a h1 h2 => ?_⟩
  · by_cases cb : b < n - (q + 1)
    · rw [out a (by omega), out b cb]
      exact D.dn a b hab hb
    · obtain ⟨b', b1, b2, eb⟩ := pos b (by omega) hb
      rw [eb]
      by_cases ca : a < n - (q + 1)
      · rw [out a ca]
        exact D.dn a b' (by omega) b2
      · obtain ⟨a', a1, a2, ea⟩ := pos a (by omega) (by omega)
        rw [ea]
        exact D.eq a' b' a1 a2 b1 b2
  · obtain ⟨a', a1, a2, ea⟩ := pos a h1 h2
    rw [ea]
    exact ⟨D.eq a' (n - 1) a1 a2 (by omega) (by omega), D.eq (n - 1) a' (by omega) (by omega) a1 a2⟩
theorem desc_ok (O : Ord lt) : ∀ (f : Nat) (p : Array Nat) (n q : Nat), DI lt p n q → n + f ≤ p.size → (run lt (kas_desc f p n q)).1.Perm p ∧ DI lt (run lt (kas_desc f p n q)).1 (run lt (kas_desc f p n q)).2.1 (run lt (kas_desc f p n q)).2.2 ∧ (run lt (kas_desc f p n q)).2.1 ≤ n + f
  | 0, p, n, q, D, _ => ⟨Array.Perm.refl _, D, Nat.le_refl _⟩
  | f + 1, p, n, q, D, hz => by
    have q1 := D.q1
    have step : run lt (kas_desc (f + 1) p n q) = if lt (gt p n) (gt p (n - 1)) = true then run lt (kas_desc f (if q > 0 then kas_rev p (n - (q + 1)) n else p) (n + 1) 0) else if lt (gt p (n - 1)) (gt p n) = true then (p, n, q) else run lt (kas_desc f p (n + 1) (q + 1)) := by
      conv => lhs; unfold kas_desc
      show run lt (if _ then _ else _) = _
      split
      · split <;> rfl
      · show run lt (if _ then _ else _) = _
        split <;> rfl
    rw [step]
    cases c : lt (gt p n) (gt p (n - 1)) with
    | true =>
      rw [if_pos rfl]
      have one : ∀ p' : Array Nat, p'.size = p.size → Dn lt p' (n + 1) → DI lt p' (n + 1) 0 := fun p' e d => ⟨by omega, by omega, d, fun a b h1 h2 h3 h4 => by
        have : a = b := by omega
        rw [this]; exact irr O _⟩
      by_cases hq : q > 0
      · rw [if_pos hq]
        obtain ⟨d1, d2⟩ := D.rev O
        have en : gt (kas_rev p (n - (q + 1)) n) n = gt p n := by rw [gt_rev D.sz, if_neg (by omega)]
        have d3 : Dn lt (kas_rev p (n - (q + 1)) n) (n + 1) := d1.more O (by omega) (by
          rw [en]
          exact O.tr (O.as_ c) (d2 (n - 1) (by omega) (by omega)).1)
        obtain ⟨x1, x2, x3⟩ := desc_ok O f _ (n + 1) 0 (one _ (rev_size ..) d3) (by rw [rev_size]; omega)
        exact ⟨x1.trans (rev_perm ..), x2, by omega⟩
      · rw [if_neg hq]
        obtain ⟨x1, x2, x3⟩ := desc_ok O f p (n + 1) 0 (one p rfl (D.dn.more O (by omega) (O.as_ c))) (by omega)
        exact ⟨x1, x2, by omega⟩
    | false =>
      rw [if_neg Bool.false_ne_true]
      cases d : lt (gt p (n - 1)) (gt p n) with
      | true =>
        rw [if_pos rfl]
        exact ⟨Array.Perm.refl _, D, by show n ≤ _; omega⟩
      | false =>
        rw [if_neg Bool.false_ne_true]
        have eqn : ∀ a, n - (q + 1) ≤ a → a < n → lt (gt p a) (gt p n) = false ∧ lt (gt p n) (gt p a) = false := fun a h1 h2 =>
          ⟨O.tr d (D.eq a (n - 1) h1 h2 (by omega) (by omega)), O.tr (D.eq (n - 1) a (by omega) (by omega) h1 h2) c⟩
        obtain ⟨x1, x2, x3⟩ := desc_ok O f p (n + 1) (q + 1) ⟨by omega, by omega, D.dn.more O (by omega) d, fun a b h1 h2 h3 h4 => by
          by_cases ca : a = n
          · rw [ca]
            by_cases cb : b = n
            · rw [cb]; exact irr O _
            · exact (eqn b (by omega) (by omega)).2
          · by_cases cb : b = n
            · rw [cb]; exact (eqn a (by omega) (by omega)).1
            · exact D.eq a b (by omega) (by omega) (by omega) (by omega)⟩ (by omega)
        exact ⟨x1, x2, by omega⟩
theorem tail_ok (O : Ord lt) {p : Array Nat} {n m : Nat} (D : Dn lt p n) (h1 : 1 ≤ n) (hn : n ≤ m) (hz : m ≤ p.size) : (run lt (kas_tail3 n m p)).2.Perm p ∧ n ≤ (run lt (kas_tail3 n m p)).1 ∧ (run lt (kas_tail3 n m p)).1 ≤ m ∧ Up lt (run lt (kas_tail3 n m p)).2 (run lt (kas_tail3 n m p)).1 := by
  have U : Up lt (kas_rev p 0 n) n := fun a b hab hb => by
    rw [gt_rev (by omega), gt_rev (by omega), if_pos (by omega), if_pos (by omega)]
    exact D _ _ (by omega) (by omega)
  obtain ⟨a1, a2, a3, _⟩ := asc_ok O (m - n) n h1 U
  unfold kas_tail3
  rw [run_bind]
  exact ⟨rev_perm .., a1, by show run lt (kas_asc (kas_rev p 0 n) (m - n) n) ≤ m; omega, a3⟩
theorem part_ok (O : Ord lt) {p : Array Nat} {n m : Nat} (D : Dn lt p (n + 1)) (hn : n + 1 ≤ m) (hz : m ≤ p.size) : (run lt (kas_descPart n m p)).2.Perm p ∧ 1 ≤ (run lt (kas_descPart n m p)).1 ∧ (run lt (kas_descPart n m p)).1 ≤ m ∧ Up lt (run lt (kas_descPart n m p)).2 (run lt (kas_descPart n m p)).1 := by
  obtain ⟨x1, x2, x3⟩ := desc_ok O (m - (n + 1)) p (n + 1) 0 ⟨by omega, by omega, D, fun a b h1 h2 h3 h4 => by
    have : a = b := by omega
    rw [this]; exact irr O _⟩ (by omega)
  unfold kas_descPart
  rw [run_bind]
  generalize run lt (kas_desc (m - (n + 1)) p (n + 1) 0) = r at x1 x2 x3
  have sz : r.1.size = p.size := x1.size_eq
  have q1 := x2.q1
  split
  · obtain ⟨a, b, c, d⟩ := tail_ok O (m := m) (x2.rev O).1 (by omega) (by omega) (by rw [rev_size]; omega)
    exact ⟨(a.trans (rev_perm ..)).trans x1, by omega, c, d⟩
  · obtain ⟨a, b, c, d⟩ := tail_ok O (m := m) x2.dn (by omega) (by omega) (by omega)
    exact ⟨a.trans x1, by omega, c, d⟩
theorem count_ok (O : Ord lt) {p : Array Nat} {m : Nat} (h1 : 1 ≤ m) (hz : m ≤ p.size) : (run lt (kas_count m p)).2.Perm p ∧ 1 ≤ (run lt (kas_count m p)).1 ∧ (run lt (kas_count m p)).1 ≤ m ∧ Up lt (run lt (kas_count m p)).2 (run lt (kas_count m p)).1 := by
  obtain ⟨a1, a2, a3, a4⟩ := asc_ok O (p := p) (m - 1) 1 (Nat.le_refl _) fun a b h1 h2 => by omega
  unfold kas_count
  rw [run_bind]
  generalize run lt (kas_asc p (m - 1) 1) = n at a1 a2 a3 a4
  by_cases e : n = m
  · rw [if_pos (beq_iff_eq.mpr e)]
    exact ⟨Array.Perm.refl _, a1, by show n ≤ m; omega, a3⟩
  · rw [if_neg (fun z => e (beq_iff_eq.mp z))]
    have dn : lt (gt p n) (gt p (n - 1)) = true := a4.resolve_left (by omega)
    by_cases c : n > 1
    · rw [if_pos c]
      cases d : lt (gt p 0) (gt p (n - 1)) with
      | true =>
        have ex : ∀ k : Bool → KasT (Nat × Array Nat), run lt (KasT.ask (p.getD 0 0) (p.getD (n - 1) 0) k) = run lt (k true) := fun k => by show run lt (k (lt (gt p 0) (gt p (n - 1)))) = _; rw [d]
        rw [ex, if_pos rfl]
        exact ⟨Array.Perm.refl _, a1, by show n ≤ m; omega, a3⟩
      | false =>
        have ex : ∀ k : Bool → KasT (Nat × Array Nat), run lt (KasT.ask (p.getD 0 0) (p.getD (n - 1) 0) k) = run lt (k false) := fun k => by show run lt (k (lt (gt p 0) (gt p (n - 1)))) = _; rw [d]
        rw [ex, if_neg Bool.false_ne_true]
        have all : ∀ a b, a < n → b < n → lt (gt p a) (gt p b) = false := fun a b ha hb => by
          have l0 : ∀ c, c < n → lt (gt p c) (gt p 0) = false := fun c hc => by
            by_cases z : c = 0
            · rw [z]; exact irr O _
            · exact a3 0 c (by omega) hc
          have l1 : ∀ c, c < n → lt (gt p (n - 1)) (gt p c) = false := fun c hc => by
            by_cases z : c = n - 1
            · rw [z]; exact irr O _
            · exact a3 c (n - 1) (by omega) (by omega)
          exact O.tr (O.tr (l1 b hb) d) (l0 a ha)
        have rv : ∀ a, a < n → gt (kas_rev p 0 n) a = gt p (0 + n - 1 - a) := fun a ha => by rw [gt_rev (by omega), if_pos (by omega)]
        obtain ⟨x1, x2, x3, x4⟩ := part_ok O (p := kas_rev p 0 n) (n := n) (m := m) (fun a b hab hb => by
          rw [rv a (by omega)]
          by_cases cb : b < n
          · rw [rv b cb]
            exact all _ _ (by omega) (by omega)
          · have : b = n := by omega
            rw [this, gt_rev (by omega), if_neg (by omega)]
            exact O.tr (O.as_ dn) (all _ _ (by omega) (by omega))) (by omega) (by rw [rev_size]; exact hz)
        exact ⟨x1.trans (rev_perm ..), x2, x3, x4⟩
    · rw [if_neg c]
      have n1 : n = 1 := by omega
      subst n1
      exact part_ok O (fun a b hab hb => by
        have : a = 0 ∧ b = 1 := by omega
        rw [this.1, this.2]
        exact O.as_ dn) (by omega) hz
theorem place_ok (O : Ord lt) {p : Array Nat} {k : Nat} (U : Up lt p k) : ∀ (f l r : Nat), r - l ≤ f → l ≤ r → r ≤ k → (∀ a, a < l → lt (gt p k) (gt p a) = false) → (∀ a, r ≤ a → a < k → lt (gt p k) (gt p a) = true) →
    run lt (kas_place p k f l r) ≤ k ∧ (∀ a, a < run lt (kas_place p k f l r) → lt (gt p k) (gt p a) = false) ∧ ∀ a, run lt (kas_place p k f l r) ≤ a → a < k → lt (gt p k) (gt p a) = true
  | 0, l, r, h1, h2, h3, h4, h5 => ⟨by show l ≤ k; omega, h4, fun a ha => h5 a (by have : l ≤ a := ha; omega)⟩
  | f + 1, l, r, h1, h2, h3, h4, h5 => by
    have step : run lt (kas_place p k (f + 1) l r) = if l ≥ r then l else if lt (gt p k) (gt p ((l + r) / 2)) = true then run lt (kas_place p k f l ((l + r) / 2)) else run lt (kas_place p k f ((l + r) / 2 + 1) r) := by
      conv => lhs; unfold kas_place
      split
      · rfl
      · show run lt (if _ then _ else _) = _
        split <;> rfl
    rw [step]
    by_cases c : l ≥ r
    · rw [if_pos c]
      exact ⟨by omega, h4, fun a ha => h5 a (by omega)⟩
    · rw [if_neg c]
      cases d : lt (gt p k) (gt p ((l + r) / 2)) with
      | true =>
        rw [if_pos rfl]
        refine place_ok O U f l _ (by omega) (by omega) (by omega) h4 fun a ha hk => ?_
        by_cases e : a = (l + r) / 2
        · rw [e]; exact d
        · cases z : lt (gt p k) (gt p a) with
          | true => rfl
          | false =>
            have := O.tr (U ((l + r) / 2) a (by omega) hk) z
            rw [d] at this
            cases this
      | false =>
        rw [if_neg Bool.false_ne_true]
        refine place_ok O U f _ r (by omega) (by omega) h3 (fun a ha => ?_) h5
        by_cases e : a = (l + r) / 2
        · rw [e]; exact d
        · exact O.tr (U a ((l + r) / 2) (by omega) (by omega)) d
theorem bin_ok (O : Ord lt) : ∀ (f : Nat) (p : Array Nat) (k : Nat), Up lt p k → k + f ≤ p.size → (run lt (kas_bin f p k)).Perm p ∧ Up lt (run lt (kas_bin f p k)) (k + f)
  | 0, p, k, U, _ => ⟨Array.Perm.refl _, U⟩
  | f + 1, p, k, U, hz => by
    unfold kas_bin
    rw [run_bind]
    obtain ⟨a, b, c⟩ := place_ok O U k 0 k (by omega) (Nat.zero_le _) (Nat.le_refl _) (fun a h => absurd h (Nat.not_lt_zero _)) fun a h1 h2 => by omega
    generalize run lt (kas_place p k k 0 k) = l at a b c
    have g := gt_bub (p := p) (k := k) (d := k - l) (by omega) (by omega)
    have e : k - (k - l) = l := by omega
    rw [e] at g
    have U' : Up lt (bubble p k (k - l)) (k + 1) := fun x y hxy hy => by
      rw [g x, g y]
      by_cases x1 : x = l
      · rw [if_pos x1]
        by_cases y1 : y = l
        · omega
        · rw [if_neg y1, if_pos (by omega)]
          exact O.as_ (c (y - 1) (by omega) (by omega))
      · rw [if_neg x1]
        by_cases y1 : y = l
        · rw [if_pos y1, if_neg (by omega)]
          exact b x (by omega)
        · rw [if_neg y1]
          by_cases x2 : l < x ∧ x ≤ k
          · rw [if_pos x2, if_pos (by omega)]
            exact U _ _ (by omega) (by omega)
          · rw [if_neg x2]
            by_cases y2 : l < y ∧ y ≤ k
            · rw [if_pos y2]
              by_cases z : x = y - 1
              · omega
              · exact U _ _ (by omega) (by omega)
            · rw [if_neg y2]
              exact U _ _ hxy (by omega)
    obtain ⟨x1, x2⟩ := bin_ok O f (bubble p k (k - l)) (k + 1) U' (by rw [bubble_size]; omega)
    exact ⟨x1.trans (bubble_perm ..), by rw [show k + (f + 1) = k + 1 + f by omega]; exact x2⟩
/-- the whole: the numbers below n, in the order asked for -/
theorem sort_ok (O : Ord lt) {n : Nat} (hn : 1 ≤ n) : (run lt (kas_sort n)).toList.Perm (List.range n) ∧ Up lt (run lt (kas_sort n)) n := by
  obtain ⟨a, b, c, d⟩ := count_ok O (p := (List.range n).toArray) (m := n) hn (by simp)
  unfold kas_sort
  rw [run_bind]
  generalize run lt (kas_count n (List.range n).toArray) = r at a b c d
  have pm : ∀ {q : Array Nat}, q.Perm r.2 → q.toList.Perm (List.range n) := fun {q} h => by
    have := (h.trans a)
    exact (Array.perm_iff_toList_perm.mp this).trans (by rw [List.toList_toArray])
  have sz : r.2.size = n := by rw [a.size_eq]; simp
  split
  · obtain ⟨x1, x2⟩ := bin_ok O (n - max r.1 1) r.2 (max r.1 1) (by rw [show max r.1 1 = r.1 by omega]; exact d) (by omega)
    exact ⟨pm x1, by rw [show max r.1 1 + (n - max r.1 1) = n by omega] at x2; exact x2⟩
  · exact ⟨pm (Array.Perm.refl _), by rw [show n = r.1 by omega]; exact d⟩
/-! what is asked for -/
noncomputable def All (N : Nat) (p : Array Nat) : Prop := ∀ x ∈ p.toList, x < N
theorem All.at {N : Nat} {p : Array Nat} (h : All N p) (h0 : 0 < N) (k : Nat) : p.getD k 0 < N := by
  rw [Array.getD_eq_getD_getElem?]
  cases e : p[k]? with
  | none => exact h0
  | some x => exact h x (by rw [← Array.getElem?_toList] at e; exact List.mem_of_getElem? e)
theorem All.perm {N : Nat} {p q : Array Nat} (h : All N p) (e : q.Perm p) : All N q := fun x hx => h x ((Array.perm_iff_toList_perm.mp e).mem_iff.mp hx)
section
variable {N : Nat} (h0 : 0 < N)
include h0
theorem asks_asc {p : Array Nat} (h : All N p) : ∀ f n, Asks N (fun _ => True) (kas_asc p f n)
  | 0, _ => trivial
  | f + 1, n => ⟨h.at h0 _, h.at h0 _, fun b => by
    show Asks N _ (if _ then _ else _)
    split
    · exact trivial
    · exact asks_asc h f _⟩
theorem asks_desc : ∀ (f : Nat) (p : Array Nat) (n q : Nat), All N p → Asks N (fun r => All N r.1) (kas_desc f p n q)
  | 0, _, _, _, h => h
  | f + 1, p, n, q, h => ⟨h.at h0 _, h.at h0 _, fun b => by
    show Asks N _ (if _ then _ else _)
    split
    · split
      · exact asks_desc f _ _ _ (h.perm (rev_perm ..))
      · exact asks_desc f _ _ _ h
    · refine ⟨h.at h0 _, h.at h0 _, fun c => ?_⟩
      show Asks N _ (if _ then _ else _)
      split
      · exact h
      · exact asks_desc f _ _ _ h⟩
theorem asks_tail {p : Array Nat} (h : All N p) (n m : Nat) : Asks N (fun r => All N r.2) (kas_tail3 n m p) :=
  (asks_asc h0 (h.perm (rev_perm ..)) _ _).bind fun _ _ => h.perm (rev_perm ..)
theorem asks_part {p : Array Nat} (h : All N p) (n m : Nat) : Asks N (fun r => All N r.2) (kas_descPart n m p) :=
  (asks_desc h0 _ _ _ _ h).bind fun r hr => by
    show Asks N _ (if _ then _ else _)
    split
    · exact asks_tail h0 (hr.perm (rev_perm ..)) _ _
    · exact asks_tail h0 hr _ _
theorem asks_count {p : Array Nat} (h : All N p) (m : Nat) : Asks N (fun r => All N r.2) (kas_count m p) :=
  (asks_asc h0 h _ _).bind fun n _ => by
    show Asks N _ (if _ then _ else _)
    split
    · exact h
    · split
      · refine ⟨h.at h0 _, h.at h0 _, fun b => ?_⟩
        show Asks N _ (if _ then _ else _)
        split
        · exact h
        · exact asks_part h0 (h.perm (rev_perm ..)) _ _
      · exact asks_part h0 h _ _
theorem asks_place {p : Array Nat} (h : All N p) (k : Nat) : ∀ f l r, Asks N (fun _ => True) (kas_place p k f l r)
  | 0, _, _ => trivial
  | f + 1, l, r => by
    unfold kas_place
    split
    · exact trivial
    · refine ⟨h.at h0 _, h.at h0 _, fun b => ?_⟩
      show Asks N _ (if _ then _ else _)
      split
      · exact asks_place h k f _ _
      · exact asks_place h k f _ _
theorem asks_bin : ∀ (f : Nat) (p : Array Nat) (k : Nat), All N p → Asks N (fun r => All N r) (kas_bin f p k)
  | 0, _, _, h => h
  | f + 1, p, k, h => (asks_place h0 h _ _ _ _).bind fun l _ => asks_bin f _ _ (h.perm (bubble_perm ..))
theorem asks_sort : Asks N (fun r => All N r) (kas_sort N) :=
  (asks_count h0 (p := (List.range N).toArray) (fun x hx => List.mem_range.mp (by rw [List.toList_toArray] at hx; exact hx)) N).bind fun r hr => by
    show Asks N _ (if _ then _ else _)
    split
    · exact asks_bin h0 _ _ _ hr
    · exact hr
end
/-- a sort by questions that have answers -/
theorem sort_wp {n : Nat} (hn : 1 ≤ n) {lt : Nat → Nat → Bool} (O : Ord lt) {cmp : Nat → Nat → (Bool → Shared → Prop) → Shared → Prop} {s : Shared} (hc : ∀ i j C, i < n → j < n → C (lt i j) s → cmp i j C s) {G : Array Nat → Shared → Prop} (h : ∀ p : Array Nat, p.toList.Perm (List.range n) → Up lt p n → G p s) : (kas_sort n).kasWp cmp G s :=
  wp_run hc (asks_sort (by omega)) (h _ (sort_ok O hn).1 (sort_ok O hn).2)
end
end ST
end L2

namespace L2
open PySem PySem.W PyProof.Rows
namespace ST
/-! ### rows in their order -/
noncomputable def lexB : List Int → List Int → Bool
  | x :: xs, y :: ys => if x = y then lexB xs ys else decide (x < y)
  | _, _ => false
theorem lex_as : ∀ {x y : List Int}, lexB x y = true → lexB y x = false
  | [], y, h => by cases y <;> rfl
  | _ :: _, [], h => rfl
  | a :: x, b :: y, h => by
    unfold lexB at h ⊢
    by_cases e : a = b
    · rw [if_pos e] at h
      rw [if_pos e.symm]
      exact lex_as h
    · rw [if_neg e] at h
      rw [if_neg (Ne.symm e)]
      have := of_decide_eq_true h
      exact decide_eq_false (by omega)
theorem lex_tr : ∀ {x y z : List Int}, x.length = y.length → y.length = z.length → lexB y x = false → lexB z y = false → lexB z x = false
  | [], [], [], _, _, _, _ => rfl
  | a :: x, b :: y, c :: z, h1, h2, h3, h4 => by
    unfold lexB at h3 h4 ⊢
    by_cases e1 : b = a
    · subst e1
      rw [if_pos rfl] at h3
      by_cases e2 : c = b
      · subst e2
        rw [if_pos rfl] at h4 ⊢
        exact lex_tr (Nat.succ.inj h1) (Nat.succ.inj h2) h3 h4
      · rw [if_neg e2] at h4 ⊢
        exact h4
    · rw [if_neg e1] at h3
      have n1 := of_decide_eq_false h3
      by_cases e2 : c = b
      · subst e2
        rw [if_neg e1]
        exact h3
      · rw [if_neg e2] at h4
        have n2 := of_decide_eq_false h4
        rw [if_neg (by omega)]
        exact decide_eq_false (by omega)
section
variable {prog : Program} {w : World} {A : Around} {E : Value → Shared → Prop} {s : Shared}
/-- two rows compared, item by item -/
theorem lex_ask {Q : Bool → Shared → Prop} : ∀ {us vs : List Value} {xs ys : List Int} (i : Nat), IntsAre us xs → IntsAre vs ys → xs.length = ys.length → Q (lexB xs ys) s → KatLex prog w A true false Q (us.zip vs) i s
  | _, _, _, _, _, .nil, .nil, _, q => q
  | _, _, _, _, i, .cons (vs := us) (ns := xs) x t hx, .cons (vs := vs) (ns := ys) y u hy, hl, q => by
    refine kat_cons (wpAny_eqBool_int ?_)
    unfold lexB at q
    by_cases e : x = y
    · subst e
      rw [if_pos rfl] at q
      rw [beq_self_eq_true]
      exact kat_yes (lex_ask (i + 1) hx hy (Nat.succ.inj hl) q)
    · rw [if_neg e] at q
      rw [beq_eq_false_iff_ne.mpr e]
      refine kat_no ?_
      cases c : (true && i == 0) with
      | true => exact oneLt_int q
      | false => exact kat_one _ _ (lt_int q)
/-- a row in the heap -/
noncomputable def RowAt (h : Heap) (m : Nat) (r : Addr × List Int) : Prop := r.2.length = m ∧ ∃ o its n, h.get? r.1 = some o ∧ o.cls = .type "tuple" ∧ o.data = .seq its n ∧ IntsAre its.toList r.2
theorem row_lt {m : Nat} {a b : Addr × List Int} {Q : Bool → Shared → Prop} (ha : RowAt s.heap m a) (hb : RowAt s.heap m b) (q : Q (lexB a.2 b.2) s) : wpAny (model prog w) A (keyLt' (tuples' true) (.ref a.1) (.ref b.1)) Q E s := by
  obtain ⟨l1, o1, i1, n1, h1, _, d1, r1⟩ := ha
  obtain ⟨l2, o2, i2, n2, h2, _, d2, r2⟩ := hb
  have e1 : i1.size = m := by rw [← Array.length_toList, r1.length, l1]
  have e2 : i2.size = m := by rw [← Array.length_toList, r2.length, l2]
  refine kat_lt h1 d1 h2 d2 ?_
  rw [e1, e2, decide_eq_false (Nat.lt_irrefl _)]
  exact lex_ask 0 r1 r2 (by rw [l1, l2]) q
end
end ST
end L2

namespace L2
open PySem PySem.Spec PySem.W PyProof.Rows
namespace ST
/-! ### list.sort of rows -/
section
variable {prog : Program} {w : World} {A : Around} {E : Value → Shared → Prop} {s : Shared} {L a : Addr} {mm : Str → Option Value} {m : Nat} {rows : List (Addr × List Int)}
noncomputable abbrev rf (r : Addr × List Int) : Value := .ref r.1
theorem RowAt.keep {h h' : Heap} {r : Addr × List Int} (x : RowAt h m r) (e : ∀ o, h.get? r.1 = some o → h'.get? r.1 = some o) : RowAt h' m r := by
  obtain ⟨l, o, its, n, h1, h2⟩ := x
  exact ⟨l, o, its, n, e o h1, h2⟩
theorem RowAt.first {h : Heap} (hm : 1 ≤ m) : ∀ {rows : List (Addr × List Int)}, (∀ r ∈ rows, RowAt h m r) → ∃ fs : List Value, fs.length = rows.length ∧ KatTups h (rows.map rf) fs ∧ ∀ v ∈ fs, ∃ i t, v = .int i t
  | [], _ => ⟨[], rfl, .nil, fun v h => by cases h⟩
  | r :: rows, hr => by
    obtain ⟨fs, e, t, hv⟩ := RowAt.first hm (rows := rows) fun x hx => hr x (List.mem_cons_of_mem _ hx)
    obtain ⟨l, o, its, n, h1, h2, h3, h4⟩ := hr r (List.mem_cons_self ..)
    have : ∃ i t, its[0]? = some (Value.int i t) := by
      rw [← Array.getElem?_toList]
      revert h4 l
      generalize its.toList = us
      generalize r.2 = zs
      intro l h4
      cases h4 with
      | nil => exact absurd l (by simp; omega)
      | cons i t _ => exact ⟨i, t, rfl⟩
    obtain ⟨i, t0, e0⟩ := this
    refine ⟨.int i t0 :: fs, by rw [List.length_cons, List.length_cons, e], KatTups.cons h1 h2 h3 e0 t, fun v hv' => ?_⟩
    rcases List.mem_cons.mp hv' with z | z
    · exact ⟨i, t0, z⟩
    · exact hv v z
noncomputable def keyR (m : Nat) (rows : List (Addr × List Int)) (i : Nat) : List Int := (rows.getD i (0, List.replicate m 0)).2
theorem key_ord (hr : ∀ r ∈ rows, r.2.length = m) : Ord fun i j => lexB (keyR m rows i) (keyR m rows j) := by
  have len : ∀ i, (keyR m rows i).length = m := fun i => by
    unfold keyR
    rw [List.getD_eq_getElem?_getD]
    cases e : rows[i]? with
    | none => simp
    | some r => exact hr r (List.mem_of_getElem? e)
  exact ⟨fun h => lex_as h, fun h1 h2 => lex_tr (by rw [len, len]) (by rw [len, len]) h1 h2⟩
noncomputable def RUp (rows : List (Addr × List Int)) : Prop := rows.Pairwise fun x y => lexB y.2 x.2 = false
theorem rows_of {p : Array Nat} (hp : p.toList.Perm (List.range rows.length)) (U : Up (fun i j => lexB (keyR m rows i) (keyR m rows j)) p rows.length) : ∃ rows', (p.toList.map fun i => (rows.map rf).getD i Value.none) = rows'.map rf ∧ rows'.Perm rows ∧ RUp rows' := by
  refine ⟨p.toList.map fun i => rows.getD i (0, List.replicate m 0), ?_, ?_, ?_⟩
  · rw [List.map_map]
    refine List.map_congr_left fun i hi => ?_
    have hl : i < rows.length := List.mem_range.mp (hp.mem_iff.mp hi)
    show (rows.map rf).getD i Value.none = rf (rows.getD i (0, List.replicate m 0))
    rw [List.getD_eq_getElem?_getD, List.getElem?_map, List.getD_eq_getElem?_getD, List.getElem?_eq_getElem hl]
    rfl
  · have := hp.map fun i => rows.getD i (0, List.replicate m 0)
    refine this.trans ?_
    have e : (List.range rows.length).map (fun i => rows.getD i (0, List.replicate m 0)) = rows := by
      apply List.ext_getElem?
      intro i
      rw [List.getElem?_map]
      by_cases h : i < rows.length
      · rw [List.getElem?_eq_getElem (by rw [List.length_range]; exact h), List.getElem?_eq_getElem h, List.getElem_range]
        show some (rows.getD i _) = _
        rw [List.getD_eq_getElem?_getD, List.getElem?_eq_getElem h]
        rfl
      · rw [List.getElem?_eq_none (by rw [List.length_range]; omega), List.getElem?_eq_none (by omega)]
        rfl
    rw [e]
  · unfold RUp
    rw [List.pairwise_map, List.pairwise_iff_getElem]
    intro i j hi hj hij
    have hs : p.toList.length = rows.length := by rw [hp.length_eq, List.length_range]
    have := U i j hij (by omega)
    have g : ∀ k (hk : k < p.toList.length), gt p k = p.toList[k] := fun k hk => by
      rw [gt_of, ← Array.getElem?_toList, List.getElem?_eq_getElem hk]
      rfl
    rw [g i hi, g j hj] at this
    exact this
theorem row_ne {r : Addr × List Int} {o : Obj} {b : Addr} (x : RowAt s.heap m r) (hb : s.heap.get? b = some o) (hc : o.cls ≠ .type "tuple") : r.1 ≠ b := fun z => by
  obtain ⟨_, o', _, _, h1, h2, _⟩ := x
  rw [z, hb] at h1
  cases h1
  exact hc h2
theorem sort_many {c : Nat} {P : PySem.Fin → Shared → Prop} (hm : 1 ≤ m) (ho : s.heap.get? a = some (seqObj "list" (rows.map rf).toArray c)) (hr : ∀ r ∈ rows, RowAt s.heap m r) (h2 : 2 ≤ rows.length) (h64 : rows.length < 64)
    (h : ∀ h' rows' c', rows'.Perm rows → RUp rows' → h'.get? a = some (seqObj "list" (rows'.map rf).toArray c') → (∀ b o, b ≠ a → s.heap.get? b = some o → h'.get? b = some o) → P (.done (.ret .none)) { s with heap := h' }) :
    wpAny (model prog w) A (Builtin.«list.sort» ⟨[.ref a], []⟩) P E s := by
  have lv : (rows.map rf).length = rows.length := List.length_map ..
  have sz : ¬ ((rows.map rf).toArray).size < 2 := by rw [List.size_toArray, lv]; omega
  have few : ((rows.map rf).toArray).size ≤ sizeLine := by rw [List.size_toArray, lv]; exact Nat.le_trans (Nat.le_of_lt h64) (by decide)
  obtain ⟨c1, o1⟩ : ∃ c1, (s.heap.update a (Obj.mapSeq fun _ => (#[] : Array Value))).get? a = some (seqObj "list" #[] c1) := ⟨_, get?_update_seq ho _⟩
  have o3 := Heap.get?_push_of_some { cls := .type "list", data := .seq #[] } (Heap.get?_push_of_some { cls := .type "tuple", data := .seq (rows.map rf).toArray } o1)
  have k3 : ∀ b o, b ≠ a → s.heap.get? b = some o → (((s.heap.update a (Obj.mapSeq fun _ => (#[] : Array Value))).push { cls := .type "tuple", data := .seq (rows.map rf).toArray }).push { cls := .type "list", data := .seq #[] }).get? b = some o := fun b o nb e =>
    Heap.get?_push_of_some _ (Heap.get?_push_of_some _ (by rw [Heap.get?_update_ne _ _ _ _ nb]; exact e))
  rw [list_sort_plain]
  refine wpAny_bind (listItems_at ho rfl (wpAny_bind (listUpdate_at ho rfl (wpAny_bind (seqEpoch_at o1 rfl (wpAny_bind (wpAny_newTuple (wpAny_bind (wpAny_newList (wpAny_holding ?_) (Nat.zero_le _))) few)))) few (Nat.zero_le _))))
  dsimp only
  rw [if_neg sz]
  generalize ((s.heap.update a (Obj.mapSeq fun _ => (#[] : Array Value))).push { cls := .type "tuple", data := .seq (rows.map rf).toArray }).push { cls := .type "list", data := .seq #[] } = h3 at o3 k3
  have r3 : ∀ r ∈ rows, RowAt h3 m r := fun r hr' => (hr r hr').keep fun o e => k3 _ o (row_ne (hr r hr') ho fun z => absurd (Value.type.inj z) (by decide)) e
  obtain ⟨fs, lf, tf, hf⟩ := RowAt.first hm r3
  refine wpAny_bind (kat_kind (s := { s with heap := h3 }) (T := .type "int") tf (by omega) (fun v hv => ?_) (by rfl) ?_)
  · obtain ⟨i, t, rfl⟩ := hf v hv
    exact Looks.of_pure rfl
  rw [show (Value.type "int" != Value.type "tuple") = true from by decide, if_neg sz]
  refine wpAny_bind (wpAny_mono (kat_run (Q := fun st s' => s' = { s with heap := h3 } ∧ failedOf st = none ∧ ∃ rows', (arrOf st).map (·.2) = (rows'.map rf).toArray ∧ rows'.Perm rows ∧ RUp rows') rfl (by rw [lv]; exact h2) (by rw [lv]; exact h64) (G := fun p s' => s' = { s with heap := h3 } ∧ ∃ rows', (p.toList.map fun i => (rows.map rf).getD i Value.none) = rows'.map rf ∧ rows'.Perm rows ∧ RUp rows') (fun p st s' _ ar fl g => ?_) ?_) ?_ fun _ _ e => e)
  · obtain ⟨g1, rows', g2, g3⟩ := g
    exact ⟨g1, fl, rows', by rw [kat_snds rfl ar, g2], g3⟩
  · rw [lv]
    refine sort_wp (by omega) (key_ord (m := m) (rows := rows) fun r hr' => (hr r hr').1) (fun i j C hi hj hC => ?_) fun p pp U => ⟨rfl, rows_of pp U⟩
    unfold kas_ask
    have at_ : ∀ i (hi : i < rows.length), (rows.map rf).getD i Value.none = rf rows[i] ∧ keyR m rows i = rows[i].2 := fun i hi => by
      unfold keyR
      rw [List.getD_eq_getElem?_getD, List.getElem?_map, List.getD_eq_getElem?_getD, List.getElem?_eq_getElem hi]
      exact ⟨rfl, rfl⟩
    rw [(at_ i hi).1, (at_ j hj).1]
    rw [(at_ i hi).2, (at_ j hj).2] at hC
    exact row_lt (s := { s with heap := h3 }) (r3 _ (List.getElem_mem hi)) (r3 _ (List.getElem_mem hj)) hC
  · rintro ⟨⟨⟩, st⟩ s' ⟨rfl, fl, rows', ar, pr, up⟩
    dsimp only
    rw [ar, fl]
    have few' : ((rows'.map rf).toArray).size ≤ sizeLine := by rw [List.size_toArray, List.length_map, pr.length_eq]; exact Nat.le_trans (Nat.le_of_lt h64) (by decide)
    refine wpAny_bind (seqEpoch_at o3 rfl (wpAny_bind (listUpdate_at o3 rfl ?_ (Nat.zero_le _) (Nat.le_succ_of_le few'))))
    rw [if_neg (by simp)]
    refine wpAny_pure (h _ rows' _ pr up (get?_update_seq o3 _) fun b o nb e => ?_)
    rw [Heap.get?_update_ne _ _ _ _ nb]
    exact k3 b o nb e
theorem sort_few {c : Nat} {P : PySem.Fin → Shared → Prop} (ho : s.heap.get? a = some (seqObj "list" (rows.map rf).toArray c)) (h2 : rows.length < 2)
    (h : ∀ h' c', h'.get? a = some (seqObj "list" (rows.map rf).toArray c') → (∀ b o, b ≠ a → s.heap.get? b = some o → h'.get? b = some o) → P (.done (.ret .none)) { s with heap := h' }) :
    wpAny (model prog w) A (Builtin.«list.sort» ⟨[.ref a], []⟩) P E s := by
  have lv : (rows.map rf).length = rows.length := List.length_map ..
  have sz : ((rows.map rf).toArray).size < 2 := by rw [List.size_toArray, lv]; exact h2
  have few : ((rows.map rf).toArray).size ≤ sizeLine := Nat.le_trans (Nat.le_of_lt sz) (by decide)
  have zz : Array.map (fun x => x.snd) (((rows.map rf).toArray).zip ((rows.map rf).toArray)) = (rows.map rf).toArray := by
    apply Array.toList_inj.mp
    rw [Array.toList_map, Array.toList_zip, List.toList_toArray]
    exact List.map_snd_zip (Nat.le_refl _)
  obtain ⟨c1, o1⟩ : ∃ c1, (s.heap.update a (Obj.mapSeq fun _ => (#[] : Array Value))).get? a = some (seqObj "list" #[] c1) := ⟨_, get?_update_seq ho _⟩
  rw [list_sort_plain]
  refine wpAny_bind (listItems_at ho rfl (wpAny_bind (listUpdate_at ho rfl (wpAny_bind (seqEpoch_at o1 rfl (wpAny_bind (wpAny_newTuple (wpAny_bind (wpAny_newList (wpAny_holding ?_) (Nat.zero_le _))) few)))) few (Nat.zero_le _))))
  dsimp only
  rw [if_pos sz]
  refine wpAny_bind (wpAny_pure ?_)
  rw [if_pos sz]
  refine wpAny_bind (wpAny_pure ?_)
  dsimp only
  rw [show arrOf (SortSt.mk' general' (((rows.map rf).toArray).zip ((rows.map rf).toArray)) #[] 7 none) = ((rows.map rf).toArray).zip ((rows.map rf).toArray) from rfl, zz]
  have o3 := Heap.get?_push_of_some { cls := .type "list", data := .seq #[] } (Heap.get?_push_of_some { cls := .type "tuple", data := .seq (rows.map rf).toArray } o1)
  refine wpAny_bind (seqEpoch_at o3 rfl (wpAny_bind (listUpdate_at o3 rfl ?_ (Nat.zero_le _) (Nat.le_succ_of_le few))))
  rw [if_neg (by simp)]
  refine wpAny_pure (h _ _ (get?_update_seq o3 _) fun b o nb e => ?_)
  rw [Heap.get?_update_ne _ _ _ _ nb]
  refine Heap.get?_push_of_some _ (Heap.get?_push_of_some _ ?_)
  rw [Heap.get?_update_ne _ _ _ _ nb]
  exact e
/-- list.sort of rows, however many below 64 -/
theorem sort_rows {c : Nat} {P : PySem.Fin → Shared → Prop} (hm : 1 ≤ m) (ho : s.heap.get? a = some (seqObj "list" (rows.map rf).toArray c)) (hr : ∀ r ∈ rows, RowAt s.heap m r) (h64 : rows.length < 64)
    (h : ∀ h' rows' c', rows'.Perm rows → RUp rows' → h'.get? a = some (seqObj "list" (rows'.map rf).toArray c') → (∀ b o, b ≠ a → s.heap.get? b = some o → h'.get? b = some o) → P (.done (.ret .none)) { s with heap := h' }) :
    wpAny (model prog w) A (Builtin.«list.sort» ⟨[.ref a], []⟩) P E s := by
  by_cases c2 : 2 ≤ rows.length
  · exact sort_many hm ho hr c2 h64 h
  · refine sort_few ho (by omega) fun h' c' e1 e2 => h h' rows c' (List.Perm.refl _) ?_ e1 e2
    unfold RUp
    match rows, c2 with
    | [], _ => exact List.Pairwise.nil
    | [r], _ => exact List.pairwise_singleton _ _
    | _ :: _ :: l, c2 => exact absurd (by simp) c2
end
end ST
end L2

namespace L2
open PySem PySem.Spec PySem.W PyProof.Rows
namespace ST
/-! ### sorted(..) of whatever gives rows -/
section
variable {prog : Program} {w : World} {A : Around} {E : Value → Shared → Prop} {s : Shared} {m : Nat} {S : List (Addr × List Int) → Prop}
theorem sorted_src {src : Value} {Q : Value → Shared → Prop} (hm : 1 ≤ m)
    (col : ∀ Q' : List Value → Shared → Prop, (∀ rows h1 tk, S rows → (∀ r ∈ rows, RowAt s.heap m r) → rows.length < 64 → s.heap.objs.size ≤ h1.objs.size → (∀ b o, s.heap.get? b = some o → h1.get? b = some o) → Q' (rows.map rf) { s with heap := h1, toks := tk }) → wpAny (model prog w) A.in1 (collect src) Q' E s)
    (h : ∀ a h' tk rows rows' c, S rows → (∀ r ∈ rows, RowAt s.heap m r) → rows'.Perm rows → RUp rows' → rows.length < 64 → s.heap.objs.size ≤ a → h'.get? a = some (seqObj "list" (rows'.map rf).toArray c) → (∀ b o, s.heap.get? b = some o → h'.get? b = some o) → Q (.ref a) { s with heap := h', toks := tk }) :
    wpAny (model prog w) A (call (.builtin "sorted") [src]) Q E s := by
  refine Calls.call_function_entry kind_sorted plain_sorted entry_sorted (args_sorted1 _) ?_
  unfold Builtin.«sorted»
  refine wpAny_bind (m := checkCount "sorted" 1 1 _) (wpAny_pure (wpAny_bind (col _ fun rows h1 tk hS hr h64 le keep => ?_)))
  have lv : (rows.map rf).length = rows.length := List.length_map ..
  refine wpAny_bind (wpAny_newList ?_ (by rw [lv]; exact Nat.le_trans (Nat.le_of_lt h64) (by decide)))
  dsimp only
  have ho : (h1.push { cls := .type "list", data := .seq (rows.map rf).toArray }).get? h1.objs.size = some (seqObj "list" (rows.map rf).toArray 0) := Heap.get?_push_size _ rfl
  refine wpAny_bind (wpAny_holding (wpAny_call_entry slot_list_sort ⟨_, ho, rfl⟩ entry_list_sort (sort_rows (s := { s with heap := h1.push { cls := .type "list", data := .seq (rows.map rf).toArray }, toks := tk }) hm ho (fun r hr' => (hr r hr').keep fun o e => Heap.get?_push_of_some _ (keep _ o e)) h64 fun h' rows' c' pr up ho' k' => ⟨_, rfl, ?_⟩) (args_list_sort _)))
  exact wpAny_pure ⟨_, rfl, h _ h' _ rows rows' c' hS hr pr up h64 le ho' fun b o e => k' b o (Nat.ne_of_lt (Heap.lt_size (keep b o e))) (Heap.get?_push_of_some _ (keep b o e))⟩
end
end ST
end L2

namespace L2
open PySem
namespace ST
/-! ### the walk through a set's table: every slot is met -/
/-- the n-th place that is looked at -/
noncomputable def nth (t : SetTable) (p : SetTable.Probe) : Nat → SetTable.Probe
  | 0 => p
  | n + 1 => nth t (t.advance p) n
theorem nth_succ (t : SetTable) : ∀ (n : Nat) (p : SetTable.Probe), nth t p (n + 1) = t.advance (nth t p n)
  | 0, _ => rfl
  | n + 1, p => nth_succ t n (t.advance p)
theorem nth_add (t : SetTable) : ∀ (a b : Nat) (p : SetTable.Probe), nth t p (a + b) = nth t (nth t p a) b
  | 0, b, p => by rw [Nat.zero_add]; rfl
  | a + 1, b, p => by rw [show a + 1 + b = (a + b) + 1 by omega]; exact nth_add t a b (t.advance p)
/-- the beginning of a run -/
noncomputable def beg (t : SetTable) (i q : Nat) : SetTable.Probe := ⟨i, SetTable.runEnd t.mask i - i, i, q, none⟩
theorem start_beg (t : SetTable) (h : Int) : t.probeStart h = beg t (SetTable.bits h % (t.mask + 1)) (SetTable.bits h) := rfl
theorem run_le (m i : Nat) : SetTable.runEnd m i - i ≤ 9 := by
  unfold SetTable.runEnd
  split <;> omega
theorem adv_in {t : SetTable} {p : SetTable.Probe} (h : 0 < p.more) : t.advance p = { p with j := p.j + 1, more := p.more - 1 } := by
  unfold SetTable.advance
  rw [if_pos h]
theorem adv_out {t : SetTable} {p : SetTable.Probe} (h : p.more = 0) (d : p.dummy = none) : t.advance p = beg t ((p.i * 5 + 1 + p.perturb / 32) % (t.mask + 1)) (p.perturb / 32) := by
  unfold SetTable.advance
  rw [if_neg (by omega)]
  unfold SetTable.leap beg
  rw [d]
/-- within a run -/
theorem nth_run (t : SetTable) (i q : Nat) : ∀ k, k ≤ SetTable.runEnd t.mask i - i → nth t (beg t i q) k = ⟨i + k, SetTable.runEnd t.mask i - i - k, i, q, none⟩
  | 0, _ => rfl
  | k + 1, h => by
    rw [nth_succ, nth_run t i q k (by omega), adv_in (by show 0 < SetTable.runEnd t.mask i - i - k; omega)]
    show (⟨i + k + 1, SetTable.runEnd t.mask i - i - k - 1, i, q, none⟩ : SetTable.Probe) = _
    rw [show i + k + 1 = i + (k + 1) by omega, show SetTable.runEnd t.mask i - i - k - 1 = SetTable.runEnd t.mask i - i - (k + 1) by omega]
/-- one run, and on to the next -/
theorem nth_leap (t : SetTable) (i q : Nat) : nth t (beg t i q) (SetTable.runEnd t.mask i - i + 1) = beg t ((i * 5 + 1 + q / 32) % (t.mask + 1)) (q / 32) := by
  rw [nth_succ, nth_run t i q _ (Nat.le_refl _), adv_out (by show SetTable.runEnd t.mask i - i - (SetTable.runEnd t.mask i - i) = 0; omega) rfl]
theorem leaps (t : SetTable) : ∀ (k i q : Nat), i ≤ t.mask → ∃ n i', n ≤ 10 * k ∧ i' ≤ t.mask ∧ nth t (beg t i q) n = beg t i' (q / 32 ^ k)
  | 0, i, q, hi => ⟨0, i, Nat.zero_le _, hi, by rw [Nat.pow_zero, Nat.div_one]; rfl⟩
  | k + 1, i, q, hi => by
    have h1 := run_le t.mask i
    have h2 : (i * 5 + 1 + q / 32) % (t.mask + 1) ≤ t.mask := Nat.le_of_lt_succ (Nat.mod_lt _ (Nat.succ_pos _))
    obtain ⟨n, i', hn, hi', e⟩ := leaps t k _ (q / 32) h2
    refine ⟨SetTable.runEnd t.mask i - i + 1 + n, i', by omega, hi', ?_⟩
    rw [nth_add, nth_leap, e, Nat.div_div_eq_div_mul, Nat.pow_succ, Nat.mul_comm 32]
/-- what is looked at from a run with nothing left of the hash: a list -/
noncomputable def seen (m : Nat) : Nat → SetTable.Probe → List Nat
  | 0, _ => []
  | n + 1, p => p.j :: seen m n (SetTable.advance ⟨m, #[], #[], 0, true, 0, true⟩ p)
theorem adv_mask {t u : SetTable} (h : t.mask = u.mask) (p : SetTable.Probe) : t.advance p = u.advance p := by
  unfold SetTable.advance
  rw [h]
theorem nth_mask {t u : SetTable} (h : t.mask = u.mask) : ∀ (n : Nat) (p : SetTable.Probe), nth t p n = nth u p n
  | 0, _ => rfl
  | n + 1, p => by
    show nth t (t.advance p) n = nth u (u.advance p) n
    rw [adv_mask h, nth_mask h n]
theorem mem_seen {t : SetTable} : ∀ (n : Nat) (p : SetTable.Probe) (j : Nat), j ∈ seen t.mask n p → ∃ k, k < n ∧ (nth t p k).j = j
  | 0, p, j, h => absurd h List.not_mem_nil
  | n + 1, p, j, h => by
    rcases List.mem_cons.mp h with rfl | h
    · exact ⟨0, Nat.succ_pos _, rfl⟩
    · obtain ⟨k, hk, e⟩ := mem_seen (t := t) n _ j h
      refine ⟨k + 1, Nat.succ_lt_succ hk, ?_⟩
      show (nth t (t.advance p) k).j = j
      rw [adv_mask (t := t) (u := ⟨t.mask, #[], #[], 0, true, 0, true⟩) rfl]
      exact e
noncomputable def allSeen (m n : Nat) : Bool := (List.range (m + 1)).all fun i => (List.range (m + 1)).all fun j => (seen m n ⟨i, SetTable.runEnd m i - i, i, 0, none⟩).contains j
theorem all7 : allSeen 7 8 = true := by decide +kernel
theorem all31 : allSeen 31 320 = true := by decide +kernel
/-- the tables of up to eighteen things -/
noncomputable def Small (t : SetTable) : Prop := t.mask = 7 ∨ t.mask = 31
theorem bits_lt (h : Int) : SetTable.bits h < 2 ^ 64 := by
  unfold SetTable.bits
  have h1 := Int.emod_nonneg h (show (2 ^ 64 : Int) ≠ 0 by decide)
  have h2 := Int.emod_lt_of_pos h (show (0 : Int) < 2 ^ 64 by decide)
  omega
theorem fuel_big {t : SetTable} (s : Small t) : t.mask = 7 ∧ 10 * SetTable.turns t.mask = 220 ∨ t.mask = 31 ∧ 10 * SetTable.turns t.mask = 460 := by
  unfold SetTable.turns
  rcases s with s | s
  · exact Or.inl ⟨s, by rw [s]⟩
  · exact Or.inr ⟨s, by rw [s]⟩
theorem covers {t : SetTable} (s : Small t) (h : Int) {j : Nat} (hj : j ≤ t.mask) : ∃ n, n < 10 * SetTable.turns t.mask ∧ (nth t (t.probeStart h) n).j = j := by
  obtain ⟨n, i, hn, hi, e⟩ := leaps t 13 (SetTable.bits h % (t.mask + 1)) (SetTable.bits h) (Nat.le_of_lt_succ (Nat.mod_lt _ (Nat.succ_pos _)))
  have q0 : SetTable.bits h / 32 ^ 13 = 0 := Nat.div_eq_of_lt (Nat.lt_of_lt_of_le (bits_lt h) (by decide))
  rw [q0] at e
  have key : ∀ N, allSeen t.mask N = true → ∃ k, k < N ∧ (nth t (beg t i 0) k).j = j := fun N hN => by
    have h1 := List.all_eq_true.mp hN i (List.mem_range.mpr (Nat.lt_succ_of_le hi))
    have h2 := List.all_eq_true.mp h1 j (List.mem_range.mpr (Nat.lt_succ_of_le hj))
    exact mem_seen N _ j (List.contains_iff_mem.mp h2)
  rcases fuel_big s with ⟨s, f⟩ | ⟨s, f⟩
  · obtain ⟨k, hk, ek⟩ := key 8 (by rw [s]; exact all7)
    refine ⟨n + k, by omega, ?_⟩
    rw [start_beg, nth_add, e, ek]
  · obtain ⟨k, hk, ek⟩ := key 320 (by rw [s]; exact all31)
    refine ⟨n + k, by omega, ?_⟩
    rw [start_beg, nth_add, e, ek]
end ST
end L2

namespace L2
open PySem
namespace ST
/-! ### places in their order -/
noncomputable def Rise (xs : Array Nat) : Prop := ∀ a b, a < b → b < xs.size → xs.getD a 0 < xs.getD b 0
theorem getD_any {xs : Array Nat} {k : Nat} (h : k < xs.size) (a b : Nat) : xs.getD k a = xs.getD k b := by
  rw [Array.getD_eq_getD_getElem?, Array.getD_eq_getD_getElem?, Array.getElem?_eq_getElem h]
  rfl
theorem getD_at {xs : Array Nat} {k j : Nat} (h : xs[k]? = some j) (a : Nat) : xs.getD k a = j := by
  rw [Array.getD_eq_getD_getElem?, h]
  rfl
theorem at_getD {xs : Array Nat} {k : Nat} (h : k < xs.size) : xs[k]? = some (xs.getD k 0) := by
  rw [Array.getD_eq_getD_getElem?, Array.getElem?_eq_getElem h]
  rfl
structure Bel (xs : Array Nat) (j r : Nat) : Prop where
  le : r ≤ xs.size
  lo : ∀ k, k < r → xs.getD k 0 < j
  hi : ∀ k, r ≤ k → k < xs.size → j ≤ xs.getD k 0
theorem below_go {xs : Array Nat} (R : Rise xs) {j : Nat} : ∀ (n lo hi : Nat), hi - lo ≤ n → lo ≤ hi → hi ≤ xs.size → (∀ k, k < lo → xs.getD k 0 < j) → (∀ k, hi ≤ k → k < xs.size → j ≤ xs.getD k 0) → Bel xs j (SetTable.below.go xs j n lo hi)
  | 0, lo, hi, h1, h2, h3, h4, h5 => by
    unfold SetTable.below.go
    exact ⟨by omega, h4, fun k a b => h5 k (by omega) b⟩
  | n + 1, lo, hi, h1, h2, h3, h4, h5 => by
    unfold SetTable.below.go
    by_cases c : lo < hi
    · rw [if_pos c]
      have hm : (lo + hi) / 2 < xs.size := by omega
      dsimp only
      rw [getD_any hm j 0]
      by_cases d : xs.getD ((lo + hi) / 2) 0 < j
      · rw [if_pos d]
        refine below_go R n _ hi (by omega) (by omega) h3 (fun k hk => ?_) h5
        by_cases e : k = (lo + hi) / 2
        · rw [e]; exact d
        · exact Nat.lt_trans (R k _ (by omega) hm) d
      · rw [if_neg d]
        refine below_go R n lo _ (by omega) (by omega) (by omega) h4 fun k a b => ?_
        by_cases e : k = (lo + hi) / 2
        · rw [e]; omega
        · have := R ((lo + hi) / 2) k (by omega) b
          omega
    · rw [if_neg c]
      exact ⟨by omega, h4, fun k a b => h5 k (by omega) b⟩
theorem below_ok {xs : Array Nat} (R : Rise xs) (j : Nat) : Bel xs j (SetTable.below xs j) :=
  below_go R _ 0 _ (by omega) (Nat.zero_le _) (Nat.le_refl _) (fun k h => absurd h (Nat.not_lt_zero _)) fun k a b => by omega
theorem below_at {xs : Array Nat} (R : Rise xs) {i j : Nat} (h : xs[i]? = some j) : SetTable.below xs j = i := by
  have B := below_ok R j
  have hi : i < xs.size := (Array.getElem?_eq_some_iff.mp h).1
  have e := getD_at h 0
  rcases Nat.lt_trichotomy (SetTable.below xs j) i with c | c | c
  · have h1 := B.hi _ (Nat.le_refl _) (by omega)
    have h2 := R _ _ c hi
    omega
  · exact c
  · have := B.lo i c
    omega
noncomputable def On (t : SetTable) (j : Nat) : Prop := ∃ i : Nat, t.place[i]? = some j
theorem slot_on {t : SetTable} (R : Rise t.place) {i j : Nat} (h : t.place[i]? = some j) : t.slot j = .live i := by
  unfold SetTable.slot
  dsimp only
  rw [below_at R h, h, if_pos (by simp)]
theorem has_nil (j : Nat) : SetTable.has #[] j = false := by
  unfold SetTable.has
  rfl
theorem slot_off {t : SetTable} (d : t.dummies = #[]) {j : Nat} (h : ¬ On t j) : t.slot j = .empty := by
  unfold SetTable.slot
  dsimp only
  have : (t.place[SetTable.below t.place j]? == some j) = false := by
    rw [beq_eq_false_iff_ne]
    exact fun e => h ⟨_, e⟩
  rw [this, d, has_nil]
  rfl
/-! ### one look through the table -/
theorem nth_dummy {t : SetTable} : ∀ (n : Nat) {p : SetTable.Probe}, p.dummy = none → (nth t p n).dummy = none
  | 0, _, h => h
  | n + 1, p, h => by
    refine nth_dummy n ?_
    unfold SetTable.advance
    split
    · exact h
    · exact h
theorem go_empty {t : SetTable} {hashAt : Nat → Int} {h : Int} (R : Rise t.place) (d : t.dummies = #[]) : ∀ (fuel e : Nat) (p : SetTable.Probe), p.dummy = none → e < fuel → ¬ On t (nth t p e).j → (∀ m, m < e → ∃ i, t.place[i]? = some (nth t p m).j ∧ hashAt i ≠ h) →
    SetTable.probe.go t hashAt h fuel p = some (.empty (nth t p e).j none)
  | 0, _, _, _, hf, _, _ => absurd hf (Nat.not_lt_zero _)
  | fuel + 1, 0, p, hd, _, he, _ => by
    unfold SetTable.probe.go
    rw [slot_off d (show ¬ On t p.j from he)]
    show some (SetTable.Met.empty p.j p.dummy) = _
    rw [hd]
    rfl
  | fuel + 1, e + 1, p, hd, hf, he, hm => by
    obtain ⟨i, hi, hh⟩ := hm 0 (Nat.succ_pos _)
    unfold SetTable.probe.go
    rw [slot_on R (show t.place[i]? = some p.j from hi)]
    show (if (hashAt i == h) = true then _ else _) = _
    rw [if_neg (by rw [beq_iff_eq]; exact hh)]
    exact go_empty R d fuel e (t.advance p) (nth_dummy 1 hd) (Nat.lt_of_succ_lt_succ hf) he fun m h' => hm (m + 1) (Nat.succ_lt_succ h')
theorem go_cand {t : SetTable} {hashAt : Nat → Int} {h : Int} (R : Rise t.place) : ∀ (fuel k i : Nat) (p : SetTable.Probe), k < fuel → t.place[i]? = some (nth t p k).j → hashAt i = h → (∀ m, m < k → ∃ i, t.place[i]? = some (nth t p m).j ∧ hashAt i ≠ h) →
    SetTable.probe.go t hashAt h fuel p = some (.candidate (nth t p k).j i (nth t p (k + 1)))
  | 0, _, _, _, hf, _, _, _ => absurd hf (Nat.not_lt_zero _)
  | fuel + 1, 0, i, p, _, hi, hh, _ => by
    unfold SetTable.probe.go
    rw [slot_on R (show t.place[i]? = some p.j from hi)]
    show (if (hashAt i == h) = true then _ else _) = _
    rw [if_pos (by rw [beq_iff_eq]; exact hh)]
    rfl
  | fuel + 1, k + 1, i, p, hf, hi, hh, hm => by
    obtain ⟨i', hi', hh'⟩ := hm 0 (Nat.succ_pos _)
    unfold SetTable.probe.go
    rw [slot_on R (show t.place[i']? = some p.j from hi')]
    show (if (hashAt i' == h) = true then _ else _) = _
    rw [if_neg (by rw [beq_iff_eq]; exact hh')]
    exact go_cand R fuel k i (t.advance p) (Nat.lt_of_succ_lt_succ hf) hi hh fun m h' => hm (m + 1) (Nat.succ_lt_succ h')
/-! ### a table in order -/
structure TB (t : SetTable) (hs : List Int) : Prop where
  dum : t.dummies = #[]
  len : t.place.size = hs.length
  rise : Rise t.place
  top : ∀ (i j : Nat), t.place[i]? = some j → j ≤ t.mask
  reach : ∀ (i : Nat) (h : Int), hs[i]? = some h → ∃ n, t.place[i]? = some (nth t (t.probeStart h) n).j ∧ ∀ m, m < n → On t (nth t (t.probeStart h) m).j
structure TOk (t : SetTable) (hs : List Int) : Prop extends TB t hs where
  small : t.mask = 7 ∧ hs.length ≤ 4 ∨ t.mask = 31 ∧ hs.length ≤ 18
theorem TOk.sm {t : SetTable} {hs : List Int} (T : TOk t hs) : Small t := by
  rcases T.small with ⟨h, _⟩ | ⟨h, _⟩
  · exact Or.inl h
  · exact Or.inr h
theorem nd_sub {α : Type} [DecidableEq α] : ∀ {A B : List α}, A.Nodup → (∀ x ∈ A, x ∈ B) → A.length ≤ B.length
  | [], _, _, _ => Nat.zero_le _
  | a :: A, B, nd, h => by
    obtain ⟨n1, n2⟩ := List.nodup_cons.mp nd
    have h1 : a ∈ B := h a (List.mem_cons_self ..)
    have h2 : A.length ≤ (B.erase a).length := nd_sub n2 fun x hx => (List.mem_erase_of_ne (fun (e : x = a) => n1 (e ▸ hx))).mpr (h x (List.mem_cons_of_mem _ hx))
    rw [List.length_erase_of_mem h1] at h2
    have h3 : 0 < B.length := List.length_pos_of_mem h1
    rw [List.length_cons]
    omega
theorem TOk.free {t : SetTable} {hs : List Int} (T : TOk t hs) : ∃ j, j ≤ t.mask ∧ ¬ On t j := Classical.byContradiction fun no => by
  have all : ∀ x ∈ List.range (t.mask + 1), x ∈ t.place.toList := fun x hx => Classical.byContradiction fun n => no ⟨x, Nat.le_of_lt_succ (List.mem_range.mp hx), fun ⟨i, hi⟩ => n (by
    rw [← Array.getElem?_toList] at hi
    exact List.mem_of_getElem? hi)⟩
  have := nd_sub List.nodup_range all
  rw [List.length_range, Array.length_toList, T.len] at this
  rcases T.small with ⟨h1, h2⟩ | ⟨h1, h2⟩ <;> omega
theorem least {P : Nat → Prop} : ∀ (N n : Nat), n < N → P n → ∃ k, k ≤ n ∧ P k ∧ ∀ m, m < k → ¬ P m
  | 0, _, h, _ => absurd h (Nat.not_lt_zero _)
  | N + 1, n, hn, hp => by
    by_cases c : ∃ m, m < n ∧ P m
    · obtain ⟨m, hm, pm⟩ := c
      obtain ⟨k, a, b, e⟩ := least N m (by omega) pm
      exact ⟨k, by omega, b, e⟩
    · exact ⟨n, Nat.le_refl _, hp, fun m hm pm => c ⟨m, hm, pm⟩⟩
/-- the first free place on a hash's way -/
theorem TOk.first {t : SetTable} {hs : List Int} (T : TOk t hs) (h : Int) : ∃ e, e < 10 * SetTable.turns t.mask ∧ ¬ On t (nth t (t.probeStart h) e).j ∧ (nth t (t.probeStart h) e).j ≤ t.mask ∧ ∀ m, m < e → On t (nth t (t.probeStart h) m).j := by
  obtain ⟨j, hj, nj⟩ := T.free
  obtain ⟨n, hn, en⟩ := covers T.sm h hj
  obtain ⟨k, h1, h2, h3⟩ := least (P := fun n => ¬ On t (nth t (t.probeStart h) n).j) _ n (Nat.lt_succ_self n) (by rw [en]; exact nj)
  refine ⟨k, by omega, h2, nth_le t k h, fun m hm => Classical.byContradiction fun z => h3 m hm z⟩
where
  nth_le (t : SetTable) (k : Nat) (h : Int) : (nth t (t.probeStart h) k).j ≤ t.mask := by
    have key : ∀ (k : Nat) (p : SetTable.Probe), p.j + p.more ≤ t.mask → (nth t p k).j ≤ t.mask := fun k => by
      induction k with
      | zero => intro p hp; exact Nat.le_trans (Nat.le_add_right _ _) hp
      | succ k ih =>
        intro p hp
        refine ih (t.advance p) ?_
        unfold SetTable.advance
        split
        · show p.j + 1 + (p.more - 1) ≤ t.mask
          omega
        · show (SetTable.leap t.mask p.i p.perturb).1 + (SetTable.runEnd t.mask (SetTable.leap t.mask p.i p.perturb).1 - (SetTable.leap t.mask p.i p.perturb).1) ≤ t.mask
          have : (SetTable.leap t.mask p.i p.perturb).1 ≤ t.mask := Nat.le_of_lt_succ (Nat.mod_lt _ (Nat.succ_pos _))
          generalize (SetTable.leap t.mask p.i p.perturb).1 = i at this ⊢
          unfold SetTable.runEnd
          split <;> omega
    refine key k _ ?_
    show SetTable.bits h % (t.mask + 1) + (SetTable.runEnd t.mask (SetTable.bits h % (t.mask + 1)) - SetTable.bits h % (t.mask + 1)) ≤ t.mask
    have : SetTable.bits h % (t.mask + 1) ≤ t.mask := Nat.le_of_lt_succ (Nat.mod_lt _ (Nat.succ_pos _))
    generalize SetTable.bits h % (t.mask + 1) = i at this ⊢
    unfold SetTable.runEnd
    split <;> omega
end ST
end L2

namespace L2
open PySem
namespace ST
/-! ### one thing more -/
noncomputable def insL {α : Type} (l : List α) (p : Nat) (x : α) : List α := l.take p ++ x :: l.drop p
theorem insL_get {α : Type} {l : List α} {p : Nat} (hp : p ≤ l.length) (x : α) (k : Nat) : (insL l p x)[k]? = if k < p then l[k]? else if k = p then some x else l[k - 1]? := by
  unfold insL
  have lt : (l.take p).length = p := by rw [List.length_take]; omega
  by_cases c : k < p
  · rw [if_pos c, List.getElem?_append_left (by omega), List.getElem?_take_of_lt c]
  · rw [if_neg c, List.getElem?_append_right (by omega), lt]
    by_cases d : k = p
    · rw [if_pos d, d, Nat.sub_self]; rfl
    · rw [if_neg d]
      obtain ⟨m, rfl⟩ : ∃ m, k = p + 1 + m := ⟨k - (p + 1), by omega⟩
      rw [show p + 1 + m - p = m + 1 by omega, List.getElem?_cons_succ, List.getElem?_drop, show p + 1 + m - 1 = p + m by omega]
theorem insL_len {α : Type} {l : List α} {p : Nat} (hp : p ≤ l.length) (x : α) : (insL l p x).length = l.length + 1 := by
  unfold insL
  rw [List.length_append, List.length_take, List.length_cons, List.length_drop]
  omega
theorem insL_perm {α : Type} (l : List α) (p : Nat) (x : α) : (insL l p x).Perm (x :: l) := by
  unfold insL
  refine List.perm_middle.trans ?_
  rw [List.take_append_drop]
theorem insL_map {α β : Type} (f : α → β) (l : List α) (p : Nat) (x : α) : (insL l p x).map f = insL (l.map f) p (f x) := by
  unfold insL
  rw [List.map_append, List.map_cons, List.map_take, List.map_drop]
theorem ins_list {α : Type} (xs : Array α) (p : Nat) (x : α) : (SetTable.insertAt xs p x).toList = insL xs.toList p x := SetTable.toList_insertAt xs p x
theorem ins_get {xs : Array Nat} {p : Nat} (hp : p ≤ xs.size) (x k : Nat) : (SetTable.insertAt xs p x)[k]? = if k < p then xs[k]? else if k = p then some x else xs[k - 1]? := by
  rw [← Array.getElem?_toList, ins_list, insL_get (by rw [Array.length_toList]; exact hp), Array.getElem?_toList, Array.getElem?_toList]
theorem ins_size {α : Type} {xs : Array α} {p : Nat} (hp : p ≤ xs.size) (x : α) : (SetTable.insertAt xs p x).size = xs.size + 1 := by
  rw [← Array.length_toList, ins_list, insL_len (by rw [Array.length_toList]; exact hp), Array.length_toList]
/-- rising, told by the places -/
theorem rise_iff {xs : Array Nat} : Rise xs ↔ ∀ (a b x y : Nat), a < b → xs[a]? = some x → xs[b]? = some y → x < y := by
  constructor
  · intro R a b x y h hx hy
    have := R a b h (Array.getElem?_eq_some_iff.mp hy).1
    rw [getD_at hx, getD_at hy] at this
    exact this
  · intro h a b hab hb
    exact h a b _ _ hab (at_getD (by omega)) (at_getD hb)
theorem rise_ins {xs : Array Nat} (R : Rise xs) {j : Nat} (no : ∀ i : Nat, xs[i]? ≠ some j) : Rise (SetTable.insertAt xs (SetTable.below xs j) j) := by
  have B := below_ok R j
  rw [rise_iff] at R ⊢
  intro a b x y hab hx hy
  rw [ins_get B.le] at hx hy
  generalize SetTable.below xs j = p at B hx hy
  have lo : ∀ (k z : Nat), k < p → xs[k]? = some z → z < j := fun k z hk hz => by
    have := B.lo k hk
    rwa [getD_at hz] at this
  have hi : ∀ (k z : Nat), p ≤ k → xs[k]? = some z → j < z := fun k z hk hz => by
    have := B.hi k hk (Array.getElem?_eq_some_iff.mp hz).1
    rw [getD_at hz] at this
    exact Nat.lt_of_le_of_ne this fun e => no k (e ▸ hz)
  by_cases c1 : a < p
  · rw [if_pos c1] at hx
    by_cases c2 : b < p
    · rw [if_pos c2] at hy
      exact R a b x y hab hx hy
    · rw [if_neg c2] at hy
      by_cases c3 : b = p
      · rw [if_pos c3] at hy
        cases hy
        exact lo a x c1 hx
      · rw [if_neg c3] at hy
        exact R a (b - 1) x y (by omega) hx hy
  · rw [if_neg c1] at hx
    rw [if_neg (by omega), if_neg (by omega)] at hy
    by_cases c2 : a = p
    · rw [if_pos c2] at hx
      cases hx
      exact hi (b - 1) y (by omega) hy
    · rw [if_neg c2] at hx
      exact R (a - 1) (b - 1) x y (by omega) hx hy
theorem put_dum {t : SetTable} (d : t.dummies = #[]) (j : Nat) : (t.put j).1 = { t with place := SetTable.insertAt t.place (SetTable.below t.place j) j } := by
  unfold SetTable.put
  dsimp only
  rw [d, has_nil]
  simp
theorem put_at (t : SetTable) (j : Nat) : (t.put j).2 = SetTable.below t.place j := rfl
theorem on_ins {t : SetTable} {p j k : Nat} (hp : p ≤ t.place.size) (h : On t k) : On { t with place := SetTable.insertAt t.place p j } k := by
  obtain ⟨i, hi⟩ := h
  by_cases c : i < p
  · exact ⟨i, by show (SetTable.insertAt t.place p j)[i]? = _; rw [ins_get hp, if_pos c]; exact hi⟩
  · exact ⟨i + 1, by show (SetTable.insertAt t.place p j)[i + 1]? = _; rw [ins_get hp, if_neg (by omega), if_neg (by omega)]; exact hi⟩
/-- a new thing is put at the first free place on its way -/
theorem TB.put {t : SetTable} {hs : List Int} (T : TB t hs) {h : Int} {e : Nat} (h1 : ¬ On t (nth t (t.probeStart h) e).j) (h2 : (nth t (t.probeStart h) e).j ≤ t.mask) (h3 : ∀ m, m < e → On t (nth t (t.probeStart h) m).j) :
    TB (t.put (nth t (t.probeStart h) e).j).1 (insL hs (t.put (nth t (t.probeStart h) e).j).2 h) := by
  have B := below_ok T.rise (nth t (t.probeStart h) e).j
  rw [put_dum T.dum, put_at]
  obtain ⟨j, ej⟩ : ∃ j, j = (nth t (t.probeStart h) e).j := ⟨_, rfl⟩
  rw [← ej] at B h1 h2 ⊢
  obtain ⟨p, ep⟩ : ∃ p, p = SetTable.below t.place j := ⟨_, rfl⟩
  rw [← ep] at B ⊢
  have hp := B.le
  have hp' : p ≤ hs.length := by rw [← T.len]; exact hp
  refine ⟨T.dum, ?_, ?_, ?_, ?_⟩
  · show (SetTable.insertAt t.place p j).size = _
    rw [ins_size hp, insL_len hp', T.len]
  · show Rise (SetTable.insertAt t.place p j)
    rw [ep]
    exact rise_ins T.rise fun i hi => h1 ⟨i, hi⟩
  · intro i k hk
    have hk' : (SetTable.insertAt t.place p j)[i]? = some k := hk
    rw [ins_get hp] at hk'
    split at hk'
    · exact T.top _ _ hk'
    · split at hk'
      · cases hk'; exact h2
      · exact T.top _ _ hk'
  · intro i g hg
    rw [insL_get hp'] at hg
    have same : ∀ n p', nth { t with place := SetTable.insertAt t.place p j } p' n = nth t p' n := fun n p' => nth_mask (t := { t with place := SetTable.insertAt t.place p j }) (u := t) rfl n p'
    have old : ∀ i', hs[i']? = some g → ∀ i : Nat, (SetTable.insertAt t.place p j)[i]? = t.place[i']? → ∃ n, ({ t with place := SetTable.insertAt t.place p j } : SetTable).place[i]? = some (nth { t with place := SetTable.insertAt t.place p j } (SetTable.probeStart { t with place := SetTable.insertAt t.place p j } g) n).j ∧ ∀ m, m < n → On { t with place := SetTable.insertAt t.place p j } (nth { t with place := SetTable.insertAt t.place p j } (SetTable.probeStart { t with place := SetTable.insertAt t.place p j } g) m).j := fun i' hi' i ei => by
      obtain ⟨n, a, b⟩ := T.reach i' g hi'
      refine ⟨n, ?_, fun m hm => ?_⟩
      · rw [same]
        exact ei.trans a
      · rw [same]
        exact on_ins hp (b m hm)
    by_cases c1 : i < p
    · rw [if_pos c1] at hg
      exact old i hg i (by rw [ins_get hp, if_pos c1])
    · rw [if_neg c1] at hg
      by_cases c2 : i = p
      · rw [if_pos c2] at hg
        cases hg
        refine ⟨e, ?_, fun m hm => ?_⟩
        · rw [same]
          show (SetTable.insertAt t.place p j)[i]? = some (nth t (t.probeStart h) e).j
          rw [ins_get hp, if_neg c1, if_pos c2, ej]
        · rw [same]
          exact on_ins hp (h3 m hm)
      · rw [if_neg c2] at hg
        exact old (i - 1) hg i (by rw [ins_get hp, if_neg c1, if_neg c2])
end ST
end L2

namespace L2
open PySem
namespace ST
/-! ### a table laid anew, of 32 places -/
noncomputable abbrev t31 : SetTable := ⟨31, #[], #[], 0, true, 0, true⟩
noncomputable def lp : Nat → Nat → Nat → Nat × Nat
  | 0, i, q => (i, q)
  | k + 1, i, q => lp k ((i * 5 + 1 + q / 32) % 32) (q / 32)
theorem lp_add : ∀ (a b i q : Nat), lp (a + b) i q = lp b (lp a i q).1 (lp a i q).2
  | 0, b, i, q => by rw [Nat.zero_add]; rfl
  | a + 1, b, i, q => by rw [show a + 1 + b = (a + b) + 1 by omega]; exact lp_add a b _ _
theorem lp_q : ∀ (k i q : Nat), (lp k i q).2 = q / 32 ^ k
  | 0, i, q => by rw [Nat.pow_zero, Nat.div_one]; rfl
  | k + 1, i, q => by
    show (lp k _ (q / 32)).2 = _
    rw [lp_q, Nat.div_div_eq_div_mul, Nat.pow_succ, Nat.mul_comm 32]
theorem lp_lt : ∀ (k i q : Nat), i < 32 → (lp k i q).1 < 32
  | 0, i, q, h => h
  | k + 1, i, q, h => lp_lt k _ _ (Nat.mod_lt _ (by decide))
noncomputable def orbit : Nat → Nat → List Nat
  | 0, _ => []
  | n + 1, i => i :: orbit n ((i * 5 + 1) % 32)
theorem mem_orbit : ∀ (n i j : Nat), j ∈ orbit n i → ∃ k, k < n ∧ (lp k i 0).1 = j
  | 0, i, j, h => absurd h List.not_mem_nil
  | n + 1, i, j, h => by
    rcases List.mem_cons.mp h with rfl | h
    · exact ⟨0, Nat.succ_pos _, rfl⟩
    · obtain ⟨k, hk, e⟩ := mem_orbit n _ j h
      exact ⟨k + 1, Nat.succ_lt_succ hk, e⟩
theorem orbits : (List.range 32).all (fun i => (List.range 32).all fun j => (orbit 32 i).contains j) = true := by decide +kernel
theorem lp_covers (h : Int) {j : Nat} (hj : j < 32) : ∃ k, k < 46 ∧ (lp k (SetTable.bits h % 32) (SetTable.bits h)).1 = j := by
  have q0 : SetTable.bits h / 32 ^ 13 = 0 := Nat.div_eq_of_lt (Nat.lt_of_lt_of_le (bits_lt h) (by decide))
  have l1 := lp_lt 13 (SetTable.bits h % 32) (SetTable.bits h) (Nat.mod_lt _ (by decide))
  have e1 := lp_q 13 (SetTable.bits h % 32) (SetTable.bits h)
  rw [q0] at e1
  have h1 := List.all_eq_true.mp orbits _ (List.mem_range.mpr l1)
  have h2 := List.all_eq_true.mp h1 j (List.mem_range.mpr hj)
  obtain ⟨k, hk, e⟩ := mem_orbit 32 _ j (List.contains_iff_mem.mp h2)
  refine ⟨13 + k, by omega, ?_⟩
  rw [lp_add, e1]
  exact e
theorem run31 (i : Nat) (h : i < 32) : SetTable.runEnd 31 i < 32 ∧ i ≤ SetTable.runEnd 31 i := by
  unfold SetTable.runEnd
  split <;> omega
theorem free_ok {owner : Array (Option Nat)} (sz : owner.size = 32) : ∀ (fuel i q : Nat), i < 32 → (∃ k, k < fuel ∧ owner[(lp k i q).1]? = some none) →
    ∃ e, SetTable.layClean.free 31 owner fuel i q = some (nth t31 (beg t31 i q) e).j ∧ owner[(nth t31 (beg t31 i q) e).j]? = some none ∧ ∀ m, m < e → ∃ k : Nat, owner[(nth t31 (beg t31 i q) m).j]? = some (some k)
  | 0, i, q, hi, ⟨k, hk, _⟩ => absurd hk (Nat.not_lt_zero _)
  | fuel + 1, i, q, hi, ⟨k, hk, ek⟩ => by
    obtain ⟨r1, r2⟩ := run31 i hi
    have pos : ∀ c, c ≤ SetTable.runEnd 31 i - i → (nth t31 (beg t31 i q) c).j = i + c := fun c hc => by rw [nth_run t31 i q c hc]
    have val : ∀ c, c ≤ SetTable.runEnd 31 i - i → ∃ o, owner[i + c]? = some o ∧ owner.getD (i + c) (some 0) = o := fun c hc => by
      have hb : i + c < owner.size := by omega
      exact ⟨owner[i + c], Array.getElem?_eq_getElem hb, by rw [Array.getD_eq_getD_getElem?, Array.getElem?_eq_getElem hb]; rfl⟩
    unfold SetTable.layClean.free
    cases hf : (List.range (SetTable.runEnd 31 i + 1 - i)).find? fun k => (owner.getD (i + k) (some 0)).isNone with
    | some c =>
      obtain ⟨a, b, d⟩ := List.find?_range_eq_some.mp hf
      have hc : c ≤ SetTable.runEnd 31 i - i := by have := List.mem_range.mp b; omega
      refine ⟨c, ?_, ?_, fun m hm => ?_⟩
      · show some (i + c) = _
        rw [pos c hc]
      · rw [pos c hc]
        obtain ⟨o, e1, e2⟩ := val c hc
        rw [e2] at a
        rw [e1, Option.isNone_iff_eq_none.mp a]
      · rw [pos m (by omega)]
        obtain ⟨o, e1, e2⟩ := val m (by omega)
        have := d m hm
        rw [e2] at this
        cases o with
        | none => simp at this
        | some k => exact ⟨k, e1⟩
    | none =>
      have no := List.find?_range_eq_none.mp hf
      have full : ∀ c, c ≤ SetTable.runEnd 31 i - i → ∃ k : Nat, owner[i + c]? = some (some k) := fun c hc => by
        obtain ⟨o, e1, e2⟩ := val c hc
        have := no c (by omega)
        rw [e2] at this
        cases o with
        | none => simp at this
        | some k => exact ⟨k, e1⟩
      have k1 : k ≠ 0 := fun z => by
        subst z
        obtain ⟨k', e'⟩ := full 0 (Nat.zero_le _)
        have e2 : owner[i]? = some none := ek
        rw [Nat.add_zero] at e'
        rw [e'] at e2
        cases e2
      obtain ⟨k', rfl⟩ : ∃ k', k = k' + 1 := ⟨k - 1, by omega⟩
      obtain ⟨e, a, b, d⟩ := free_ok sz fuel ((i * 5 + 1 + q / 32) % 32) (q / 32) (Nat.mod_lt _ (by decide)) ⟨k', by omega, ek⟩
      have jump : ∀ m, nth t31 (beg t31 i q) (SetTable.runEnd 31 i - i + 1 + m) = nth t31 (beg t31 ((i * 5 + 1 + q / 32) % 32) (q / 32)) m := fun m => by
        rw [nth_add]
        show nth t31 (nth t31 (beg t31 i q) (SetTable.runEnd t31.mask i - i + 1)) m = _
        rw [nth_leap]
      refine ⟨SetTable.runEnd 31 i - i + 1 + e, ?_, ?_, fun m hm => ?_⟩
      · rw [jump]
        exact a
      · rw [jump]
        exact b
      · by_cases c : m ≤ SetTable.runEnd 31 i - i
        · rw [pos m c]
          exact full m c
        · obtain ⟨m', rfl⟩ : ∃ m', m = SetTable.runEnd 31 i - i + 1 + m' := ⟨m - (SetTable.runEnd 31 i - i + 1), by omega⟩
          rw [jump]
          exact d m' (by omega)
structure LInv (owner : Array (Option Nat)) (l : List Int) : Prop where
  size : owner.size = 32
  val : ∀ (j k : Nat), owner[j]? = some (some k) → k < l.length
  uni : ∀ (j j' k : Nat), owner[j]? = some (some k) → owner[j']? = some (some k) → j = j'
  rch : ∀ (k : Nat) (h : Int), l[k]? = some h → ∃ n, owner[(nth t31 (t31.probeStart h) n).j]? = some (some k) ∧ ∀ m, m < n → ∃ k' : Nat, owner[(nth t31 (t31.probeStart h) m).j]? = some (some k')
theorem LInv.begin : LInv (Array.replicate 32 none) [] := by
  have no : ∀ j k : Nat, (Array.replicate 32 (none : Option Nat))[j]? ≠ some (some k) := fun j k e => by
    rw [Array.getElem?_replicate] at e
    split at e <;> cases e
  exact ⟨by simp, fun j k h => absurd h (no j k), fun j _ k h _ => absurd h (no j k), fun k h e => by cases e⟩
theorem LInv.room {owner : Array (Option Nat)} {l : List Int} (L : LInv owner l) (hl : l.length < 32) : ∃ j, j < 32 ∧ owner[j]? = some none := Classical.byContradiction fun no => by
  have all : ∀ j, j < 32 → ∃ k, owner[j]? = some (some k) := fun j hj => by
    have hb : j < owner.size := by rw [L.size]; exact hj
    cases e : owner[j] with
    | none => exact absurd ⟨j, hj, by rw [Array.getElem?_eq_getElem hb, e]⟩ no
    | some k => exact ⟨k, by rw [Array.getElem?_eq_getElem hb, e]⟩
  have key : ∀ j, j < 32 → ∀ k, owner[j]? = some (some k) → (owner.getD j none).getD 0 = k := fun j _ k e => by rw [Array.getD_eq_getD_getElem?, e]; rfl
  have nd : ((List.range 32).map fun j => (owner.getD j none).getD 0).Nodup := by
    unfold List.Nodup
    rw [List.pairwise_map]
    refine List.Pairwise.imp_of_mem ?_ (List.pairwise_lt_range (n := 32))
    intro a b ha hb hab e
    obtain ⟨ka, ea⟩ := all a (List.mem_range.mp ha)
    obtain ⟨kb, eb⟩ := all b (List.mem_range.mp hb)
    rw [key a (List.mem_range.mp ha) ka ea, key b (List.mem_range.mp hb) kb eb] at e
    subst e
    have := L.uni a b ka ea eb
    omega
  have sub : ∀ x ∈ (List.range 32).map (fun j => (owner.getD j none).getD 0), x ∈ List.range l.length := fun x hx => by
    obtain ⟨j, hj, rfl⟩ := List.mem_map.mp hx
    obtain ⟨k, e⟩ := all j (List.mem_range.mp hj)
    rw [key j (List.mem_range.mp hj) k e]
    exact List.mem_range.mpr (L.val j k e)
  have := nd_sub nd sub
  rw [List.length_map, List.length_range, List.length_range] at this
  omega
theorem LInv.next {owner : Array (Option Nat)} {l : List Int} (L : LInv owner l) (hl : l.length < 32) (h : Int) : ∃ j, SetTable.layClean.free 31 owner (SetTable.turns 31) (SetTable.bits h % 32) (SetTable.bits h) = some j ∧ LInv (owner.setIfInBounds j (some l.length)) (l ++ [h]) := by
  obtain ⟨j, hj, ej⟩ := L.room hl
  obtain ⟨k, hk, e⟩ := lp_covers h hj
  obtain ⟨n, a, b, d⟩ := free_ok L.size 46 _ _ (Nat.mod_lt _ (by decide)) ⟨k, hk, by rw [e]; exact ej⟩
  refine ⟨_, a, ?_⟩
  have st : t31.probeStart h = beg t31 (SetTable.bits h % 32) (SetTable.bits h) := rfl
  rw [← st] at a b d ⊢
  generalize hs : (nth t31 (t31.probeStart h) n).j = s at a b
  have sb : s < owner.size := (Array.getElem?_eq_some_iff.mp b).1
  have get : ∀ c, (owner.setIfInBounds s (some l.length))[c]? = if c = s then some (some l.length) else owner[c]? := fun c => by
    rw [Array.getElem?_setIfInBounds]
    by_cases z : s = c
    · subst z; simp [sb]
    · rw [if_neg z, if_neg (Ne.symm z)]
  have keep : ∀ c k', owner[c]? = some (some k') → (owner.setIfInBounds s (some l.length))[c]? = some (some k') := fun c k' e' => by
    rw [get, if_neg (fun z => by rw [z, b] at e'; cases e')]
    exact e'
  refine ⟨by rw [Array.size_setIfInBounds]; exact L.size, fun c k' e' => ?_, fun c c' k' e1 e2 => ?_, fun k' g e' => ?_⟩
  · rw [get] at e'
    rw [List.length_append, List.length_singleton]
    split at e'
    · cases e'; omega
    · have := L.val c k' e'; omega
  · rw [get] at e1 e2
    split at e1
    · rename_i z1
      cases e1
      split at e2
      · rename_i z2; omega
      · have := L.val _ _ e2; omega
    · split at e2
      · cases e2
        have := L.val _ _ e1; omega
      · exact L.uni _ _ _ e1 e2
  · by_cases c : k' < l.length
    · rw [List.getElem?_append_left c] at e'
      obtain ⟨n', x, y⟩ := L.rch k' g e'
      exact ⟨n', keep _ _ x, fun m hm => (y m hm).imp fun k e => keep _ _ e⟩
    · have hk' : k' = l.length := by
        have := (List.getElem?_eq_some_iff.mp e').1
        rw [List.length_append, List.length_singleton] at this
        omega
      subst hk'
      rw [List.getElem?_append_right (Nat.le_refl _), Nat.sub_self] at e'
      cases e'
      exact ⟨n, by rw [hs, get, if_pos rfl], fun m hm => (d m hm).imp fun k e => keep _ _ e⟩
/-- one hash behind the other, by any step that does so -/
theorem lay_list {f : Option (Array (Option Nat) × Nat) → Int → Option (Array (Option Nat) × Nat)} (hf : ∀ owner k h j, SetTable.layClean.free 31 owner (SetTable.turns 31) (SetTable.bits h % 32) (SetTable.bits h) = some j → f (some (owner, k)) h = some (owner.setIfInBounds j (some k), k + 1)) :
    ∀ (rest done : List Int) (owner : Array (Option Nat)), LInv owner done → done.length + rest.length ≤ 31 → ∃ owner', rest.foldl f (some (owner, done.length)) = some (owner', (done ++ rest).length) ∧ LInv owner' (done ++ rest)
  | [], done, owner, L, _ => ⟨owner, by rw [List.append_nil]; rfl, by rw [List.append_nil]; exact L⟩
  | h :: rest, done, owner, L, hl => by
    rw [List.length_cons] at hl
    obtain ⟨j, a, b⟩ := L.next (by omega) h
    obtain ⟨o', c, d⟩ := lay_list hf rest (done ++ [h]) _ b (by rw [List.length_append, List.length_singleton]; omega)
    rw [List.append_assoc] at c d
    refine ⟨o', ?_, d⟩
    rw [List.foldl_cons, hf _ _ _ _ a]
    rw [List.length_append, List.length_singleton] at c
    exact c
theorem lay_map {f : Option (Array (Option Nat) × Nat) → Int → Option (Array (Option Nat) × Nat)} (hf : ∀ owner k h j, SetTable.layClean.free 31 owner (SetTable.turns 31) (SetTable.bits h % 32) (SetTable.bits h) = some j → f (some (owner, k)) h = some (owner.setIfInBounds j (some k), k + 1))
    (hs : List Int) (hl : hs.length ≤ 31) : ∃ owner, Option.map (fun x => x.fst) (hs.foldl f (some (Array.replicate (31 + 1) none, 0))) = some owner ∧ LInv owner hs := by
  obtain ⟨o, a, b⟩ := lay_list hf hs [] _ LInv.begin (by simpa using hl)
  exact ⟨o, by rw [show (some (Array.replicate (31 + 1) (none : Option Nat), 0)) = some (Array.replicate 32 none, ([] : List Int).length) from rfl, a]; rfl, b⟩
theorem lay_ok (hs : List Int) (hl : hs.length ≤ 31) : ∃ owner, SetTable.layClean 31 hs.toArray = some owner ∧ LInv owner hs := by
  unfold SetTable.layClean
  rw [← Array.foldl_toList, List.toList_toArray]
  refine lay_map (fun owner k h j e => ?_) hs hl
  show Option.bind (SetTable.layClean.free 31 owner (SetTable.turns 31) (SetTable.bits h % 32) (SetTable.bits h)) _ = _
  rw [e]
  rfl
/-! what comes of it -/
theorem laid_of {owner : Array (Option Nat)} {hs : List Int} (L : LInv owner hs) {f : Nat → Option (Nat × Nat)} (hf : ∀ j x, j < 32 → (f j = some x ↔ x.1 = j ∧ owner[j]? = some (some x.2))) (finger moves : Nat) (led plain : Bool) :
    ((((List.range (31 + 1)).filterMap f).map (·.2)).toArray).toList.Perm (List.range hs.length) ∧ TB ⟨31, (((List.range (31 + 1)).filterMap f).map (·.1)).toArray, #[], finger, led, moves, plain⟩ (((((List.range (31 + 1)).filterMap f).map (·.2)).toArray).toList.map fun k => hs.getD k 0) := by
  have mem : ∀ j k, (j, k) ∈ (List.range (31 + 1)).filterMap f ↔ owner[j]? = some (some k) := fun j k => by
    rw [List.mem_filterMap]
    constructor
    · rintro ⟨a, ha, e⟩
      obtain ⟨e1, e2⟩ := (hf a _ (List.mem_range.mp ha)).mp e
      have e1' : j = a := e1
      rw [e1']
      exact e2
    · intro e
      have hb : j < 32 := by have := (Array.getElem?_eq_some_iff.mp e).1; rwa [L.size] at this
      exact ⟨j, List.mem_range.mpr hb, (hf j _ hb).mpr ⟨rfl, e⟩⟩
  have up : ((List.range (31 + 1)).filterMap f).Pairwise fun a b => a.1 < b.1 := by
    rw [List.pairwise_filterMap]
    refine List.Pairwise.imp_of_mem ?_ (List.pairwise_lt_range (n := 31 + 1))
    intro a b ha hb hab x hx y hy
    rw [((hf a _ (List.mem_range.mp ha)).mp hx).1, ((hf b _ (List.mem_range.mp hb)).mp hy).1]
    exact hab
  generalize (List.range (31 + 1)).filterMap f = live at mem up
  constructor
  · show ((live.map (·.2)).toArray).toList.Perm _
    rw [List.toList_toArray, List.perm_ext_iff_of_nodup]
    · intro k
      rw [List.mem_map, List.mem_range]
      constructor
      · rintro ⟨⟨j, k'⟩, h1, rfl⟩
        exact L.val j k' ((mem j k').mp h1)
      · intro hk
        obtain ⟨n, h1, _⟩ := L.rch k hs[k] (List.getElem?_eq_getElem hk)
        exact ⟨_, (mem _ _).mpr h1, rfl⟩
    · unfold List.Nodup
      rw [List.pairwise_map]
      refine List.Pairwise.imp_of_mem ?_ up
      rintro ⟨j, k⟩ ⟨j', k'⟩ h1 h2 hlt (z : k = k')
      subst z
      have := L.uni j j' k ((mem _ _).mp h1) ((mem _ _).mp h2)
      have hlt' : j < j' := hlt
      omega
    · exact List.nodup_range
  · refine ⟨rfl, ?_, ?_, ?_, ?_⟩
    · show ((live.map (·.1)).toArray).size = _
      simp
    · show Rise ((live.map (·.1)).toArray)
      rw [rise_iff]
      intro a b x y hab hx hy
      rw [List.getElem?_toArray, List.getElem?_map] at hx hy
      obtain ⟨u, hu, rfl⟩ := Option.map_eq_some_iff.mp hx
      obtain ⟨v, hv', rfl⟩ := Option.map_eq_some_iff.mp hy
      obtain ⟨la, ea⟩ := List.getElem?_eq_some_iff.mp hu
      obtain ⟨lb, eb⟩ := List.getElem?_eq_some_iff.mp hv'
      have := List.pairwise_iff_getElem.mp up a b la lb hab
      rw [ea, eb] at this
      exact this
    · intro i j hj
      have hj' : ((live.map (·.1)).toArray)[i]? = some j := hj
      rw [List.getElem?_toArray, List.getElem?_map] at hj'
      obtain ⟨u, hu, rfl⟩ := Option.map_eq_some_iff.mp hj'
      have h1 := (mem u.1 u.2).mp (List.mem_of_getElem? hu)
      have := (Array.getElem?_eq_some_iff.mp h1).1
      rw [L.size] at this
      show u.1 ≤ 31
      omega
    · intro i h hi
      rw [List.toList_toArray, List.getElem?_map, List.getElem?_map] at hi
      obtain ⟨k, h1, h2⟩ := Option.map_eq_some_iff.mp hi
      obtain ⟨u, hu, h3⟩ := Option.map_eq_some_iff.mp h1
      have ou := (mem u.1 u.2).mp (List.mem_of_getElem? hu)
      have ku := L.val _ _ ou
      subst h3
      have eh : hs[u.2]? = some h := by
        rw [List.getElem?_eq_getElem ku, ← h2, List.getD_eq_getElem?_getD, List.getElem?_eq_getElem ku]
        rfl
      obtain ⟨n, a, b⟩ := L.rch _ _ eh
      have es := L.uni _ _ _ a ou
      have sm : ∀ (T : SetTable), T.mask = 31 → ∀ m p, nth T p m = nth t31 p m := fun T hT m p => nth_mask (t := T) (u := t31) hT m p
      refine ⟨n, ?_, fun m hm => ?_⟩
      · rw [sm _ rfl]
        show ((live.map (·.1)).toArray)[i]? = some (nth t31 (t31.probeStart h) n).j
        rw [List.getElem?_toArray, List.getElem?_map, hu, es]
        rfl
      · rw [sm _ rfl]
        obtain ⟨k', e'⟩ := b m hm
        have hm' := (mem _ _).mpr e'
        obtain ⟨i', hi', ei'⟩ := List.getElem_of_mem hm'
        refine ⟨i', ?_⟩
        show ((live.map (·.1)).toArray)[i']? = some (nth t31 (t31.probeStart h) m).j
        rw [List.getElem?_toArray, List.getElem?_map, List.getElem?_eq_getElem hi', ei']
        rfl
theorem laid_ok (hs : List Int) (hl : hs.length ≤ 31) (finger moves : Nat) (led plain : Bool) :
    ∃ (t : SetTable) (order : Array Nat), SetTable.laid 31 finger moves led plain hs.toArray = some (t, order) ∧ t.mask = 31 ∧ t.led = led ∧ t.plain = plain ∧ order.toList.Perm (List.range hs.length) ∧ TB t (order.toList.map fun k => hs.getD k 0) := by
  obtain ⟨owner, e, L⟩ := lay_ok hs hl
  unfold SetTable.laid
  rw [e]
  refine ⟨_, _, rfl, rfl, rfl, rfl, laid_of L (fun j x hj => ?_) finger moves led plain⟩
  have hb : j < owner.size := by rw [L.size]; exact hj
  rw [Option.map_eq_some_iff, Array.getD_eq_getD_getElem?, Array.getElem?_eq_getElem hb]
  constructor
  · rintro ⟨k, e1, rfl⟩
    exact ⟨rfl, congrArg some e1⟩
  · rintro ⟨e1, e2⟩
    exact ⟨x.2, Option.some.inj e2, by rw [← e1]⟩
end ST
end L2

namespace L2
open PySem PySem.Spec
namespace ST
/-! ### a set of tuples in the heap -/
section
variable {prog : Program} {w : World} {K : Type} [DecidableEq K] (knd : PySem.KeyKind prog w K)
noncomputable def ent (p : List K × Addr) : Int × Value := (tupleKeyHash knd p.1, .ref p.2)
structure Els (h : Heap) (a : Addr) (xs : List (List K × Addr)) (led : Bool) (o : Obj) (ep : Nat) (t : SetTable) : Prop where
  at_ : h.get? a = some o
  ex : o.ExactSet
  data : o.data = .set ((xs.map (ent knd)).toArray) ep t
  tab : TOk t (xs.map fun p => tupleKeyHash knd p.1)
  plain : t.plain = true
  led_ : t.led = led
  keys : ∀ p ∈ xs, IsTupleKey knd h p.1 p.2
  nd : (xs.map (·.1)).Nodup
noncomputable def TSet (h : Heap) (a : Addr) (xs : List (List K × Addr)) (led : Bool) : Prop := ∃ o ep t, Els knd h a xs led o ep t
end
section
variable {prog : Program} {w : World} {K : Type} [DecidableEq K] {knd : PySem.KeyKind prog w K} {A : Around} {E : Value → Shared → Prop} {s : Shared} {a b : Addr} {xs : List (List K × Addr)} {led : Bool} {o : Obj} {ep : Nat} {t : SetTable} {k : List K}
theorem Els.size (S : Els knd s.heap a xs led o ep t) : ((xs.map (ent knd)).toArray).size = xs.length := by simp
theorem TB.fits {hs : List Int} {t : SetTable} (T : TB t hs) (n : Nat) (hn : n = hs.length) (room : hs.length ≤ t.mask) : t.fits n = true := by
  unfold SetTable.fits SetTable.fill
  rw [T.len, T.dum, hn]
  simp
  exact room
theorem TOk.room {hs : List Int} {t : SetTable} (T : TOk t hs) : hs.length ≤ t.mask := by
  rcases T.small with ⟨h1, h2⟩ | ⟨h1, h2⟩ <;> omega
theorem Els.fits (S : Els knd s.heap a xs led o ep t) : t.fits ((xs.map (ent knd)).toArray).size = true := S.tab.toTB.fits _ (by simp) S.tab.room
theorem Els.state {Q : (Array (Int × Value) × Nat × SetTable) → Shared → Prop} (S : Els knd s.heap a xs led o ep t) (h : Q ((xs.map (ent knd)).toArray, ep, t) s) : wpAny (model prog w) A (setState a) Q E s :=
  wpAny_setState_of S.at_ S.data S.fits h
theorem odd_mask (T : TOk t (xs.map fun p => tupleKeyHash knd p.1)) : t.gaveWay = false := by
  unfold SetTable.gaveWay
  rcases T.small with ⟨h, _⟩ | ⟨h, _⟩ <;> rw [h] <;> rfl
/-- a tuple of such things is none of a class of one's own -/
theorem not_own {n : Nat} {Q : Bool → Shared → Prop} (hk : IsTupleKey knd s.heap k b) (h : Q false s) : wpAny (model prog w) A (ofAClassStatement (n + 1) (.ref b)) Q E s := by
  have hT := hk.typeIs
  obtain ⟨ob, items, c, hb, hc, hd, hi⟩ := hk
  unfold ofAClassStatement
  refine wpAny_bind (wpAny_typeOf hT ?_)
  dsimp only
  rw [if_pos (by rfl)]
  refine wpAny_bind (wpAny_pure ?_)
  simp only [Bool.not_true, Bool.false_eq_true, if_false]
  refine wpAny_bind (wpAny_seqItems hb hd ?_)
  dsimp only
  refine wpAny_bind ?_
  rw [← Array.forIn_toList]
  refine wpAny_forIn_list _ (fun rest r s' => r.1 = none ∧ s' = s ∧ ∀ v ∈ rest, carriedByValue v = true) _ (fun v rest r s' h1 => ?_) (fun r s' h1 => ?_) _ _ ⟨rfl, rfl, hi.byValue⟩
  · obtain ⟨_, rfl, h3⟩ := h1
    have hv := h3 v (List.mem_cons_self ..)
    have e : ofAClassStatement n v = pure false := by
      cases v with
      | ref _ => cases hv
      | _ => unfold ofAClassStatement; rfl
    rw [e]
    refine wpAny_bind (wpAny_pure ?_)
    simp only [Bool.false_eq_true, if_false]
    exact wpAny_pure ⟨rfl, rfl, fun u hu => h3 u (List.mem_cons_of_mem _ hu)⟩
  · obtain ⟨h1, rfl, _⟩ := h1
    obtain ⟨r1, r2⟩ := r
    dsimp only at h1
    subst h1
    exact wpAny_pure h
/-- and the search for it is seen by nobody -/
theorem unseen {ys : List Value} {Q : Bool → Shared → Prop} (hk : IsTupleKey knd s.heap k b) (hy : ∀ y ∈ ys, ∃ k' b', y = .ref b' ∧ IsTupleKey knd s.heap k' b') (h : Q false s) : wpAny (model prog w) A (searchCouldBeSeen (.ref b) ys) Q E s := by
  unfold searchCouldBeSeen
  refine wpAny_bind ?_
  refine wpAny_forIn_list _ (fun rest r s' => r.1 = none ∧ s' = s ∧ ∀ y ∈ rest, ∃ k' b', y = .ref b' ∧ IsTupleKey knd s.heap k' b') _ (fun y rest r s' h1 => ?_) (fun r s' h1 => ?_) _ _ ⟨rfl, rfl, hy⟩
  · obtain ⟨_, rfl, h3⟩ := h1
    obtain ⟨k', b', rfl, hb'⟩ := h3 y (List.mem_cons_self ..)
    have next : ∀ y ∈ rest, ∃ k' b', y = .ref b' ∧ IsTupleKey knd s'.heap k' b' := fun u hu => h3 u (List.mem_cons_of_mem _ hu)
    dsimp only
    split
    · exact wpAny_pure ⟨rfl, rfl, next⟩
    · refine wpAny_bind (wpAny_eqIsQuiet_tuple hk ?_)
      simp only [Bool.not_true, Bool.false_eq_true, if_false]
      refine wpAny_bind (wpAny_eqIsQuiet_tuple hb' ?_)
      simp only [Bool.not_true, Bool.false_eq_true, if_false]
      refine wpAny_bind (not_own hk ?_)
      simp only [Bool.false_eq_true, if_false]
      refine wpAny_bind (not_own hb' ?_)
      simp only [Bool.false_eq_true, if_false]
      exact wpAny_pure ⟨rfl, rfl, next⟩
  · obtain ⟨h1, rfl, _⟩ := h1
    obtain ⟨r1, r2⟩ := r
    dsimp only at h1
    subst h1
    exact wpAny_pure h
/-- its hash hangs on nothing but its values -/
theorem by_value {n : Nat} {Q : Bool → Shared → Prop} (hv : ∀ (k : K) (v : Value), knd.is k v = true → hashByValue n v = pure true) (hk : IsTupleKey knd s.heap k b) (h : Q true s) : wpAny (model prog w) A (hashByValue (n + 1) (.ref b)) Q E s := by
  have hT := hk.typeIs
  obtain ⟨ob, items, c, hb, hc, hd, hi⟩ := hk
  have hv' : ∀ v ∈ items.toList, hashByValue n v = pure true := by
    have : ∀ {ks : List K} {vs : List Value}, ItemsAre knd ks vs → ∀ v ∈ vs, hashByValue n v = pure true := fun {ks vs} h => by
      induction h with
      | nil => intro v h; cases h
      | cons h1 _ ih =>
        intro v h
        rcases List.mem_cons.mp h with rfl | h
        · exact hv _ _ h1
        · exact ih v h
    exact this hi
  unfold hashByValue
  refine wpAny_bind (wpAny_specialOf hT F.slot_tuple_hash.lookup ?_)
  dsimp only
  refine wpAny_bind (wpAny_seqItems hb hd ?_)
  simp only [Option.getD_some]
  refine wpAny_bind ?_
  rw [← Array.forIn_toList]
  refine wpAny_forIn_list _ (fun rest r s' => r.1 = none ∧ s' = s ∧ ∀ v ∈ rest, hashByValue n v = pure true) _ (fun v rest r s' h1 => ?_) (fun r s' h1 => ?_) _ _ ⟨rfl, rfl, hv'⟩
  · obtain ⟨_, rfl, h3⟩ := h1
    rw [h3 v (List.mem_cons_self ..)]
    refine wpAny_bind (wpAny_pure ?_)
    simp only [Bool.not_true, Bool.false_eq_true, if_false]
    exact wpAny_pure ⟨rfl, rfl, fun u hu => h3 u (List.mem_cons_of_mem _ hu)⟩
  · obtain ⟨h1, rfl, _⟩ := h1
    obtain ⟨r1, r2⟩ := r
    dsimp only at h1
    subst h1
    exact wpAny_pure h
/-! the search -/
theorem probe_eq (f : Nat → Int) (h : Int) (p : SetTable.Probe) : t.probe f h p = SetTable.probe.go t f h (10 * SetTable.turns t.mask) p := rfl
theorem same_mem (t : SetTable) : t.sameMemory t.moves t.mask = some true := by
  unfold SetTable.sameMemory
  rw [if_pos (beq_self_eq_true _)]
/-- a look that is made or not, and shows nothing -/
theorem maybe_seen {α : Type} {M : Model} {c : Bool} {sc : Sem Bool} {bad m : Sem α} {Q : α → Shared → Prop} (h1 : ∀ Q' : Bool → Shared → Prop, Q' false s → wpAny M A sc Q' E s) (h : wpAny M A m Q E s) :
    wpAny M A (if c = true then sc >>= fun x => if x = true then bad else m else m) Q E s := by
  cases c with
  | true =>
    rw [if_pos rfl]
    refine wpAny_bind (h1 _ ?_)
    rw [if_neg Bool.false_ne_true]
    exact h
  | false =>
    rw [if_neg Bool.false_ne_true]
    exact h
theorem is_self {M : Model} {b : Addr} {Q : Bool → Shared → Prop} (h : Q true s) : wpAny M A (isSame (.ref b) (.ref b)) Q E s := by
  unfold isSame
  dsimp only
  rw [if_pos (beq_self_eq_true _)]
  exact wpAny_pure h
/-- from the k-th place on: a free one, or the thing itself -/
theorem search_from {h : Int} {e : Nat} {Q : SetFound → Shared → Prop} (S : Els knd s.heap a xs led o ep t) (hk : IsTupleKey knd s.heap k b) (eh : h = tupleKeyHash knd k) (hu : A.units < cLine)
    (he : e < 10 * SetTable.turns t.mask) (h1 : ¬ On t (nth t (t.probeStart h) e).j) (h3 : ∀ m, m < e → On t (nth t (t.probeStart h) m).j)
    (yes : (∃ b', (k, b') ∈ xs) → Q (.there none) s) (no : (∀ b', (k, b') ∉ xs) → Q (.free (nth t (t.probeStart h) e).j false) s) :
    ∀ (d c fuel : Nat) (st : Option SetTable.Probe), d = e - c → c ≤ e → d < fuel → st.getD (t.probeStart h) = nth t (t.probeStart h) c →
      (∀ m, m < c → ∀ (i : Nat), t.place[i]? = some (nth t (t.probeStart h) m).j → ∀ b' : Addr, xs[i]? ≠ some (k, b')) →
      wpAny (model prog w) A (setSearchFrom a (.ref b) h true fuel st) Q E s := by
  intro d
  induction d using Nat.strongRecOn with
  | ind d ih =>
    intro c fuel st hd hc hf hst hno
    match fuel, hf with
    | fuel + 1, hf =>
      have T := S.tab.toTB
      unfold setSearchFrom
      refine wpAny_bind (S.state ?_)
      dsimp only
      rw [odd_mask S.tab]
      simp only [Bool.false_eq_true, if_false]
      rw [hst, probe_eq]
      -- what lies at a place
      have idx : ∀ m, m < e → ∃ (i : Nat) (p : List K × Addr), t.place[i]? = some (nth t (t.probeStart h) m).j ∧ xs[i]? = some p := fun m hm => by
        obtain ⟨i, hi⟩ := h3 m hm
        have hl : i < xs.length := by
          have := (Array.getElem?_eq_some_iff.mp hi).1
          rw [T.len, List.length_map] at this
          exact this
        exact ⟨i, xs[i], hi, List.getElem?_eq_getElem hl⟩
      have sub : ∀ m, nth t (nth t (t.probeStart h) c) m = nth t (t.probeStart h) (c + m) := fun m => (nth_add t c m _).symm
      have dn : (nth t (t.probeStart h) c).dummy = none := nth_dummy c rfl
      by_cases any : ∃ m, m < e - c ∧ ∃ (i : Nat) (p : List K × Addr), t.place[i]? = some (nth t (t.probeStart h) (c + m)).j ∧ xs[i]? = some p ∧ tupleKeyHash knd p.1 = h
      · obtain ⟨m0, hm0, w0⟩ := any
        obtain ⟨m, hm, ⟨hme, i, p, hi, hp, hh⟩, least'⟩ := least (P := fun m => m < e - c ∧ ∃ (i : Nat) (p : List K × Addr), t.place[i]? = some (nth t (t.probeStart h) (c + m)).j ∧ xs[i]? = some p ∧ tupleKeyHash knd p.1 = h) _ m0 (Nat.lt_succ_self _) ⟨hm0, w0⟩
        have gi : ∀ (i : Nat) (p : List K × Addr), xs[i]? = some p → ((xs.map (ent knd)).toArray)[i]? = some (ent knd p) := fun i p hp => by rw [List.getElem?_toArray, List.getElem?_map, hp]; rfl
        rw [go_cand T.rise _ m i _ (by omega) (by rw [sub]; exact hi) (by show ((((xs.map (ent knd)).toArray)[i]?).map _).getD 0 = h; rw [gi i p hp]; exact hh) (fun m' hm' => by
          obtain ⟨i', p', hi', hp'⟩ := idx (c + m') (by omega)
          refine ⟨i', by rw [sub]; exact hi', ?_⟩
          show ((((xs.map (ent knd)).toArray)[i']?).map _).getD 0 ≠ h
          rw [gi i' p' hp']
          exact fun z => least' m' hm' ⟨by omega, i', p', hi', hp', z⟩)]
        dsimp only
        have pm : p ∈ xs := List.mem_of_getElem? hp
        refine maybe_seen (fun Q' q' => unseen hk (fun y hy => ?_) q') ?_
        · obtain ⟨u, hu', rfl⟩ := List.mem_map.mp hy
          rw [Array.toList_filter] at hu'
          obtain ⟨v, hv, rfl⟩ := List.mem_map.mp (List.mem_filter.mp hu').1
          exact ⟨v.1, v.2, rfl, S.keys v hv⟩
        rw [gi i p hp]
        dsimp only [ent]
        refine wpAny_bind (wpAny_holding (wpAny_eqBool_tuple hu (S.keys p pm) hk ?_))
        refine wpAny_bind (S.state ?_)
        dsimp only
        by_cases sk : p.1 = k
        · rw [decide_eq_true sk]
          simp only [Bool.and_self, if_true]
          exact wpAny_pure (yes ⟨p.2, by rw [← sk]; exact pm⟩)
        · rw [decide_eq_false sk]
          simp only [Bool.and_false, Bool.false_eq_true, if_false]
          rw [same_mem]
          dsimp only
          rw [if_pos rfl, sub, slot_on T.rise hi]
          dsimp only
          rw [gi i p hp]
          dsimp only [ent]
          refine wpAny_bind (is_self ?_)
          refine wpAny_bind (wpAny_pure ?_)
          simp only [if_true]
          refine ih (e - (c + m + 1)) (by omega) (c + m + 1) fuel _ rfl (by omega) (by omega) (by show nth t (nth t (t.probeStart h) c) (m + 1) = _; rw [sub]; rfl) (fun m' hm' i' hi' b' hb' => ?_)
          by_cases cc : m' < c
          · exact hno m' cc i' hi' b' hb'
          · obtain ⟨m2, rfl⟩ : ∃ m2, m' = c + m2 := ⟨m' - c, by omega⟩
            by_cases c2 : m2 < m
            · exact least' m2 c2 ⟨by omega, i', _, hi', hb', eh.symm⟩
            · have : m2 = m := by omega
              subst this
              have ei : i' = i := by rw [← below_at T.rise hi', ← below_at T.rise hi]
              rw [ei, hp] at hb'
              exact sk (by rw [Option.some.inj hb'])
      · rw [go_empty T.rise T.dum _ (e - c) _ dn (by omega) (by rw [sub, show c + (e - c) = e by omega]; exact h1) (fun m hm => by
          obtain ⟨i, p, hi, hp⟩ := idx (c + m) (by omega)
          refine ⟨i, by rw [sub]; exact hi, ?_⟩
          show ((((xs.map (ent knd)).toArray)[i]?).map _).getD 0 ≠ h
          rw [List.getElem?_toArray, List.getElem?_map, hp]
          exact fun z => any ⟨m, hm, i, p, hi, hp, z⟩)]
        rw [sub, show c + (e - c) = e by omega]
        dsimp only
        refine wpAny_pure (no fun b' hb' => ?_)
        obtain ⟨i, hi⟩ := List.getElem?_of_mem hb'
        obtain ⟨n, hn, hon⟩ := T.reach i h (by rw [List.getElem?_map, hi, eh]; rfl)
        have ne : n < e := by
          rcases Nat.lt_trichotomy n e with z | z | z
          · exact z
          · subst z; exact absurd ⟨i, hn⟩ h1
          · exact absurd (hon e z) h1
        by_cases cc : n < c
        · exact hno n cc i hn b' hi
        · exact any ⟨n - c, by omega, i, _, by rw [show c + (n - c) = n by omega]; exact hn, hi, eh.symm⟩
end
end ST
end L2

namespace L2
open PySem PySem.Spec
namespace ST
/-! ### a tuple is put into a set -/
section
variable {prog : Program} {w : World} {K : Type} [DecidableEq K] {knd : PySem.KeyKind prog w K} {A : Around} {E : Value → Shared → Prop} {s : Shared} {a b : Addr} {xs : List (List K × Addr)} {led : Bool} {o : Obj} {ep : Nat} {t : SetTable} {k : List K}
theorem key_but {h h' : Heap} {es : Array (Int × Value)} (x : IsTupleKey knd h k b) (ho : h.get? a = some o) (hd : o.data = .set es ep t) (hs : Heap.SameBut a h h') : IsTupleKey knd h' k b := by
  obtain ⟨ob, items, n, h1, h2, h3, h4⟩ := x
  have ne : b ≠ a := fun z => by
    subst z
    rw [h1] at ho
    cases ho
    rw [h3] at hd
    cases hd
  exact ⟨ob, items, n, by rw [hs.2 b ne]; exact h1, h2, h3, h4⟩
theorem ent_ins (xs : List (List K × Addr)) (p : Nat) (x : List K × Addr) : SetTable.insertAt (xs.map (ent knd)).toArray p (ent knd x) = ((insL xs p x).map (ent knd)).toArray := by
  apply Array.toList_inj.mp
  rw [ins_list, List.toList_toArray, List.toList_toArray, insL_map]
theorem range_get (d : α) : ∀ l : List α, (List.range l.length).map (fun i => l.getD i d) = l := fun l => by
  apply List.ext_getElem?
  intro i
  rw [List.getElem?_map]
  by_cases h : i < l.length
  · rw [List.getElem?_eq_getElem (by rw [List.length_range]; exact h), List.getElem?_eq_getElem h, List.getElem_range]
    show some (l.getD i d) = _
    rw [List.getD_eq_getElem?_getD, List.getElem?_eq_getElem h]
    rfl
  · rw [List.getElem?_eq_none (by rw [List.length_range]; omega), List.getElem?_eq_none (by omega)]
    rfl
theorem relay_list {α β : Type} {f : α → β} {l : List α} (d : α) {order : Array Nat} (h : order.toList.Perm (List.range l.length)) : order.filterMap (fun i => ((l.map f).toArray)[i]?) = ((order.toList.map fun i => l.getD i d).map f).toArray := by
  apply Array.toList_inj.mp
  rw [Array.toList_filterMap, List.toList_toArray, List.map_map]
  have all : ∀ i ∈ order.toList, i < l.length := fun i hi => List.mem_range.mp (h.mem_iff.mp hi)
  generalize order.toList = L at all
  induction L with
  | nil => rfl
  | cons i L ih =>
    have hi := all i (List.mem_cons_self ..)
    rw [List.filterMap_cons, List.map_cons, ih fun j hj => all j (List.mem_cons_of_mem _ hj), List.getElem?_toArray, List.getElem?_map, List.getElem?_eq_getElem hi]
    show f l[i] :: _ = f (l.getD i d) :: _
    rw [List.getD_eq_getElem?_getD, List.getElem?_eq_getElem hi]
    rfl
theorem stored {h : Heap} {es : Array (Int × Value)} (ho : h.get? a = some o) (hd : o.data = .set es ep t) (es' : Array (Int × Value)) (t' : SetTable) : (h.update a (Obj.putSet es' t')).get? a = some { o with data := .set es' (ep + 1) t' } := by
  have e := putSet_of es' t' hd
  exact e ▸ Heap.get?_update_self _ ho (by rw [e]; rfl)
theorem short_line {n : Nat} (h : n ≤ 1000) : n ≤ sizeLine := by rw [sizeLine_eq]; omega
theorem add_ok {Q : Bool → Shared → Prop} (S : Els knd s.heap a xs led o ep t) (hk : IsTupleKey knd s.heap k b) (hu : A.units < cLine) (hv : ∀ (k : K) (v : Value), knd.is k v = true → hashByValue 7 v = pure true) (room : xs.length + 1 ≤ 18)
    (yes : (∃ b', (k, b') ∈ xs) → Q false s) (no : (∀ b', (k, b') ∉ xs) → ∀ h' xs', Heap.SameBut a s.heap h' → TSet knd h' a xs' led → xs'.Perm ((k, b) :: xs) → Q true { s with heap := h' }) :
    wpAny (model prog w) A (setAddHashed a (.ref b) (tupleKeyHash knd k)) Q E s := by
  obtain ⟨e, he, h1, h2, h3⟩ := S.tab.first (tupleKeyHash knd k)
  unfold setAddHashed setAddHashedIn
  refine wpAny_holding (wpAny_bind (S.state ?_))
  dsimp only
  have ns : byScan (Value.ref b) ((xs.map (ent knd)).toArray) = false := by unfold byScan; rfl
  rw [ns]
  simp only [Bool.false_eq_true, if_false]
  unfold setSearch
  refine wpAny_bind (search_from S hk rfl hu he h1 h3 (fun y => ?_) (fun n => ?_) e 0 100000 none (by omega) (Nat.zero_le _) (by
    rcases fuel_big S.tab.sm with ⟨_, f⟩ | ⟨_, f⟩ <;> omega) rfl (fun m hm => absurd hm (Nat.not_lt_zero _)))
  · exact wpAny_pure (yes y)
  · dsimp only
    refine wpAny_bind (S.state ?_)
    dsimp only
    have B := S.tab.toTB.put h1 h2 h3
    have pl : (t.put (nth t (t.probeStart (tupleKeyHash knd k)) e).j).2 ≤ xs.length := by
      rw [put_at]
      have := (below_ok S.tab.rise (nth t (t.probeStart (tupleKeyHash knd k)) e).j).le
      rw [S.tab.len, List.length_map] at this
      exact this
    have pd := put_dum S.tab.dum (nth t (t.probeStart (tupleKeyHash knd k)) e).j
    generalize t.put (nth t (t.probeStart (tupleKeyHash knd k)) e).j = pp at B pd pl
    obtain ⟨t1, p⟩ := pp
    dsimp only at B pd pl ⊢
    have m1 : t1.mask = t.mask := by rw [pd]
    have l1 : t1.led = led := by rw [pd]; exact S.led_
    have q1 : t1.plain = true := by rw [pd]; exact S.plain
    rw [if_pos q1]
    refine wpAny_bind (by_value hv hk ?_)
    simp only [if_true]
    have ei : SetTable.insertAt ((xs.map (ent knd)).toArray) p (tupleKeyHash knd k, Value.ref b) = ((insL xs p (k, b)).map (ent knd)).toArray := ent_ins xs p (k, b)
    rw [ei]
    have xp := insL_perm xs p (k, b)
    have xl := insL_len pl (k, b)
    rw [← insL_map (fun p : List K × Addr => tupleKeyHash knd p.1) xs p (k, b)] at B
    generalize insL xs p (k, b) = xs1 at B xp xl
    have sz1 : ((xs1.map (ent knd)).toArray).size = xs1.length := by simp
    have hl1 : (xs1.map fun p => tupleKeyHash knd p.1).length = xs1.length := List.length_map ..
    refine wpAny_bind (wpAny_storeSet_of S.at_ S.data ?_ (by rw [sz1]; exact short_line (by omega)))
    have ho1 := stored S.at_ S.data ((xs1.map (ent knd)).toArray) t1
    have sb1 := Heap.SameBut.update s.heap a (Obj.putSet ((xs1.map (ent knd)).toArray) t1)
    have ks1 : ∀ h', Heap.SameBut a s.heap h' → ∀ p ∈ xs1, IsTupleKey knd h' p.1 p.2 := fun h' sb p hp => by
      rcases List.mem_cons.mp (xp.mem_iff.mp hp) with rfl | hp
      · exact key_but hk S.at_ S.data sb
      · exact key_but (S.keys p hp) S.at_ S.data sb
    have nd1 : (xs1.map (·.1)).Nodup := by
      rw [(xp.map (·.1)).nodup_iff, List.map_cons, List.nodup_cons]
      refine ⟨fun z => ?_, S.nd⟩
      obtain ⟨q, hq, e'⟩ := List.mem_map.mp z
      have e2 : q.1 = k := e'
      exact n q.2 (e2 ▸ hq)
    have tf : t1.tooFull = decide ((xs.length + 1) * 5 ≥ t.mask * 3) := by
      unfold SetTable.tooFull SetTable.fill
      rw [B.len, B.dum, hl1, xl, m1]
      rfl
    rw [tf]
    simp only [Bool.not_false, Bool.true_and, decide_eq_true_eq]
    by_cases full : (xs.length + 1) * 5 ≥ t.mask * 3
    · rw [if_pos full]
      obtain ⟨mk, five⟩ : t.mask = 7 ∧ xs.length = 4 := by
        rcases S.tab.small with ⟨x1, x2⟩ | ⟨x1, x2⟩ <;> rw [List.length_map] at x2 <;> omega
      have ew : SetTable.grown (((xs.map (ent knd)).toArray).size + 1) = 20 := by rw [S.size, five]; rfl
      rw [ew]
      unfold setRelay
      refine wpAny_bind (wpAny_bind (wpAny_setState_of ho1 rfl (by rw [sz1]; exact B.fits _ (by rw [hl1]) (by rw [hl1, m1, mk]; omega)) ?_))
      dsimp only
      have e32 : SetTable.sizeAbove 20 = 32 := rfl
      rw [if_neg (by rw [e32]; exact Nat.not_lt.mpr (short_line (by omega)))]
      obtain ⟨t2, order, el, m2, l2, q2, op, B2⟩ := laid_ok (xs1.map fun p => tupleKeyHash knd p.1) (by rw [hl1]; omega) t1.finger (t1.movedTo 31) t1.led t1.plain
      have eh : Array.map (fun x => x.fst) ((xs1.map (ent knd)).toArray) = (xs1.map fun p => tupleKeyHash knd p.1).toArray := by
        apply Array.toList_inj.mp
        rw [Array.toList_map, List.toList_toArray, List.toList_toArray, List.map_map]
        rfl
      have er : t1.relaid (Array.map (fun x => x.fst) ((xs1.map (ent knd)).toArray)) 20 = some (t2, order) := by
        rw [eh]
        exact el
      rw [er]
      rw [hl1] at op
      have e2 := relay_list (f := ent knd) (([], 0) : List K × Addr) op
      obtain ⟨xs2, hx2⟩ : ∃ xs2, xs2 = order.toList.map fun i => xs1.getD i ([], 0) := ⟨_, rfl⟩
      rw [← hx2] at e2
      have xp2 : xs2.Perm xs1 := by
        rw [hx2]
        have := op.map fun i => xs1.getD i ([], 0)
        rw [range_get] at this
        exact this
      have hh2 : (order.toList.map fun i => (xs1.map fun p => tupleKeyHash knd p.1).getD i 0) = xs2.map fun p => tupleKeyHash knd p.1 := by
        rw [hx2, List.map_map]
        refine List.map_congr_left fun i hi => ?_
        have hl : i < xs1.length := List.mem_range.mp (op.mem_iff.mp hi)
        show _ = tupleKeyHash knd (xs1.getD i ([], 0)).1
        rw [List.getD_eq_getElem?_getD, List.getElem?_map, List.getD_eq_getElem?_getD, List.getElem?_eq_getElem hl]
        rfl
      rw [hh2] at B2
      have hl2 : xs2.length = xs1.length := xp2.length_eq
      have sz2 : ((xs2.map (ent knd)).toArray).size = xs2.length := by simp
      refine wpAny_bind (wpAny_of_eq (a := ((xs2.map (ent knd)).toArray, t2)) ?_ ?_)
      · rw [← e2]
        show (ite _ _ _) = _
        rw [if_neg (by rw [e2, sz2, sz1, hl2]; simp)]
      · dsimp only
        have sb2 := Heap.SameBut.update (s.heap.update a (Obj.putSet ((xs1.map (ent knd)).toArray) t1)) a (Obj.putSet ((xs2.map (ent knd)).toArray) t2)
        refine wpAny_storeSet_of ho1 rfl ?_ (by rw [sz2]; exact short_line (by omega))
        have ho2 := stored ho1 rfl ((xs2.map (ent knd)).toArray) t2
        refine wpAny_pure (no n _ xs2 (sb1.trans sb2) ⟨_, _, t2, ho2, S.ex, rfl, ⟨B2, Or.inr ⟨m2, ?_⟩⟩, q2.trans q1, l2.trans l1, fun p hp => ks1 _ (sb1.trans sb2) p (xp2.mem_iff.mp hp), ?_⟩ (xp2.trans xp))
        · rw [List.length_map]; omega
        · rw [(xp2.map (·.1)).nodup_iff]; exact nd1
    · rw [if_neg full]
      refine wpAny_pure (no n _ xs1 sb1 ⟨_, _, t1, ho1, S.ex, rfl, ⟨B, ?_⟩, q1, l1, ks1 _ sb1, nd1⟩ xp)
      rw [hl1, m1]
      rcases S.tab.small with ⟨x1, x2⟩ | ⟨x1, x2⟩
      · exact Or.inl ⟨x1, by omega⟩
      · exact Or.inr ⟨x1, by omega⟩
end
end ST
end L2

namespace L2
open PySem PySem.Spec
namespace ST
/-! ### all tuples of a list are put into a set -/
section
variable {prog : Program} {w : World} {K : Type} [DecidableEq K] {knd : PySem.KeyKind prog w K} {A : Around} {a I : Addr} {fp wr : List Addr} {St : Nat → Heap → Prop} {led : Bool} {ts : List (List K × Addr)} {R : Result → Shared → Prop} {P : Nat → Value → Prop} {N : Nat}
theorem TSet.other {h h' : Heap} {xs : List (List K × Addr)} (S : TSet knd h a xs led) (e : ∀ b o, h.get? b = some o → (∀ p ∈ xs, True) → (b = a ∨ ∃ p ∈ xs, b = p.2) → h'.get? b = some o) : TSet knd h' a xs led := by
  obtain ⟨o, ep, t, S⟩ := S
  refine ⟨o, ep, t, e a o S.at_ (fun _ _ => trivial) (Or.inl rfl), S.ex, S.data, S.tab, S.plain, S.led_, fun p hp => ?_, S.nd⟩
  obtain ⟨ob, items, n, h1, h2⟩ := S.keys p hp
  exact ⟨ob, items, n, e _ _ h1 (fun _ _ => trivial) (Or.inr ⟨p, hp, rfl⟩), h2⟩
theorem key_keep {h h' : Heap} {k : List K} {b : Addr} (x : IsTupleKey knd h k b) (e : ∀ o, h.get? b = some o → h'.get? b = some o) : IsTupleKey knd h' k b := by
  obtain ⟨ob, items, n, h1, h2⟩ := x
  exact ⟨ob, items, n, e _ h1, h2⟩
theorem loop_ok (W : Walks prog w A.in1 I fp wr N P St) (hN : N = ts.length) (hP : ∀ i v, P i v → ∃ p, ts[i]? = some p ∧ v = .ref p.2) (haf : a ∉ fp) (hu : A.in1.units < cLine) (hv : ∀ (k : K) (v : Value), knd.is k v = true → hashByValue 7 v = pure true) (l18 : ts.length ≤ 18) (hw : ∀ p ∈ ts, p.2 ∉ wr) :
    ∀ (n i : Nat) (s : Shared) (xs : List (List K × Addr)), n = ts.length - i → i ≤ ts.length → St i s.heap → TSet knd s.heap a xs led → (∀ p ∈ xs, p ∈ ts) → (∀ k, (∃ b, (k, b) ∈ xs) ↔ k ∈ (ts.take i).map (·.1)) → xs.length ≤ i → (∀ p ∈ ts, IsTupleKey knd s.heap p.1 p.2) →
      (∀ h' tk xs', (∀ b o, b ≠ a → b ∉ wr → s.heap.get? b = some o → h'.get? b = some o) → TSet knd h' a xs' led → (∀ p ∈ xs', p ∈ ts) → (∀ k, (∃ b, (k, b) ∈ xs') ↔ k ∈ ts.map (·.1)) → R (.ok (.ret .none)) { s with heap := h', toks := tk }) →
      codeAny (model prog w) A (.builtin "set.update.loop" ⟨[.ref a, .ref I], []⟩) R s := by
  have haw : a ∉ wr := fun h => haf (W.sub _ h)
  subst hN
  intro n
  induction n with
  | zero =>
    intro i s xs hn hi st S sub mem len keys q
    have e : i = ts.length := by omega
    subst e
    refine codeAny_builtin PyProof.Rows.F.entry_set_update_loop ?_
    rw [Around.under_plainId PyProof.Rows.F.plain_set_update_loop _]
    unfold Builtin.«set.update.loop»
    dsimp only
    refine wpAny_bind (W.done s _ _ st fun h' tk keep => ?_)
    dsimp only
    refine wpAny_pure (q h' tk xs (fun b o _ nb e => keep b o nb e) (S.other fun b o e _ hb => keep b o ?_ e) sub (by rw [List.take_length] at mem; exact mem))
    rcases hb with rfl | ⟨p, hp, rfl⟩
    · exact haw
    · exact hw p (sub p hp)
  | succ n ih =>
    intro i s xs hn hi st S sub mem len keys q
    have hlt : i < ts.length := by omega
    refine codeAny_builtin PyProof.Rows.F.entry_set_update_loop ?_
    rw [Around.under_plainId PyProof.Rows.F.plain_set_update_loop _]
    unfold Builtin.«set.update.loop»
    dsimp only
    refine wpAny_bind (W.item i s _ _ hlt st fun v h' tk hv' st' keep => ?_)
    obtain ⟨⟨k, b⟩, hp, rfl⟩ := hP _ _ hv'
    have pm : (k, b) ∈ ts := List.mem_of_getElem? hp
    have keys' : ∀ p ∈ ts, IsTupleKey knd h' p.1 p.2 := fun p hp => key_keep (keys p hp) fun o e => keep _ o (hw p hp) e
    have S' : TSet knd h' a xs led := S.other fun c o e _ hc => keep c o (by
      rcases hc with rfl | ⟨p, hp, rfl⟩
      · exact haw
      · exact hw p (sub p hp)) e
    dsimp only
    refine wpAny_bind (wpAny_holding ?_)
    unfold setAdd
    refine wpAny_holding (wpAny_bind (wpAny_pyHash_tuple hu (keys' _ pm) ?_))
    obtain ⟨o, ep, t, S1⟩ := S'
    have et : (ts.take (i + 1)).map (·.1) = (ts.take i).map (·.1) ++ [k] := by rw [List.take_succ, hp, List.map_append]; rfl
    have go : ∀ (h2 : Heap) (xs2 : List (List K × Addr)), Heap.SameBut a h' h2 → TSet knd h2 a xs2 led → (∀ p ∈ xs2, p ∈ ts) → (∀ k', (∃ b', (k', b') ∈ xs2) ↔ k' ∈ (ts.take (i + 1)).map (·.1)) → xs2.length ≤ i + 1 →
        codeAny (model prog w) A (.builtin "set.update.loop" ⟨[.ref a, .ref I], []⟩) R { s with heap := h2, toks := tk + (k.length + 1) } := fun h2 xs2 sb T2 sub2 mem2 len2 =>
      ih (i + 1) _ xs2 (by omega) hlt (W.frame (i + 1) h' h2 st' fun c hc o e => by rw [sb.2 c (fun z => haf (z ▸ hc))]; exact e) T2 sub2 mem2 len2 (fun p hp => key_but (keys' p hp) S1.at_ S1.data sb)
        fun h3 tk3 xs3 keep3 T3 sub3 mem3 => q h3 tk3 xs3 (fun c o nc nw e => keep3 c o nc nw (by show h2.get? c = some o; rw [sb.2 c nc]; exact keep c o nw e)) T3 sub3 mem3
    refine add_ok (s := { s with heap := h', toks := tk + (k.length + 1) }) S1 (keys' _ pm) hu hv (by omega) (fun y => ?_) (fun n' h2 xs2 sb T2 xp => ?_)
    · refine wpAny_pure ⟨plainId_quiet PyProof.Rows.F.plain_set_update_loop _, go h' xs (Heap.SameBut.refl a h') ⟨o, ep, t, S1⟩ sub (fun k' => ?_) (by omega)⟩
      rw [et, List.mem_append, mem k', List.mem_singleton]
      refine ⟨Or.inl, fun z => ?_⟩
      rcases z with z | rfl
      · exact z
      · exact (mem k').mp y
    · refine wpAny_pure ⟨plainId_quiet PyProof.Rows.F.plain_set_update_loop _, go h2 xs2 sb T2 (fun p hp => ?_) (fun k' => ?_) (by rw [xp.length_eq, List.length_cons]; omega)⟩
      · rcases List.mem_cons.mp (xp.mem_iff.mp hp) with rfl | hp
        · exact pm
        · exact sub p hp
      · rw [et, List.mem_append, ← mem k', List.mem_singleton]
        constructor
        · rintro ⟨b', hb'⟩
          rcases List.mem_cons.mp (xp.mem_iff.mp hb') with z | z
          · exact Or.inr (Prod.mk.inj z).1
          · exact Or.inl ⟨b', z⟩
        · rintro (⟨b', hb'⟩ | rfl)
          · exact ⟨b', xp.mem_iff.mpr (List.mem_cons_of_mem _ hb')⟩
          · exact ⟨b, xp.mem_iff.mpr (List.mem_cons_self ..)⟩
end
end ST
end L2

namespace L2
open PySem PySem.Spec
namespace ST
/-! ### set(a list of tuples) -/
section
variable {prog : Program} {w : World} {K : Type} [DecidableEq K] {knd : PySem.KeyKind prog w K} {A : Around} {E : Value → Shared → Prop} {s : Shared}
noncomputable abbrev ledBy (w : World) : Bool := !w.params.followText "set-order"
noncomputable abbrev bare (w : World) : Obj := { cls := .type "set", data := .set #[] 0 (.fresh 0 0 (ledBy w)) }
theorem new_bare {a : Value} {R : PySem.Fin → Shared → Prop} (h : R (.done (.ret (.ref s.heap.objs.size))) { s with heap := s.heap.push (bare w) }) :
    wpAny (model prog w) A (Builtin.«set.__new__» ⟨[.type "set", a], []⟩) R E s := by
  have hsub := PySem.sub_set_self
  unfold Builtin.«set.__new__» Builtin.Frozenset.newClass
  wp_walk
  refine wpAny_askSetting (wpAny_pure ?_)
  dsimp only
  wp_walk
  exact h
theorem fresh_ok (finger moves : Nat) (led : Bool) : TOk (.fresh finger moves led) [] where
  dum := rfl
  len := rfl
  rise := fun a b h hb => absurd hb (Nat.not_lt_zero _)
  top := fun i j h => by
    have : (#[] : Array Nat)[i]? = some j := h
    simp at this
  reach := fun i h e => by cases e
  small := Or.inl ⟨rfl, by decide⟩
theorem called_bare {l : Addr} {ts : List (List K × Addr)} {Q : Value → Shared → Prop} (hh : A.handled = none) (hl : s.heap.IsList l ((ts.map fun p => Value.ref p.2).toArray)) (keys : ∀ p ∈ ts, IsTupleKey knd s.heap p.1 p.2) (hu : A.in1.in1.in1.units < cLine) (hv : ∀ (k : K) (v : Value), knd.is k v = true → hashByValue 7 v = pure true) (l18 : ts.length ≤ 18)
    (h : ∀ h' tk xs, TSet knd h' s.heap.objs.size xs (ledBy w) → (∀ p ∈ xs, p ∈ ts) → (∀ k, (∃ b, (k, b) ∈ xs) ↔ k ∈ ts.map (·.1)) → (∀ b o, b < s.heap.objs.size → s.heap.get? b = some o → h'.get? b = some o) → Q (.ref s.heap.objs.size) { s with heap := h', toks := tk }) :
    wpAny (model prog w) A (call (.type "set") [.ref l]) Q E s := by
  refine wpAny_call ?_
  refine codeAny_of_tree ?_
  wp_walk
  have C := PySem.F.called_set
  obtain ⟨c, tl, hm⟩ := C.mro
  have n1 := C.notType
  have n2 := C.canCreate
  have n3 := C.made
  have n4 := C.sub
  have chk := PySem.F.typeCall_set_1 (.ref l)
  constructor
  · exact Code.quiet_builtin _ (by decide +kernel)
  refine codeAny_builtin PySem.F.entry_type_call ?_
  rw [Around.under_plain (weight_type_call_type "set" [.ref l] []) rfl]
  unfold Builtin.«type.__call__»
  wp_walk
  refine codeAny_call_builtin PySem.F.plain_set_new PySem.F.entry_set_new (wpAny_of_eq (PySem.F.newCall_set_1 (.ref l)) (new_bare ?_))
  have hS : (s.heap.push (bare w)).get? s.heap.objs.size = some (bare w) := Heap.get?_push_size _ rfl
  have ty : Shared.TypeIs { s with heap := s.heap.push (bare w) } (.ref s.heap.objs.size) "set" := ⟨_, hS, rfl⟩
  have li := C.init.lookup
  have bi := C.init.bind (.ref s.heap.objs.size)
  wp_walk
  refine codeAny_call_builtin C.init.plain PySem.F.entry_set_init (check_set_init_1 ty ?_)
  have hl1 : (s.heap.push (bare w)).IsList l ((ts.map fun p => Value.ref p.2).toArray) := hl.push _
  have lty : Shared.TypeIs { s with heap := s.heap.push (bare w) } (.ref l) "list" := by
    obtain ⟨ol, a1, a2, _⟩ := hl1
    exact ⟨ol, a1, a2⟩
  have s1 := PySem.F.sub_list_set
  have s2 := PySem.F.sub_list_frozenset
  unfold Builtin.«set.__init__» noKeywords Builtin.Frozenset.updateFrom
  wp_walk using wpAny_pyIter_list hl1
  have lt : l < s.heap.objs.size := by obtain ⟨ol, a1, _⟩ := hl; exact Heap.lt_size a1
  have sz : (s.heap.push (bare w)).objs.size = s.heap.objs.size + 1 := Heap.size_push ..
  refine loop_ok (knd := knd) (a := s.heap.objs.size) (led := ledBy w) (Walks.list (A := A.in1.in1.in1) hh _ l (Nat.ne_of_lt (by show l < (s.heap.push (bare w)).objs.size; rw [sz]; exact Nat.lt_succ_of_lt lt)) ((ts.map fun p => Value.ref p.2).toArray)) (by simp) (fun i v e => ?_) ?_ hu hv l18 (fun p hp => ?_) ts.length 0 _ [] (by omega) (Nat.zero_le _) ⟨⟨_, Heap.get?_push_size _ rfl, rfl, rfl⟩, hl1.push _⟩ ⟨bare w, 0, .fresh 0 0 (ledBy w), Heap.get?_push_of_some _ hS, ⟨rfl, rfl, rfl⟩, rfl, fresh_ok _ _ _, rfl, rfl, fun p hp => absurd hp List.not_mem_nil, List.nodup_nil⟩ (fun p hp => absurd hp List.not_mem_nil) (fun k => ?_) (Nat.zero_le _) (fun p hp => ?_) (fun h' tk xs keep T sub mem => ?_)
  · rw [List.getElem?_toArray, List.getElem?_map] at e
    obtain ⟨p, h1, h2⟩ := Option.map_eq_some_iff.mp e
    exact ⟨p, h1, h2.symm⟩
  · show s.heap.objs.size ∉ [(s.heap.push (bare w)).objs.size, l]
    rw [sz]
    intro z
    rcases List.mem_cons.mp z with z | z
    · exact absurd z (Nat.ne_of_lt (Nat.lt_succ_self _))
    · exact absurd (List.mem_singleton.mp z) (Nat.ne_of_gt lt)
  · show p.2 ∉ [(s.heap.push (bare w)).objs.size]
    rw [sz]
    intro z
    obtain ⟨ob, _, _, h1, _⟩ := keys p hp
    exact absurd (List.mem_singleton.mp z) (Nat.ne_of_lt (Nat.lt_succ_of_lt (Heap.lt_size h1)))
  · simp
  · exact key_keep (keys p hp) fun o e => Heap.get?_push_of_some _ (Heap.get?_push_of_some _ e)
  · dsimp only
    wp_walk
    refine h h' tk xs T sub mem fun b o hb e => keep b o (Nat.ne_of_lt hb) ?_ (Heap.get?_push_of_some _ (Heap.get?_push_of_some _ e))
    show b ∉ [(s.heap.push (bare w)).objs.size]
    rw [sz]
    intro z
    exact absurd (List.mem_singleton.mp z) (Nat.ne_of_lt (Nat.lt_succ_of_lt hb))
end
end ST
end L2

namespace L2
open PySem PySem.Spec PySem.W PyProof.Rows
namespace ST
/-! ### the order in which a set gives its members -/
theorem erase_perm {α : Type} : ∀ (l : List α) (i : Nat) (x : α), l[i]? = some x → (x :: l.eraseIdx i).Perm l
  | [], i, x, h => by simp at h
  | y :: l, 0, x, h => by
    simp at h
    subst h
    exact List.Perm.refl _
  | y :: l, i + 1, x, h => by
    simp at h
    exact (List.Perm.swap ..).trans ((erase_perm l i x h).cons y)
theorem pick_go {α : Type} (f : Nat → Nat) : ∀ (n k : Nat) (l : List α) (out : Array α), l.length = n → (pickOrder.go f n k l out).toList.Perm (out.toList ++ l)
  | 0, k, l, out, h => by
    unfold pickOrder.go
    rw [List.eq_nil_of_length_eq_zero h, List.append_nil]
  | n + 1, k, l, out, h => by
    unfold pickOrder.go
    have hi : f k % l.length < l.length := Nat.mod_lt _ (by omega)
    have e := List.getElem?_eq_getElem hi
    rw [e]
    dsimp only
    refine (pick_go f n (k + 1) _ _ (by rw [List.length_eraseIdx, if_pos hi]; omega)).trans ?_
    rw [Array.toList_push, List.append_assoc]
    exact (erase_perm l _ _ e).append_left _
theorem pick_perm {α : Type} (f : Nat → Nat) (xs : Array α) : (pickOrder f xs).toList.Perm xs.toList := by
  unfold pickOrder
  simpa using pick_go f xs.size 0 xs.toList #[] (by simp)
/-- where the next member is looked for -/
noncomputable def slotAt (t : SetTable) (i : Nat) : Nat := if i = 0 then 0 else t.place.getD (i - 1) 0 + 1
theorem below_slot {t : SetTable} (R : Rise t.place) {i : Nat} (hi : i ≤ t.place.size) : SetTable.below t.place (slotAt t i) = i := by
  have B := below_ok R (slotAt t i)
  unfold slotAt at B ⊢
  by_cases c : i = 0
  · rw [if_pos c] at B ⊢
    rcases Nat.eq_zero_or_pos (SetTable.below t.place 0) with e | e
    · omega
    · exact absurd (B.lo 0 e) (Nat.not_lt_zero _)
  · rw [if_neg c] at B ⊢
    rcases Nat.lt_trichotomy (SetTable.below t.place (t.place.getD (i - 1) 0 + 1)) i with d | d | d
    · have h1 := B.hi (i - 1) (by omega) (by omega)
      omega
    · exact d
    · have h1 := B.lo i d
      have h2 := R (i - 1) i (by omega) (by have := B.le; omega)
      omega
end ST
end L2

namespace L2
open PySem PySem.Spec PySem.W PyProof.Rows
namespace ST
/-! ### a set is walked -/
theorem entry_set_iter : entryFor table "set.__iter__" = some Builtin.«frozenset.__iter__» := entryFor_alias (id' := "frozenset.__iter__") (by kernel_rfl) rfl (by decide +kernel) (by kernel_rfl)
theorem entry_setit_next : entryFor table "set_iterator.__next__" = some Builtin.«set_iterator.__next__» := entryFor_of_fast (by kernel_rfl)
theorem slot_setit_next : Slot "set_iterator" "__next__" "set_iterator.__next__" :=
  .of (owner := "set_iterator") (n := "__next__") (by rw [typeLookup_type, builtinLookup_eq_fast]; kernel_rfl) (by decide +kernel) (by decide +kernel) (by decide +kernel)
    (by first | exact .inl (by decide +kernel) | exact .inr (by decide +kernel)) (by rw [isSubtype_type]; kernel_rfl)
theorem args_setit_next (a : Value) : argsOk "set_iterator.__next__" ⟨[a], []⟩ := by
  unfold argsOk
  kernel_rfl
theorem entry_setit_iter : entryFor table "set_iterator.__iter__" = some Builtin.«dict_keyiterator.__iter__» := entryFor_alias (id' := "dict_keyiterator.__iter__") (by kernel_rfl) rfl (by decide +kernel) (by kernel_rfl)
theorem slot_setit_iter : Slot "set_iterator" "__iter__" "set_iterator.__iter__" :=
  .of (owner := "set_iterator") (n := "__iter__") (by rw [typeLookup_type, builtinLookup_eq_fast]; kernel_rfl) (by decide +kernel) (by decide +kernel) (by decide +kernel)
    (by first | exact .inl (by decide +kernel) | exact .inr (by decide +kernel)) (by rw [isSubtype_type]; kernel_rfl)
theorem args_setit_iter (a : Value) : argsOk "set_iterator.__iter__" ⟨[a], []⟩ := by
  unfold argsOk
  kernel_rfl
/-- what the object of a set must be like to be walked -/
structure SO (w : World) (o : Obj) (es : Array (Int × Value)) (ep : Nat) (t : SetTable) : Prop where
  ex : o.ExactSet
  data : o.data = .set es ep t
  fits : t.fits es.size = true
  rise : Rise t.place
  len : t.place.size = es.size
  plain : t.plain = true
  led : t.led = !w.params.followText "set-order"
noncomputable def given (w : World) (a : Addr) (ep : Nat) (es : Array (Int × Value)) : Array (Int × Value) := if w.params.followText "set-order" = true then pickOrder (w.params.setOrder a ep) es else es
theorem given_perm {w : World} {a : Addr} {ep : Nat} {es : Array (Int × Value)} : (given w a ep es).toList.Perm es.toList := by
  unfold given
  split
  · exact pick_perm _ _
  · exact List.Perm.refl _
theorem given_size {w : World} {a : Addr} {ep : Nat} {es : Array (Int × Value)} : (given w a ep es).size = es.size := by
  have := (given_perm (w := w) (a := a) (ep := ep) (es := es)).length_eq
  simpa using this
noncomputable def slotW (w : World) (t : SetTable) (i : Nat) : Nat := if w.params.followText "set-order" = true then 0 else slotAt t i
noncomputable abbrev itO (a : Addr) (slot i n ep : Nat) : Obj := { cls := .type "set_iterator", data := .fields #[rawInt slot, rawInt i, .ref a, rawInt n, rawInt ep] }
section
variable {prog : Program} {w : World} {A : Around} {E : Value → Shared → Prop} {s : Shared} {a I : Addr} {o : Obj} {es : Array (Int × Value)} {ep : Nat} {t : SetTable}
theorem SO.state {Q : (Array (Int × Value) × Nat × SetTable) → Shared → Prop} (S : SO w o es ep t) (at_ : s.heap.get? a = some o) (h : Q (es, ep, t) s) : wpAny (model prog w) A (setState a) Q E s :=
  wpAny_setState_of at_ S.data S.fits h
theorem ite_no {α : Type} {M : Model} {c : Prop} [Decidable c] {x y : Sem α} {Q : α → Shared → Prop} (hc : ¬ c) (h : wpAny M A y Q E s) : wpAny M A (if c then x else y) Q E s := by
  rw [if_neg hc]
  exact h
theorem ite_yes {α : Type} {M : Model} {c : Prop} [Decidable c] {x y : Sem α} {Q : α → Shared → Prop} (hc : c) (h : wpAny M A x Q E s) : wpAny M A (if c then x else y) Q E s := by
  rw [if_pos hc]
  exact h
theorem iter_set {Q : Value → Shared → Prop} (S : SO w o es ep t) (at_ : s.heap.get? a = some o) (h : Q (.ref s.heap.objs.size) { s with heap := s.heap.push (itO a 0 0 es.size ep) }) : wpAny (model prog w) A (pyIter (.ref a)) Q E s := by
  have hT : s.TypeIs (.ref a) "set" := ⟨o, at_, S.ex.1⟩
  refine wpAny_pyIter_slot hT PySem.F.slot_set_iter (wpAny_call_entry PySem.F.slot_set_iter hT entry_set_iter ?_ (PySem.F.args_set_iter_1 _))
  unfold Builtin.«frozenset.__iter__» Builtin.Frozenset.slot0 Builtin.Frozenset.sizeOf setEntries setDrawn setsByText setEpoch
  wp_walk using S.state at_
  refine wpAny_askSetting (wpAny_pure (wpAny_pure ?_))
  dsimp only
  refine ite_no (show ¬ ((!_ && (!t.plain && decide _)) = true) from by rw [S.plain]; simp) ?_
  wp_walk using S.state at_
  exact ⟨_, rfl, "set_iterator", _, ⟨_, Heap.get?_push_size _ rfl, rfl⟩, slot_setit_next.lookup, h⟩
theorem self_set {Q : Value → Shared → Prop} {i j n : Nat} (hI : s.heap.get? I = some (itO a j i n ep)) (h : Q (.ref I) s) : wpAny (model prog w) A (pyIter (.ref I)) Q E s := by
  have hT : s.TypeIs (.ref I) "set_iterator" := ⟨_, hI, rfl⟩
  refine wpAny_pyIter_slot hT slot_setit_iter (wpAny_call_entry slot_setit_iter hT entry_setit_iter ?_ (args_setit_iter _))
  show wpAny _ _ (ret (.ref I)) _ _ s
  exact wpAny_pure ⟨_, rfl, "set_iterator", _, hT, slot_setit_next.lookup, h⟩
end
end ST
end L2

namespace L2
open PySem PySem.Spec PySem.W PyProof.Rows
namespace ST
section
variable {prog : Program} {w : World} {A : Around} {E : Value → Shared → Prop} {s : Shared} {a I : Addr} {o : Obj} {es : Array (Int × Value)} {ep : Nat} {t : SetTable}
/-- the set's own step -/
theorem step_set {Q : Option (Value × Nat) → Shared → Prop} {i : Nat} (S : SO w o es ep t) (at_ : s.heap.get? a = some o) (hi : i ≤ es.size)
    (h : Q (((given w a ep es)[i]?).map fun e => (e.2, slotW w t (i + 1))) s) : wpAny (model prog w) A (setNext a (slotW w t i) i ep) Q E s := by
  unfold setNext setsByText
  refine wpAny_bind (S.state at_ ?_)
  dsimp only
  refine wpAny_bind (wpAny_bind (wpAny_askSetting (wpAny_pure ?_)))
  unfold given slotW at *
  by_cases c : w.params.followText "set-order" = true
  · rw [if_pos c] at h
    simp only [if_pos c] at h ⊢
    refine ite_yes c ?_
    refine ite_no (by simp) ?_
    unfold setWalk setsByText
    refine wpAny_bind (wpAny_bind (S.state at_ ?_))
    dsimp only
    refine wpAny_bind (wpAny_bind (wpAny_askSetting (wpAny_pure ?_)))
    refine ite_yes c ?_
    refine wpAny_bind (wpAny_askSetting ?_)
    exact wpAny_pure (wpAny_pure h)
  · simp only [if_neg c] at h ⊢
    refine ite_no c ?_
    refine ite_no (show ¬ ((!t.plain && decide (es.size > 1)) = true) from by rw [S.plain]; simp) ?_
    have hl : t.led = true := by
      rw [S.led]
      simpa using c
    refine wpAny_bind (m := (if (!t.led && !es.isEmpty) = true then unsupported "set:maker-not-led" else pure PUnit.unit)) (ite_no (by rw [hl]; simp) (wpAny_pure ?_))
    refine wpAny_pure ?_
    rw [below_slot S.rise (by rw [S.len]; exact hi)]
    by_cases d : i < es.size
    · rw [at_getD (show i < t.place.size by rw [S.len]; exact d)]
      rw [Array.getElem?_eq_getElem d] at h ⊢
      simp only [Option.map_some, slotAt, Nat.add_eq_zero_iff, Nat.succ_ne_self, and_false, if_false, Nat.add_sub_cancel] at h
      exact h
    · have e : es[i]? = none := Array.getElem?_eq_none (by omega)
      rw [e] at h ⊢
      exact h
end
end ST
end L2

namespace L2
open PySem PySem.Spec PySem.W PyProof.Rows
namespace ST
section
variable {prog : Program} {w : World} {A : Around} {E : Value → Shared → Prop} {s : Shared} {a I : Addr} {o : Obj} {es : Array (Int × Value)} {ep : Nat} {t : SetTable}
theorem next_set {Q : Option Value → Shared → Prop} {i : Nat} {e : Int × Value} (S : SO w o es ep t) (at_ : s.heap.get? a = some o) (ne : a ≠ I) (hI : s.heap.get? I = some (itO a (slotW w t i) i es.size ep)) (he : (given w a ep es)[i]? = some e)
    (h : ∀ h', h'.get? I = some (itO a (slotW w t (i + 1)) (i + 1) es.size ep) → (∀ b o, b ≠ I → s.heap.get? b = some o → h'.get? b = some o) → Q (some e.2) { s with heap := h' }) : wpAny (model prog w) A (pyNext (.ref I)) Q E s := by
  have hT : s.TypeIs (.ref I) "set_iterator" := ⟨_, hI, rfl⟩
  have hi : i ≤ es.size := by
    have := (Array.getElem?_eq_some_iff.mp he).1
    rw [given_size] at this
    omega
  unfold pyNext
  refine wpAny_bind (wpAny_attempt (wpAny_callSpecial?_slot (name := Str.ofString "__next__") hT slot_setit_next (wpAny_call_entry slot_setit_next hT entry_setit_next ?_ (args_setit_next _))))
  unfold Builtin.«set_iterator.__next__» setEntries
  refine wpAny_bind (wpAny_pure ?_)
  refine wpAny_bind (wpAny_fieldsOf hI rfl ?_)
  simp only [rawInt]
  refine wpAny_bind (wpAny_bind (S.state at_ (wpAny_pure ?_)))
  refine ite_no (by simp) ?_
  simp only [Int.toNat_natCast]
  refine wpAny_bind (step_set S at_ hi ?_)
  rw [he]
  simp only [Option.map_some]
  refine wpAny_bind (wpAny_setField hI rfl (by simp) ?_)
  have h1 : (s.heap.update I (Obj.mapFields fun x => x.setIfInBounds 0 (Value.int (↑(slotW w t (i + 1))) 0))).get? I = some (itO a (slotW w t (i + 1)) i es.size ep) := Heap.get?_update_self _ hI rfl
  refine wpAny_bind (wpAny_setField h1 rfl (by simp) (wpAny_pure ⟨_, rfl, wpAny_pure (h _ (Heap.get?_update_self _ h1 rfl) fun b o hb e' => ?_)⟩))
  exact (Heap.get?_update_other _ _ (Ne.symm hb)).trans ((Heap.get?_update_other _ _ (Ne.symm hb)).trans e')
theorem end_set {Q : Option Value → Shared → Prop} (hh : A.handled = none) (S : SO w o es ep t) (at_ : s.heap.get? a = some o) (ne : a ≠ I) (hI : s.heap.get? I = some (itO a (slotW w t es.size) es.size es.size ep))
    (h : ∀ h', (∀ b o, b ≠ I → s.heap.get? b = some o → h'.get? b = some o) → Q none { s with heap := h' }) : wpAny (model prog w) A (pyNext (.ref I)) Q E s := by
  have hT : s.TypeIs (.ref I) "set_iterator" := ⟨_, hI, rfl⟩
  have he : (given w a ep es)[es.size]? = none := Array.getElem?_eq_none (by rw [given_size]; exact Nat.le_refl _)
  have hh1 : A.in1.handled = none := hh
  unfold pyNext
  refine wpAny_bind (wpAny_attempt (wpAny_callSpecial?_slot (name := Str.ofString "__next__") hT slot_setit_next (wpAny_call_entry slot_setit_next hT entry_setit_next ?_ (args_setit_next _))))
  unfold Builtin.«set_iterator.__next__» setEntries
  refine wpAny_bind (wpAny_pure ?_)
  refine wpAny_bind (wpAny_fieldsOf hI rfl ?_)
  simp only [rawInt]
  refine wpAny_bind (wpAny_bind (S.state at_ (wpAny_pure ?_)))
  refine ite_no (by simp) ?_
  simp only [Int.toNat_natCast]
  refine wpAny_bind (step_set S at_ (Nat.le_refl _) ?_)
  rw [he]
  simp only [Option.map_none]
  refine wpAny_bind (wpAny_setField hI rfl (by simp) ?_)
  wp_walk
  refine wpAny_raiseNew_none hh1 ?_
  refine wpAny_bind (wpAny_isInstance (T := "StopIteration") (b := true) ⟨_, Heap.get?_push_size _ rfl, rfl⟩ isSubtype_stop (wpAny_pure (h _ fun b o hb e' => ?_)))
  exact Heap.get?_push_of_some _ (Heap.get?_push_of_some _ ((Heap.get?_update_other _ _ (Ne.symm hb)).trans e'))
theorem walks_set (hh : A.handled = none) (S : SO w o es ep t) (ne : a ≠ I) : Walks prog w A I [I, a] [I] es.size (fun i v => ((given w a ep es)[i]?).map Prod.snd = some v) (fun i h => h.get? I = some (itO a (slotW w t i) i es.size ep) ∧ h.get? a = some o) where
  sub := fun b hb => by
    rw [List.mem_singleton.mp hb]
    exact List.mem_cons_self ..
  frame := fun _ _ _ st k => ⟨k I (by simp) _ st.1, k a (by simp) _ st.2⟩
  item := fun i s Q E hi st h => by
    have hg : i < (given w a ep es).size := by
      rw [given_size]
      exact hi
    have e := Array.getElem?_eq_getElem hg
    exact next_set S st.2 ne st.1 e fun h' a1 a2 => h _ h' s.toks (by rw [e]; rfl) ⟨a1, a2 _ _ ne st.2⟩ fun b o hb e' => a2 b o (fun c => hb (by rw [c]; exact List.mem_cons_self ..)) e'
  done := fun s Q E st h => end_set hh S st.2 ne st.1 fun h' a2 => h h' s.toks fun b o hb e' => a2 b o (fun c => hb (by rw [c]; exact List.mem_cons_self ..)) e'
  self := fun _ _ _ _ st h => self_set st.1 h
/-- and what asks for its length beforehand -/
theorem hint_set {Q : Bool → Shared → Prop} (hT : s.TypeIs (.ref a) "set") (h : Q false s) : wpAny (model prog w) A (Builtin.List.listLengthHint (.ref a)) Q E s := by
  have e : splitId "set.__len__" = some ("set", "__len__") := by decide +kernel
  unfold Builtin.List.listLengthHint
  wp_walk
  rw [show typeLookup (Value.type "set") (Str.ofString "__len__") = _ from PySem.F.slot_set_len.lookup]
  refine wpAny_pure ?_
  dsimp only
  rw [e]
  dsimp only
  refine wpAny_bind (wpAny_isInstance (T := "set") (b := true) hT (by rw [isSubtype_type]; kernel_rfl) (ite_no (by decide) ?_))
  refine ite_yes (by decide +kernel) ?_
  exact wpAny_bind (wpAny_typeOf hT (wpAny_pure h))
/-- so a set is one of the library's sources -/
theorem src_set (S : SO w o es ep t) : KdlSrc prog w "set" a a es.size (fun i v => ((given w a ep es)[i]?).map Prod.snd = some v) (fun h => h.get? a = some o) where
  type := fun _ e => ⟨o, e, S.ex.1⟩
  there := fun _ e => ⟨Heap.lt_size e, Heap.lt_size e⟩
  keep := fun _ _ e k => k a (.inl rfl) o e
  notList := by decide
  notTuple := by decide
  hint := fun _ _ s _ e h => hint_set (s := s) ⟨o, e, S.ex.1⟩ h
  iter := fun A s hh e => ⟨_, _, fun _ _ h => iter_set S e h, walks_set hh S (Nat.ne_of_lt (Heap.lt_size e)), by
    refine ⟨?_, Heap.get?_push_of_some _ e⟩
    rw [Heap.get?_push_size _ rfl]
    unfold slotW slotAt
    simp⟩
/-- what any source of the library's gives when it is collected -/
theorem collect_src {T : String} {r d : Addr} {n : Nat} {P : Nat → Value → Prop} {OK : Heap → Prop} {Q : List Value → Shared → Prop} (K : KdlSrc prog w T r d n P OK) (hh : A.handled = none) (ok : OK s.heap) (hn : n ≤ sizeLine)
    (h : ∀ h' tk (vs : List Value), vs.length = n → (∀ (j : Nat) v, vs[j]? = some v → P j v) → s.heap.objs.size ≤ h'.objs.size → (∀ b o, s.heap.get? b = some o → h'.get? b = some o) → Q vs { s with heap := h', toks := tk }) : wpAny (model prog w) A (collect (.ref r)) Q E s := by
  have lt := K.there _ ok
  have key : ∀ R : Result → Shared → Prop, (∀ h' tk acc c, (∀ b o, b ≠ s.heap.objs.size → (s.heap.push { cls := .type "list", data := .seq #[] }).get? b = some o → h'.get? b = some o) → h'.get? s.heap.objs.size = some { cls := .type "list", dict := none, data := .seq acc c, slots := #[] } → ItemsOf P acc n → R (.ok (.ret (.ref s.heap.objs.size))) { s with heap := h', toks := tk }) →
      codeAny (model prog w) A (.builtin "proto.collect" ⟨[.ref r], []⟩) R s := fun R hR => by
    refine codeAny_builtin PySem.F.entry_proto_collect ?_
    rw [Around.under_plainId PySem.F.plain_proto_collect _]
    refine wpAny_bind (m := newList []) (wpAny_newObj_type ?_)
    refine wpAny_pure ⟨plainId_quiet PySem.F.plain_list_iadd _, codeAny_builtin PySem.F.entry_list_iadd ?_⟩
    rw [Around.under_plainId PySem.F.plain_list_iadd _]
    exact kdl_extend (A := A) (s := { s with heap := s.heap.push { cls := .type "list", data := .seq #[] } }) K hh (K.keep _ _ ok fun b _ o e => Heap.get?_push_of_some _ e) s.heap.objs.size (Nat.ne_of_gt lt.1) (Nat.ne_of_gt lt.2) _ 0 (Heap.get?_push_size _ rfl) hR hn
  unfold collect
  refine wpAny_bind (wpAny_runValue (key _ fun h' tk acc c keep at_ it => ?_))
  refine wpAny_bind (m := load s.heap.objs.size) (wpAny_load at_ (wpAny_pure ?_))
  exact h h' tk acc.toList (by simpa using it.1) (fun j v e => it.2 j v (by simpa using e)) (Nat.le_of_lt (Heap.lt_size at_)) fun b o e => keep b o (Nat.ne_of_lt (Heap.lt_size e)) (Heap.get?_push_of_some _ e)
end
end ST
end L2

namespace L2
open PySem PySem.Spec PySem.W PyProof.Rows
namespace ST
/-! ### the keys of any dict in turn -/
section
variable {prog : Program} {w : World} {A : Around} {E : Value → Shared → Prop} {s : Shared} {d I : Addr} {o : Obj} {es : Array DictEntry} {ep : Nat}
end
end ST
end L2

namespace L2
open PySem PySem.Spec PySem.W PyProof.Rows
/-! ### sets of rows, sorted rows -/
/-- a set of rows (its rows in the order of its table) -/
noncomputable def tsO (w : World) (a : Addr) (rows : List RW) : HO := .ext fun h => ∃ o es ep t, h.get? a = some o ∧ ST.SO w o es ep t ∧ es.toList.map Prod.snd = rows.map ST.rf
theorem tsO_ok {P : Program} {w : World} {H : Hp} {h : Heap} {a : Addr} {rows : List RW} {o : Obj} {es : Array (Int × Value)} {ep : Nat} {t : SetTable} (e : h.get? a = some o) (S : ST.SO w o es ep t) (l : es.toList.map Prod.snd = rows.map ST.rf) : ObjOk P w H h a (tsO w a rows) :=
  ⟨⟨o, es, ep, t, e, S, l⟩, ⟨o, e⟩, fun _ _ ⟨o, es, ep, t, e, x⟩ k => ⟨o, es, ep, t, k _ e, x⟩⟩
section
variable {P : Program} {w : World} {H : Hp} {h : Heap} {m : Nat} {rows : List RW}
theorem row_at (ok : HOk P w H h) (R : RowsOk H m rows) : ∀ r ∈ rows, ST.RowAt h m r := fun r hr => by
  obtain ⟨_, its, rv, o, h1, h2, n, h3⟩ := (show ObjOk P w H h r.1 (.tup (r.2.map V.int)) from ok r.1 _ (R r hr).1)
  exact ⟨(R r hr).2, o, its.toArray, n, h1, h2, h3, by simpa using intsAre_of rv⟩
theorem int_items : ∀ {vs : List Value} {ns : List Int}, IntsAre vs ns → ItemsAre (intKind P w) ns vs
  | _, _, .nil => .nil
  | _, _, .cons n t h => .cons (intKind_is P w n t) (int_items h)
theorem row_key (ok : HOk P w H h) (R : RowsOk H m rows) : ∀ r ∈ rows, IsTupleKey (intKind P w) h r.2 r.1 := fun r hr => by
  obtain ⟨_, o, its, n, h1, h2, h3, h4⟩ := row_at ok R r hr
  exact ⟨o, its, n, h1, h2, h3, int_items h4⟩
theorem int_value {n : Nat} (k : Int) (v : Value) (e : (intKind P w).is k v = true) : hashByValue n v = pure true := by
  cases v with
  | int i t => cases n <;> rfl
  | _ => cases e
theorem els_so {a : Addr} {xs : List (List Int × Addr)} {o : Obj} {ep : Nat} {t : SetTable} (S : ST.Els (intKind P w) h a xs (ST.ledBy w) o ep t) : ST.SO w o (xs.map (ST.ent (intKind P w))).toArray ep t :=
  ⟨S.ex, S.data, S.tab.toTB.fits _ (by simp) S.tab.room, S.tab.rise, by rw [S.tab.len]; simp, S.plain, S.led_⟩
end
noncomputable def swR (p : List Int × Addr) : RW := (p.2, p.1)
section
variable {X : Cx} {K : PySem.W.Frag}
/-- set(a list of rows) -/
theorem call_setT (hK : X.K = K) (hc : X.calm = true) (hu : X.A.units + 64 < cLine) : CallR X (.type "set") (fun xs H Q => ∃ (p : Addr) (m : Nat) (rows : List RW), xs = [.ref p] ∧ SqL K H p (refsOf rows) ∧ RowsOk H m rows ∧ rows.length ≤ 18 ∧
    ∀ (l : Addr) (rows' : List RW), H l = none → (∀ r ∈ rows', r ∈ rows) → (∀ k, k ∈ rows'.map (·.2) ↔ k ∈ rows.map (·.2)) → (rows'.map (·.2)).Nodup → Q (.ref l) (upd H l (tsO X.w l rows'))) := by
  subst hK
  intro pins s σ H xs us Q I r h
  obtain ⟨p, m, rows, rfl, hq, R, l18, q⟩ := h
  obtain ⟨u, rfl, rx⟩ := vals1 r
  cases rx
  obtain ⟨its, rv, pl, hz⟩ := I.list hq
  have hits : its = ((rows.map fun r => (r.2, r.1)).map fun p : List Int × Addr => Value.ref p.2) := by
    have all : ∀ {rs : List RW} {vs : List Value}, Vals (refsOf rs) vs → vs = ((rs.map fun r => (r.2, r.1)).map fun p : List Int × Addr => Value.ref p.2) := by
      intro rs
      induction rs with
      | nil => intro vs h; cases h; rfl
      | cons x rs ih =>
        intro vs h
        cases h with
        | cons h1 h2 =>
          rw [ih h2]
          cases h1
          rfl
    exact all rv
  subst hits
  refine ST.called_bare (knd := intKind X.prog X.w) (ts := rows.map fun r => (r.2, r.1)) (I.ok.hd hc) pl.isList (fun x hx => ?_) (by show X.A.units + 3 < cLine; omega) (fun k v e => int_value k v e) (by simpa using l18) fun h' tk xs T sub mem keep => ?_
  · obtain ⟨r, hr, rfl⟩ := List.mem_map.mp hx
    exact row_key I.hok R r hr
  obtain ⟨o, ep, t, S⟩ := T
  have e1 : (xs.map swR).map (·.2) = xs.map (·.1) := by
    rw [List.map_map]
    rfl
  refine ⟨.ref s.heap.objs.size, _, I.laid (t' := tk) (o := tsO X.w s.heap.objs.size (xs.map swR)) (fun b o e => keep b o (Heap.lt_size e) e) (Nat.le_refl _) (tsO_ok S.at_ (els_so S) ?_), rfl, q _ _ I.fresh (fun r hr => ?_) (fun k => ?_) ?_⟩
  · simp [ST.ent, ST.rf, swR, Function.comp_def]
  · obtain ⟨x, hx, rfl⟩ := List.mem_map.mp hr
    obtain ⟨r, hr', e⟩ := List.mem_map.mp (sub x hx)
    rw [← e]
    exact hr'
  · rw [e1]
    have := mem k
    rw [List.map_map] at this
    refine Iff.trans ?_ this
    constructor
    · intro h
      obtain ⟨x, hx, rfl⟩ := List.mem_map.mp h
      exact ⟨x.2, hx⟩
    · rintro ⟨b, hb⟩
      exact List.mem_map.mpr ⟨_, hb, rfl⟩
  · rw [e1]
    exact S.nd
theorem perm_map {α β : Type} {f : α → β} {l : List β} {xs : List α} (h : l.Perm (xs.map f)) : ∃ ys : List α, ys.Perm xs ∧ l = ys.map f := by
  generalize e : xs.map f = l2 at h
  induction h generalizing xs with
  | nil => exact ⟨[], by rw [List.map_eq_nil_iff.mp e], rfl⟩
  | cons x h ih =>
    obtain ⟨y, ys, rfl, rfl, e'⟩ := List.map_eq_cons_iff.mp e
    obtain ⟨zs, p, rfl⟩ := ih e'
    exact ⟨y :: zs, p.cons y, rfl⟩
  | swap x y l =>
    obtain ⟨a, as, rfl, rfl, e'⟩ := List.map_eq_cons_iff.mp e
    obtain ⟨b, bs, rfl, rfl, rfl⟩ := List.map_eq_cons_iff.mp e'
    exact ⟨b :: a :: bs, List.Perm.swap .., rfl⟩
  | trans h1 h2 ih1 ih2 =>
    obtain ⟨ys, p, rfl⟩ := ih2 e
    obtain ⟨zs, p', e'⟩ := ih1 rfl
    exact ⟨zs, p'.trans p, e'⟩
theorem list_of {α : Type} {vs : List α} {ys : Array α} (l : vs.length = ys.size) (h : ∀ (j : Nat) v, vs[j]? = some v → ys[j]? = some v) : vs = ys.toList := by
  refine List.ext_getElem? fun j => ?_
  rw [show ys.toList[j]? = ys[j]? from by simp]
  by_cases c : j < vs.length
  · rw [h j _ (List.getElem?_eq_getElem c)]
    exact List.getElem?_eq_getElem c
  · rw [List.getElem?_eq_none (by omega), Array.getElem?_eq_none (by omega)]
theorem refs_vals : ∀ rows : List RW, Vals (refsOf rows) (rows.map ST.rf)
  | [] => .nil
  | r :: rows => .cons rfl (refs_vals rows)
/-- what sorted gives, laid -/
theorem sorted_laid {pins : List (Addr × Obj)} {σ : St} {H : Hp} {s : Shared} {l : Addr} {h' : Heap} {tk c : Nat} {rows : List RW} {Q : VK} (I : Inv X pins σ H s) (le : s.heap.objs.size ≤ l) (at_ : h'.get? l = some (seqObj "list" (rows.map ST.rf).toArray c)) (h64 : rows.length < 64) (keep : ∀ b o, s.heap.get? b = some o → h'.get? b = some o) (q : Q (.ref l) (upd H l (.lst (refsOf rows)))) :
    EP X pins σ Q (.ref l) { s with heap := h', toks := tk } :=
  ⟨.ref l, _, I.laid (t' := tk) keep le (show ObjOk X.prog X.w _ _ _ (.lst (refsOf rows)) from ⟨by unfold refsOf; rw [List.length_map]; exact Nat.le_of_lt (small1000 (by omega)), _, c, refs_vals rows, at_⟩), rfl, q⟩
/-- sorted(a set of rows) -/
theorem call_sortedS (hc : X.calm = true) : CallR X (.builtin "sorted") (fun xs H Q => ∃ (p : Addr) (m : Nat) (rows : List RW), xs = [.ref p] ∧ H p = some (tsO X.w p rows) ∧ RowsOk H m rows ∧ 1 ≤ m ∧ rows.length < 64 ∧
    ∀ (l : Addr) (rows' : List RW), H l = none → rows'.Perm rows → ST.RUp rows' → Q (.ref l) (upd H l (.lst (refsOf rows')))) := by
  intro pins s σ H xs us Q I r h
  obtain ⟨p, m, rows, rfl, hp, R, hm, h64, q⟩ := h
  obtain ⟨u, rfl, rx⟩ := vals1 r
  cases rx
  obtain ⟨⟨o, es, ep, t, at_, S, el⟩, _⟩ := (show ObjOk X.prog X.w H s.heap p (tsO X.w p rows) from I.hok p _ hp)
  have hs : es.size = rows.length := by
    have := congrArg List.length el
    simpa using this
  refine ST.sorted_src (S := fun rs => rs.Perm rows) hm (fun Q' hQ => ?_) fun a h' tk rs rows' c hS hr pr up h6 le ha keep => sorted_laid I le ha (by rw [pr.length_eq]; exact h6) keep (q a rows' (I.hok.fresh le) (pr.trans hS) up)
  refine ST.collect_src (ST.src_set S) (I.ok.hd hc) at_ (by rw [hs]; exact Nat.le_of_lt (small1000 (by omega))) fun h' tk vs lv hv le keep => ?_
  have e1 : vs = ((ST.given X.w p ep es).map Prod.snd).toList := list_of (by rw [Array.size_map, ST.given_size]; exact lv) fun j v e => by
    rw [Array.getElem?_map]
    exact hv j v e
  have e2 : vs.Perm (rows.map ST.rf) := by
    rw [e1, Array.toList_map, ← el]
    exact ST.given_perm.map _
  obtain ⟨rs, pr, rfl⟩ := perm_map e2
  exact hQ rs h' tk pr (fun r hr => row_at I.hok R r (pr.mem_iff.mp hr)) (by rw [pr.length_eq]; exact h64) le keep
end
end L2

namespace L2
open PySem PySem.Spec PySem.W PyProof.Rows
/-! ### the rows of a book seen on a part -/
/-- ks are the rows of src, each once, in their order -/
structure Asc (ks src : List (List Int)) : Prop where
  up : ks.Pairwise fun x y => ST.lexB y x = false
  nd : ks.Nodup
  mem : ∀ k, k ∈ ks ↔ k ∈ src
theorem Asc.of {rows : List RW} {src : List (List Int)} (up : ST.RUp rows) (nd : (rows.map (·.2)).Nodup) (mem : ∀ k, k ∈ rows.map (·.2) ↔ k ∈ src) : Asc (rows.map (·.2)) src :=
  ⟨by rw [List.pairwise_map]; exact up, nd, mem⟩
theorem nd_len : ∀ {a b : List (List Int)}, a.Nodup → (∀ k ∈ a, k ∈ b) → a.length ≤ b.length := fun {a b} => ST.nd_sub
theorem Asc.len {a s : List (List Int)} (A : Asc a s) : a.length ≤ s.length := nd_len A.nd fun k hk => (A.mem k).mp hk
noncomputable def spSeenOn (K : PySem.W.Frag) : Sp := fun vs H Q _ => ∃ (bk : Addr) (rws : List RW) (s m : Nat), vs = [.ref bk, vN s] ∧ SqL K H bk (refsOf rws) ∧ RowsOk H m rws ∧ 1 ≤ m ∧ m ≤ 20 ∧ rws.length ≤ 18 ∧
  ∀ (l : Addr) (w : List RW) (H' : Hp), Same H H' → H l = none → H' l = some (.lst (refsOf w)) → RowsOk H' m w → Asc (w.map (·.2)) (rws.map fun r => seenL r.2 s) → Q (.ref l) H'
end L2

namespace L2
open PySem PySem.Spec PyProof.Rows
/-! ### books as data -/
theorem Asc.lenR {w rws : List RW} {s : Nat} (A : Asc (w.map (·.2)) (rws.map fun r => seenL r.2 s)) : w.length ≤ rws.length := by
  have := A.len
  rw [List.length_map, List.length_map] at this
  exact this
end L2

namespace L2
open PySem PySem.Spec PySem.W PyProof.Rows
/-! ### books put together -/
end L2

namespace L2
open PySem PySem.Spec PySem.W PyProof.Rows
/-! ### what books put together are -/
end L2

namespace L2
open PySem PySem.Spec PySem.W PyProof.Rows
/-! ### k52: blocks chosen by a number -/
noncomputable def chosenN (bs : List Nat) (n : Nat) : Nat → Nat
  | 0 => 0
  | i + 1 => if hasB n i = true then chosenN bs n i ||| bs.getD i 0 else chosenN bs n i
end L2

namespace L2
open PySem PySem.Spec PySem.W PyProof.Rows
/-! ### k52: which columns are chosen -/
theorem has_bit (a k : Nat) : hasB a k = a.testBit k := by unfold hasB; rw [Nat.testBit_eq_decide_div_mod_eq]
theorem chosen_has (bs : List Nat) (n k : Nat) : ∀ i, hasB (chosenN bs n i) k = true ↔ ∃ j, j < i ∧ hasB n j = true ∧ hasB (bs.getD j 0) k = true
  | 0 => by
    constructor
    · intro h
      rw [chosenN, has_bit, Nat.zero_testBit] at h
      cases h
    · rintro ⟨j, hj, _⟩
      exact absurd hj (Nat.not_lt_zero _)
  | i + 1 => by
    have ih := chosen_has bs n k i
    rw [chosenN]
    by_cases c : hasB n i = true
    · rw [if_pos c, has_bit, Nat.testBit_or, ← has_bit, ← has_bit, Bool.or_eq_true, ih]
      constructor
      · rintro (⟨j, h1, h2⟩ | h)
        · exact ⟨j, Nat.lt_succ_of_lt h1, h2⟩
        · exact ⟨i, Nat.lt_succ_self _, c, h⟩
      · rintro ⟨j, h1, h2, h3⟩
        rcases Nat.lt_or_eq_of_le (Nat.lt_succ_iff.mp h1) with h | h
        · exact .inl ⟨j, h, h2, h3⟩
        · subst h
          exact .inr h3
    · rw [if_neg c, ih]
      constructor
      · rintro ⟨j, h1, h2⟩
        exact ⟨j, Nat.lt_succ_of_lt h1, h2⟩
      · rintro ⟨j, h1, h2, h3⟩
        rcases Nat.lt_or_eq_of_le (Nat.lt_succ_iff.mp h1) with h | h
        · exact ⟨j, h, h2, h3⟩
        · subst h
          exact absurd h2 c
end L2

namespace L2
open PySem PySem.Spec PySem.W PyProof.Rows
/-! ### k52: two rows that an unsafe cut makes more of -/
end L2

namespace L2
open PySem PySem.Spec PySem.W PyProof.Rows
end L2

namespace L2
open PySem PySem.Spec PyProof.Rows
section
variable {X : Cx}
end
theorem kept_us {st : Bool} {x y d : Nat} : keptB st x y d = true ↔ usB (st, x, y) d = false := by
  show _ ↔ usableB st x y d = false
  have e : keptB st x y d = !usableB st x y d := by
    unfold keptB usableB
    by_cases h1 : x &&& d = 0
    · rw [h1]
      by_cases h2 : y &&& d = 0 <;> by_cases h3 : y &&& d = d <;> cases st <;> simp [h2, h3]
    · have h1' : 0 < x &&& d := Nat.pos_of_ne_zero h1
      simp [h1, h1']
  rw [e]
  cases usableB st x y d <;> simp
end L2

namespace L2
open PySem PySem.Spec PyProof.Rows
/-! ### the book of all choices by blocks (k24, k33) -/
theorem hasB_iff {s k : Nat} : hasB s k = true ↔ HasB s k := by
  unfold hasB HasB
  rw [Nat.testBit_eq_decide_div_mod_eq]
theorem bits_of : ∀ (n : Nat) (p : Nat → Prop), ∃ j, j < 2 ^ n ∧ ∀ i, i < n → (HasB j i ↔ p i)
  | 0, p => ⟨0, by decide, fun i h => absurd h (Nat.not_lt_zero _)⟩
  | n + 1, p => by
    obtain ⟨j, hj, hb⟩ := bits_of n p
    have pw : 2 ^ n < 2 ^ (n + 1) := Nat.pow_lt_pow_right (by decide) (Nat.lt_succ_self n)
    have jn : ¬ HasB j n := fun h => by
      unfold HasB at h
      rw [Nat.testBit_lt_two_pow hj] at h; cases h
    by_cases z : p n
    · refine ⟨j ||| 2 ^ n, Nat.or_lt_two_pow (by omega) pw, fun i hi => ?_⟩
      rw [hasb_or]
      have e : HasB (2 ^ n) i ↔ n = i := by unfold HasB; rw [Nat.testBit_two_pow, decide_eq_true_iff]
      rw [e]
      by_cases ei : n = i
      · subst ei; exact ⟨fun _ => z, fun _ => .inr rfl⟩
      · rw [hb i (by omega)]; exact ⟨fun h => h.resolve_right ei, .inl⟩
    · refine ⟨j, by omega, fun i hi => ?_⟩
      by_cases ei : n = i
      · subst ei; exact ⟨fun h => absurd h jn, fun h => absurd h z⟩
      · exact hb i (by omega)
noncomputable def BitC (bs : List Nat) (k c : Nat) : Prop := ∃ i b : Nat, bs[i]? = some b ∧ HasB b c ∧ HasB k i
open Classical in
noncomputable def rowC (m : Nat) (lo hi : Nat → Int) (bs : List Nat) (k : Nat) : List Int := (List.range m).map fun c => if BitC bs k c then hi c else lo c
theorem rowC_len (m : Nat) (lo hi : Nat → Int) (bs : List Nat) (k : Nat) : (rowC m lo hi bs k).length = m := by unfold rowC; rw [List.length_map, List.length_range]
open Classical in
theorem rowC_get {m : Nat} {lo hi : Nat → Int} {bs : List Nat} {k c : Nat} (hc : c < m) : (rowC m lo hi bs k).getD c 0 = if BitC bs k c then hi c else lo c := by
  unfold rowC
  rw [List.getD_eq_getElem?_getD, List.getElem?_map, List.getElem?_range hc]; rfl
theorem rowC_eq {m : Nat} {lo hi : Nat → Int} {bs : List Nat} {k l c : Nat} (hc : c < m) (h : BitC bs k c ↔ BitC bs l c) : (rowC m lo hi bs k).getD c 0 = (rowC m lo hi bs l).getD c 0 := by
  rw [rowC_get hc, rowC_get hc]
  by_cases z : BitC bs k c
  · rw [if_pos z, if_pos (h.mp z)]
  · rw [if_neg z, if_neg (fun w => z (h.mpr w))]
theorem rowC_ne {m : Nat} {lo hi : Nat → Int} {bs : List Nat} {k l c : Nat} (hlh : lo c ≠ hi c) (hc : c < m) (h : (rowC m lo hi bs k).getD c 0 = (rowC m lo hi bs l).getD c 0) : BitC bs k c ↔ BitC bs l c := by
  rw [rowC_get hc, rowC_get hc] at h
  by_cases z : BitC bs k c
  · by_cases w : BitC bs l c
    · exact ⟨fun _ => w, fun _ => z⟩
    · rw [if_pos z, if_neg w] at h; exact absurd h.symm hlh
  · by_cases w : BitC bs l c
    · rw [if_neg z, if_pos w] at h; exact absurd h hlh
    · exact ⟨fun u => absurd u z, fun u => absurd u w⟩
structure Chs (m : Nat) (rs : List RD) (bs : List Nat) : Prop where
  uniq : ∀ i j a b c : Nat, bs[i]? = some a → bs[j]? = some b → HasB a c → HasB b c → i = j
  kept : ∀ b ∈ bs, KeptS m rs b
theorem Chs.bit {m : Nat} {rs : List RD} {bs : List Nat} (C : Chs m rs bs) {i b c k : Nat} (hi : bs[i]? = some b) (hc : HasB b c) : BitC bs k c ↔ HasB k i := by
  constructor
  · rintro ⟨j, a, hj, ha, hk⟩
    rw [C.uniq i j b a c hi hj hc ha]; exact hk
  · intro h
    exact ⟨i, b, hi, hc, h⟩
theorem Chs.on {m : Nat} {rs : List RD} {bs : List Nat} (C : Chs m rs bs) {lo hi : Nat → Int} (hlh : ∀ c, lo c ≠ hi c) {k l s : Nat} : (∀ c, c < m → HasB s c → (rowC m lo hi bs k).getD c 0 = (rowC m lo hi bs l).getD c 0) ↔ ∀ i b : Nat, bs[i]? = some b → ¬ (HasB k i ↔ HasB l i) → ∀ c, HasB b c → ¬ HasB s c := by
  constructor
  · intro h i b hi hn c hc hs
    have hm := hasb_lt (C.kept b (List.mem_of_getElem? hi)).2.1 hc
    have e := rowC_ne (hlh c) hm (h c hm hs)
    rw [C.bit hi hc, C.bit hi hc] at e
    exact hn e
  · intro h c hc hs
    refine rowC_eq hc ⟨?_, ?_⟩
    · rintro ⟨i, b, hi, hb, hk⟩
      refine ⟨i, b, hi, hb, ?_⟩
      exact Classical.byContradiction fun z => h i b hi (fun e => z (e.mp hk)) c hb hs
    · rintro ⟨i, b, hi, hb, hk⟩
      refine ⟨i, b, hi, hb, ?_⟩
      exact Classical.byContradiction fun z => h i b hi (fun e => z (e.mpr hk)) c hb hs
theorem Chs.mix {m : Nat} {rs : List RD} {bs : List Nat} (C : Chs m rs bs) {lo hi : Nat → Int} {k l s : Nat} (h : ∀ i b : Nat, bs[i]? = some b → ¬ (HasB k i ↔ HasB l i) → (∀ c, HasB b c → HasB s c) ∨ ∀ c, HasB b c → ¬ HasB s c) : ∃ j, j < 2 ^ bs.length ∧ rowC m lo hi bs j = mixL (rowC m lo hi bs k) (rowC m lo hi bs l) s := by
  obtain ⟨j, hj, hb⟩ := bits_of bs.length fun i => ((∀ c, HasB (bs.getD i 0) c → HasB s c) ∧ HasB k i) ∨ ((¬ ∀ c, HasB (bs.getD i 0) c → HasB s c) ∧ HasB l i)
  have hb' : ∀ i b : Nat, bs[i]? = some b → (HasB j i ↔ ((∀ c, HasB b c → HasB s c) ∧ HasB k i) ∨ ((¬ ∀ c, HasB b c → HasB s c) ∧ HasB l i)) := fun i b e => by
    have := hb i (List.getElem?_eq_some_iff.mp e).1
    rw [List.getD_eq_getElem?_getD, e] at this
    exact this
  have hin : ∀ c, HasB s c → (BitC bs j c ↔ BitC bs k c) := fun c hs => by
    have key : ∀ i b : Nat, bs[i]? = some b → HasB b c → (HasB j i ↔ HasB k i) := fun i b hi hc => by
      rw [hb' i b hi]
      by_cases z : ∀ c, HasB b c → HasB s c
      · exact ⟨fun w => w.elim (fun w => w.2) fun w => absurd z w.1, fun w => .inl ⟨z, w⟩⟩
      · by_cases e : HasB k i ↔ HasB l i
        · exact ⟨fun w => w.elim (fun w => w.2) fun w => e.mpr w.2, fun w => .inr ⟨z, e.mp w⟩⟩
        · rcases h i b hi e with w | w
          · exact absurd w z
          · exact absurd hs (w c hc)
    constructor
    · rintro ⟨i, b, hi, hc, hk⟩; exact ⟨i, b, hi, hc, (key i b hi hc).mp hk⟩
    · rintro ⟨i, b, hi, hc, hk⟩; exact ⟨i, b, hi, hc, (key i b hi hc).mpr hk⟩
  have hout : ∀ c, ¬ HasB s c → (BitC bs j c ↔ BitC bs l c) := fun c hs => by
    have key : ∀ i b : Nat, bs[i]? = some b → HasB b c → (HasB j i ↔ HasB l i) := fun i b hi hc => by
      rw [hb' i b hi]
      have z : ¬ ∀ c, HasB b c → HasB s c := fun z => hs (z c hc)
      exact ⟨fun w => w.elim (fun w => absurd w.1 z) fun w => w.2, fun w => .inr ⟨z, w⟩⟩
    constructor
    · rintro ⟨i, b, hi, hc, hk⟩; exact ⟨i, b, hi, hc, (key i b hi hc).mp hk⟩
    · rintro ⟨i, b, hi, hc, hk⟩; exact ⟨i, b, hi, hc, (key i b hi hc).mpr hk⟩
  refine ⟨j, hj, ?_⟩
  refine ext_getD (by rw [mix_len, rowC_len, rowC_len]) fun c hc => ?_
  rw [rowC_len] at hc
  rw [mix_get (by rw [rowC_len]; exact hc)]
  by_cases z : HasB s c
  · rw [if_pos (hasB_iff.mpr z)]
    exact rowC_eq hc (hin c z)
  · rw [if_neg (fun w => z (hasB_iff.mp w))]
    exact rowC_eq hc (hout c z)
structure ChB (m : Nat) (rs : List RD) (bs : List Nat) (lo hi : Nat → Int) (rws : List RW) : Prop where
  chs : Chs m rs bs
  lh : ∀ c, lo c ≠ hi c
  rows : rws.map (·.2) = (List.range (2 ^ bs.length)).map (rowC m lo hi bs)
theorem ChB.of {m : Nat} {rs : List RD} {bs : List Nat} {lo hi : Nat → Int} {rws : List RW} (B : ChB m rs bs lo hi rws) {a : RW} (ha : a ∈ rws) : ∃ k, k < 2 ^ bs.length ∧ a.2 = rowC m lo hi bs k := by
  have h : a.2 ∈ rws.map (·.2) := List.mem_map.mpr ⟨a, ha, rfl⟩
  rw [B.rows] at h
  obtain ⟨k, hk, e⟩ := List.mem_map.mp h
  exact ⟨k, List.mem_range.mp hk, e.symm⟩
theorem ChB.has {m : Nat} {rs : List RD} {bs : List Nat} {lo hi : Nat → Int} {rws : List RW} (B : ChB m rs bs lo hi rws) {k : Nat} (hk : k < 2 ^ bs.length) : ∃ a ∈ rws, a.2 = rowC m lo hi bs k := by
  have h : rowC m lo hi bs k ∈ rws.map (·.2) := by rw [B.rows]; exact List.mem_map.mpr ⟨k, List.mem_range.mpr hk, rfl⟩
  obtain ⟨a, ha, e⟩ := List.mem_map.mp h
  exact ⟨a, ha, e⟩
theorem ChB.len {m : Nat} {rs : List RD} {bs : List Nat} {lo hi : Nat → Int} {rws : List RW} (B : ChB m rs bs lo hi rws) {a : RW} (ha : a ∈ rws) : a.2.length = m := by
  obtain ⟨k, _, e⟩ := B.of ha
  rw [e, rowC_len]
/-- rows alike on a set are unlike just at blocks apart from it -/
theorem ChB.apart {m : Nat} {rs : List RD} {bs : List Nat} {lo hi : Nat → Int} {rws : List RW} (B : ChB m rs bs lo hi rws) {k l s : Nat} (h : ∀ c, c < m → HasB s c → (rowC m lo hi bs k).getD c 0 = (rowC m lo hi bs l).getD c 0) : ∀ i b : Nat, bs[i]? = some b → ¬ (HasB k i ↔ HasB l i) → Apart s b := fun i b hi hn c hc => (B.chs.on B.lh).mp h i b hi hn c hc
theorem ChB.rok {m : Nat} {rs : List RD} {bs : List Nat} {lo hi : Nat → Int} {rws : List RW} (B : ChB m rs bs lo hi rws) {st : Bool} {x y : Nat} (hu : ∀ b ∈ bs, usB (st, x, y) b = false) : ROk rws st x y := by
  unfold ROk
  cases st with
  | true =>
    rw [if_pos rfl]
    intro a ha b hb hs
    obtain ⟨k, _, ek⟩ := B.of ha
    obtain ⟨l, _, el⟩ := B.of hb
    have la := B.len ha
    have lb := B.len hb
    have h1 := (seen_iff (m := m) la lb).mp hs
    rw [ek, el] at h1
    have h2 := B.apart fun c hc hx => h1 c hc (hasB_iff.mpr hx)
    refine (seen_iff (m := m) la lb).mpr ?_
    rw [ek, el]
    intro c hc hy
    refine (B.chs.on B.lh).mpr (fun i b hi hn c hcb hyc => ?_) c hc (hasB_iff.mp hy)
    exact not_us.mp (hu b (List.mem_of_getElem? hi)) (h2 i b hi hn) ⟨c, hcb, hyc⟩ (.inl rfl)
  | false =>
    rw [if_neg Bool.false_ne_true]
    intro a ha b hb hs
    obtain ⟨k, _, ek⟩ := B.of ha
    obtain ⟨l, _, el⟩ := B.of hb
    have h1 := (seen_iff (m := m) (B.len ha) (B.len hb)).mp hs
    rw [ek, el] at h1
    have h2 := B.apart fun c hc hx => h1 c hc (hasB_iff.mpr hx)
    obtain ⟨j, hj, ej⟩ := B.chs.mix (lo := lo) (hi := hi) (k := k) (l := l) (s := x ||| y) fun i b hi hn => by
      have nu := not_us.mp (hu b (List.mem_of_getElem? hi)) (h2 i b hi hn)
      by_cases z : ∃ c, HasB b c ∧ HasB y c
      · left
        intro c hc
        rw [hasb_or]
        exact .inr (Classical.byContradiction fun w => nu z (.inr ⟨c, hc, w⟩))
      · right
        intro c hc hxy
        rw [hasb_or] at hxy
        rcases hxy with w | w
        · exact h2 i b hi hn c hc w
        · exact z ⟨c, hc, w⟩
    obtain ⟨e, he, ee⟩ := B.has hj
    exact ⟨e, he, by rw [ee, ej, ek, el]⟩
/-- in the book what is fixed is fixed, and blocks can be exchanged -/
theorem ChB.fixed {m : Nat} {rs : List RD} {bs : List Nat} {lo hi : Nat → Int} {rws : List RW} (B : ChB m rs bs lo hi rws) {x fx : Nat} {os : List Nat} (O : Blocks m rs x fx os) {a b : RW} (ha : a ∈ rws) (hb : b ∈ rws) (h : ∀ c, c < m → HasB x c → a.2.getD c 0 = b.2.getD c 0) : (∀ c, c < m → HasB fx c → a.2.getD c 0 = b.2.getD c 0) ∧ ∀ o ∈ os, ∃ e ∈ rws, e.2 = mixL b.2 a.2 o := by
  obtain ⟨k, _, ek⟩ := B.of ha
  obtain ⟨l, _, el⟩ := B.of hb
  rw [ek, el] at h ⊢
  have h2 := B.apart h
  constructor
  · refine (B.chs.on B.lh).mpr fun i b' hi hn c hc hf => ?_
    exact (O.fix.mp hf).2 b' (B.chs.kept b' (List.mem_of_getElem? hi)) (h2 i b' hi hn) hc
  · intro o ho
    obtain ⟨j, hj, ej⟩ := B.chs.mix (lo := lo) (hi := hi) (k := l) (l := k) (s := o) fun i b' hi hn => by
      obtain ⟨o', ho', hs⟩ := O.holds b' (B.chs.kept b' (List.mem_of_getElem? hi)) (h2 i b' hi fun e => hn ⟨e.mpr, e.mp⟩)
      by_cases z : o' = o
      · left; rw [← z]; exact hs
      · right
        intro c hc hoc
        have := dis_iff.mp (pw_ne O.good.pw ho' ho z) c (hs c hc)
        unfold HasB at hoc
        rw [hoc] at this; cases this
    obtain ⟨e, he, ee⟩ := B.has hj
    exact ⟨e, he, by rw [ee, ej]⟩
theorem chs_of {m x fx : Nat} {rs : List RD} {os : List Nat} (O : Blocks m rs x fx os) (n : Nat) : Chs m rs (os.take n) := by
  refine ⟨fun i j a b c hi hj ha hb => ?_, fun b hb => O.kept b (List.mem_of_mem_take hb)⟩
  have hi2 : (os.take n)[i]? = os[i]? ∨ (os.take n)[i]? = none := by
    rw [List.getElem?_take]
    split
    · exact .inl rfl
    · exact .inr rfl
  have hj2 : (os.take n)[j]? = os[j]? ∨ (os.take n)[j]? = none := by
    rw [List.getElem?_take]
    split
    · exact .inl rfl
    · exact .inr rfl
  have hi3 : os[i]? = some a := by
    rcases hi2 with e | e
    · rw [← e]; exact hi
    · rw [e] at hi; cases hi
  have hj3 : os[j]? = some b := by
    rcases hj2 with e | e
    · rw [← e]; exact hj
    · rw [e] at hj; cases hj
  obtain ⟨li, ei⟩ := List.getElem?_eq_some_iff.mp hi3
  obtain ⟨lj, ej⟩ := List.getElem?_eq_some_iff.mp hj3
  have P := List.pairwise_iff_getElem.mp O.good.pw
  unfold HasB at ha hb
  rcases Nat.lt_trichotomy i j with h | h | h
  · have := P i j li lj h
    rw [ei, ej] at this
    have := dis_iff.mp this c ha
    rw [hb] at this; cases this
  · exact h
  · have := P j i lj li h
    rw [ei, ej] at this
    have := dis_iff.mp this c hb
    rw [ha] at this; cases this
end L2

namespace L2
open PySem PySem.Spec PyProof.Rows
section
variable {X : Cx} {K : PySem.W.Frag} {pins : List (Addr × Obj)} {σ : St} {H : Hp} {s : Shared}
theorem op_inTK (h : X.K = K) (hu : X.A.units + 64 < cLine) : OpR X (compareOp .In) (fun x y H Q => ∃ (t l : Addr) (ns : List Int) (rws : List RW), x = .ref t ∧ y = .ref l ∧ H t = some (.tup (ns.map V.int)) ∧ SqL K H l (refsOf rws) ∧ (∀ rw0 ∈ rws, H rw0.1 = some (.tup (rw0.2.map V.int))) ∧
    ∀ b : Bool, (b = true ↔ ∃ c ∈ rws, c.2 = ns) → Q (.bl b) H) := by
  subst h
  intro pins s σ H x y v u Q I rx ry h
  obtain ⟨t, l, ns, rws, rfl, rfl, ht, hl, hr, q⟩ := h
  cases rx; cases ry
  obtain ⟨its, rv, pl, hz⟩ := I.list hl
  have eits : its = rws.map fun rw0 => Value.ref rw0.1 := by
    have : Vals ((rws.map (·.1)).map V.ref) its := by rw [List.map_map]; exact rv
    rw [vals_refs this, List.map_map]
    rfl
  have content : ∀ a ∈ rws, ∀ b ∈ rws, a.1 = b.1 → a.2 = b.2 := fun a ha b hb e => by
    have h1 := hr a ha
    rw [e, hr b hb] at h1
    exact (map_int_inj (HO.tup.inj (Option.some.inj h1))).symm
  refine SeqAt.in_listAt (fun v => rws.any fun rw0 => decide (v = Value.ref rw0.1) && decide (rw0.2 = ns)) pl.isList (fun w hw => ?_) ?_
  · have hw' : w ∈ rws.map fun rw0 => Value.ref rw0.1 := by rw [← eits]; simpa using hw
    obtain ⟨a, ha, rfl⟩ := List.mem_map.mp hw'
    have e1 : (rws.any fun rw0 => decide (Value.ref a.1 = Value.ref rw0.1) && decide (rw0.2 = ns)) = decide (a.2 = ns) := by
      rw [Bool.eq_iff_iff, List.any_eq_true, decide_eq_true_iff]
      constructor
      · rintro ⟨b, hb, e⟩
        rw [Bool.and_eq_true] at e
        have eab : a.1 = b.1 := Value.ref.inj (of_decide_eq_true e.1)
        rw [content a ha b hb eab]
        exact of_decide_eq_true e.2
      · intro e
        exact ⟨a, ha, by rw [decide_eq_true rfl, decide_eq_true e]; rfl⟩
    show SeqAt.EqAt X.A.in1 s (Value.ref a.1) (Value.ref t) (rws.any fun rw0 => decide (Value.ref a.1 = Value.ref rw0.1) && decide (rw0.2 = ns))
    rw [e1]
    exact eqAt_tups (show X.A.units + 1 < cLine by omega) I (hr a ha) ht
  · refine ⟨.bl _, H, I, rfl, q _ ?_⟩
    rw [eits, List.any_toArray, List.any_eq_true]
    constructor
    · rintro ⟨v, _, hv⟩
      obtain ⟨c, hc, hcc⟩ := List.any_eq_true.mp hv
      rw [Bool.and_eq_true] at hcc
      exact ⟨c, hc, of_decide_eq_true hcc.2⟩
    · rintro ⟨c, hc, ec⟩
      exact ⟨Value.ref c.1, List.mem_map.mpr ⟨c, hc, rfl⟩, List.any_eq_true.mpr ⟨c, hc, by rw [decide_eq_true rfl, decide_eq_true ec]; rfl⟩⟩
end
/-! the cell, told exactly -/
/-! rows keep rules -/
noncomputable def RowOk (rws : List RW) (st : Bool) (x y : Nat) (r1 r2 : List Int) : Prop := seenL r1 x = seenL r2 x → if st = true then seenL r1 y = seenL r2 y else ∃ c ∈ rws, c.2 = mixL r1 r2 (x ||| y)
theorem rok_rows {rws : List RW} {st : Bool} {x y : Nat} : ROk rws st x y ↔ ∀ a ∈ rws, ∀ b ∈ rws, RowOk rws st x y a.2 b.2 := by
  unfold ROk RowOk
  cases st with
  | true => exact Iff.rfl
  | false => exact Iff.rfl
end L2

namespace L2
open PySem PySem.Spec PySem.W PyProof.Rows
/-! ### k52: the table of all choices, in any order -/
theorem chosen_bit {bs : List Nat} {n c : Nat} : hasB (chosenN bs n bs.length) c = true ↔ BitC bs n c := by
  rw [chosen_has]
  constructor
  · rintro ⟨j, hj, h1, h2⟩
    rw [List.getD_eq_getElem?_getD, List.getElem?_eq_getElem hj] at h2
    exact ⟨j, bs[j], List.getElem?_eq_getElem hj, hasB_iff.mp h2, hasB_iff.mp h1⟩
  · rintro ⟨j, b, e, h1, h2⟩
    obtain ⟨hj, eb⟩ := List.getElem?_eq_some_iff.mp e
    exact ⟨j, hj, hasB_iff.mpr h2, by rw [List.getD_eq_getElem?_getD, e]; exact hasB_iff.mpr h1⟩
structure ChT (m : Nat) (rs : List RD) (bs : List Nat) (lo hi : Nat → Int) (T : List RW) : Prop where
  chs : Chs m rs bs
  lh : ∀ c, lo c ≠ hi c
  rows : (T.map (·.2)).Perm ((List.range (2 ^ bs.length)).map (rowC m lo hi bs))
theorem rok_of {r1 r2 : List RW} (h : ∀ r, r ∈ r1.map (·.2) ↔ r ∈ r2.map (·.2)) {st : Bool} {x y : Nat} (R : ROk r1 st x y) : ROk r2 st x y := by
  have to : ∀ a ∈ r2, ∃ b ∈ r1, b.2 = a.2 := fun a ha => List.mem_map.mp ((h a.2).mpr (List.mem_map.mpr ⟨a, ha, rfl⟩))
  have back : ∀ a ∈ r1, ∃ b ∈ r2, b.2 = a.2 := fun a ha => List.mem_map.mp ((h a.2).mp (List.mem_map.mpr ⟨a, ha, rfl⟩))
  rw [rok_rows] at R ⊢
  intro a ha b hb hs
  obtain ⟨a', ha', ea⟩ := to a ha
  obtain ⟨b', hb', eb⟩ := to b hb
  have z := R a' ha' b' hb'
  rw [ea, eb] at z
  have z := z hs
  cases st with
  | true => exact z
  | false =>
    rw [if_neg Bool.false_ne_true] at z ⊢
    obtain ⟨c, hc, e⟩ := z
    obtain ⟨d, hd, ed⟩ := back c hc
    exact ⟨d, hd, ed.trans e⟩
section
variable {m : Nat} {rs : List RD} {bs : List Nat} {lo hi : Nat → Int} {T : List RW}
theorem ChT.of (B : ChT m rs bs lo hi T) {a : RW} (ha : a ∈ T) : ∃ k, k < 2 ^ bs.length ∧ a.2 = rowC m lo hi bs k := by
  obtain ⟨k, hk, e⟩ := List.mem_map.mp (B.rows.mem_iff.mp (List.mem_map.mpr ⟨a, ha, rfl⟩))
  exact ⟨k, List.mem_range.mp hk, e.symm⟩
theorem ChT.len (B : ChT m rs bs lo hi T) : T.length = 2 ^ bs.length := by
  have := B.rows.length_eq
  rwa [List.length_map, List.length_map, List.length_range] at this
noncomputable def allC (m : Nat) (lo hi : Nat → Int) (bs : List Nat) : List RW := ((List.range (2 ^ bs.length)).map (rowC m lo hi bs)).map fun r => ((0 : Addr), r)
theorem ChT.chb (B : ChT m rs bs lo hi T) : ChB m rs bs lo hi (allC m lo hi bs) := ⟨B.chs, B.lh, by unfold allC; simp⟩
theorem ChT.mem (B : ChT m rs bs lo hi T) (r : List Int) : r ∈ (allC m lo hi bs).map (·.2) ↔ r ∈ T.map (·.2) := by
  rw [B.chb.rows]
  exact B.rows.mem_iff.symm
theorem ChT.rok (B : ChT m rs bs lo hi T) {st : Bool} {x y : Nat} (hu : ∀ b ∈ bs, usB (st, x, y) b = false) : ROk T st x y := rok_of B.mem (B.chb.rok hu)
end
/-- the two names of each column, as they are drawn -/
noncomputable abbrev NM := Addr × Int × Int
noncomputable def loP (ps : List NM) (c : Nat) : Int := match ps[c]? with | some p => p.2.1 | none => 0
noncomputable def hiP (ps : List NM) (c : Nat) : Int := match ps[c]? with | some p => p.2.2 | none => 1
theorem loP_ne {ps : List NM} (h : ∀ p ∈ ps, p.2.1 < p.2.2) (c : Nat) : loP ps c ≠ hiP ps c := by
  unfold loP hiP
  cases e : ps[c]? with
  | none => exact fun z => absurd z (by decide)
  | some p =>
    have := h p (List.mem_of_getElem? e)
    show p.2.1 ≠ p.2.2
    omega
theorem rowC_chosen (m : Nat) (lo hi : Nat → Int) (bs : List Nat) (n : Nat) : ((List.range m).map fun k => if hasB (chosenN bs n bs.length) k = true then hi k else lo k) = rowC m lo hi bs n := by
  unfold rowC
  refine List.map_congr_left fun c _ => ?_
  by_cases z : BitC bs n c
  · rw [if_pos z, if_pos (chosen_bit.mpr z)]
  · rw [if_neg z, if_neg fun w => z (chosen_bit.mp w)]
end L2

namespace L2
open PySem PySem.Spec PySem.W PyProof.Rows
/-! ### k61: what is told twice, shown by books -/
theorem many_lt : ∀ x, x < 128 → manyN x < 8 := by decide +kernel
theorem mem_due {p x : Nat} (hp : p < 128) (h : x &&& p = x) : x ∈ dueN p := by
  have le : x ≤ p := by
    have z : x &&& p ≤ p := Nat.and_le_right
    rwa [h] at z
  unfold dueN dueM
  refine List.mem_flatMap.mpr ⟨manyN x, List.mem_range.mpr (many_lt x (by omega)), ?_⟩
  unfold rowN
  exact List.mem_filter.mpr ⟨List.mem_range.mpr (by omega), by rw [decide_eq_true h, decide_eq_true rfl]; rfl⟩
theorem tw_no {m p x : Nat} {rs : List RD} (hp : p < 128) (h : twF m rs p = none) (hx : x &&& p = x) : againN m rs p x = none := by
  unfold twF at h
  have z := List.findSome?_eq_none_iff.mp h x (mem_due hp hx)
  unfold hitT at z
  exact Option.map_eq_none_iff.mp z
theorem tw_yes {m p : Nat} {rs : List RD} {u : Nat × Nat} (h : twF m rs p = some u) : u.1 &&& p = u.1 ∧ againN m rs p u.1 = some u.2 := by
  unfold twF at h
  obtain ⟨x, hx, e⟩ := List.exists_of_findSome?_eq_some h
  unfold hitT at e
  obtain ⟨g, hg, rfl⟩ := Option.map_eq_some_iff.mp e
  exact ⟨due_sub hx, hg⟩
theorem again_is {m x p g : Nat} {rs : List RD} {s : US} (R : Run rs ⟨x, beginBs m x, []⟩ s) (h : againN m rs p x = some g) : (∀ k, HasB g k ↔ (HasB p k ∧ HasB s.fx k) ∧ ¬ HasB x k) ∨ ∃ o ∈ s.bs, g = o &&& p := by
  unfold againN gainedN at h
  rw [R.unfF] at h
  split at h
  · cases h
  · split at h
    · injection h with h
      exact .inl fun k => by rw [← h, hasb_out, hasb_and]
    · split at h
      · right
        have z : g ∈ bitsIn p s.bs := List.mem_of_mem_head? h
        obtain ⟨_, b, hb, e⟩ := bitsIn_mem z
        exact ⟨b, hb, e⟩
      · cases h
theorem again_off {m x p g : Nat} {rs : List RD} {s : US} (hx : x < 2 ^ m) (R : Run rs ⟨x, beginBs m x, []⟩ s) (h : againN m rs p x = some g) : g &&& x = 0 := by
  refine Classical.byContradiction fun z => ?_
  obtain ⟨k, h1, h2⟩ := and_ne.mp z
  rcases again_is R h with w | ⟨o, ho, e⟩
  · exact ((w k).mp h1).2 h2
  · rw [e, hasb_and] at h1
    exact (R.blocks hx).apart o ho k h1.1 h2
/-- where nothing is told twice, what a set leaves of the part lies in one block -/
theorem tw_whole {m p x : Nat} {rs : List RD} {s : US} (m7 : m ≤ 7) (hp : p < 2 ^ m) (h : twF m rs p = none) (hx : x &&& p = x) (R : Run rs ⟨x, beginBs m x, []⟩ s) (nf : p &&& s.fx ≠ p) :
    p - (p &&& x) ≠ 0 ∧ (∃ b ∈ s.bs, b &&& (p - (p &&& x)) = p - (p &&& x)) ∧ ∀ b ∈ s.bs, b &&& (p - (p &&& x)) = p - (p &&& x) → KeptS m rs b ∧ ∀ k, HasB (p - (p &&& x)) k ↔ HasB b k ∧ HasB p k := by
  have p7 : p < 128 := Nat.lt_of_lt_of_le hp (Nat.pow_le_pow_right (by decide) m7 : 2 ^ m ≤ 2 ^ 7)
  have le : x ≤ p := by
    have z : x &&& p ≤ p := Nat.and_le_right
    rwa [hx] at z
  have lx : x < 2 ^ m := Nat.lt_of_le_of_lt le hp
  have B := R.blocks lx
  have n := tw_no p7 h hx
  unfold againN gainedN at n
  rw [R.unfF, if_neg nf] at n
  split at n
  · cases n
  rename_i n2
  have g0 : (p &&& s.fx) - ((p &&& s.fx) &&& x) = 0 := Classical.byContradiction fun z => n2 z
  have gf : ∀ k, HasB p k → HasB s.fx k → HasB x k := fun k h1 h2 => Classical.byContradiction fun z => by
    have w : HasB ((p &&& s.fx) - ((p &&& s.fx) &&& x)) k := by rw [hasb_out, hasb_and]; exact ⟨⟨h1, h2⟩, z⟩
    rw [g0] at w
    unfold HasB at w
    rw [Nat.zero_testBit] at w
    cases w
  have l1 : (bitsIn p s.bs).length ≤ 1 := by
    split at n
    · rename_i n3
      have ne : bitsIn p s.bs ≠ [] := fun z => by rw [z] at n3; cases n3
      rw [List.head?_eq_none_iff] at n
      exact absurd n ne
    · rename_i n3
      exact Nat.le_of_not_lt n3
  have rb : ∀ k, HasB (p - (p &&& x)) k ↔ HasB p k ∧ ¬ HasB x k := fun k => hasb_out p x k
  have xf : ∀ k, HasB x k → HasB s.fx k := fun k hk => B.good.col.mpr ⟨hasb_lt lx hk, fun b hb => by
    cases e : b.testBit k with
    | false => rfl
    | true => exact absurd hk (B.apart b hb k e)⟩
  have inb : ∀ k, HasB (p - (p &&& x)) k → ∃ b ∈ s.bs, HasB b k := fun k hk => by
    obtain ⟨h1, h2⟩ := (rb k).mp hk
    refine Classical.byContradiction fun z => h2 (gf k h1 (B.good.col.mpr ⟨hasb_lt hp h1, fun b hb => ?_⟩))
    cases e : b.testBit k with
    | false => rfl
    | true => exact absurd ⟨b, hb, e⟩ z
  have one : ∀ b ∈ s.bs, ∀ c ∈ s.bs, b &&& p ≠ 0 → c &&& p ≠ 0 → b = c := fun b hb c hc h1 h2 => by
    unfold bitsIn at l1
    rw [List.length_map] at l1
    have mb : b ∈ s.bs.filter fun b => !decide (b &&& p = 0) := List.mem_filter.mpr ⟨hb, by rw [decide_eq_false h1]; rfl⟩
    have mc : c ∈ s.bs.filter fun b => !decide (b &&& p = 0) := List.mem_filter.mpr ⟨hc, by rw [decide_eq_false h2]; rfl⟩
    revert l1 mb mc
    match s.bs.filter fun b => !decide (b &&& p = 0) with
    | [] => intro _ mb; cases mb
    | [d] => intro _ mb mc; rw [List.mem_singleton.mp mb, List.mem_singleton.mp mc]
    | _ :: _ :: _ => intro l1; exact absurd l1 (by simp)
  obtain ⟨k0, hk0, nk0⟩ : ∃ k, HasB p k ∧ ¬ HasB s.fx k := Classical.byContradiction fun z => nf (sub_and fun k hk => Classical.byContradiction fun w => z ⟨k, hk, w⟩)
  have r0 : HasB (p - (p &&& x)) k0 := (rb k0).mpr ⟨hk0, fun z => nk0 (xf k0 z)⟩
  refine ⟨fun z => ?_, ?_, fun b hb e => ⟨B.kept b hb, fun k => ⟨fun hk => ?_, fun ⟨h1, h2⟩ => (rb k).mpr ⟨h2, B.apart b hb k h1⟩⟩⟩⟩
  · rw [z] at r0
    unfold HasB at r0
    rw [Nat.zero_testBit] at r0
    cases r0
  · obtain ⟨b, hb, hbk⟩ := inb k0 r0
    refine ⟨b, hb, ?_⟩
    rw [Nat.and_comm]
    refine sub_and fun k hk => ?_
    obtain ⟨c, hc, hck⟩ := inb k hk
    rw [one b hb c hc (and_ne.mpr ⟨k0, hbk, hk0⟩) (and_ne.mpr ⟨k, hck, ((rb k).mp hk).1⟩)]
    exact hck
  · have z := hk
    rw [← e, hasb_and] at z
    exact ⟨z.1, ((rb k).mp hk).1⟩
section
variable {m : Nat} {rs : List RD} {bs : List Nat} {lo hi : Nat → Int} {T : List RW}
theorem ChT.fixed (B : ChT m rs bs lo hi T) {x fx : Nat} {os : List Nat} (O : Blocks m rs x fx os) {a b : RW} (ha : a ∈ T) (hb : b ∈ T) (h : ∀ c, c < m → HasB x c → a.2.getD c 0 = b.2.getD c 0) : (∀ c, c < m → HasB fx c → a.2.getD c 0 = b.2.getD c 0) ∧ ∀ o ∈ os, ∃ e ∈ T, e.2 = mixL b.2 a.2 o := by
  obtain ⟨a', ha', ea⟩ := List.mem_map.mp ((B.mem a.2).mpr (List.mem_map.mpr ⟨a, ha, rfl⟩))
  obtain ⟨b', hb', eb⟩ := List.mem_map.mp ((B.mem b.2).mpr (List.mem_map.mpr ⟨b, hb, rfl⟩))
  rw [← ea, ← eb] at h ⊢
  obtain ⟨h1, h2⟩ := B.chb.fixed O ha' hb' h
  refine ⟨h1, fun o ho => ?_⟩
  obtain ⟨e, he, ee⟩ := h2 o ho
  obtain ⟨e', he', ee'⟩ := List.mem_map.mp ((B.mem e.2).mp (List.mem_map.mpr ⟨e, he, rfl⟩))
  exact ⟨e', he', ee'.trans ee⟩
theorem ChT.lenR (B : ChT m rs bs lo hi T) {a : RW} (ha : a ∈ T) : a.2.length = m := by
  obtain ⟨k, _, e⟩ := B.of ha
  rw [e, rowC_len]
/-- a part that is told twice is split as it is told -/
theorem tw_split (B : ChT m rs bs lo hi T) {W : List RW} {p : Nat} {u : Nat × Nat} (hp : p < 2 ^ m) (h : twF m rs p = some u) (A : Asc (W.map (·.2)) (T.map fun r => seenL r.2 p)) {a b : RW} (ha : a ∈ W) (hb : b ∈ W) (ag : ∀ c, c < m → hasB u.1 c = true → a.2.getD c 0 = b.2.getD c 0) : mixL a.2 b.2 (u.1 ||| u.2) ∈ W.map (·.2) := by
  obtain ⟨a', ha', ea⟩ := List.mem_map.mp ((A.mem a.2).mp (List.mem_map.mpr ⟨a, ha, rfl⟩))
  obtain ⟨b', hb', eb⟩ := List.mem_map.mp ((A.mem b.2).mp (List.mem_map.mpr ⟨b, hb, rfl⟩))
  have la := B.lenR ha'
  have lb := B.lenR hb'
  obtain ⟨hx, hg⟩ := tw_yes h
  obtain ⟨x, g⟩ := u
  dsimp only at hx hg ag ⊢
  have le : x ≤ p := by
    have z : x &&& p ≤ p := Nat.and_le_right
    rwa [hx] at z
  have lx : x < 2 ^ m := Nat.lt_of_le_of_lt le hp
  obtain ⟨s, R⟩ := run_ex (rs := rs) _ ⟨x, beginBs m x, []⟩ (Nat.le_refl _) (Good.begin lx)
  have O := R.blocks lx
  have xp : ∀ c, HasB x c → HasB p c := fun c hc => by
    rw [← hx, hasb_and] at hc
    exact hc.2
  have ga : ∀ c, c < m → a.2.getD c 0 = if hasB p c = true then a'.2.getD c 0 else 0 := fun c hc => by rw [← ea, seen_get (by omega)]
  have gb : ∀ c, c < m → b.2.getD c 0 = if hasB p c = true then b'.2.getD c 0 else 0 := fun c hc => by rw [← eb, seen_get (by omega)]
  have lam : a.2.length = m := by rw [← ea, seen_len]; exact la
  have lbm : b.2.length = m := by rw [← eb, seen_len]; exact lb
  have agx : ∀ c, c < m → HasB x c → a'.2.getD c 0 = b'.2.getD c 0 := fun c hc hxc => by
    have z := ag c hc (hasB_iff.mpr hxc)
    rw [ga c hc, gb c hc, if_pos (hasB_iff.mpr (xp c hxc)), if_pos (hasB_iff.mpr (xp c hxc))] at z
    exact z
  rcases again_is R hg with w | ⟨o, ho, e⟩
  · have fx := (B.fixed O ha' hb' agx).1
    refine List.mem_map.mpr ⟨b, hb, ?_⟩
    refine (ext_getD (by rw [mix_len, lam, lbm]) fun c hc => ?_).symm
    rw [mix_len, lam] at hc
    rw [mix_get (by omega)]
    by_cases z : hasB (x ||| g) c = true
    · rw [if_pos z, ga c hc, gb c hc]
      rcases (hasb_or _ _ _).mp (hasB_iff.mp z) with z | z
      · rw [agx c hc z]
      · rw [fx c hc ((w c).mp z).1.2]
    · rw [if_neg z]
  · obtain ⟨r, hr, er⟩ := (B.fixed O hb' ha' fun c hc hxc => (agx c hc hxc).symm).2 o ho
    refine (A.mem _).mpr (List.mem_map.mpr ⟨r, hr, ?_⟩)
    refine ext_getD (by rw [seen_len, er, mix_len, mix_len, lam, la]) fun c hc => ?_
    rw [seen_len, er, mix_len, la] at hc
    rw [seen_get (by rw [er, mix_len]; omega), mix_get (by omega), er, mix_get (by omega), ga c hc, gb c hc]
    by_cases z : hasB p c = true
    · rw [if_pos z, if_pos z, if_pos z]
      by_cases zo : hasB o c = true
      · have z2 : hasB (x ||| g) c = true := by
          rw [hasB_iff, hasb_or, e, hasb_and]
          exact .inr ⟨hasB_iff.mp zo, hasB_iff.mp z⟩
        rw [if_pos zo, if_pos z2]
      · rw [if_neg zo]
        by_cases z2 : hasB (x ||| g) c = true
        · rw [if_pos z2]
          rcases (hasb_or _ _ _).mp (hasB_iff.mp z2) with w | w
          · exact (agx c hc w).symm
          · rw [e, hasb_and] at w
            exact absurd (hasB_iff.mpr w.1) zo
        · rw [if_neg z2]
    · rw [if_neg z, if_neg z, if_neg z, ite_self]
end
/-- two rows that are unlike just at a block, seen on the part -/
theorem two_seen {m b p x r : Nat} {a0 a1 : RW} {W : List RW} (hb : b < 2 ^ m) (hp : p < 2 ^ m) (e0 : a0.2 = List.replicate m 0) (e1 : a1.2 = onesL m b) (A : Asc (W.map (·.2)) ([a0, a1].map fun r => seenL r.2 p))
    (hr : ∀ k, HasB r k ↔ HasB b k ∧ HasB p k) (r0 : r ≠ 0) (xb : ∀ k, HasB b k → ¬ HasB x k) : W.length = 2 ∧ ∀ off, off &&& r = off → off ≠ 0 → off ≠ r → mixL a0.2 a1.2 (x ||| off ||| (2 ^ m - 1 - p)) ∉ W.map (·.2) := by
  have l0 : a0.2.length = m := by rw [e0, List.length_replicate]
  have l1 : a1.2.length = m := by rw [e1, ones_len]
  have z0 : ∀ c, c < m → (seenL a0.2 p).getD c 0 = 0 := fun c hc => by rw [seen_get (by omega), e0, getD_rep, ite_self]
  have z1 : ∀ c, c < m → ((seenL a1.2 p).getD c 0 = 1 ↔ HasB r c) := fun c hc => by
    rw [seen_get (by omega), e1, ones_get hc, hr, ← hasB_iff, ← hasB_iff]
    cases hasB p c <;> cases hasB b c <;> simp
  obtain ⟨k, hk⟩ := bit_of_ne r0
  have km : k < m := hasb_lt hb ((hr k).mp hk).1
  have ne : seenL a0.2 p ≠ seenL a1.2 p := fun z => by
    have w := (z1 k km).mpr hk
    rw [← z, z0 k km] at w
    exact absurd w (by decide)
  have mem : ∀ q, q ∈ W.map (·.2) ↔ q = seenL a0.2 p ∨ q = seenL a1.2 p := fun q => by
    rw [A.mem q]
    simp
  constructor
  · have h1 := A.len
    have h2 := nd_len (a := [seenL a0.2 p, seenL a1.2 p]) (b := W.map (·.2)) (by simp [ne]) (fun q hq => by
      rcases List.mem_cons.mp hq with rfl | hq
      · exact (mem _).mpr (.inl rfl)
      · rw [List.mem_singleton.mp hq]; exact (mem _).mpr (.inr rfl))
    rw [List.length_map, List.length_map] at h1
    rw [List.length_map] at h2
    exact Nat.le_antisymm h1 h2
  · intro off ho n0 nr w
    have at_ : ∀ c, HasB r c → (mixL a0.2 a1.2 (x ||| off ||| (2 ^ m - 1 - p))).getD c 0 = if hasB off c = true then 0 else 1 := fun c hc => by
      obtain ⟨cb, cp⟩ := (hr c).mp hc
      have cm := hasb_lt hb cb
      have nx := xb c cb
      rw [mix_get (by omega), e0, getD_rep, e1, ones_get cm, if_pos (hasB_iff.mpr cb)]
      have eo : hasB (x ||| off ||| (2 ^ m - 1 - p)) c = hasB off c := by
        rw [Bool.eq_iff_iff, hasB_iff, hasB_iff, hasb_or, hasb_or, hasb_full hp]
        exact ⟨fun z => z.elim (fun z => z.elim (fun z => absurd z nx) id) fun z => absurd cp z.2, fun z => .inl (.inr z)⟩
      rw [eo]
    rcases (mem _).mp w with e | e
    · refine nr (bits_eq fun c => ⟨fun hc => ?_, fun hc => ?_⟩)
      · rw [← ho, hasb_and] at hc
        exact hc.2
      · have z := at_ c hc
        rw [e, z0 c (hasb_lt hb ((hr c).mp hc).1)] at z
        by_cases q : hasB off c = true
        · exact hasB_iff.mp q
        · rw [if_neg q] at z
          exact absurd z (by decide)
    · refine n0 (Classical.byContradiction fun q => ?_)
      obtain ⟨c, hc⟩ := bit_of_ne q
      have hrc : HasB r c := by
        have z := hc
        rw [← ho, hasb_and] at z
        exact z.2
      have z := at_ c hrc
      rw [e, if_pos (hasB_iff.mpr hc)] at z
      have := (z1 c (hasb_lt hb ((hr c).mp hrc).1)).mpr hrc
      rw [z] at this
      exact absurd this (by decide)
end L2

namespace L2
open PySem PySem.Spec PyProof.Rows
/-! ### exceptions: how one lies behind a call, a def that raises, a def that lets one through -/
section
variable {P : Program} {w : World} {K : PySem.W.Frag} {mg : Str → Option Value} {base : Heap} {N : List Str} {qual : Str} {scope : Scope} {f : Addr} {cd : Value} {A : Around} {outer : List Env} {s₀ : Shared} {H₀ : Hp} {E E' : XK}
end
end L2

namespace L2
open PySem PySem.Spec PyProof.Rows
/-! ### raise C(..), and try: f(..) except C as e: x = e -/
section
variable {X : Cx} {x : Str} {C : Addr} {np cpos pos : Pos} {e : Expr} {es : List Expr} {t : TA} {EX : XK}
end
/-! f-strings of two and three parts with one whole number -/
section
variable {X : Cx} {a b : Str} {e : Expr} {te : TE} {j1 j2 : Nat} {p1 p2 p3 pos : Pos}
end
end L2

namespace L2
open PySem PySem.Spec PyProof.Rows
section
variable {X : Cx} {pins : List (Addr × Obj)} {σ : St} {H : Hp} {s : Shared} {ea : Addr}
end
section
variable {X : Cx} {k : Nat} {f : Addr} {fd : FuncData} {ps : List Str} {sp : Sp} {x y : Str} {p yp ap pos : Pos} {e : Expr} {es : List Expr} {t : TA} {i : Nat}
end
section
variable {X : Cx} {body : List Stmt} {tb : (St → Hp → Prop) → (St → XK) → St → Hp → Prop} {cx n z : Str} {c : Value} {cp np zp zp2 hp pos : Pos} {j l : Nat}
end
end L2

namespace L2
open PySem PySem.Spec PyProof.Rows
/-! ### isinstance of a caught exception -/
section
open PySem.W PySem.Calls PySem.Builtin PySem.Builtin.ObjectAttr PySem.Builtin.Getset_descriptor
variable {K : PySem.W.Frag} {prog : Program} {w : World} {A : Around} {E : Value → Shared → Prop} {s : Shared} {ea C : Addr}
end
end L2

namespace L2
open PySem PySem.Spec PyProof.Rows
/-! ### the cover of a cover is the cover -/
/-! keys hang on what the rules say alone -/
end L2

namespace L2
open PySem PySem.Spec PyProof.Rows
/-! ### parts by the cover: lefts as they are first met, what stands with each -/
/-! ### a key more, and those within others left out -/
/-! ### what the defs promise -/
end L2

namespace L2
open PySem PySem.Spec PyProof.Rows
end L2

namespace L2
open PySem PySem.Spec PyProof.Rows
/-! ### pairs and trees in the heap -/
noncomputable def optN : Option Nat → V
  | none => .non
  | some g => vN g
noncomputable def PairV (H : Hp) : Option (Nat × Nat) → V → Prop
  | none, v => v = .non
  | some u, v => ∃ a, v = .ref a ∧ H a = some (.tup [vN u.1, vN u.2])
/-! ### promises -/
noncomputable def spAgain (K : PySem.W.Frag) : Sp := fun vs H Q _ => ∃ (m p x : Nat) (rl : Addr) (rs : List Rl), vs = [vN m, .ref rl, vN p, vN x] ∧ m ≤ 7 ∧ x < 2 ^ m ∧ SqL K H rl (rs.map fun r => V.ref r.r) ∧ RulesAt H m rs ∧ rs.length ≤ 200 ∧
  ∀ H', Same H H' → Q (optN (againN m (rs.map Rl.d) p x)) H'
noncomputable def spTwice (K : PySem.W.Frag) : Sp := fun vs H Q _ => ∃ (m p : Nat) (rl : Addr) (rs : List Rl), vs = [vN m, .ref rl, vN p] ∧ m ≤ 7 ∧ p < 2 ^ m ∧ SqL K H rl (rs.map fun r => V.ref r.r) ∧ RulesAt H m rs ∧ rs.length ≤ 200 ∧
  ∀ v H', Same H H' → PairV H' (twF m (rs.map Rl.d) p) v → Q v H'
end L2

namespace L2
open PySem PySem.Spec PyProof.Rows
/-! ### a comprehension whose one name is a cell of its own (a comprehension within it captures the name) -/
structure CScope1 (X : Cx) (x0 : Str) (sc : Scope) : Prop where
  kind : sc.kind = .function
  own : sc.names.lookup x0 = some .cell
  only : ∀ y ∈ sc.names, y.2 = .cell → y.1 = x0
  names : ∀ y ∈ sc.names, y.2 = .local → sc.names.lookup y.1 = some .local
  sep : ∀ y ∈ X.N, sc.names.lookup y ≠ some .local
  frees : ∀ y ∈ sc.names, y.2 = .free → X.env.kindOf y.1 = some .cell ∨ X.env.kindOf y.1 = some .free
  laid : ∀ a cl, cellsFrom a sc.names cl = (x0, a) :: cl
  push : ∀ h, pushCells h sc.names = h.push { cls := .type "cell", data := .cell none }
  nd : (x0 :: X.N).Nodup
noncomputable abbrev newEnv1E (sc : Scope) (C : Addr) (globals : Addr) (cells : List (Str × Addr)) (env : Env) : Env := { scope := sc, locals := C, globals := globals, cells := cells, qual := env.qual, func := none, code := env.code, frame := env.frame, builtins := env.builtins }
theorem newEnv1 {M : Model} {A : Around} {E : Value → Shared → Prop} {s : Shared} {sc : Scope} {globals : Addr} {cl : List (Str × Addr)} {x0 : Str} {env : Env} {Q : Env → Shared → Prop}
    (laid : ∀ a cl, cellsFrom a sc.names cl = (x0, a) :: cl) (push : ∀ h, pushCells h sc.names = h.push { cls := .type "cell", data := .cell none })
    (hQ : Q (newEnv1E sc s.heap.objs.size globals ((x0, s.heap.objs.size + 1) :: cl) env) { s with heap := (s.heap.push { cls := .type "dict", data := .dict #[] }).push { cls := .type "cell", data := .cell none } }) :
    wpAny M A (newFunctionEnv sc globals cl [] env.qual none .none (some env)) Q E s := by
  simp only [newFunctionEnv, Option.isSome_some, if_true]
  apply wpAny_bind
  apply wpAny_alloc
  apply wpAny_bind
  refine wpAny_layCells _ (fun name kind cells => by cases hkc : kind == NameKind.cell <;> simp [hkc]) _ _ _ _ ?_
  rw [laid, push]
  apply wpAny_bind
  rw [List.forIn_nil]
  apply wpAny_pure
  apply wpAny_pure
  rw [show ({ s with heap := s.heap.push { cls := .type "dict", data := .dict #[] } } : Shared).heap.objs.size = s.heap.objs.size + 1 from Heap.size_push ..]
  exact hQ
noncomputable def cxD (X : Cx) (x0 : Str) (sc : Scope) (ex : List Addr) (s : Shared) (H : Hp) : Cx where
  prog := X.prog
  w := X.w
  K := X.K
  mg := X.mg
  base := X.base
  A := X.A
  N := x0 :: X.N
  s₀ := s
  H₀ := H
  env := compEnvC sc ((x0, s.heap.objs.size + 1) :: clF X.env.cells sc.names []) s.heap.objs.size X.env
  outer := X.stack
  stack := X.stack
  ex := ex
  fn := fun y => y == x0
  calm := X.calm
  pn := []
  xe := fun _ _ => False
theorem lookup1 {x0 x : Str} {a c : Addr} {cells : List (Str × Addr)} {names : List (Str × NameKind)} (h : ((x0, a) :: clF cells names []).lookup x = some c) : c = a ∨ cells.lookup x = some c := by
  rw [List.lookup_cons] at h
  cases e : x == x0 with
  | true => rw [e] at h; exact .inl (Option.some.inj h).symm
  | false => rw [e] at h; exact .inr (clF_lookup h).1
theorem lookup2 {x0 x : Str} {a c : Addr} {cells : List (Str × Addr)} {names : List (Str × NameKind)} (h : ((x0, a) :: clF cells names []).lookup x = some c) : (x = x0 ∧ c = a) ∨ (x ≠ x0 ∧ (clF cells names []).lookup x = some c) := by
  rw [List.lookup_cons] at h
  cases e : x == x0 with
  | true => rw [e] at h; exact .inl ⟨by simpa using e, (Option.some.inj h).symm⟩
  | false => rw [e] at h; exact .inr ⟨by simpa using e, h⟩
theorem lookup3 {x0 x : Str} {a c : Addr} {cl : List (Str × Addr)} (ne : x ≠ x0) (h : cl.lookup x = some c) : ((x0, a) :: cl).lookup x = some c := by
  rw [List.lookup_cons]
  have e : (x == x0) = false := by simpa using ne
  rw [e]; exact h
section
variable {X : Cx} {pins : List (Addr × Obj)} {σ : St} {H : Hp} {s : Shared} {x0 : Str} {sc : Scope} {ex : List Addr}
/-- a name of the block around, seen in the comprehension, is a free one -/
theorem vis_relabel1 {x : Str} (S : CScope1 X x0 sc) (h : Vis (relabel sc X.env) x) (hl : sc.names.lookup x ≠ some .local) (ne : x ≠ x0) :
    (x, NameKind.free) ∈ sc.names ∧ ((relabel sc X.env).names.lookup x = some .cell ∨ (relabel sc X.env).names.lookup x = some .free) := by
  have e : (relabel sc X.env).names.lookup x = _ := lookup_relabel X.env x sc.names
  unfold Vis at h
  rw [e] at h
  cases k : sc.names.lookup x with
  | none => rw [k] at h; simp at h
  | some v =>
    have mem := PySem.mem_of_lookup k
    have nl : v ≠ .local := fun z => hl (by rw [k, z])
    have ncl : v ≠ .cell := fun z => ne (S.only _ mem z)
    rw [k] at h
    rw [e, k]
    simp only [Option.map_some] at h ⊢
    by_cases hv : v = .free
    · subst hv
      refine ⟨mem, ?_⟩
      split
      · exact .inl rfl
      · exact .inr rfl
    · have : (v == NameKind.free) = false := by simpa using hv
      simp only [this, Bool.false_and] at h
      rcases h with h | h | h
      · exact absurd (Option.some.inj h) nl
      · exact absurd (Option.some.inj h) ncl
      · exact absurd (Option.some.inj h) hv
theorem CScope1.cells (S : CScope1 X x0 sc) (ok : X.Ok) : ∀ n, (n, NameKind.free) ∈ sc.names → ∃ c, X.env.cells.lookup n = some c := fun n h => ok.has n (S.frees _ h rfl)
theorem cxD_ok (S : CScope1 X x0 sc) (I : Inv X pins σ H s) (he : ∀ b ∈ ex, b < s.heap.objs.size ∧ b ∉ frs X.stack ∧ (∀ x c, X.env.cells.lookup x = some c → c ≠ b) ∧ X.base.get? b = none) : (cxD X x0 sc ex s H).Ok := by
  have lt : ∀ x c, X.env.cells.lookup x = some c → c < s.heap.objs.size := fun x c e => by
    obtain ⟨v, q⟩ := I.cell x c e
    exact q.lt
  refine ⟨I.ok.mod, S.kind, I.ok.glob, I.ok.blt, Nat.le_refl _, fun x y c h1 h2 => ?_, fun x hx => ?_, fun x c h e => ?_, I.ok.hd, I.ok.frames, .inl rfl, fun b hb => ⟨Nat.ne_of_lt (he b hb).1, fun x c h => ?_⟩, fun b o e => ?_, ?_, fun b o e hb => ?_, fun b hb => (he b hb).2.1, I.stack, I.stkFree⟩
  · rcases lookup2 h1 with ⟨z1, z2⟩ | ⟨z1, z2⟩
    · rcases lookup2 h2 with ⟨w1, _⟩ | ⟨_, w2⟩
      · rw [z1, w1]
      · have h := lt _ _ (clF_lookup w2).1
        rw [z2] at h
        exact absurd (Nat.lt_trans h (Nat.lt_succ_self _)) (Nat.lt_irrefl _)
    · rcases lookup2 h2 with ⟨_, w2⟩ | ⟨_, w2⟩
      · have h := lt _ _ (clF_lookup z2).1
        rw [w2] at h
        exact absurd (Nat.lt_trans h (Nat.lt_succ_self _)) (Nat.lt_irrefl _)
      · exact I.ok.inj x y c (clF_lookup z2).1 (clF_lookup w2).1
  · by_cases ne : x = x0
    · subst ne
      exact ⟨s.heap.objs.size + 1, by show ((x, s.heap.objs.size + 1) :: _).lookup x = _; rw [List.lookup_cons, beq_self_eq_true]⟩
    have hv : (relabel sc X.env).names.lookup x = some .cell ∨ (relabel sc X.env).names.lookup x = some .free := hx
    have q : (x, NameKind.free) ∈ sc.names := by
      have e : (relabel sc X.env).names.lookup x = _ := lookup_relabel X.env x sc.names
      rw [e] at hv
      cases k : sc.names.lookup x with
      | none => rw [k] at hv; simp at hv
      | some v =>
        have mem := PySem.mem_of_lookup k
        rw [k] at hv
        simp only [Option.map_some] at hv
        by_cases hvf : v = .free
        · rw [hvf] at mem; exact mem
        · have : (v == NameKind.free) = false := by simpa using hvf
          simp only [this, Bool.false_and] at hv
          rcases hv with h | h
          · exact absurd (S.only _ mem (Option.some.inj h)) ne
          · exact absurd (Option.some.inj h) hvf
    obtain ⟨c, e⟩ := S.cells I.ok x q
    obtain ⟨d, hd⟩ := lookup_isSome_of_mem (clF_has sc.names [] x c q e)
    exact ⟨d, lookup3 ne hd⟩
  · rcases lookup2 e with ⟨_, z⟩ | ⟨ne, _⟩
    · rw [z]; exact Nat.le_succ _
    · exact absurd (by simpa using (show (x == x0) = true from h)) ne
  · rcases lookup1 h with z | z
    · intro e
      have h' := (he b hb).1
      rw [← e, z] at h'
      exact absurd (Nat.lt_trans h' (Nat.lt_succ_self _)) (Nat.lt_irrefl _)
    · exact (he b hb).2.2.1 x c z
  · exact I.bs b o e
  · exact Nat.le_trans I.ok.bsz I.sz
  · have q : X.base.get? b = none := (he b hb).2.2.2
    have e' : X.base.get? b = some o := e
    rw [q] at e'; cases e'
theorem inv_comp1 {h₁ : Heap} {tk : Nat} (S : CScope1 X x0 sc) (I : Inv X pins σ H s) (he : ∀ b ∈ ex, b < s.heap.objs.size ∧ b ∉ frs X.stack ∧ (∀ x c, X.env.cells.lookup x = some c → c ≠ b) ∧ X.base.get? b = none)
    (hn : h₁.Ns s.heap.objs.size (fun _ => none)) (hc : h₁.IsCell (s.heap.objs.size + 1) none) (hk : ∀ b o, s.heap.get? b = some o → h₁.get? b = some o) :
    Inv (cxD X x0 sc ex s H) [] (none :: σ) H { s with heap := h₁, toks := tk } := by
  have I1 : Inv X pins σ H { s with heap := h₁, toks := tk } := I.kept hk
  refine ⟨cxD_ok S I he, rfl, I.bare, Un.kept hk, ⟨_, hn, fun i x v h1 h2 h3 => ?_⟩, fun x c h => ?_, I.hok.fresh (Nat.le_refl _), fun x c h => ?_, fun p hp => absurd (show p ∈ ([] : List (Addr × Obj)) from hp) (by simp), I.hok.kept hk, ?_⟩
  · cases i with
    | zero => cases h2
    | succ i =>
      have h1' : X.N[i]? = some x := h1
      have h2' : σ[i]? = some (some v) := h2
      have hm : x ∈ X.N := List.mem_of_getElem? h1'
      have ne : x ≠ x0 := fun z => (List.nodup_cons.mp S.nd).1 (by rw [← z]; exact hm)
      obtain ⟨hf, hkd⟩ := vis_relabel1 S h3 (S.sep x hm) ne
      have hko := S.frees _ hf rfl
      obtain ⟨m, _, hl⟩ := I1.loc
      obtain ⟨u, r, l⟩ := hl i x v h1' h2' (by
        rcases hko with z | z
        · exact .inr (.inl z)
        · exact .inr (.inr z))
      refine ⟨u, r, .inr ⟨hkd, ?_⟩⟩
      rcases l with ⟨z, _⟩ | ⟨_, c, ec, hc'⟩
      · rcases hko with q | q <;> (rw [q] at z; cases z)
      · obtain ⟨d, ed⟩ := lookup_isSome_of_mem (clF_has sc.names [] x c hf ec)
        have : c = d := by
          have := (clF_lookup ed).1
          rw [ec] at this
          exact Option.some.inj this
        subst this
        exact ⟨c, lookup3 ne ed, hc'⟩
  · rcases lookup1 h with z | z
    · rw [z]; exact ⟨none, hc⟩
    · exact I1.cell x c z
  · rcases lookup1 h with z | z
    · rw [z]; exact I.hok.fresh (Nat.le_succ _)
    · exact I.freeC x c z
  · show (none :: σ).length = (x0 :: X.N).length
    rw [List.length_cons, List.length_cons, I.len]
end
section
variable {X : Cx} {pins : List (Addr × Obj)} {σ : St} {H : Hp} {s2 : Shared} {tg iter elt : Expr} {ifs : List Expr} {sc : Scope} {pos : Pos} {x0 : Str} {g : TG} {tc : TT} {te : TE} {J : It} {fp : List Addr} {it : Addr} {tn : Nat → Heap → Prop}
theorem comp_core1 {E : Value → Shared → Prop} {RR : Value → Addr → Result → Shared → Prop} (S : CScope1 X x0 sc) (hcalm : X.calm = true)
    (hg : ∀ ex s3 H3, PG (cxD X x0 sc ex s3 H3) tg g) (ht : ∀ ex s3 H3, PTs (cxD X x0 sc ex s3 H3) ifs tc) (he : ∀ ex s3 H3, PE (cxD X x0 sc ex s3 H3) elt te)
    (I : Inv X pins σ H s2) (T : Turn X.prog X.w X.K tg J fp it tn) (st : tn 0 s2.heap) (f2 : ∀ b ∈ fp, FpOk X pins H b)
    (W : Nat → Nat → List V → Hp → Prop) (w0 : ∃ m, W 0 m [] H) (F : List V → Hp → Prop)
    (turn : ∀ i m acc H, W i m acc H → (J.stop i H ∧ acc.length ≤ sizeLine ∧ F acc H) ∨
      (J.go i H ∧ acc.length < sizeLine ∧ ∃ N : List V → Hp → Prop, (∀ acc' H', N acc' H' → ∃ m', m' < m ∧ W (i + 1) m' acc' H') ∧ ∀ x H', J.yld i H x H' → g x (none :: σ) H' fun σ2 H2 => σ2.drop 1 = σ ∧ tc σ2 H2 fun c H3 =>
        if c = true then te σ2 H3 fun y H4 => N (acc ++ [y]) H4 else N acc H3))
    (fin : ∀ D C s' acc H', (∃ m, s'.heap.Ns C m) → FpOk X pins (upd H' D (.lst acc)) C → F acc H' → H' D = none → Inv X pins σ (upd H' D (.lst acc)) s' → RR (.ref D) C (.ok .next) s') :
    wpAny (model X.prog X.w) X.A (newList []) (fun acc s3 => wpAny (model X.prog X.w) X.A (newFunctionEnv sc X.env.globals (clF X.env.cells sc.names []) [] X.env.qual none .none (some X.env)) (fun cenv s4 =>
      codeAny (model X.prog X.w) X.A (.compStart (.ListComp elt [⟨tg, iter, ifs, 0⟩] sc pos) 0 (.ref it) acc { cenv with scope := relabel sc X.env }) (RR acc cenv.locals) s4) E s3) E s2 := by
  refine wpAny_newObj_type (newEnv1 S.laid S.push ?_)
  dsimp only
  generalize hH3 : s2.heap.push { cls := .type "list", dict := none, data := .seq ([] : List Value).toArray } = H3
  obtain ⟨h₁, hh₁⟩ : ∃ h₁, h₁ = (H3.push { cls := .type "dict", data := .dict #[] }).push { cls := .type "cell", data := .cell none } := ⟨_, rfl⟩
  rw [← hh₁]
  have hns₁ : h₁.Ns H3.objs.size (fun _ => none) := by rw [hh₁]; exact (Heap.Ns.new H3 _).push _
  have hcl₁ : h₁.IsCell (H3.objs.size + 1) none := by
    rw [hh₁]
    refine ⟨{ cls := .type "cell", data := .cell none }, ?_, rfl⟩
    have e : ((H3.push { cls := .type "dict", data := .dict #[] }).push { cls := .type "cell", data := .cell none }).get? (H3.push { cls := .type "dict", data := .dict #[] }).objs.size = some { cls := .type "cell", data := .cell none } := Heap.get?_push_size _ rfl
    rw [Heap.size_push] at e
    exact e
  have hC : H3.objs.size = s2.heap.objs.size + 1 := by rw [← hH3, Heap.size_push]
  have hDC : s2.heap.objs.size ≠ H3.objs.size := by rw [hC]; exact Nat.ne_of_lt (Nat.lt_succ_self _)
  have old3 : ∀ b o, s2.heap.get? b = some o → H3.get? b = some o := fun b o e => hH3 ▸ Heap.get?_push_of_some _ e
  have k1 : ∀ b o, H3.get? b = some o → h₁.get? b = some o := fun b o e => by rw [hh₁]; exact Heap.get?_push_of_some _ (Heap.get?_push_of_some _ e)
  have I3 : Inv X pins σ H { s2 with heap := H3 } := I.kept old3
  have fpLt : ∀ b ∈ fp, b < s2.heap.objs.size := fun b hb => by
    obtain ⟨o, e, _⟩ := T.obj _ _ st b hb
    exact Heap.lt_size e
  have hnofr : ∀ b, s2.heap.objs.size ≤ b → b ∉ frs X.stack := fun b hb z => by
    rcases List.mem_cons.mp (I.stkSub b z) with q | q
    · exact absurd (Nat.lt_of_lt_of_le I.lt hb) (by rw [q]; exact Nat.lt_irrefl _)
    · exact I.nofs hb q
  have hnocell : ∀ b, s2.heap.objs.size ≤ b → ∀ x c, X.env.cells.lookup x = some c → c ≠ b := fun b hb x c e z => by
    obtain ⟨v, q⟩ := I.cell x c e
    exact absurd (Nat.lt_of_lt_of_le q.lt (by rw [z]; exact hb)) (Nat.lt_irrefl _)
  have hnobase : ∀ b, s2.heap.objs.size ≤ b → X.base.get? b = none := fun b hb => Heap.get?_none_of_le (Nat.le_trans (Nat.le_trans I.ok.bsz I.sz) hb)
  have fpfr : ∀ b ∈ fp, b ∉ frs X.stack := fun b hb z => by
    rcases List.mem_cons.mp (I.stkSub b z) with q | q
    · exact (f2 b hb).2.1 q
    · exact (f2 b hb).2.2.1 q
  have fpbase : ∀ b ∈ fp, X.base.get? b = none := fun b hb => by
    rcases (f2 b hb).2.2.2.1 with z | z
    · cases e : X.base.get? b with
      | none => rfl
      | some o => exact absurd z (I.ok.noex b o e)
    · exact Heap.get?_none_of_le (Nat.le_trans I.ok.bsz z)
  have hex : ∀ b ∈ (s2.heap.objs.size :: fp), b < H3.objs.size ∧ b ∉ frs X.stack ∧ (∀ x c, X.env.cells.lookup x = some c → c ≠ b) ∧ X.base.get? b = none := fun b hb => by
    rcases List.mem_cons.mp hb with z | z
    · subst z
      exact ⟨by rw [hC]; exact Nat.lt_succ_self _, hnofr _ (Nat.le_refl _), hnocell _ (Nat.le_refl _), hnobase _ (Nat.le_refl _)⟩
    · exact ⟨by rw [hC]; exact Nat.lt_succ_of_lt (fpLt b z), fpfr b z, (f2 b z).2.2.2.2.1, fpbase b z⟩
  have I4 := inv_comp1 (ex := s2.heap.objs.size :: fp) (tk := s2.toks) S I3 hex hns₁ hcl₁ k1
  generalize hX' : cxD X x0 sc (s2.heap.objs.size :: fp) { s2 with heap := H3 } H = X' at I4
  have hDn : H s2.heap.objs.size = none := I.hok.fresh (Nat.le_refl _)
  have hDobj : h₁.get? s2.heap.objs.size = some { cls := .type "list", data := .seq (([] : List Value)).toArray 0 } := k1 _ _ (hH3 ▸ Heap.get?_push_size _ rfl)
  have st1 : tn 0 h₁ := T.keep _ _ _ st fun b _ o e => k1 b o (old3 b o e)
  obtain ⟨m0, w0⟩ := w0
  -- the block's facts about D and the iterator, whatever the state
  have eXex : X'.ex = s2.heap.objs.size :: fp := by rw [← hX']; rfl
  have eXloc : X'.env.locals = H3.objs.size := by rw [← hX']; rfl
  have eXfs : X'.fs = frs X.stack := by rw [← hX']; rfl
  have eXcl : X'.env.cells = (x0, H3.objs.size + 1) :: clF X.env.cells sc.names [] := by rw [← hX']; rfl
  have cell1 : ∀ x c, X'.env.cells.lookup x = some c → c = H3.objs.size + 1 ∨ X.env.cells.lookup x = some c := fun x c e => by
    rw [eXcl] at e
    exact lookup1 e
  have eXpn : X'.pn = [] := by rw [← hX']; rfl
  have eXm : X'.prog = X.prog ∧ X'.w = X.w ∧ X'.K = X.K ∧ X'.calm = true ∧ X'.A = X.A ∧ X'.xe = fun _ _ => False := by rw [← hX']; exact ⟨rfl, rfl, rfl, hcalm, rfl, rfl⟩
  obtain ⟨eP, ew, eK, ec, eA, exe⟩ := eXm
  have envE : X'.env = compEnvC sc ((x0, H3.objs.size + 1) :: clF X.env.cells sc.names []) H3.objs.size X.env := by rw [← hX']; rfl
  have hg' : PG X' tg g := hX' ▸ hg _ _ _
  have ht' : PTs X' ifs tc := hX' ▸ ht _ _ _
  have he' : PE X' elt te := hX' ▸ he _ _ _
  have hs0 : X'.s₀.heap = H3 := by rw [← hX']; rfl
  have hH0 : X'.H₀ = H := by rw [← hX']; rfl
  have hos : X'.s₀.os = s2.os := by rw [← hX']; rfl
  have loop : ∀ s₃ : Shared, s₃ = { s2 with heap := h₁, toks := s2.toks } →
      codeAny (model X.prog X.w) X.A (.compLoop (.ListComp elt [⟨tg, iter, ifs, 0⟩] sc pos) 0 (.ref it) (.ref s2.heap.objs.size) X'.env) (RR (.ref s2.heap.objs.size) H3.objs.size) s₃ := by
    rintro s₃ rfl
    refine compLoop_of (fun n s' => ∃ i acc its k H', Inv X' [] (none :: σ) H' s' ∧ tn i s'.heap ∧ (∀ b ∈ fp, H' b = none) ∧ H' s2.heap.objs.size = none ∧ Vals acc its ∧
      s'.heap.get? s2.heap.objs.size = some { cls := .type "list", data := .seq its.toArray k } ∧ W i n acc H') ?_ m0
      ⟨0, [], [], 0, H, I4, st1, fun b hb => (f2 b hb).1, hDn, .nil, hDobj, w0⟩
    rintro n s' ⟨i, acc, its, k, H', I', st', fr', hD', rv, hobj, w'⟩
    have fpok : ∀ {o : Obj} {H'' : Hp}, (∀ b ∈ fp, H'' b = none) → ∀ b ∈ fp, FpOk X' [(s2.heap.objs.size, o)] H'' b := fun {o H''} hn b hb => by
      refine ⟨hn b hb, by rw [eXloc, hC]; exact Nat.ne_of_lt (Nat.lt_succ_of_lt (fpLt b hb)), by rw [eXfs]; exact fpfr b hb, .inl (by rw [eXex]; exact List.mem_cons_of_mem _ hb), fun x c e => ?_, fun p hp => ?_⟩
      · rcases cell1 x c e with z | z
        · rw [z, hC]
          exact Nat.ne_of_gt (Nat.lt_succ_of_lt (Nat.lt_succ_of_lt (fpLt b hb)))
        · exact (f2 b hb).2.2.2.2.1 x c z
      · rw [eXpn] at hp
        have : p = (s2.heap.objs.size, o) := by simpa using hp
        rw [this]
        exact Nat.ne_of_gt (fpLt b hb)
    have pinD : ∀ {H'' : Hp} {s'' : Shared} {σ'' : St} {o : Obj}, Inv X' [] σ'' H'' s'' → s''.heap.get? s2.heap.objs.size = some o → (∀ v, o.data ≠ .cell v) → H'' s2.heap.objs.size = none → Inv X' [(s2.heap.objs.size, o)] σ'' H'' s'' := fun {H'' s'' σ'' o} J e d hn =>
      J.pins_of fun p hp => by
        have : p = (s2.heap.objs.size, o) := by simpa using hp
        rw [this]
        exact ⟨e, hn, by rw [eXloc]; exact hDC, by rw [eXfs]; exact hnofr _ (Nat.le_refl _), d⟩
    have J := pinD I' hobj (fun v => by intro z; cases z) hD'
    rw [← eP, ← ew, ← eA]
    rcases turn i n acc H' w' with ⟨stop, hz, hF⟩ | ⟨go, hz, N, hN, step⟩
    · have q1 : wpAny (model X'.prog X'.w) X'.A (pyNext (.ref it)) (fun r s1 => r = none ∧ Inv X' [(s2.heap.objs.size, { cls := .type "list", data := .seq its.toArray k })] (none :: σ) H' s1) (fun _ _ => False) s' := by
        have := T.done X' eP ew eK ec i _ s' _ H' (fun _ _ => False) J (fpok fr') st' stop
        rw [eP, ew]; exact this
      refine thn q1 fun r s1 h1 => ?_
      obtain ⟨hr, J1⟩ := h1
      subst hr
      have e1 := J1.pin (s2.heap.objs.size, { cls := .type "list", data := .seq its.toArray k }) (List.mem_append_right _ List.mem_cons_self)
      -- back to the block around
      have un : Un (frs X.stack) (s2.heap.objs.size :: fp) H H' H3 s1.heap := by
        have := J1.base
        rw [eXfs, eXex, hH0, hs0] at this
        exact this
      have hok1 : HOk X.prog X.w H' s1.heap := by have := J1.hok; rw [eP, ew] at this; exact this
      obtain ⟨mC, hmC, _⟩ := J1.loc
      have hmC' : s1.heap.Ns H3.objs.size mC := by rw [eXloc] at hmC; exact hmC
      have hCfree : H' H3.objs.size = none := by have := J1.free; rw [eXloc] at this; exact this
      refine fin _ _ s1 acc H' ⟨mC, hmC'⟩ ?_ hF e1.2.1 ?_
      · refine I.fpOk (by rw [hC]; exact Nat.le_succ _) ?_
        rw [upd_ne (Ne.symm hDC)]
        exact hCfree
      · refine I.call' (ch := fp) (J1.os.trans hos) ?_ (hok1.adopt e1.2.1 hz rv e1.1) J1.bare fun b hb => ⟨(f2 b hb).2.2.2.1, (f2 b hb).2.1, (f2 b hb).2.2.2.2.1, (f2 b hb).2.2.2.2.2⟩
        have below : ∀ b o, s2.heap.get? b = some o → b ≠ s2.heap.objs.size := fun b o e => Nat.ne_of_lt (Heap.lt_size e)
        have nin : ∀ b o, s2.heap.get? b = some o → b ∉ fp → b ∉ s2.heap.objs.size :: fp := fun b o e hb z => (List.mem_cons.mp z).elim (below b o e) hb
        have trkne : ∀ b u, H b = some u → b ≠ s2.heap.objs.size := fun b u e z => by rw [z, hDn] at e; cases e
        refine ⟨fun b o e n hf hb => un.keep b o (old3 b o e) n hf (nin b o e hb), fun b o e n hf hb => un.slot b o (old3 b o e) n hf (nin b o e hb), fun b o e n hb => ?_, fun b o e hb => un.there b o (old3 b o e) (nin b o e hb), fun b ys e => ?_, fun b o u e => ?_, fun b ps e => ?_⟩
        · rw [upd_ne (below b o e)]; exact un.free b o (old3 b o e) n (nin b o e hb)
        · rw [upd_ne (trkne b _ e)]; exact un.tups b ys e
        · rw [upd_ne (trkne b _ e)]; exact un.frzs b o u e
        · rw [upd_ne (trkne b _ e)]; exact un.tbls b ps e
    · have q1 := T.item X' eP ew eK ec i _ s' _ H' (fun _ _ => False) J (fpok fr') st' go
      rw [← eP, ← ew] at q1
      have q2 := q1
      refine thn q2 fun r s1 h1 => ?_
      obtain ⟨u, hr, h4⟩ := h1
      subst hr
      dsimp only
      refine thn h4 fun _ s5 ⟨x, H5, J5, r5, y5, st5, fr5⟩ => ?_
      have J5' := J5.pinned (fpok fr5) (T.obj _ _ st5)
      have q5 := hg' _ s5 _ H5 x u _ J5' r5 (step x H5 y5)
      rw [exe] at q5
      refine thn q5 fun _ s6 ⟨σ6, H6, J6, hσ, q6⟩ => ?_
      have q7 := ht' _ s6 σ6 H6 _ J6 q6
      rw [exe] at q7
      refine thn q7 fun ok s7 ⟨H7, J7, q7⟩ => ?_
      -- the state behind a turn
      have lenσ : ∀ {H8 : Hp} {s8 : Shared} {pl : List (Addr × Obj)}, Inv X' pl σ6 H8 s8 → (none :: σ).length = σ6.length := fun {H8 s8 pl} J8 => J6.len.symm ▸ I4.len
      have weak : ∀ {H8 : Hp} {s8 : Shared} {pl : List (Addr × Obj)}, Inv X' pl σ6 H8 s8 → Inv X' pl (none :: σ) H8 s8 := fun {H8 s8 pl} J8 => by
        refine J8.weak (lenσ J8) fun j v e => ?_
        cases j with
        | zero => cases e
        | succ j =>
          rw [List.getElem?_cons_succ, ← hσ, List.getElem?_drop] at e
          rw [← e]
          congr 1
          omega
      have back : ∀ {H8 : Hp} {s8 : Shared}, Inv X' ([(s2.heap.objs.size, { cls := .type "list", data := .seq its.toArray k })] ++ pinsAt fp s5.heap) σ6 H8 s8 →
          Inv X' [] (none :: σ) H8 s8 ∧ tn (i + 1) s8.heap ∧ (∀ b ∈ fp, H8 b = none) ∧ H8 s2.heap.objs.size = none ∧ s8.heap.get? s2.heap.objs.size = some { cls := .type "list", data := .seq its.toArray k } := fun {H8 s8} J8 => by
        have eD := J8.pin (s2.heap.objs.size, { cls := .type "list", data := .seq its.toArray k }) (List.mem_append_right _ (List.mem_append_left _ List.mem_cons_self))
        refine ⟨(weak J8).pins_of fun p hp => absurd hp (by simp), T.keep _ _ _ st5 fun b hb o e => (J8.pin (b, o) (List.mem_append_right _ (List.mem_append_right _ (mem_pinsAt hb e)))).1, fun b hb => ?_, eD.2.1, eD.1⟩
        obtain ⟨o, e, d⟩ := T.obj _ _ st5 b hb
        exact (J8.pin (b, o) (List.mem_append_right _ (List.mem_append_right _ (mem_pinsAt hb e)))).2.1
      cases ok with
      | false =>
        simp only [Bool.false_eq_true, if_false] at q7 ⊢
        obtain ⟨m', hm, w7⟩ := hN _ _ q7
        obtain ⟨a1, a2, a3, a4, a5⟩ := back J7
        exact ⟨m', hm, i + 1, acc, its, k, H7, a1, a2, a3, a4, rv, a5, w7⟩
      | true =>
        simp only [if_true] at q7 ⊢
        have q8 := he' _ s7 σ6 H7 _ J7 q7
        rw [exe] at q8
        refine thn q8 fun u8 s8 ⟨y, H8, J8, r8, q9⟩ => ?_
        obtain ⟨m', hm, w8⟩ := hN _ _ q9
        obtain ⟨a1, a2, a3, a4, a5⟩ := back J8
        have hits : its.length = acc.length := rv.length.symm
        refine wpAny_list_append_plain (hsz := by show its.toArray.size ≤ sizeLine; rw [List.size_toArray, hits]; exact Nat.le_of_lt hz) ⟨k, a5⟩ fun h9 hl9 hs9 => ?_
        obtain ⟨k9, e9⟩ := hl9
        refine ⟨m', hm, i + 1, acc ++ [y], its ++ [u8], k9, H8, ?_, ?_, a3, a4, rv.append (.cons r8 .nil), ?_, w8⟩
        · exact a1.turned (t' := s8.toks) (fun b o hb e => hs9.extBut b o hb e) a4 (by rw [eXloc]; exact hDC) (.inl (by rw [eXex]; exact List.mem_cons_self)) (fun x c e => by
            rcases cell1 x c e with z | z
            · rw [z, hC]; exact Nat.ne_of_gt (Nat.lt_succ_of_lt (Nat.lt_succ_self _))
            · exact hnocell _ (Nat.le_refl _) x c z) (fun p hp => by rw [eXpn] at hp; simp at hp)
        · exact T.keep _ _ _ a2 fun b hb o e => hs9.extBut b o (Nat.ne_of_lt (fpLt b hb)) e
        · rw [e9]
          congr 2
          simp
  rw [show ({ newEnv1E sc H3.objs.size X.env.globals ((x0, H3.objs.size + 1) :: clF X.env.cells sc.names []) X.env with scope := relabel sc X.env } : Env) = X'.env from envE.symm]
  exact codeAny_compStart_list (loop _ rfl) (T.self X.A 0 _ _ _ st1 (loop _ rfl))
end
section
variable {X : Cx} {tg iter elt : Expr} {ifs : List Expr} {sc : Scope} {pos : Pos} {x0 : Str} {wi : TI} {g : TG} {tc : TT} {te : TE}
theorem pe_comp1 (S : CScope1 X x0 sc) (hc : X.calm = true) (hi : PI X tg iter wi) (hg : ∀ ex s3 H3, PG (cxD X x0 sc ex s3 H3) tg g) (ht : ∀ ex s3 H3, PTs (cxD X x0 sc ex s3 H3) ifs tc) (he : ∀ ex s3 H3, PE (cxD X x0 sc ex s3 H3) elt te)
    (hs : ∀ x, foldedSetIterable iter X.env x = pure x := by intro _; rfl) : PE X (.ListComp elt [⟨tg, iter, ifs, 0⟩] sc pos) (tLC 1 wi g tc te) := by
  intro pins s σ H Q I h
  rw [eval_ListComp]
  refine wpAny_comprehension_free (use := none) rfl hs (closure_eq (S.cells I.ok)) S.kind S.names (thn (hi pins s σ H _ I h) fun v s1 h1 => thn h1 fun itv s2 h2 => ?_)
  obtain ⟨it, fp, tn, J, H2, e, I2, T, st2, f2, W, w0, turn⟩ := h2
  subst e
  refine comp_core1 (RR := fun acc C => compPost (model X.prog X.w) X.A X.xe none (EP X pins σ Q) acc C) S hc hg ht he I2 T st2 f2 W w0 _ turn fun D C s' acc H' hns fC hF hD IF => ?_
  obtain ⟨m, hm⟩ := hns
  exact ⟨m, hm, fun h' hs' => ⟨.ref D, _, fC.turn IF hs', rfl, hF D hD⟩⟩
/-- what is asked of such a scope, reckoned -/
noncomputable def csc1B (N : List Str) (x0 : Str) (osc sc : Scope) : Bool :=
  decide (sc.kind = .function) && decide (sc.names.lookup x0 = some .cell) && sc.names.all (fun y => decide (y.2 ≠ .cell) || decide (y.1 = x0)) && sc.names.all (fun y => decide (y.2 ≠ .local) || decide (sc.names.lookup y.1 = some .local)) &&
    N.all (fun y => decide (sc.names.lookup y ≠ some .local)) && sc.names.all (fun y => decide (y.2 ≠ .free) || (decide (osc.names.lookup y.1 = some .cell) || decide (osc.names.lookup y.1 = some .free))) && decide ((x0 :: N).Nodup)
theorem cs1 {X : Cx} {x0 : Str} {sc : Scope} (N : List Str) (osc : Scope) (hN : X.N = N) (ho : X.env.scope = osc) (h : csc1B N x0 osc sc = true) (laid : ∀ a cl, cellsFrom a sc.names cl = (x0, a) :: cl) (push : ∀ h, pushCells h sc.names = h.push { cls := .type "cell", data := .cell none }) : CScope1 X x0 sc := by
  unfold csc1B at h
  simp only [Bool.and_eq_true, List.all_eq_true, decide_eq_true_eq, Bool.or_eq_true] at h
  obtain ⟨⟨⟨⟨⟨⟨h1, h2⟩, h3⟩, h4⟩, h5⟩, h6⟩, h7⟩ := h
  refine ⟨h1, h2, fun y hy e => (h3 y hy).resolve_left fun z => z e, fun y hy e => (h4 y hy).resolve_left fun z => z e, by rw [hN]; exact h5, fun y hy e => ?_, laid, push, by rw [hN]; exact h7⟩
  show X.env.scope.names.lookup y.1 = _ ∨ X.env.scope.names.lookup y.1 = _
  rw [ho]
  exact (h6 y hy).resolve_left fun z => z e
end
end L2

namespace L2
open PySem PySem.Spec PySem.W PyProof.Rows
/-! ### k61: the blocks chosen, by doubling; promises -/
theorem chosen_low {bs : List Nat} {j n : Nat} : ∀ i, i ≤ j → chosenN bs (2 ^ j + n) i = chosenN bs n i
  | 0, _ => rfl
  | i + 1, h => by
    have e : hasB (2 ^ j + n) i = hasB n i := by rw [has_bit, has_bit, Nat.testBit_two_pow_add_gt (by omega)]
    rw [chosenN, chosenN, e, chosen_low i (by omega)]
noncomputable def dblS (bs : List Nat) : Nat → List Nat
  | 0 => [0]
  | j + 1 => dblS bs j ++ (dblS bs j).map (· ||| bs.getD j 0)
theorem dbl_eq (bs : List Nat) : ∀ j, dblS bs j = (List.range (2 ^ j)).map fun n => chosenN bs n j
  | 0 => rfl
  | j + 1 => by
    rw [dblS, dbl_eq bs j, Nat.pow_succ, Nat.mul_two, List.range_add, List.map_append, List.map_map, List.map_map]
    congr 1
    · refine List.map_congr_left fun n hn => ?_
      have e : hasB n j = false := by rw [has_bit]; exact Nat.testBit_lt_two_pow (List.mem_range.mp hn)
      rw [chosenN, if_neg (by rw [e]; exact Bool.false_ne_true)]
    · refine List.map_congr_left fun n hn => ?_
      have e : hasB (2 ^ j + n) j = true := by rw [has_bit, Nat.testBit_two_pow_add_eq, Nat.testBit_lt_two_pow (List.mem_range.mp hn)]; rfl
      show chosenN bs n j ||| bs.getD j 0 = chosenN bs (2 ^ j + n) (j + 1)
      rw [chosenN, if_pos e, chosen_low j (Nat.le_refl _)]
theorem dbl_len (bs : List Nat) (j : Nat) : (dblS bs j).length = 2 ^ j := by rw [dbl_eq, List.length_map, List.length_range]
noncomputable def bitR (m s : Nat) : List Nat := (List.range m).map fun c => if hasB s c = true then 1 else 0
theorem bitR_len (m s : Nat) : (bitR m s).length = m := by unfold bitR; rw [List.length_map, List.length_range]
theorem bitR_get {m s c : Nat} (h : c < m) : (bitR m s).getD c 0 = if hasB s c = true then 1 else 0 := by
  unfold bitR
  rw [List.getD_eq_getElem?_getD, List.getElem?_map, List.getElem?_range h]
  rfl
/-- rows as lists in the heap, each the bits of a set -/
noncomputable def BitsAt (H : Hp) (m : Nat) (as : List Addr) (S : List Nat) : Prop := as.length = S.length ∧ ∀ (i : Nat) (a : Addr) (s : Nat), as[i]? = some a → S[i]? = some s → H a = some (.lst ((bitR m s).map vN))
theorem BitsAt.same {H H' : Hp} {m : Nat} {as : List Addr} {S : List Nat} (h : BitsAt H m as S) (e : Same H H') : BitsAt H' m as S := ⟨h.1, fun i a s h1 h2 => e _ _ (h.2 i a s h1 h2)⟩
theorem BitsAt.snoc {H : Hp} {m s : Nat} {a : Addr} {as : List Addr} {S : List Nat} (h : BitsAt H m as S) (ha : H a = some (.lst ((bitR m s).map vN))) : BitsAt H m (as ++ [a]) (S ++ [s]) := by
  refine ⟨by rw [List.length_append, List.length_append, h.1]; rfl, fun i b t h1 h2 => ?_⟩
  by_cases c : i < as.length
  · rw [List.getElem?_append_left c] at h1
    rw [List.getElem?_append_left (by rw [← h.1]; exact c)] at h2
    exact h.2 i b t h1 h2
  · have l1 := (List.getElem?_eq_some_iff.mp h1).1
    rw [List.length_append] at l1
    have e : i = as.length := by
      have : [a].length = 1 := rfl
      omega
    subst e
    rw [List.getElem?_append_right (Nat.le_refl _), Nat.sub_self] at h1
    rw [h.1, List.getElem?_append_right (Nat.le_refl _), Nat.sub_self] at h2
    obtain rfl : a = b := Option.some.inj h1
    obtain rfl : s = t := Option.some.inj h2
    exact ha
theorem BitsAt.app {H : Hp} {m : Nat} {as bs : List Addr} {S U : List Nat} (h : BitsAt H m as S) (g : BitsAt H m bs U) : BitsAt H m (as ++ bs) (S ++ U) := by
  refine ⟨by rw [List.length_append, List.length_append, h.1, g.1], fun i b t h1 h2 => ?_⟩
  by_cases c : i < as.length
  · rw [List.getElem?_append_left c] at h1
    rw [List.getElem?_append_left (by rw [← h.1]; exact c)] at h2
    exact h.2 i b t h1 h2
  · rw [List.getElem?_append_right (Nat.le_of_not_lt c)] at h1
    rw [List.getElem?_append_right (by rw [← h.1]; exact Nat.le_of_not_lt c), ← h.1] at h2
    exact g.2 _ b t h1 h2
theorem filt_take {p : Nat → Bool} {bs : List Nat} {i b : Nat} (e : bs[i]? = some b) : (bs.take (i + 1)).filter p = (bs.take i).filter p ++ if p b = true then [b] else [] := by
  rw [List.take_succ, e, List.filter_append]
  by_cases c : p b = true
  · rw [if_pos c]; simp [c]
  · rw [if_neg c]; simp [c]
theorem not_mod {m p : Nat} (h : p < 2 ^ m) : Builtin.bitNot (p : Int) % ((2 ^ m : Nat) : Int) = ((2 ^ m - 1 - p : Nat) : Int) := by
  have e : Builtin.bitNot (p : Int) = ((2 ^ m - 1 - p : Nat) : Int) + ((2 ^ m : Nat) : Int) * (-1) := by
    show -(p : Int) - 1 = _
    omega
  rw [e, Int.add_mul_emod_self_left]
  exact Int.emod_eq_of_lt (by omega) (by omega)
theorem in_two {off r : Nat} : inV (vN off) [V.int 0, vN r] = true ↔ off = 0 ∨ off = r := by
  simp only [inV, vN, eqV, List.any_cons, List.any_nil, Bool.or_false, Bool.or_eq_true, beq_iff_eq]
  omega
theorem in_trues (n : Nat) : inV (.bl false) (List.replicate n (V.bl true)) = false := by
  unfold inV
  rw [List.any_eq_false]
  intro v hv
  rw [List.eq_of_mem_replicate hv]
  decide
theorem BitsAt.but {H H' : Hp} {m : Nat} {st : Addr} {as : List Addr} {S : List Nat} (h : BitsAt H m as S) (e : But st H H') (n : ∀ a ∈ as, a ≠ st) : BitsAt H' m as S := ⟨h.1, fun i a s h1 h2 => e _ _ (h.2 i a s h1 h2) (n a (List.mem_of_getElem? h1))⟩
noncomputable def NmOk (H : Hp) (ps : List NM) : Prop := (∀ p ∈ ps, H p.1 = some (.tup [.int p.2.1, .int (p.2.2 - p.2.1)])) ∧ ∀ p ∈ ps, p.2.1 < p.2.2
theorem NmOk.snoc {H H' : Hp} {ps : List NM} {t : Addr} {lo d : Int} (h : NmOk H ps) (k : ∀ t xs, H t = some (.tup xs) → H' t = some (.tup xs)) (ht : H' t = some (.tup [.int lo, .int d])) (hd : 0 < d) : NmOk H' (ps ++ [(t, lo, lo + d)]) := by
  constructor <;> intro p hp <;> rcases List.mem_append.mp hp with hp | hp
  · exact k _ _ (h.1 p hp)
  · rw [List.mem_singleton.mp hp]
    show H' t = some (.tup [.int lo, .int (lo + d - lo)])
    rw [show lo + d - lo = d by omega]
    exact ht
  · exact h.2 p hp
  · rw [List.mem_singleton.mp hp]
    show lo < lo + d
    omega
theorem NmOk.tup {H H' : Hp} {ps : List NM} (h : NmOk H ps) (k : ∀ t xs, H t = some (.tup xs) → H' t = some (.tup xs)) : NmOk H' ps := ⟨fun p hp => k _ _ (h.1 p hp), h.2⟩
theorem or_bit {s b c : Nat} : (if hasB s c = true then 1 else 0) ||| (if hasB b c = true then 1 else 0) = if hasB (s ||| b) c = true then 1 else (0 : Nat) := by
  have e : hasB (s ||| b) c = (hasB s c || hasB b c) := by rw [has_bit, has_bit, has_bit, Nat.testBit_or]
  rw [e]
  cases hasB s c <;> cases hasB b c <;> rfl
theorem and_pred {x : Nat} (h : 0 < x) : x &&& (x - 1) < x := Nat.lt_of_le_of_lt Nat.and_le_right (by omega)
noncomputable def LwH (K : PySem.W.Frag) (H' : Hp) (st rp tb : Addr) (ns : List Int) (m : Nat) (rs : List Rl) (T : List RW) (km : Nat) : Prop := ∃ k', STF K H' st ns k' ∧ k' ≤ km ∧ H' rp = some (.lst (rs.map fun r => V.ref r.r)) ∧ RulesAt H' m rs ∧ H' tb = some (.lst (refsOf T)) ∧ RowsOk H' m T
theorem LwH.same {K : PySem.W.Frag} {H H' : Hp} {st rp tb : Addr} {ns : List Int} {m km : Nat} {rs : List Rl} {T : List RW} (h : LwH K H st rp tb ns m rs T km) (e : Same H H') : LwH K H' st rp tb ns m rs T km := by
  obtain ⟨k', h1, h2, h3, h4, h5, h6⟩ := h
  exact ⟨k', h1.same e, h2, e _ _ h3, h4.same e, e _ _ h5, h6.same e⟩
theorem LwH.take {K : PySem.W.Frag} {H H' : Hp} {st rp tb : Addr} {ns : List Int} {m k k' km : Nat} {rs : List Rl} {T : List RW} (S : STF K H st ns k) (hrp : H rp = some (.lst (rs.map fun r => V.ref r.r))) (hRs : RulesAt H m rs) (htb : H tb = some (.lst (refsOf T))) (hT : RowsOk H m T) (nrp : rp ≠ st) (ntb : tb ≠ st) (S' : STF K H' st ns k') (B : But st H H') (hk : k' ≤ km) : LwH K H' st rp tb ns m rs T km :=
  ⟨k', S', hk, B _ _ hrp nrp, fun r hr => ⟨stf_tup S B (hRs r hr).1, (hRs r hr).2⟩, B _ _ htb ntb, fun r hr => ⟨stf_tup S B (hT r hr).1, (hT r hr).2⟩⟩
noncomputable def LwA (K : PySem.W.Frag) (a st rp bp tb : Addr) (ns : List Int) (m : Nat) (rs : List Rl) (T : List RW) (i : Nat) (σ : St) (H' : Hp) : Prop :=
  (∃ v6 v7 v8 v9, σ = [some (.ref a), some (.ref st), some (vN m), some (.ref rp), some (.ref bp), some (.ref tb), v6, v7, v8, v9]) ∧ LwH K H' st rp tb ns m rs T (400 + 10 * i)
noncomputable def LwB (K : PySem.W.Frag) (a st rp bp tb : Addr) (ns : List Int) (m : Nat) (rs : List Rl) (T : List RW) (i : Nat) (v6 : Option V) (j : Nat) (σ : St) (H' : Hp) : Prop :=
  (∃ (p : Nat) (v8 v9 : Option V), p < 2 ^ m ∧ σ = [some (.ref a), some (.ref st), some (vN m), some (.ref rp), some (.ref bp), some (.ref tb), v6, some (vN p), v8, v9]) ∧ LwH K H' st rp tb ns m rs T (403 + 10 * i + j)
noncomputable def spFew61 (K : PySem.W.Frag) : Sp := fun vs H Q _ => ∃ (st : Addr) (ns : List Int) (k m : Nat), vs = [.ref st, vN m] ∧ STF K H st ns k ∧ k ≤ 2000 ∧ ns.length ≤ 63 ∧ 1 ≤ m ∧ m ≤ 7 ∧
  ∀ (r k' : Nat) (H' : Hp), r < 2 ^ m → k' ≤ k + 3 → STF K H' st ns k' → But st H H' → Q (vN r) H'
noncomputable def witN (m p : Nat) : List Nat := (List.range (2 ^ m)).filter fun x => decide (x &&& p = x)
theorem wit_mem {m p x : Nat} (h : x ∈ witN m p) : x &&& p = x := of_decide_eq_true (List.mem_filter.mp h).2
theorem wit_len (m p : Nat) : (witN m p).length ≤ 2 ^ m := by
  unfold witN
  have := List.length_filter_le (fun x => decide (x &&& p = x)) (List.range (2 ^ m))
  rwa [List.length_range] at this
noncomputable def spWithin61 (K : PySem.W.Frag) : Sp := fun vs H Q _ => ∃ m p : Nat, vs = [vN m, vN p] ∧ m ≤ 7 ∧ ∀ (l : Addr), H l = none → Q (.ref l) (upd H l (.lst ((witN m p).map vN)))
noncomputable def spSplit61 (K : PySem.W.Frag) : Sp := fun vs H Q _ => ∃ (rp : Addr) (T : List RW) (p x g m : Nat), vs = [.ref rp, vN p, vN x, vN g] ∧ H rp = some (.lst (refsOf T)) ∧ RowsOk H m T ∧ 1 ≤ m ∧ m ≤ 7 ∧ T.length ≤ 18 ∧
  (∀ W : List RW, Asc (W.map (·.2)) (T.map fun r => seenL r.2 p) → ∀ a ∈ W, ∀ b ∈ W, (∀ c, c < m → hasB x c = true → a.2.getD c 0 = b.2.getD c 0) → mixL a.2 b.2 (x ||| g) ∈ W.map (·.2)) ∧ ∀ H', Same H H' → Q (.bl true) H'
noncomputable def spWhole61 (K : PySem.W.Frag) : Sp := fun vs H Q _ => ∃ (rl : Addr) (rs : List Rl) (p x m : Nat), vs = [vN m, .ref rl, vN p, vN x] ∧ H rl = some (.lst (rs.map fun r => V.ref r.r)) ∧ rs.length ≤ 200 ∧ RulesAt H m rs ∧ 1 ≤ m ∧ m ≤ 7 ∧ p < 2 ^ m ∧ x &&& p = x ∧ twF m (rs.map Rl.d) p = none ∧ ∀ H', Same H H' → Q (.bl true) H'
noncomputable def spPart61 (K : PySem.W.Frag) : Sp := fun vs H Q _ => ∃ (rl rp : Addr) (rs : List Rl) (T : List RW) (bs : List Nat) (lo hi : Nat → Int) (p m : Nat), vs = [vN m, .ref rl, .ref rp, vN p] ∧ H rl = some (.lst (rs.map fun r => V.ref r.r)) ∧ rs.length ≤ 200 ∧ RulesAt H m rs ∧ 1 ≤ m ∧ m ≤ 7 ∧ p < 2 ^ m ∧ H rp = some (.lst (refsOf T)) ∧ RowsOk H m T ∧ T.length ≤ 18 ∧ ChT m (rs.map Rl.d) bs lo hi T ∧ ∀ H', Same H H' → Q (.bl true) H'
noncomputable def spTable61 (K : PySem.W.Frag) : Sp := fun vs H Q _ => ∃ (st : Addr) (ns : List Int) (k : Nat), vs = [.ref st] ∧ STF K H st ns k ∧ k ≤ 1000 ∧ ns.length ≤ 63 ∧
  ∀ (t p : Addr) (m : Nat) (rs : List Rl) (k' : Nat) (H' : Hp), 1 ≤ m → m ≤ 7 → rs.length ≤ 12 → RulesAt H' m rs → H' t = some (.tup [vN m, .ref p]) → H' p = some (.lst (rs.map fun r => V.ref r.r)) → H p = none → p ≠ st → k' ≤ k + 100 → STF K H' st ns k' → But st H H' → Q (.ref t) H'
noncomputable def spChoices61 (K : PySem.W.Frag) : Sp := fun vs H Q _ => ∃ (st bl : Addr) (ns : List Int) (k m : Nat) (os : List Nat), vs = [.ref st, vN m, .ref bl] ∧ STF K H st ns k ∧ k ≤ 1000 ∧ ns.length ≤ 63 ∧ 1 ≤ m ∧ m ≤ 7 ∧ SqL K H bl (os.map vN) ∧
  ∀ (tb : Addr) (T : List RW) (lo hi : Nat → Int) (k' : Nat) (H' : Hp), (∀ c, lo c ≠ hi c) → (T.map (·.2)).Perm ((List.range (2 ^ (os.take 4).length)).map (rowC m lo hi (os.take 4))) → H tb = none → H' tb = some (.lst (refsOf T)) → RowsOk H' m T → k' ≤ k + 100 → STF K H' st ns k' → But st H H' → tb ≠ st → Q (.ref tb) H'
end L2

namespace Own
open PySem L2
noncomputable def top (i : Nat) : Stmt := PySem.Challenge.pw_splithouse_k61_shown_by_books.main.body.getD i (.Pass ⟨0, 0, 0, 0⟩)
section
variable {P : Program} {w : World} {K : PySem.W.Frag} {mg : Str → Option Value} {base : Heap}
seal PySem.wpAny
noncomputable abbrev sWit : Stmt := top 40
theorem scWit : FnScope ["_law_many", "_law_part"] ["_law_many", "_law_part"] (defScope sWit) := ⟨rfl, rfl, rfl, by decide +kernel, rfl, by decide +kernel, by decide +kernel⟩
theorem ok_wit {f : Addr} {fd : FuncData} (F : Fun K "_law_within" "_law_within" sWit f fd) (zrange : mg "range" = none) : FnOk P w K mg base CX0 1 f fd ["_law_many", "_law_part"] (spWithin61 K) := by
  refine F.ok scWit (fun vs H Q E h => ?_) (fun cdv A outer s H vs Q E hr h => ?_)
  · obtain ⟨m, p, rfl, _⟩ := h
    rfl
  · obtain ⟨m, p, rfl, m7, q⟩ := h
    have pw7 : 2 ^ m ≤ 2 ^ 7 := Nat.pow_le_pow_right (by decide) m7
    have pw0 : 0 < 2 ^ m := Nat.two_pow_pos m
    refine ⟨_, (pss_one (ps_ret (pe_comp (xs := ["_law_one"]) (cs ["_law_many", "_law_part"] (defScope sWit) rfl rfl (by decide +kernel)) rfl (pi_range1 rfl zrange (pa_cons (pe_op op_shl1 pe_int (pv 0)) pa_nil)) (fun _ _ _ => pg_name (i := 0) (show (["_law_one", "_law_many", "_law_part"] : List Str).Nodup by decide +kernel) rfl (Or.inl rfl)) (fun _ _ _ => (pts_one (pt_cmpR op_eqN (pe_op op_andN (pv 0) (pv 2)) (pv 0) (nomark _)))) (fun _ _ _ => (pv 0))))), ?_⟩
    refine ⟨_, rfl, m, rfl, rfl, by omega, ((2 ^ m : Nat) : Int), rfl, by omega, by omega, lc_rangeN (k := 2 ^ m) (n := 1) (fun i acc H' => H' = H ∧ acc = ((List.range i).filter fun x => decide (x &&& p = x)).map vN) (by omega) ⟨rfl, rfl⟩ (fun i acc H' hi h => ?_) (fun i acc H' hi h => ?_) (fun acc H' h => ?_)⟩
    · rw [h.2, List.length_map]
      exact Nat.le_trans (List.length_filter_le _ _) (by rw [List.length_range]; exact Nat.le_refl _)
    · obtain ⟨rfl, rfl⟩ := h
      refine ⟨rfl, _, rfl, _, rfl, i, p, rfl, rfl, _, rfl, i &&& p, i, rfl, rfl, _, rfl, ite2 (fun hc => ?_) (fun hc => ?_)⟩
      · refine ⟨_, rfl, rfl, ?_⟩
        rw [filt_succ, if_pos hc, List.map_append]
        rfl
      · refine ⟨rfl, ?_⟩
        rw [filt_succ, if_neg hc, List.append_nil]
    · obtain ⟨rfl, rfl⟩ := h
      intro l hl
      exact q l hl
noncomputable abbrev sFew : Stmt := top 39
theorem scFew : FnScope ["_law_state", "_law_many", "_law_some"] ["_law_state", "_law_many"] (defScope sFew) := ⟨rfl, rfl, rfl, by decide +kernel, rfl, by decide +kernel, by decide +kernel⟩
theorem ok_few {f fS fG : Addr} {fd fdS fdG : FuncData} (F : Fun K "_law_few" "_law_few" sFew f fd) (GS : FnOk P w K mg base CX0 2 fS fdS ["_law_state", "_law_many"] (spSetF K)) (mS : mg "_law_set" = some (.ref fS)) (kS : PySem.W.keepIn K (.ref fS) = true) (bS : Binds K fdS ["_law_state", "_law_many"] []) (GG : FnOk P w K mg base CX0 1 fG fdG ["_law_some", "_law_k"] spHas2) (mG : mg "_law_has" = some (.ref fG)) (kG : PySem.W.keepIn K (.ref fG) = true) (bG : Binds K fdG ["_law_some", "_law_k"] []) (zrange : mg "range" = none) (zlen : mg "len" = none) : FnOk P w K mg base CX0 3 f fd ["_law_state", "_law_many"] (spFew61 K) := by
  refine F.ok scFew (fun vs H Q E h => ?_) (fun cdv A outer s H vs Q E hr h => ?_)
  · obtain ⟨st, ns, k, m, rfl, _⟩ := h
    rfl
  · obtain ⟨st, ns, k, m, rfl, S, hk, hl, m1, m7, q⟩ := h
    have nd := scFew.nd
    have hr1 : Room 1 _ := hr.mono (by decide)
    have hr2 : Room 2 _ := hr.mono (by decide)
    refine ⟨_, (pss_cons (ps_set (i := 2) nd rfl (Or.inr rfl) (pe_call GS hr2 rfl mS kS bS .nil pass0 (pa_cons (pv 0) (pa_cons (pv 1) pa_nil))))
      (pss_cons (ps_while PassesOwn.never (pt_cmpR op_gtN (pe_callB (call_lenK (K := K) rfl) (by rfl) zlen PySem.boot_len (pa_cons (pe_comp (xs := ["_law_k"]) (cs ["_law_state", "_law_many", "_law_some"] (defScope sFew) rfl rfl (by decide +kernel)) rfl (pi_range1 rfl zrange (pa_cons (pv 1) pa_nil)) (fun _ _ _ => pg_name (i := 0) (show (["_law_k", "_law_state", "_law_many", "_law_some"] : List Str).Nodup by decide +kernel) rfl (Or.inl rfl)) (fun _ _ _ => (pts_one (pt_val (pe_call GG hr1 rfl mG kG bG .nil pass0 (pa_cons (pv 3) (pa_cons (pv 0) pa_nil)))))) (fun _ _ _ => (pv 0))) pa_nil)) pe_int (nomark _)) (pss_one (ps_set (i := 2) nd rfl (Or.inr rfl) (pe_op op_andN (pv 2) (pe_op op_subN (pv 2) pe_int)))))
      (pss_one (ps_ret (pv 2))))), ?_⟩
    refine ⟨_, rfl, _, rfl, st, ns, k, m, rfl, S, by omega, hl, m1, m7, fun r0 k1 H1 hr0 hk1 S1 B1 => ?_⟩
    refine ⟨fun n σ H' => ∃ x : Nat, σ = [some (.ref st), some (vN m), some (vN x)] ∧ n = x ∧ x < 2 ^ m ∧ STF K H' st ns k1 ∧ But st H H', ⟨_, r0, rfl, rfl, hr0, S1, B1⟩, ?_⟩
    rintro n _ H2 ⟨x, rfl, en, hx, S2, B2⟩
    refine ⟨_, rfl, (m : Int), rfl, by omega, by omega, lc_rangeN (k := m) (n := 1) (fun i acc H' => H' = H2 ∧ acc = ((List.range i).filter (hasB x)).map vN) (by omega) ⟨rfl, rfl⟩ (fun i acc H' hi h => ?_) (fun i acc H' hi h => ?_) (fun acc H' h => ?_)⟩
    · rw [h.2, List.length_map]
      exact Nat.le_trans (List.length_filter_le _ _) (by rw [List.length_range]; exact Nat.le_refl _)
    · obtain ⟨rfl, rfl⟩ := h
      refine ⟨rfl, _, rfl, _, rfl, x, i, rfl, by omega, _, rfl, ite2 (fun hc => ?_) (fun hc => ?_)⟩
      · refine ⟨_, rfl, rfl, ?_⟩
        rw [filt_succ, if_pos hc, List.map_append]
        rfl
      · refine ⟨rfl, ?_⟩
        rw [filt_succ, if_neg hc, List.append_nil]
    · obtain ⟨rfl, rfl⟩ := h
      intro l hl'
      have sl := Same.new (o := .lst (((List.range m).filter (hasB x)).map vN)) hl'
      refine ⟨l, _, rfl, .inl (SqL.of upd_same), (((List.range m).filter (hasB x)).map vN).length, 4, rfl, rfl, _, rfl, ite2 (fun hc => ?_) (fun hc => ?_)⟩
      · have x0 : 0 < x := Nat.pos_of_ne_zero fun z => by
          subst z
          have e : (List.range m).filter (hasB 0) = [] := by
            rw [List.filter_eq_nil_iff]
            intro c _ z
            rw [has_bit, Nat.zero_testBit] at z
            cases z
          rw [e] at hc
          exact absurd hc (by decide)
        refine ⟨_, fun _ _ h => h, ?_⟩
        refine ⟨_, rfl, _, rfl, x, 1, rfl, rfl, x0, x, x - 1, rfl, rfl, ?_⟩
        have lt := and_pred x0
        exact ⟨x &&& (x - 1), by omega, x &&& (x - 1), rfl, rfl, by omega, S2.same sl, B2.trans sl.but⟩
      · exact ⟨_, rfl, q x k1 _ hx hk1 (S2.same sl) (B2.trans sl.but)⟩
end
end Own

namespace Own
open PySem L2
section
variable {P : Program} {w : World} {K : PySem.W.Frag} {mg : Str → Option Value} {base : Heap}
seal PySem.wpAny
noncomputable abbrev sSplit : Stmt := top 41
theorem scSplit : FnScope ["_law_rows", "_law_part", "_law_some", "_law_off", "_law_seen_rows", "_law_one", "_law_other"] ["_law_rows", "_law_part", "_law_some", "_law_off"] (defScope sSplit) := ⟨rfl, rfl, rfl, by decide +kernel, rfl, by decide +kernel, by decide +kernel⟩
theorem ok_split {f fO fAG fMX : Addr} {fd fdO fdAG fdMX : FuncData} (F : Fun K "_law_split_shows" "_law_split_shows" sSplit f fd) (GO : FnOk P w K mg base CX0 4 fO fdO ["book", "part"] (spSeenOn K)) (mO : mg "seen_on" = some (.ref fO)) (kO : PySem.W.keepIn K (.ref fO) = true) (bO : Binds K fdO ["book", "part"] []) (GAG : FnOk P w K mg base CX0 2 fAG fdAG ["_law_one", "_law_other", "_law_some"] (spAgree K)) (mAG : mg "_law_agree" = some (.ref fAG)) (kAG : PySem.W.keepIn K (.ref fAG) = true) (bAG : Binds K fdAG ["_law_one", "_law_other", "_law_some"] []) (GMX : FnOk P w K mg base CX0 2 fMX fdMX ["_law_one", "_law_other", "_law_some"] (spMixed K)) (mMX : mg "_law_mix" = some (.ref fMX)) (kMX : PySem.W.keepIn K (.ref fMX) = true) (bMX : Binds K fdMX ["_law_one", "_law_other", "_law_some"] []) (zlist : mg "list" = none) : FnOk P w K mg base CX0 5 f fd ["_law_rows", "_law_part", "_law_some", "_law_off"] (spSplit61 K) := by
  refine F.ok scSplit (fun vs H Q E h => ?_) (fun cdv A outer s H vs Q E hr h => ?_)
  · obtain ⟨rp, T, p, x, g, m, rfl, _⟩ := h
    rfl
  · obtain ⟨rp, T, p, x, g, m, rfl, hrp, hT, m1, m7, lT, clo, q⟩ := h
    have nd := scSplit.nd
    have hr2 : Room 2 _ := hr.mono (by decide)
    have hr4 : Room 4 _ := hr.mono (by decide)
    refine ⟨_, (pss_cons (ps_set (i := 4) nd rfl (Or.inl rfl) (pe_call GO hr4 rfl mO kO bO .nil pass0 (pa_cons (pe_callTy (call_listK (K := K) rfl) (by rfl) zlist PyProof.Rows.boot_list (pa_cons (pv 0) pa_nil)) (pa_cons (pv 1) pa_nil))))
      (pss_cons (ps_for PassesOwn.never rfl (pi_listK (K := K) rfl (pv 4)) (pg_name (i := 5) nd rfl (Or.inl rfl)) (pss_one (ps_for PassesOwn.never rfl (pi_listK (K := K) rfl (pv 4)) (pg_name (i := 6) nd rfl (Or.inl rfl)) (pss_one (ps_if (PW.pt (pw_and (pt_val (pe_call GAG hr2 rfl mAG kAG bAG .nil pass0 (pa_cons (pv 5) (pa_cons (pv 6) (pa_cons (pv 2) pa_nil))))) (pw_and1 (pt_cmpR (op_notInTK (K := K) rfl hr.units) (pe_call GMX hr2 rfl mMX kMX bMX .nil pass0 (pa_cons (pv 5) (pa_cons (pv 6) (pa_cons (pe_op op_orN (pv 2) (pv 3)) pa_nil)))) (pv 4) (by rfl))))) (pss_one (ps_ret pe_bl)) pss_nil)))))
      (pss_one (ps_ret pe_bl)))), ?_⟩
    refine ⟨_, rfl, rp, _, rfl, .inl (SqL.of hrp), fun lp hlp => ?_⟩
    have s1 := Same.new (o := .lst (refsOf T)) hlp
    have hlp1 : (upd H lp (.lst (refsOf T))) lp = some (.lst (refsOf T)) := upd_same
    generalize upd H lp (.lst (refsOf T)) = H1 at s1 hlp1
    refine ⟨_, rfl, lp, T, p, m, rfl, SqL.of hlp1, hT.same s1, m1, by omega, lT, fun wp W H2 s2 hwp0 hwp hW A => ?_⟩
    have clo := clo W A
    have lW : W.length ≤ 18 := Nat.le_trans A.lenR lT
    refine ⟨_, rfl, wp, rfl, ⟨_, SqL.of hwp⟩, for_list (xs := refsOf W) (fun i σ H' => (∃ v5 v6, σ = [some (.ref rp), some (vN p), some (vN x), some (vN g), some (.ref wp), v5, v6]) ∧ Same H2 H') ⟨⟨_, _, rfl⟩, Same.refl _⟩ (fun i σ H' _ h => SqL.of (h.2 _ _ hwp)) ?_ ?_⟩
    · rintro i v σ H3 hv ⟨⟨v5, v6, rfl⟩, s3⟩
      unfold refsOf at hv
      rw [List.getElem?_map] at hv
      cases ea : W[i]? with
      | none => rw [ea] at hv; cases hv
      | some a =>
        rw [ea] at hv
        obtain rfl := (Option.some.inj hv).symm
        have am := List.mem_of_getElem? ea
        refine ⟨_, rfl, wp, rfl, ⟨_, SqL.of (s3 _ _ hwp)⟩, for_list (xs := refsOf W) (fun j σ H' => (∃ v6, σ = [some (.ref rp), some (vN p), some (vN x), some (vN g), some (.ref wp), some (.ref a.1), v6]) ∧ Same H2 H') ⟨⟨_, rfl⟩, s3⟩ (fun i σ H' _ h => SqL.of (h.2 _ _ hwp)) ?_ ?_⟩
        · rintro j v σ H4 hv4 ⟨⟨v6', rfl⟩, s4⟩
          unfold refsOf at hv4
          rw [List.getElem?_map] at hv4
          cases eb : W[j]? with
          | none => rw [eb] at hv4; cases hv4
          | some b =>
            rw [eb] at hv4
            obtain rfl := (Option.some.inj hv4).symm
            have bm := List.mem_of_getElem? eb
            have W4 := hW.same s4
            have la := (hW a am).2
            have lb := (hW b bm).2
            refine ⟨_, rfl, _, rfl, _, rfl, a.1, b.1, a.2, b.2, x, rfl, SqT.of (W4 a am).1, SqT.of (W4 b bm).1, by omega, by omega, fun H5 s5 => ⟨_, rfl, ite2 (fun hc => ?_) (fun hc => iteF ⟨⟨_, rfl⟩, s4.trans s5⟩)⟩⟩
            have W5 := W4.same s5
            refine ⟨_, rfl, _, rfl, _, rfl, _, rfl, x, g, rfl, rfl, a.1, b.1, a.2, b.2, x ||| g, rfl, SqT.of (W5 a am).1, SqT.of (W5 b bm).1, by omega, by omega, fun t H6 s6 ht ht' => ?_⟩
            have s46 := (s4.trans s5).trans s6
            refine ⟨_, rfl, t, wp, _, W, rfl, rfl, ht', SqL.of (s46 _ _ hwp), fun c hc => ((hW.same s46) c hc).1, fun kb iff => ⟨_, rfl, ?_⟩⟩
            have inn := clo a am b bm fun c hcm hx => agree_iff.mp hc c (by omega) hx
            obtain ⟨c, hc, ec⟩ := List.mem_map.mp inn
            cases kb with
            | true => exact absurd ec (iff.mp rfl c hc)
            | false => exact iteF ⟨⟨_, rfl⟩, s46⟩
        · rintro σ H4 ⟨⟨v6', rfl⟩, s4⟩
          exact ⟨⟨_, _, rfl⟩, s4⟩
    · rintro σ H3 ⟨⟨v5, v6, rfl⟩, s3⟩
      exact q _ ((s1.trans s2).trans s3)
end
end Own

namespace Own
open PySem L2
section
variable {P : Program} {w : World} {K : PySem.W.Frag} {mg : Str → Option Value} {base : Heap}
seal PySem.wpAny
noncomputable abbrev sWholeS : Stmt := top 42
theorem scWholeS : FnScope ["_law_many", "_law_rules_here", "_law_part", "_law_some", "_law_fixed", "_law_blocks", "_law_steps", "_law_rest", "_law_homes", "_law_one", "_law_other", "_law_seen_rows", "_law_out", "_law_off"] ["_law_many", "_law_rules_here", "_law_part", "_law_some"] (defScope sWholeS) := ⟨rfl, rfl, rfl, by decide +kernel, rfl, by decide +kernel, by decide +kernel⟩
theorem ok_wholes {f fUN fBO fKP fO fWI fMX : Addr} {fd fdUN fdBO fdKP fdO fdWI fdMX : FuncData} (F : Fun K "_law_whole_shows" "_law_whole_shows" sWholeS f fd) (GUN : FnOk P w K mg base CX0 3 fUN fdUN ["many", "rules", "some"] (spUnfolded K)) (mUN : mg "unfolded" = some (.ref fUN)) (kUN : PySem.W.keepIn K (.ref fUN) = true) (bUN : Binds K fdUN ["many", "rules", "some"] []) (GBO : FnOk P w K mg base CX0 3 fBO fdBO ["many", "some"] (spNewBook K)) (mBO : mg "book_of" = some (.ref fBO)) (kBO : PySem.W.keepIn K (.ref fBO) = true) (bBO : Binds K fdBO ["many", "some"] []) (GKP : FnOk P w K mg base CX0 9 fKP fdKP ["book", "rules"] (spKeeps K)) (mKP : mg "keeps" = some (.ref fKP)) (kKP : PySem.W.keepIn K (.ref fKP) = true) (bKP : Binds K fdKP ["book", "rules"] []) (GO : FnOk P w K mg base CX0 4 fO fdO ["book", "part"] (spSeenOn K)) (mO : mg "seen_on" = some (.ref fO)) (kO : PySem.W.keepIn K (.ref fO) = true) (bO : Binds K fdO ["book", "part"] []) (GWI : FnOk P w K mg base CX0 1 fWI fdWI ["_law_many", "_law_part"] (spWithin61 K)) (mWI : mg "_law_within" = some (.ref fWI)) (kWI : PySem.W.keepIn K (.ref fWI) = true) (bWI : Binds K fdWI ["_law_many", "_law_part"] []) (GMX : FnOk P w K mg base CX0 2 fMX fdMX ["_law_one", "_law_other", "_law_some"] (spMixed K)) (mMX : mg "_law_mix" = some (.ref fMX)) (kMX : PySem.W.keepIn K (.ref fMX) = true) (bMX : Binds K fdMX ["_law_one", "_law_other", "_law_some"] []) (zlist : mg "list" = none) (zlen : mg "len" = none) : FnOk P w K mg base CX0 10 f fd ["_law_many", "_law_rules_here", "_law_part", "_law_some"] (spWhole61 K) := by
  refine F.ok scWholeS (fun vs H Q E h => ?_) (fun cdv A outer s H vs Q E hr h => ?_)
  · obtain ⟨rl, rs, p, x, m, rfl, _⟩ := h
    rfl
  · obtain ⟨rl, rs, p, x, m, rfl, hrl, lrs, hRs, m1, m7, hp, hxp, tw, q⟩ := h
    have nd := scWholeS.nd
    have hr1 : Room 1 _ := hr.mono (by decide)
    have hr2 : Room 2 _ := hr.mono (by decide)
    have hr3 : Room 3 _ := hr.mono (by decide)
    have hr4 : Room 4 _ := hr.mono (by decide)
    have hr9 : Room 9 _ := hr.mono (by decide)
    have pw0 : 0 < 2 ^ m := Nat.two_pow_pos m
    have pw7 : 2 ^ m ≤ 2 ^ 7 := Nat.pow_le_pow_right (by decide) m7
    have lex : x ≤ p := by
      have z : x &&& p ≤ p := Nat.and_le_right
      rwa [hxp] at z
    have lx : x < 2 ^ m := Nat.lt_of_le_of_lt lex hp
    refine ⟨_, (pss_cons (ps_asg (pe_call GUN hr3 rfl mUN kUN bUN .nil pass0 (pa_cons (pv 0) (pa_cons (pe_callTy (call_listK (K := K) rfl) (by rfl) zlist PyProof.Rows.boot_list (pa_cons (pv 1) pa_nil)) (pa_cons (pv 3) pa_nil)))) (pg_tup rfl (pgs_cons (pg_name (i := 4) nd rfl (Or.inl rfl)) (pgs_cons (pg_name (i := 5) nd rfl (Or.inl rfl)) (pgs_cons (pg_name (i := 6) nd rfl (Or.inl rfl)) pgs_nil)))))
      (pss_cons (ps_if (pt_cmpR op_eqN (pe_op op_andN (pv 4) (pv 2)) (pv 2) (nomark _)) (pss_one (ps_ret pe_bl)) pss_nil)
      (pss_cons (ps_set (i := 7) nd rfl (Or.inr rfl) (pe_op op_andInv (pv 2) (pe_un un_inv (pv 3))))
      (pss_cons (ps_comp (i := 8) (xs := ["_law_block"]) (cs ["_law_many", "_law_rules_here", "_law_part", "_law_some", "_law_fixed", "_law_blocks", "_law_steps", "_law_rest", "_law_homes", "_law_one", "_law_other", "_law_seen_rows", "_law_out", "_law_off"] (defScope sWholeS) rfl rfl (by decide +kernel)) rfl nd rfl rfl (pi_listK (K := K) rfl (pv 5)) (fun _ _ _ => pg_name (i := 0) (show (["_law_block", "_law_many", "_law_rules_here", "_law_part", "_law_some", "_law_fixed", "_law_blocks", "_law_steps", "_law_rest", "_law_homes", "_law_one", "_law_other", "_law_seen_rows", "_law_out", "_law_off"] : List Str).Nodup by decide +kernel) rfl (Or.inl rfl)) (fun _ _ _ => (pts_one (pt_cmpR op_eqN (pe_op op_andN (pv 0) (pv 8)) (pv 8) (nomark _)))) (fun _ _ _ => (pv 0)))
      (pss_cons (ps_if (PW.pt (pw_or (pt_cmpR (op_eqLK (K := K) rfl hr.units) (pv 8) (pe_lst pa_nil) (nomark _)) (pw_or1 (pt_not (pt_val (pe_call GKP hr9 rfl mKP kKP bKP .nil pass0 (pa_cons (pe_call GBO hr3 rfl mBO kBO bBO .nil pass0 (pa_cons (pv 0) (pa_cons (pe_ix (ix_listK (K := K) rfl) (pv 8) pe_int (fun _ _ => rfl)) pa_nil))) (pa_cons (pe_callTy (call_listK (K := K) rfl) (by rfl) zlist PyProof.Rows.boot_list (pa_cons (pv 1) pa_nil)) pa_nil)))))))) (pss_one (ps_ret pe_bl)) pss_nil)
      (pss_cons (ps_asg (pe_call GBO hr3 rfl mBO kBO bBO .nil pass0 (pa_cons (pv 0) (pa_cons (pe_ix (ix_listK (K := K) rfl) (pv 8) pe_int (fun _ _ => rfl)) pa_nil))) (pg_lst rfl (pgs_cons (pg_name (i := 9) nd rfl (Or.inl rfl)) (pgs_cons (pg_name (i := 10) nd rfl (Or.inl rfl)) pgs_nil))))
      (pss_cons (ps_set (i := 11) nd rfl (Or.inl rfl) (pe_call GO hr4 rfl mO kO bO .nil pass0 (pa_cons (pe_lst (pa_cons (pv 9) (pa_cons (pv 10) pa_nil))) (pa_cons (pv 2) pa_nil))))
      (pss_cons (ps_set (i := 12) nd rfl (Or.inl rfl) (pe_op op_mod (pe_un un_inv (pv 2)) (pe_op op_shl1 pe_int (pv 0))))
      (pss_cons (ps_for PassesOwn.never rfl (pi_listK (K := K) rfl (pe_call GWI hr1 rfl mWI kWI bWI .nil pass0 (pa_cons (pv 0) (pa_cons (pv 7) pa_nil)))) (pg_name (i := 13) nd rfl (Or.inl rfl)) (pss_one (ps_if (PW.pt (pw_and (pt_cmpR op_notIn_seq (pv 13) (pe_lst (pa_cons pe_int (pa_cons (pv 7) pa_nil))) (by rfl)) (pw_and1 (pt_cmpR (op_inTK (K := K) rfl hr.units) (pe_call GMX hr2 rfl mMX kMX bMX .nil pass0 (pa_cons (pv 9) (pa_cons (pv 10) (pa_cons (pe_op op_orN (pe_op op_orN (pv 3) (pv 13)) (pv 12)) pa_nil)))) (pv 11) (by rfl))))) (pss_one (ps_ret pe_bl)) pss_nil)))
      (pss_one (ps_ret (pe_cmpR op_eqN (pe_callB (call_lenK (K := K) rfl) (by rfl) zlen PySem.boot_len (pa_cons (pv 11) pa_nil)) pe_int (nomark _))))))))))))), ?_⟩
    refine ⟨_, rfl, _, rfl, rl, _, rfl, .inl (SqL.of hrl), fun hd hhd => ?_⟩
    have s1 := Same.new (o := .lst (rs.map fun (r : Rl) => V.ref r.r)) hhd
    have hhd1 : (upd H hd (.lst (rs.map fun (r : Rl) => V.ref r.r))) hd = some (.lst (rs.map fun (r : Rl) => V.ref r.r)) := upd_same
    generalize upd H hd (.lst (rs.map fun (r : Rl) => V.ref r.r)) = H1 at s1 hhd1
    refine ⟨_, rfl, m, x, hd, rs, rfl, m7, lx, SqL.of hhd1, hRs.same s1, lrs, fun t bp qa u sw H2 R s2 ht ht' hbp hbp' hq hq' st1 e1 l1 n1 => ?_⟩
    refine ⟨t, _, rfl, SqT.of ht', rfl, _, _, rfl, _, _, rfl, _, _, rfl, rfl, ?_⟩
    have s02 := s1.trans s2
    have B := R.blocks lx
    have lbs : u.bs.length ≤ 7 := Nat.le_trans B.good.few m7
    refine ⟨_, rfl, _, rfl, u.fx, p, rfl, rfl, _, rfl, u.fx &&& p, p, rfl, rfl, _, rfl, ite2 (fun hc => q _ s02) (fun hc => ?_)⟩
    have nf : p &&& u.fx ≠ p := fun z => hc (decide_eq_true (by rw [Nat.and_comm]; exact z))
    obtain ⟨r0, ⟨b0, hb0, eb0⟩, hom⟩ := tw_whole m7 hp tw hxp R nf
    refine ⟨_, rfl, _, rfl, x, rfl, p, x, rfl, rfl, ?_⟩
    obtain ⟨r, hr'⟩ : ∃ r, r = p - (p &&& x) := ⟨_, rfl⟩
    dsimp only
    rw [← hr'] at r0 eb0 hom ⊢
    refine ⟨_, rfl, bp, rfl, ⟨_, SqL.of hbp'⟩, lc_list (xs := u.bs.map vN) (fun i acc H' => H' = H2 ∧ acc = ((u.bs.take i).filter fun b => decide (b &&& r = r)).map vN) (by rw [List.length_map]; omega) ⟨rfl, rfl⟩ (fun i acc H' hi h => ?_) (fun i v acc H' hv h => ?_) (fun acc H' h => ?_)⟩
    · obtain ⟨rfl, rfl⟩ := h
      refine ⟨SqL.of hbp', ?_⟩
      rw [List.length_map]
      exact Nat.le_trans (List.length_filter_le _ _) (List.length_take_le _ _)
    · obtain ⟨rfl, rfl⟩ := h
      rw [List.getElem?_map] at hv
      cases eb : u.bs[i]? with
      | none => rw [eb] at hv; cases hv
      | some b =>
        rw [eb] at hv
        obtain rfl := (Option.some.inj hv).symm
        refine ⟨rfl, _, rfl, _, rfl, b, r, rfl, rfl, _, rfl, b &&& r, r, rfl, rfl, _, rfl, ite2 (fun hc => ?_) (fun hc => ?_)⟩
        · refine ⟨_, rfl, rfl, ?_⟩
          rw [filt_take eb, if_pos hc, List.map_append]
          rfl
        · refine ⟨rfl, ?_⟩
          rw [filt_take eb, if_neg hc, List.append_nil]
    · obtain ⟨rfl, rfl⟩ := h
      rw [List.length_map, List.take_length]
      obtain ⟨h0, hs, eh⟩ : ∃ h0 hs, u.bs.filter (fun b => decide (b &&& r = r)) = h0 :: hs := by
        cases e : u.bs.filter (fun b => decide (b &&& r = r)) with
        | cons h0 hs => exact ⟨h0, hs, rfl⟩
        | nil =>
          have : b0 ∈ u.bs.filter (fun b => decide (b &&& r = r)) := List.mem_filter.mpr ⟨hb0, decide_eq_true eb0⟩
          rw [e] at this
          cases this
      rw [eh]
      have mh : h0 ∈ u.bs ∧ h0 &&& r = r := by
        have : h0 ∈ u.bs.filter (fun b => decide (b &&& r = r)) := by rw [eh]; exact List.mem_cons_self ..
        exact ⟨(List.mem_filter.mp this).1, of_decide_eq_true (List.mem_filter.mp this).2⟩
      obtain ⟨KS, hrb⟩ := hom h0 mh.1 mh.2
      have xb := B.apart h0 mh.1
      have lhs : (h0 :: hs).length ≤ 7 := by
        rw [← eh]
        exact Nat.le_trans (List.length_filter_le _ _) lbs
      clear hom eb0 hb0 eh
      intro d hd
      have s3 := s02.trans (Same.new (o := .lst ((h0 :: hs).map vN)) hd)
      have hd3 : (upd H' d (.lst ((h0 :: hs).map vN))) d = some (.lst ((h0 :: hs).map vN)) := upd_same
      dsimp only
      generalize upd H' d (.lst ((h0 :: hs).map vN)) = H3 at s3 hd3
      refine ⟨_, rfl, (by show 0 ≤ sizeLine; exact Nat.zero_le _), fun e he => ?_⟩
      have sE := Same.new (o := .lst []) he
      refine ⟨d, e, (h0 :: hs).map fun (k : Nat) => (k : Int), [], rfl, rfl, SqL.of (by rw [map_int]; exact sE _ _ hd3), SqL.of upd_same, _, rfl, ?_⟩
      have hd4 := sE _ _ hd3
      have s4 := s3.trans sE
      generalize upd H3 e (.lst []) = H4 at hd4 s4
      refine ite2 (fun hc => ?_) (fun _ => ?_)
      · rw [if_neg Bool.false_ne_true] at hc
        exact absurd (of_decide_eq_true hc) (by simp)
      have e0 : ((h0 :: hs).map vN)[0]? = some (vN h0) := rfl
      refine ⟨_, rfl, _, rfl, d, _, _, _, rfl, rfl, SqL.of hd4, atI_nat (j := 0) e0, m, h0, rfl, m1, m7, KS.2.1, fun bk T2 H5 s5 hbk hbk1 RB eT => ?_⟩
      have s05 := s4.trans s5
      refine ⟨_, rfl, rl, _, rfl, .inl (SqL.of (s05 _ _ hrl)), fun h2 hh2 => ?_⟩
      have s6 := Same.new (o := .lst (rs.map fun (r : Rl) => V.ref r.r)) hh2
      have hh6 : (upd H5 h2 (.lst (rs.map fun (r : Rl) => V.ref r.r))) h2 = some (.lst (rs.map fun (r : Rl) => V.ref r.r)) := upd_same
      generalize upd H5 h2 (.lst (rs.map fun (r : Rl) => V.ref r.r)) = H6 at s6 hh6
      have s06 := s05.trans s6
      have lT2 : T2.length ≤ 2 := by
        have := congrArg List.length eT
        rw [List.length_map] at this
        rw [this]
        unfold bookL
        split
        · exact Nat.le_succ 1
        · exact Nat.le_refl _
      refine ⟨bk, h2, T2, rs, m, rfl, ⟨SqL.of (s6 _ _ hbk1), RB.same s6, m1, m7, by omega⟩, SqL.of hh6, by omega, (fun r0 hr0 => (hRs.same s06) r0 hr0), fun kb H7 s7 iff => ⟨_, rfl, ?_⟩⟩
      obtain rfl : kb = true := iff.mpr fun r0 hr0 => (book_keeps KS.2.1 eT).mpr (kept_us.mpr (KS.2.2 r0.d (List.mem_map.mpr ⟨r0, hr0, rfl⟩)))
      refine iteF ?_
      have s07 := s06.trans s7
      have hd7 := ((s5.trans s6).trans s7) _ _ hd4
      refine ⟨_, rfl, _, rfl, d, _, _, _, rfl, rfl, SqL.of hd7, atI_nat (j := 0) e0, m, h0, rfl, m1, m7, KS.2.1, fun b2 T3 H8 s8 hb2 hb3 R3 eT3 => ?_⟩
      have Sne : h0 ≠ 0 := fun z => by have := KS.1; omega
      obtain ⟨a0, a1, rfl, e0', e1'⟩ : ∃ a0 a1 : RW, T3 = [a0, a1] ∧ a0.2 = List.replicate m 0 ∧ a1.2 = onesL m h0 := by
        unfold bookL at eT3
        rw [if_neg Sne] at eT3
        rcases T3 with _ | ⟨a0, _ | ⟨a1, _ | ⟨a2, T⟩⟩⟩
        · cases eT3
        · exact absurd (congrArg List.length eT3) (by simp)
        · rw [List.map_cons, List.map_cons, List.map_nil] at eT3
          injection eT3 with h1 h2
          injection h2 with h2 h3
          exact ⟨a0, a1, rfl, h1, h2⟩
        · exact absurd (congrArg List.length eT3) (by simp)
      refine ⟨b2, _, rfl, SqL.of hb3, rfl, _, _, rfl, _, _, rfl, rfl, ?_⟩
      have l0 := (R3 a0 (List.mem_cons_self ..)).2
      have l1' := (R3 a1 (List.mem_cons_of_mem _ (List.mem_cons_self ..))).2
      refine ⟨_, rfl, _, rfl, (by show 2 ≤ sizeLine; decide), fun lp hlp => ?_⟩
      have s9 := Same.new (o := .lst (refsOf [a0, a1])) hlp
      have hlp9 : (upd H8 lp (.lst (refsOf [a0, a1]))) lp = some (.lst (refsOf [a0, a1])) := upd_same
      have R9 := R3.same s9
      have s09 := (s07.trans s8).trans s9
      refine ⟨_, rfl, lp, [a0, a1], p, m, rfl, SqL.of hlp9, R9, m1, by omega, (by show 2 ≤ 18; decide), fun wp W H10 s10 hwp0 hwp hW AW => ?_⟩
      have s010 := s09.trans s10
      have R10 := R9.same s10
      obtain ⟨lW, offs⟩ := two_seen (x := x) KS.2.1 hp e0' e1' AW hrb r0 xb
      refine ⟨_, rfl, (p : Int), rfl, _, rfl, m, rfl, rfl, by omega, Builtin.bitNot (p : Int), ((2 ^ m : Nat) : Int), rfl, rfl, (by show (0 : Int) < ((2 ^ m : Nat) : Int); omega), ?_⟩
      dsimp only
      rw [not_mod hp]
      refine ⟨_, rfl, _, rfl, m, r, rfl, m7, fun wl hwl => ?_⟩
      have s11 := Same.new (o := .lst ((witN m r).map vN)) hwl
      have hwl11 : (upd H10 wl (.lst ((witN m r).map vN))) wl = some (.lst ((witN m r).map vN)) := upd_same
      generalize upd H10 wl (.lst ((witN m r).map vN)) = H11 at s11 hwl11
      have hwp11 := s11 _ _ hwp
      have R11 := R10.same s11
      have W11 := hW.same s11
      have s011 := s010.trans s11
      refine ⟨wl, rfl, ⟨_, SqL.of hwl11⟩, for_list (xs := (witN m r).map vN) (fun i σ H' => (∃ v13, σ = [some (vN m), some (.ref rl), some (vN p), some (vN x), some (vN u.fx), some (.ref bp), some (.ref qa), some (vN r), some (.ref d), some (.ref a0.1), some (.ref a1.1), some (.ref wp), some (vN (2 ^ m - 1 - p)), v13]) ∧ Same H11 H') ⟨⟨_, rfl⟩, Same.refl _⟩ (fun i σ H' _ h => SqL.of (h.2 _ _ hwl11)) ?_ ?_⟩
      · rintro i v σ H12 hv ⟨⟨v13, rfl⟩, s12⟩
        rw [List.getElem?_map] at hv
        cases eo : (witN m r)[i]? with
        | none => rw [eo] at hv; cases hv
        | some off =>
          rw [eo] at hv
          obtain rfl := (Option.some.inj hv).symm
          have ho := wit_mem (List.mem_of_getElem? eo)
          refine ⟨_, rfl, _, rfl, (by show 2 ≤ sizeLine; decide), fun l2 hl2 => ⟨l2, _, rfl, .inl (SqL.of upd_same), rfl, rfl, _, rfl, ?_⟩⟩
          have s13 := s12.trans (Same.new (o := .lst [V.int 0, vN r]) hl2)
          generalize upd H12 l2 (.lst [V.int 0, vN r]) = H13 at s13
          rw [if_pos rfl]
          refine ite2 (fun hc => ?_) (fun hc => iteF ⟨⟨_, rfl⟩, s13⟩)
          have nin : ¬ (off = 0 ∨ off = r) := fun z => by rw [in_two.mpr z] at hc; cases hc
          have R13 := R11.same s13
          refine ⟨_, rfl, _, rfl, _, rfl, _, rfl, x, off, rfl, rfl, _, rfl, x ||| off, 2 ^ m - 1 - p, rfl, rfl, a0.1, a1.1, a0.2, a1.2, x ||| off ||| (2 ^ m - 1 - p), rfl, SqT.of (R13 a0 (List.mem_cons_self ..)).1, SqT.of (R13 a1 (List.mem_cons_of_mem _ (List.mem_cons_self ..))).1, by omega, by omega, fun t14 H14 s14 ht14 ht14' => ?_⟩
          have s14' := s13.trans s14
          refine ⟨_, rfl, t14, wp, _, W, rfl, rfl, ht14', SqL.of (s14' _ _ hwp11), (fun c hc => ((W11.same s14') c hc).1), fun kb iff => ⟨_, rfl, ?_⟩⟩
          have eb : kb = false := by
            cases kb with
            | false => rfl
            | true =>
              obtain ⟨c, hc, ec⟩ := iff.mp rfl
              exact absurd (List.mem_map.mpr ⟨c, hc, ec⟩) (offs off ho (fun z => nin (.inl z)) (fun z => nin (.inr z)))
          subst eb
          exact iteF ⟨⟨_, rfl⟩, s14'⟩
      · rintro σ H12 ⟨⟨v13, rfl⟩, s12⟩
        have lrW : (refsOf W).length = 2 := (List.length_map ..).trans lW
        refine ⟨_, rfl, wp, _, rfl, .inl (SqL.of (s12 _ _ hwp11)), (refsOf W).length, 2, rfl, rfl, ?_⟩
        rw [lrW]
        exact q _ (s011.trans s12)
end
end Own

namespace Own
open PySem L2
section
variable {P : Program} {w : World} {K : PySem.W.Frag} {mg : Str → Option Value} {base : Heap}
seal PySem.wpAny
noncomputable abbrev sPartR : Stmt := top 43
theorem scPartR : FnScope ["_law_many", "_law_rules_here", "_law_rows", "_law_part", "_law_found", "_law_shown_by", "_law_some", "_law_off"] ["_law_many", "_law_rules_here", "_law_rows", "_law_part"] (defScope sPartR) := ⟨rfl, rfl, rfl, by decide +kernel, rfl, by decide +kernel, by decide +kernel⟩
theorem ok_partr {f fTW fWI fWS fSP : Addr} {fd fdTW fdWI fdWS fdSP : FuncData} (F : Fun K "_law_part_right" "_law_part_right" sPartR f fd) (GTW : FnOk P w K mg base CX0 5 fTW fdTW ["many", "rules", "part"] (spTwice K)) (mTW : mg "twice" = some (.ref fTW)) (kTW : PySem.W.keepIn K (.ref fTW) = true) (bTW : Binds K fdTW ["many", "rules", "part"] []) (GWI : FnOk P w K mg base CX0 1 fWI fdWI ["_law_many", "_law_part"] (spWithin61 K)) (mWI : mg "_law_within" = some (.ref fWI)) (kWI : PySem.W.keepIn K (.ref fWI) = true) (bWI : Binds K fdWI ["_law_many", "_law_part"] []) (GWS : FnOk P w K mg base CX0 10 fWS fdWS ["_law_many", "_law_rules_here", "_law_part", "_law_some"] (spWhole61 K)) (mWS : mg "_law_whole_shows" = some (.ref fWS)) (kWS : PySem.W.keepIn K (.ref fWS) = true) (bWS : Binds K fdWS ["_law_many", "_law_rules_here", "_law_part", "_law_some"] []) (GSP : FnOk P w K mg base CX0 5 fSP fdSP ["_law_rows", "_law_part", "_law_some", "_law_off"] (spSplit61 K)) (mSP : mg "_law_split_shows" = some (.ref fSP)) (kSP : PySem.W.keepIn K (.ref fSP) = true) (bSP : Binds K fdSP ["_law_rows", "_law_part", "_law_some", "_law_off"] []) (zlist : mg "list" = none) : FnOk P w K mg base CX0 11 f fd ["_law_many", "_law_rules_here", "_law_rows", "_law_part"] (spPart61 K) := by
  refine F.ok scPartR (fun vs H Q E h => ?_) (fun cdv A outer s H vs Q E hr h => ?_)
  · obtain ⟨rl, rp, rs, T, bs, lo, hi, p, m, rfl, _⟩ := h
    rfl
  · obtain ⟨rl, rp, rs, T, bs, lo, hi, p, m, rfl, hrl, lrs, hRs, m1, m7, hp, hrp, hT, lT, CT, q⟩ := h
    have nd := scPartR.nd
    have hr1 : Room 1 _ := hr.mono (by decide)
    have hr5 : Room 5 _ := hr.mono (by decide)
    have hr10 : Room 10 _ := hr.mono (by decide)
    have pw7 : 2 ^ m ≤ 2 ^ 7 := Nat.pow_le_pow_right (by decide) m7
    refine ⟨_, (pss_cons (ps_set (i := 4) nd rfl (Or.inl rfl) (pe_call GTW hr5 rfl mTW kTW bTW .nil pass0 (pa_cons (pv 0) (pa_cons (pe_callTy (call_listK (K := K) rfl) (by rfl) zlist PyProof.Rows.boot_list (pa_cons (pv 1) pa_nil)) (pa_cons (pv 3) pa_nil)))))
      (pss_cons (ps_if (pt_cmpR op_isN (pv 4) pe_non (nomark _)) (pss_cons (ps_hide 6 (ps_comp (i := 5) (xs := ["_law_some"]) (cs ["_law_many", "_law_rules_here", "_law_rows", "_law_part", "_law_found", "_law_shown_by", "", "_law_off"] (defScope sPartR) rfl rfl (by decide +kernel)) rfl (show (["_law_many", "_law_rules_here", "_law_rows", "_law_part", "_law_found", "_law_shown_by", "", "_law_off"] : List Str).Nodup by decide +kernel) rfl rfl (pi_listK (K := K) rfl (pe_call GWI hr1 rfl mWI kWI bWI .nil pass0 (pa_cons (pv 0) (pa_cons (pv 3) pa_nil)))) (fun _ _ _ => pg_name (i := 0) (show (["_law_some", "_law_many", "_law_rules_here", "_law_rows", "_law_part", "_law_found", "_law_shown_by", "", "_law_off"] : List Str).Nodup by decide +kernel) rfl (Or.inl rfl)) (fun _ _ _ => pts_nil) (fun _ _ _ => (pe_call GWS hr10 rfl mWS kWS bWS .nil pass0 (pa_cons (pv 1) (pa_cons (pv 2) (pa_cons (pv 4) (pa_cons (pv 0) pa_nil))))))))
      (pss_one (ps_ret (pe_cmpR op_notIn_seq pe_bl (pv 5) (by rfl))))) pss_nil)
      (pss_cons (ps_asg (pv 4) (pg_tup rfl (pgs_cons (pg_name (i := 6) nd rfl (Or.inl rfl)) (pgs_cons (pg_name (i := 7) nd rfl (Or.inl rfl)) pgs_nil))))
      (pss_cons (ps_if (PW.pt (pw_or (pt_cmpR op_neN (pe_op op_andN (pv 6) (pv 3)) (pv 6) (nomark _)) (pw_or (pt_cmpR op_neN (pe_op op_andN (pv 7) (pv 3)) (pv 7) (nomark _)) (pw_or (pt_cmpR op_eqN (pv 7) pe_int (nomark _)) (pw_or (pt_cmpR op_gtN (pe_op op_andN (pv 7) (pv 6)) pe_int (nomark _)) (pw_or1 (pt_cmpR op_eqN (pe_op op_orN (pv 6) (pv 7)) (pv 3) (nomark _)))))))) (pss_one (ps_ret pe_bl)) pss_nil)
      (pss_one (ps_ret (pe_call GSP hr5 rfl mSP kSP bSP .nil pass0 (pa_cons (pv 2) (pa_cons (pv 3) (pa_cons (pv 6) (pa_cons (pv 7) pa_nil))))))))))), ?_⟩
    refine ⟨_, rfl, _, rfl, rl, _, rfl, .inl (SqL.of hrl), fun hd hhd => ?_⟩
    have s1 := Same.new (o := .lst (rs.map fun (r : Rl) => V.ref r.r)) hhd
    have hhd1 : (upd H hd (.lst (rs.map fun (r : Rl) => V.ref r.r))) hd = some (.lst (rs.map fun (r : Rl) => V.ref r.r)) := upd_same
    generalize upd H hd (.lst (rs.map fun (r : Rl) => V.ref r.r)) = H1 at s1 hhd1
    refine ⟨_, rfl, m, p, hd, rs, rfl, m7, hp, SqL.of hhd1, hRs.same s1, lrs, fun v H2 s2 pv => ?_⟩
    have s02 := s1.trans s2
    cases tw : twF m (rs.map Rl.d) p with
    | none =>
      rw [tw] at pv
      obtain rfl : v = .non := pv
      refine ⟨_, rfl, rfl, _, rfl, iteT ?_⟩
      refine ⟨(fun v h => by cases h), _, rfl, _, rfl, m, p, rfl, m7, fun wl hwl => ?_⟩
      have s3 := Same.new (o := .lst ((witN m p).map vN)) hwl
      have hwl3 : (upd H2 wl (.lst ((witN m p).map vN))) wl = some (.lst ((witN m p).map vN)) := upd_same
      generalize upd H2 wl (.lst ((witN m p).map vN)) = H3 at s3 hwl3
      have lw := wit_len m p
      refine ⟨wl, rfl, ⟨_, SqL.of hwl3⟩, lc_list (xs := (witN m p).map vN) (fun i acc H' => Same H3 H' ∧ acc = List.replicate i (.bl true)) (by rw [List.length_map]; omega) ⟨Same.refl _, rfl⟩ (fun i acc H' hi h => ?_) (fun i v acc H' hv h => ?_) (fun acc H' h => ?_)⟩
      · obtain ⟨s', rfl⟩ := h
        exact ⟨SqL.of (s' _ _ hwl3), by rw [List.length_replicate]; exact Nat.le_refl _⟩
      · obtain ⟨s', rfl⟩ := h
        rw [List.getElem?_map] at hv
        cases ex : (witN m p)[i]? with
        | none => rw [ex] at hv; cases hv
        | some x =>
          rw [ex] at hv
          obtain rfl := (Option.some.inj hv).symm
          have s0 := (s02.trans s3).trans s'
          refine ⟨rfl, _, rfl, _, rfl, _, rfl, _, rfl, rl, rs, p, x, m, rfl, s0 _ _ hrl, lrs, hRs.same s0, m1, m7, hp, wit_mem (List.mem_of_getElem? ex), tw, fun H5 s5 => ⟨s'.trans s5, ?_⟩⟩
          rw [List.replicate_succ']
      · obtain ⟨s', rfl⟩ := h
        intro d hd'
        have s6 := Same.new (o := .lst (List.replicate ((witN m p).map vN).length (V.bl true))) hd'
        refine ⟨(fun v h => by cases h), _, rfl, d, _, rfl, .inl (SqL.of upd_same), rfl, ?_, ?_⟩
        · rw [List.all_eq_true]
          intro v hv
          rw [List.eq_of_mem_replicate hv]
          rfl
        · rw [if_pos rfl, in_trues]
          exact q _ (((s02.trans s3).trans s').trans s6)
    | some u =>
      rw [tw] at pv
      obtain ⟨a, rfl, ha⟩ := pv
      refine ⟨_, rfl, rfl, _, rfl, iteF ?_⟩
      obtain ⟨hx, hg⟩ := tw_yes tw
      obtain ⟨x, g⟩ := u
      dsimp only at hx hg ha
      have lex : x ≤ p := by
        have z : x &&& p ≤ p := Nat.and_le_right
        rwa [hx] at z
      have lx : x < 2 ^ m := Nat.lt_of_le_of_lt lex hp
      obtain ⟨s', R⟩ := run_ex (rs := rs.map Rl.d) _ ⟨x, beginBs m x, []⟩ (Nat.le_refl _) (Good.begin lx)
      obtain ⟨g0, gp, ne⟩ := again_ok lx hg
      have gx := again_off lx R hg
      have egp : g &&& p = g := sub_and gp
      refine ⟨_, rfl, a, _, rfl, SqT.of ha, rfl, _, _, rfl, _, _, rfl, rfl, ?_⟩
      refine ⟨_, rfl, _, rfl, x, p, rfl, rfl, _, rfl, x &&& p, x, rfl, rfl, _, rfl, ite2 (fun hc => ?_) (fun _ => ?_)⟩
      · rw [hx, decide_eq_true rfl] at hc
        cases hc
      refine ⟨_, rfl, _, rfl, g, p, rfl, rfl, _, rfl, g &&& p, g, rfl, rfl, _, rfl, ite2 (fun hc => ?_) (fun _ => ?_)⟩
      · rw [egp, decide_eq_true rfl] at hc
        cases hc
      refine ⟨_, rfl, g, 0, rfl, rfl, _, rfl, ite2 (fun hc => absurd (of_decide_eq_true hc) g0) (fun _ => ?_)⟩
      refine ⟨_, rfl, _, rfl, g, x, rfl, rfl, g &&& x, 0, rfl, rfl, _, rfl, ite2 (fun hc => ?_) (fun _ => ?_)⟩
      · rw [gx] at hc
        exact absurd hc (by decide)
      refine ⟨_, rfl, _, rfl, x, g, rfl, rfl, _, rfl, x ||| g, p, rfl, rfl, _, rfl, ite2 (fun hc => absurd (of_decide_eq_true hc) ne) (fun _ => ?_)⟩
      refine ⟨_, rfl, _, rfl, _, rfl, _, rfl, rp, T, p, x, g, m, rfl, s02 _ _ hrp, hT.same s02, m1, m7, lT, (fun W A a ha b hb ag => tw_split CT hp tw A ha hb ag), fun H3 s3 => q _ (s02.trans s3)⟩
end
end Own

namespace Own
open PySem L2
section
variable {P : Program} {w : World} {K : PySem.W.Frag} {mg : Str → Option Value} {base : Heap}
seal PySem.wpAny
noncomputable abbrev sTable : Stmt := top 35
theorem scTable : FnScope ["_law_state", "_law_many", "_law_count"] ["_law_state"] (defScope sTable) := ⟨rfl, rfl, rfl, by decide +kernel, rfl, by decide +kernel, by decide +kernel⟩
theorem ok_table {f fT fRU : Addr} {fd fdT fdRU : FuncData} (F : Fun K "_law_table" "_law_table" sTable f fd) (GT : FnOk P w K mg base CX0 1 fT fdT ["_law_state", "_law_most"] (spTakeF K)) (mT : mg "_law_take" = some (.ref fT)) (kT : PySem.W.keepIn K (.ref fT) = true) (bT : Binds K fdT ["_law_state", "_law_most"] []) (GRU : FnOk P w K mg base CX0 3 fRU fdRU ["_law_state", "_law_many", "_law_count"] (spRules K)) (mRU : mg "_law_rules" = some (.ref fRU)) (kRU : PySem.W.keepIn K (.ref fRU) = true) (bRU : Binds K fdRU ["_law_state", "_law_many", "_law_count"] []) : FnOk P w K mg base CX0 4 f fd ["_law_state"] (spTable61 K) := by
  refine F.ok scTable (fun vs H Q E h => ?_) (fun cdv A outer s H vs Q E hr h => ?_)
  · obtain ⟨st, ns, k, rfl, _⟩ := h
    rfl
  · obtain ⟨st, ns, k, rfl, S, hk, hl, q⟩ := h
    have nd := scTable.nd
    have hr1 : Room 1 _ := hr.mono (by decide)
    have hr3 : Room 3 _ := hr.mono (by decide)
    refine ⟨_, (pss_cons (ps_set (i := 1) nd rfl (Or.inl rfl) (pe_op op_addN pe_int (pe_call GT hr1 rfl mT kT bT .nil pass0 (pa_cons (pv 0) (pa_cons pe_int pa_nil))))) (pss_cut (fun σ H' => ∃ (m k' : Nat), σ = [some (.ref st), some (vN m), none] ∧ 1 ≤ m ∧ m ≤ 7 ∧ k' ≤ k + 3 ∧ L2.STF K H' st ns k' ∧ But st H H') (ps_if (pt_cmpR op_eqN (pe_call GT hr1 rfl mT kT bT .nil pass0 (pa_cons (pv 0) (pa_cons pe_int pa_nil))) pe_int (nomark _)) (pss_one (ps_set (i := 1) nd rfl (Or.inl rfl) (pe_op op_addN pe_int (pe_call GT hr1 rfl mT kT bT .nil pass0 (pa_cons (pv 0) (pa_cons pe_int pa_nil)))))) pss_nil) (pss_cons (ps_set (i := 2) nd rfl (Or.inl rfl) (pe_call GT hr1 rfl mT kT bT .nil pass0 (pa_cons (pv 0) (pa_cons pe_int pa_nil)))) (pss_cut (fun σ H' => ∃ (m c k' : Nat), σ = [some (.ref st), some (vN m), some (vN c)] ∧ 1 ≤ m ∧ m ≤ 7 ∧ c ≤ 12 ∧ k' ≤ k + 6 ∧ L2.STF K H' st ns k' ∧ But st H H') (ps_if (pt_cmpR op_eqN (pe_call GT hr1 rfl mT kT bT .nil pass0 (pa_cons (pv 0) (pa_cons pe_int pa_nil))) pe_int (nomark _)) (pss_one (ps_set (i := 2) nd rfl (Or.inl rfl) (pe_call GT hr1 rfl mT kT bT .nil pass0 (pa_cons (pv 0) (pa_cons pe_int pa_nil))))) pss_nil) (pss_one (ps_ret (pe_tup (pa_cons (pv 1) (pa_cons (pe_call GRU hr3 rfl mRU kRU bRU .nil pass0 (pa_cons (pv 0) (pa_cons (pv 1) (pa_cons (pv 2) pa_nil)))) pa_nil))))))))), ?_⟩
    refine ⟨_, rfl, st, ns, k, 5, rfl, S, by omega, hl, by decide, fun r1 H1 ar1 br1 Sr1 Br1 => ?_⟩
    obtain ⟨n1, rfl, hn1⟩ := nat_of (n := 5) ar1 br1
    refine ⟨1, n1, rfl, rfl, ?_⟩
    dsimp only
    refine ⟨⟨_, rfl, st, ns, (k + 1), 4, rfl, Sr1, by omega, hl, by decide, fun r2 H2 ar2 br2 Sr2 Br2 => ?_⟩, ?_⟩
    · obtain ⟨n2, rfl, hn2⟩ := nat_of (n := 4) ar2 br2
      refine ⟨n2, 0, rfl, rfl, _, rfl, ite2 (fun _ => ?_) (fun _ => ?_)⟩
      · refine ⟨_, rfl, st, ns, (k + 1 + 1), 7, rfl, Sr2, by omega, hl, by decide, fun r3 H3 ar3 br3 Sr3 Br3 => ?_⟩
        obtain ⟨n3, rfl, hn3⟩ := nat_of (n := 7) ar3 br3
        exact ⟨1, n3, rfl, rfl, 1 + n3, k + 1 + 1 + 1, rfl, by omega, by omega, by omega, Sr3, (Br1.trans Br2).trans Br3⟩
      · exact ⟨1 + n1, k + 1 + 1, rfl, by omega, by omega, by omega, Sr2, Br1.trans Br2⟩
    rintro _ H4 ⟨m, k4, rfl, m1, m7, hk4, S4, B4⟩
    refine ⟨_, rfl, st, ns, k4, 7, rfl, S4, by omega, hl, by decide, fun r5 H5 ar5 br5 Sr5 Br5 => ?_⟩
    obtain ⟨n5, rfl, hn5⟩ := nat_of (n := 7) ar5 br5
    refine ⟨⟨_, rfl, st, ns, (k4 + 1), 4, rfl, Sr5, by omega, hl, by decide, fun r6 H6 ar6 br6 Sr6 Br6 => ?_⟩, ?_⟩
    · obtain ⟨n6, rfl, hn6⟩ := nat_of (n := 4) ar6 br6
      refine ⟨n6, 0, rfl, rfl, _, rfl, ite2 (fun _ => ?_) (fun _ => ?_)⟩
      · refine ⟨_, rfl, st, ns, (k4 + 1 + 1), 13, rfl, Sr6, by omega, hl, by decide, fun r7 H7 ar7 br7 Sr7 Br7 => ?_⟩
        obtain ⟨n7, rfl, hn7⟩ := nat_of (n := 13) ar7 br7
        exact ⟨m, n7, k4 + 1 + 1 + 1, rfl, m1, m7, by omega, by omega, Sr7, ((B4.trans Br5).trans Br6).trans Br7⟩
      · exact ⟨m, n5, k4 + 1 + 1, rfl, m1, m7, by omega, by omega, Sr6, (B4.trans Br5).trans Br6⟩
    rintro _ H8 ⟨m, c, k8, rfl, m1, m7, hc, hk8, S8, B8⟩
    refine ⟨_, rfl, _, rfl, _, rfl, _, rfl, st, ns, k8, m, c, rfl, S8, by omega, hl, m1, m7, by omega, fun rs p k9 H9 lrs hrs hk9 hp0 hp9 S9 B9 => ?_⟩
    refine ⟨(by show 2 ≤ sizeLine; decide), fun t ht => ?_⟩
    have sn := Same.new (o := .tup [vN m, V.ref p]) ht
    exact q t p m rs k9 _ m1 m7 (by omega) (RulesAt.same hrs sn) upd_same (sn _ _ hp9) (stf_fresh S8 B8 hp0).1 (stf_fresh S8 (But.refl _ _) hp0).2 (by omega) (S9.same sn) ((B8.trans B9).trans sn.but)
end
end Own

namespace Own
open PySem L2
section
variable {P : Program} {w : World} {K : PySem.W.Frag} {mg : Str → Option Value} {base : Heap}
seal PySem.wpAny
noncomputable abbrev sCho : Stmt := top 38
noncomputable abbrev outSc61 : Scope := { kind := .function, names := [(".0", .local), ("_law_row", .cell), ("range", .globalImplicit), ("_law_block", .cell), ("_law_many", .cell)], isGenerator := false, isCoroutine := false }
theorem scCho : FnScope ["_law_state", "_law_many", "_law_blocks", "_law_bits", "_law_block", "_law_names", "_law_rows", "_law_row", "_law_turn"] ["_law_state", "_law_many", "_law_blocks"] (defScope sCho) := ⟨rfl, rfl, rfl, by decide +kernel, rfl, by decide +kernel, by decide +kernel⟩
theorem noVisCh : ¬ Vis (defScope sCho) "" := by rintro (h | h | h) <;> exact absurd h (by decide +kernel)
theorem ok_cho {f fT fG : Addr} {fd fdT fdG : FuncData} (F : Fun K "_law_choices" "_law_choices" sCho f fd) (GT : FnOk P w K mg base CX0 1 fT fdT ["_law_state", "_law_most"] (spTakeF K)) (mT : mg "_law_take" = some (.ref fT)) (kT : PySem.W.keepIn K (.ref fT) = true) (bT : Binds K fdT ["_law_state", "_law_most"] []) (GG : FnOk P w K mg base CX0 1 fG fdG ["_law_some", "_law_k"] spHas2) (mG : mg "_law_has" = some (.ref fG)) (kG : PySem.W.keepIn K (.ref fG) = true) (bG : Binds K fdG ["_law_some", "_law_k"] []) (zrange : mg "range" = none) (zlen : mg "len" = none) (zint : mg "int" = none) (ztuple : mg "tuple" = none) : FnOk P w K mg base CX0 2 f fd ["_law_state", "_law_many", "_law_blocks"] (spChoices61 K) := by
  refine F.ok scCho (fun vs H Q E h => ?_) (fun cdv A outer s H vs Q E hr h => ?_)
  · obtain ⟨st, bl, ns, k, m, os, rfl, _⟩ := h
    rfl
  · obtain ⟨st, bl, ns, k, m, os, rfl, S, hk, hl, m1, m7, hbl, qq⟩ := h
    have nd := scCho.nd
    have hr1 : Room 1 _ := hr.mono (by decide)
    have lb : (os.take 4).length ≤ 4 := List.length_take_le _ _
    obtain ⟨bs, hbs⟩ : ∃ bs, bs = os.take 4 := ⟨_, rfl⟩
    rw [← hbs] at lb qq
    have lbm : (bs.map vN).length = bs.length := List.length_map ..
    refine ⟨_, (pss_cons (ps_set (i := 3) nd rfl (Or.inl rfl) (pe_lst (pa_cons (pe_comp (xs := ["_law_k"]) (cs ["_law_state", "_law_many", "_law_blocks", "_law_bits", "_law_block", "_law_names", "_law_rows", "_law_row", "_law_turn"] (defScope sCho) rfl rfl (by decide +kernel)) rfl (pi_range1 rfl zrange (pa_cons (pv 1) pa_nil)) (fun _ _ _ => pg_name (i := 0) (show (["_law_k", "_law_state", "_law_many", "_law_blocks", "_law_bits", "_law_block", "_law_names", "_law_rows", "_law_row", "_law_turn"] : List Str).Nodup by decide +kernel) rfl (Or.inl rfl)) (fun _ _ _ => pts_nil) (fun _ _ _ => pe_int)) pa_nil))) (pss_cons (ps_for PassesOwn.never rfl (pi_listK (K := K) rfl (pe_slice sl_list (pv 2) po_none (po_some pe_int))) (pg_name (i := 4) nd rfl (Or.inr rfl)) (pss_one (ps_set (i := 3) nd rfl (Or.inl rfl) (pe_op op_cat (pv 3) (pe_hide 7 (show ¬ Vis (defScope sCho) "" from noVisCh) (pe_comp1 (x0 := "_law_row") (cs1 ["_law_state", "_law_many", "_law_blocks", "_law_bits", "_law_block", "_law_names", "_law_rows", "", "_law_turn"] (defScope sCho) rfl rfl (by decide +kernel) (fun _ _ => rfl) (fun _ => rfl)) rfl (pi_listK (K := K) rfl (pv 3)) (fun _ _ _ => pg_name (i := 0) (show (["_law_row", "_law_state", "_law_many", "_law_blocks", "_law_bits", "_law_block", "_law_names", "_law_rows", "", "_law_turn"] : List Str).Nodup by decide +kernel) rfl (Or.inr rfl)) (fun _ _ _ => pts_nil) (fun _ _ _ => (pe_comp (xs := ["_law_k"]) (cs ["_law_row", "_law_state", "_law_many", "_law_blocks", "_law_bits", "_law_block", "_law_names", "_law_rows", "", "_law_turn"] outSc61 rfl rfl (by decide +kernel)) rfl (pi_range1 rfl zrange (pa_cons (pv 2) pa_nil)) (fun _ _ _ => pg_name (i := 0) (show (["_law_k", "_law_row", "_law_state", "_law_many", "_law_blocks", "_law_bits", "_law_block", "_law_names", "_law_rows", "", "_law_turn"] : List Str).Nodup by decide +kernel) rfl (Or.inl rfl)) (fun _ _ _ => pts_nil) (fun _ _ _ => (pe_op op_orN (pe_ix (ix_listK (K := K) rfl) (pv 1) (pv 0) (fun _ _ => rfl)) (pe_callTy call_int1 (by rfl) zint PyProof.Rows.boot_int (pa_cons (pe_call GG hr1 rfl mG kG bG .nil pass0 (pa_cons (pv 6) (pa_cons (pv 0) pa_nil))) pa_nil)))))))))))) (pss_cons (ps_set (i := 5) nd rfl (Or.inr rfl) (pe_comp (xs := ["_law_k"]) (cs ["_law_state", "_law_many", "_law_blocks", "_law_bits", "_law_block", "_law_names", "_law_rows", "_law_row", "_law_turn"] (defScope sCho) rfl rfl (by decide +kernel)) rfl (pi_range1 rfl zrange (pa_cons (pv 1) pa_nil)) (fun _ _ _ => pg_name (i := 0) (show (["_law_k", "_law_state", "_law_many", "_law_blocks", "_law_bits", "_law_block", "_law_names", "_law_rows", "_law_row", "_law_turn"] : List Str).Nodup by decide +kernel) rfl (Or.inl rfl)) (fun _ _ _ => pts_nil) (fun _ _ _ => (pe_tup (pa_cons (pe_call GT hr1 rfl mT kT bT .nil pass0 (pa_cons (pv 1) (pa_cons (pe_op op_pow pe_int pe_int) pa_nil))) (pa_cons (pe_op op_add pe_int (pe_call GT hr1 rfl mT kT bT .nil pass0 (pa_cons (pv 1) (pa_cons (pe_op op_pow pe_int pe_int) pa_nil)))) pa_nil)))))) (pss_cut (fun σ H' => ∃ (bt nl : Addr) (as : List Addr) (ps : List NM) (k' : Nat) (v4 : Option V), σ = [some (.ref st), some (vN m), some (.ref bl), some (.ref bt), v4, some (.ref nl), none, none, none] ∧ STF K H' st ns k' ∧ k' ≤ k + 20 ∧ But st H H' ∧ H' bt = some (.lst (as.map V.ref)) ∧ BitsAt H' m as (dblS bs bs.length) ∧ H' nl = some (.lst (ps.map fun p => V.ref p.1)) ∧ ps.length = m ∧ NmOk H' ps) (ps_if (pt_cmpR op_eqN (pe_call GT hr1 rfl mT kT bT .nil pass0 (pa_cons (pv 0) (pa_cons pe_int pa_nil))) pe_int (nomark _)) (pss_one (ps_set (i := 5) nd rfl (Or.inr rfl) (pe_comp (xs := ["_law_k"]) (cs ["_law_state", "_law_many", "_law_blocks", "_law_bits", "_law_block", "_law_names", "_law_rows", "_law_row", "_law_turn"] (defScope sCho) rfl rfl (by decide +kernel)) rfl (pi_range1 rfl zrange (pa_cons (pv 1) pa_nil)) (fun _ _ _ => pg_name (i := 0) (show (["_law_k", "_law_state", "_law_many", "_law_blocks", "_law_bits", "_law_block", "_law_names", "_law_rows", "_law_row", "_law_turn"] : List Str).Nodup by decide +kernel) rfl (Or.inl rfl)) (fun _ _ _ => pts_nil) (fun _ _ _ => (pe_tup (pa_cons (pe_op op_sub pe_int (pe_op op_pow pe_int pe_int)) (pa_cons (pe_op op_add (pe_op op_pow pe_int pe_int) pe_int) pa_nil))))))) pss_nil) (pss_cons (ps_set (i := 6) nd rfl (Or.inl rfl) (pe_lst pa_nil)) (pss_cons (ps_for PassesOwn.never rfl (pi_listK (K := K) rfl (pv 3)) (pg_name (i := 7) nd rfl (Or.inr rfl)) (pss_one (ps_expr (pe_bm PySem.F.plainAttrs_list PySem.F.slot_list_append PySem.F.type_list_append mt_append (pv 6) (pa_cons (pe_callTy (call_tupleK (K := K) rfl) (by rfl) ztuple PyProof.Rows.boot_tuple (pa_cons (pe_comp (xs := ["_law_k"]) (cs ["_law_state", "_law_many", "_law_blocks", "_law_bits", "_law_block", "_law_names", "_law_rows", "_law_row", "_law_turn"] (defScope sCho) rfl rfl (by decide +kernel)) rfl (pi_range1 rfl zrange (pa_cons (pv 1) pa_nil)) (fun _ _ _ => pg_name (i := 0) (show (["_law_k", "_law_state", "_law_many", "_law_blocks", "_law_bits", "_law_block", "_law_names", "_law_rows", "_law_row", "_law_turn"] : List Str).Nodup by decide +kernel) rfl (Or.inl rfl)) (fun _ _ _ => pts_nil) (fun _ _ _ => (pe_op op_add (pe_ix (ix_tupK (K := K) rfl) (pe_ix (ix_listK (K := K) rfl) (pv 6) (pv 0) (fun _ _ => rfl)) pe_int (fun _ _ => rfl)) (pe_op op_mul (pe_ix (ix_tupK (K := K) rfl) (pe_ix (ix_listK (K := K) rfl) (pv 6) (pv 0) (fun _ _ => rfl)) pe_int (fun _ _ => rfl)) (pe_ix (ix_listK (K := K) rfl) (pv 8) (pv 0) (fun _ _ => rfl)))))) pa_nil)) pa_nil))))) (pss_cons (ps_set (i := 8) nd rfl (Or.inl rfl) (pe_call GT hr1 rfl mT kT bT .nil pass0 (pa_cons (pv 0) (pa_cons (pe_callB (call_lenK (K := K) rfl) (by rfl) zlen PySem.boot_len (pa_cons (pv 6) pa_nil)) pa_nil)))) (pss_one (ps_ret (pe_op op_cat (pe_slice sl_list (pv 6) (po_some (pv 8)) po_none) (pe_slice sl_list (pv 6) po_none (po_some (pv 8))))))))))))), ?_⟩
    refine ⟨_, rfl, (m : Int), rfl, by omega, by omega, lc_rangeN (k := m) (n := 1) (fun i acc H' => H' = H ∧ acc = ((List.range i).map fun c => if hasB 0 c = true then 1 else 0).map vN) (by omega) ⟨rfl, rfl⟩ (fun i acc H' hi h => ?_) (fun i acc H' hi h => ?_) (fun acc H' h => ?_)⟩
    · rw [h.2, List.length_map, List.length_map, List.length_range]; exact Nat.le_refl _
    · obtain ⟨rfl, rfl⟩ := h
      refine ⟨rfl, rfl, ?_⟩
      have e : hasB 0 i = false := by rw [has_bit, Nat.zero_testBit]
      rw [List.range_succ, List.map_append, List.map_append, List.map_singleton, e]
      rfl
    obtain ⟨rfl, rfl⟩ := h
    intro z0 hz0
    have sz := Same.new (o := .lst ((bitR m 0).map vN)) hz0
    have hz1 : (upd H' z0 (.lst ((bitR m 0).map vN))) z0 = some (.lst ((bitR m 0).map vN)) := upd_same
    refine ⟨(by show 1 ≤ sizeLine; decide), fun bt hbt => ?_⟩
    have zne : z0 ≠ st := (stf_fresh S (But.refl _ _) hz0).2
    have nb0 : bt ≠ st := (stf_fresh (S.same sz) (But.refl _ _) hbt).2
    have s1 := sz.trans (Same.new (o := .lst [V.ref z0]) hbt)
    have hbt1 : (upd (upd H' z0 (.lst ((bitR m 0).map vN))) bt (.lst [V.ref z0])) bt = some (.lst ([z0].map V.ref)) := upd_same
    have hz2 := (Same.new (o := .lst [V.ref z0]) hbt) _ _ hz1
    have S1 := S.same s1
    dsimp only
    unfold bitR at s1 hbt1 hz2 S1
    generalize upd (upd H' z0 (.lst (((List.range m).map fun c => if hasB 0 c = true then 1 else 0).map vN))) bt (.lst [V.ref z0]) = H1 at s1 hbt1 hz2 S1
    clear sz hz1 hbt
    refine ⟨_, rfl, ((4 : Nat) : Int), rfl, bl, _, rfl, s1.seq hbl, fun sp hsp => ?_⟩
    rw [cut_take, ← List.map_take]
    rw [← hbs]
    have s2 := Same.new (o := .lst (bs.map vN)) hsp
    have hsp2 : (upd H1 sp (.lst (bs.map vN))) sp = some (.lst (bs.map vN)) := upd_same
    have hbt2 := s2 _ _ hbt1
    have S2 := S1.same s2
    have s02 := s1.trans s2
    have B2 : BitsAt (upd H1 sp (.lst (bs.map vN))) m [z0] (dblS bs 0) := ⟨rfl, fun i a t h1 h2 => by
      cases i with
      | zero =>
        obtain rfl : z0 = a := Option.some.inj h1
        obtain rfl : 0 = t := Option.some.inj h2
        exact s2 _ _ hz2
      | succ i => simp at h1⟩
    generalize upd H1 sp (.lst (bs.map vN)) = H2 at s2 hsp2 hbt2 S2 s02 B2
    refine ⟨sp, rfl, ⟨_, SqL.of hsp2⟩, for_list (xs := bs.map vN) (fun j σ H3 => ∃ (bt : Addr) (as : List Addr) (v4 : Option V), σ = [some (.ref st), some (vN m), some (.ref bl), some (.ref bt), v4, none, none, none, none] ∧ Same H2 H3 ∧ H3 bt = some (.lst (as.map V.ref)) ∧ BitsAt H3 m as (dblS bs j) ∧ bt ≠ st ∧ ∀ a ∈ as, a ≠ st) ⟨bt, [z0], _, rfl, Same.refl _, hbt2, B2, nb0, fun a ha => by rw [List.mem_singleton.mp ha]; exact zne⟩ (fun j σ H3 _ h => by obtain ⟨_, _, _, _, s', _⟩ := h; exact SqL.of (s' _ _ hsp2)) ?_ ?_⟩
    · rintro j v σ H3 hv ⟨bt, as, v4, rfl, s3, hbt3, B3, nbt, nas⟩
      rw [List.getElem?_map] at hv
      cases eb : bs[j]? with
      | none => rw [eb] at hv; cases hv
      | some b =>
        rw [eb] at hv
        obtain rfl := (Option.some.inj hv).symm
        have hj := (List.getElem?_eq_some_iff.mp eb).1
        have gb : bs.getD j 0 = b := by rw [List.getD_eq_getElem?_getD, eb]; rfl
        have las : as.length = 2 ^ j := B3.1.trans (dbl_len bs j)
        have p4 : 2 ^ j ≤ 2 ^ 4 := Nat.pow_le_pow_right (by decide) (by omega)
        have S3 := S2.same s3
        refine ⟨_, rfl, (fun v h => by cases h), _, rfl, bt, rfl, ⟨_, SqL.of hbt3⟩, lc_list (xs := as.map V.ref) (fun i acc H4 => ∃ cs : List Addr, acc = cs.map V.ref ∧ cs.length = i ∧ Same H3 H4 ∧ BitsAt H4 m cs (((dblS bs j).take i).map (· ||| b)) ∧ ∀ a ∈ cs, a ≠ st) (by rw [List.length_map]; omega) ⟨[], rfl, rfl, Same.refl _, ⟨rfl, fun i a t h1 => by simp at h1⟩, fun a h => absurd h List.not_mem_nil⟩ (fun i acc H4 hi h => ?_) (fun i v acc H4 hv4 h => ?_) (fun acc H4 h => ?_)⟩
        · obtain ⟨cs, rfl, lc, s4, _⟩ := h
          exact ⟨SqL.of (s4 _ _ hbt3), by rw [List.length_map, lc]; exact Nat.le_refl _⟩
        · obtain ⟨cs, rfl, lc, s4, B4, ncs⟩ := h
          rw [List.getElem?_map] at hv4
          cases ea : as[i]? with
          | none => rw [ea] at hv4; cases hv4
          | some a =>
            rw [ea] at hv4
            obtain rfl := (Option.some.inj hv4).symm
            have hia : i < (dblS bs j).length := by rw [← B3.1]; exact (List.getElem?_eq_some_iff.mp ea).1
            have es : (dblS bs j)[i]? = some (dblS bs j)[i] := List.getElem?_eq_getElem hia
            obtain ⟨x, hx⟩ : ∃ x, x = (dblS bs j)[i] := ⟨_, rfl⟩
            rw [← hx] at es
            have ha4 := s4 _ _ (B3.2 i a x ea es)
            refine ⟨rfl, _, rfl, (m : Int), rfl, by omega, by omega, lc_rangeN (k := m) (n := 1) (fun c acc2 H5 => H5 = H4 ∧ acc2 = ((List.range c).map fun c => if hasB (x ||| b) c = true then 1 else 0).map vN) (by omega) ⟨rfl, rfl⟩ (fun c acc2 H5 hc h => ?_) (fun c acc2 H5 hc h => ?_) (fun acc2 H5 h => ?_)⟩
            · rw [h.2, List.length_map, List.length_map, List.length_range]; exact Nat.le_refl _
            · obtain ⟨rfl, rfl⟩ := h
              have lr : c < (bitR m x).length := by rw [bitR_len]; exact hc
              refine ⟨rfl, _, rfl, _, rfl, a, _, _, _, rfl, rfl, SqL.of ha4, atI_nat (j := c) (v := vN ((bitR m x).getD c 0)) (by rw [List.getElem?_map, List.getD_eq_getElem?_getD, List.getElem?_eq_getElem lr]; rfl), _, rfl, _, rfl, b, c, rfl, by omega, .inr ⟨_, rfl, ?_⟩⟩
              have fin : ∀ z : Nat, z = (if hasB b c = true then 1 else 0) → ((List.range c).map fun c => if hasB (x ||| b) c = true then 1 else 0).map vN ++ [vN ((bitR m x).getD c 0 ||| z)] = ((List.range (c + 1)).map fun c => if hasB (x ||| b) c = true then 1 else 0).map vN := fun z ez => by
                rw [List.range_succ, List.map_append, List.map_append, List.map_singleton, bitR_get hc, ez, or_bit]
                rfl
              cases hb' : hasB b c with
              | true => exact ⟨_, 1, rfl, rfl, rfl, fin 1 (by rw [hb']; rfl)⟩
              | false => exact ⟨_, 0, rfl, rfl, rfl, fin 0 (by rw [hb']; rfl)⟩
            · obtain ⟨rfl, rfl⟩ := h
              intro ca hca
              have sc := Same.new (o := .lst ((bitR m (x ||| b)).map vN)) hca
              refine ⟨cs ++ [ca], by rw [List.map_append]; rfl, by rw [List.length_append, lc]; rfl, s4.trans sc, ?_, fun a' ha' => ?_⟩
              · have eT : ((dblS bs j).take (i + 1)).map (· ||| b) = ((dblS bs j).take i).map (· ||| b) ++ [x ||| b] := by
                  rw [List.take_succ, es, List.map_append]
                  rfl
                rw [eT]
                exact (B4.same sc).snoc upd_same
              · rcases List.mem_append.mp ha' with h | h
                · exact ncs a' h
                · rw [List.mem_singleton.mp h]
                  exact (stf_fresh (S3.same s4) (But.refl _ _) hca).2
        · obtain ⟨cs, rfl, lc, s4, B4, ncs⟩ := h
          intro d hd
          have sd := s4.trans (Same.new (o := .lst (cs.map V.ref)) hd)
          rw [List.length_map] at lc
          refine ⟨bt, d, _, _, rfl, rfl, sd _ _ hbt3, upd_same, Nat.le_of_lt (small1000 (by rw [List.length_map, List.length_map]; omega)), fun np hnp => ?_⟩
          have sn := sd.trans (Same.new (o := .lst (as.map V.ref ++ cs.map V.ref)) hnp)
          refine ⟨np, as ++ cs, _, rfl, s3.trans sn, by rw [upd_same, List.map_append], ?_, (stf_fresh (S3.same sd) (But.refl _ _) hnp).2, fun a ha => ?_⟩
          · rw [dblS, gb]
            rw [List.length_map, las, ← dbl_len bs j, List.take_length] at B4
            exact (B3.same sn).app (B4.same ((Same.new (o := .lst (cs.map V.ref)) hd).trans (Same.new (o := .lst (as.map V.ref ++ cs.map V.ref)) hnp)))
          · rcases List.mem_append.mp ha with h | h
            · exact nas a h
            · exact ncs a h
    clear B2 hbt2 hbt1 hz2 zne
    rintro σ H3 ⟨bt, as, v4, rfl, s3, hbt3, B3, nbt, nas⟩
    rw [lbm] at B3
    have S3 := S2.same s3
    have b03 : But st H' H3 := (s02.trans s3).but
    refine ⟨_, rfl, (m : Int), rfl, by omega, by omega, lc_rangeN (k := m) (n := 1) (fun i acc H4 => ∃ ps : List NM, acc = (ps.map fun p => V.ref p.1) ∧ ps.length = i ∧ NmOk H4 ps ∧ STF K H4 st ns (k + 2 * i) ∧ But st H3 H4) (by omega) ⟨[], rfl, rfl, ⟨(fun p h => absurd h List.not_mem_nil), (fun p h => absurd h List.not_mem_nil)⟩, S3, But.refl _ _⟩ (fun i acc H4 hi h => ?_) (fun i acc H4 hi h => ?_) (fun acc H4 h => ?_)⟩
    · obtain ⟨ps, rfl, e, _⟩ := h
      rw [List.length_map, e]; exact Nat.le_refl _
    · obtain ⟨ps, rfl, e, N4, S4, B4⟩ := h
      refine ⟨rfl, _, rfl, 10, 9, rfl, rfl, ⟨by decide, by decide, by decide⟩, st, ns, k + 2 * i, 10 ^ (9 : Int).toNat, rfl, S4, by omega, hl, by decide, fun r5 H5 a5 b5 S5 B5 => ?_⟩
      refine ⟨_, rfl, 10, 9, rfl, rfl, ⟨by decide, by decide, by decide⟩, st, ns, k + 2 * i + 1, 10 ^ (9 : Int).toNat, rfl, S5, by omega, hl, by decide, fun r6 H6 a6 b6 S6 B6 => ?_⟩
      refine ⟨1, r6, rfl, rfl, (by show 2 ≤ sizeLine; decide), fun t ht => ?_⟩
      have sT := Same.new (o := .tup [V.int r5, V.int (1 + r6)]) ht
      refine ⟨ps ++ [(t, r5, r5 + (1 + r6))], by rw [List.map_append]; rfl, by rw [List.length_append, e]; rfl, N4.snoc (fun t' xs h' => sT _ _ (stf_tup S4 (B5.trans B6) h')) upd_same (by omega), ?_, ((B4.trans B5).trans B6).trans sT.but⟩
      rw [show k + 2 * (i + 1) = k + 2 * i + 1 + 1 by omega]
      exact S6.same sT
    obtain ⟨ps, rfl, lps, N4, S4, B4⟩ := h
    intro nl hnl
    have sn := Same.new (o := .lst (ps.map fun p => V.ref p.1)) hnl
    have hnl5 : (upd H4 nl (.lst (ps.map fun p => V.ref p.1))) nl = some (.lst (ps.map fun p => V.ref p.1)) := upd_same
    have S5 := S4.same sn
    have N5 := N4.tup fun t xs h => sn _ _ h
    have b35 := B4.trans sn.but
    have nns : nl ≠ st := (stf_fresh S4 (But.refl _ _) hnl).2
    dsimp only
    generalize upd H4 nl (.lst (ps.map fun p => V.ref p.1)) = H5 at sn hnl5 S5 N5 b35
    refine ⟨⟨_, rfl, st, ns, k + 2 * m, 3, rfl, S5, by omega, hl, by decide, fun r7 H7 a7 b7 S7 B7 => ?_⟩, ?_⟩
    · obtain ⟨n7, rfl, hn7⟩ := nat_of (n := 3) a7 b7
      have b37 := b35.trans B7
      have hbt7 := b37 _ _ hbt3 nbt
      have B37 := B3.but b37 nas
      refine ⟨n7, 0, rfl, rfl, _, rfl, ite2 (fun _ => ?_) (fun _ => ?_)⟩
      · refine ⟨_, rfl, (m : Int), rfl, by omega, by omega, lc_rangeN (k := m) (n := 1) (fun i acc H8 => ∃ ps : List NM, acc = (ps.map fun p => V.ref p.1) ∧ ps.length = i ∧ NmOk H8 ps ∧ Same H7 H8) (by omega) ⟨[], rfl, rfl, ⟨(fun p h => absurd h List.not_mem_nil), (fun p h => absurd h List.not_mem_nil)⟩, Same.refl _⟩ (fun i acc H8 hi h => ?_) (fun i acc H8 hi h => ?_) (fun acc H8 h => ?_)⟩
        · obtain ⟨ps, rfl, e, _⟩ := h
          rw [List.length_map, e]; exact Nat.le_refl _
        · obtain ⟨ps, rfl, e, N8, s8⟩ := h
          refine ⟨rfl, 10, 59, rfl, rfl, ⟨by decide, by decide, by decide⟩, 0, 10 ^ (59 : Int).toNat, rfl, rfl, 10, 59, rfl, rfl, ⟨by decide, by decide, by decide⟩, 10 ^ (59 : Int).toNat, 7, rfl, rfl, (by show 2 ≤ sizeLine; decide), fun t ht => ?_⟩
          have sT := Same.new (o := .tup [V.int (0 - 10 ^ (59 : Int).toNat), V.int (10 ^ (59 : Int).toNat + 7)]) ht
          exact ⟨ps ++ [(t, 0 - 10 ^ (59 : Int).toNat, (0 - 10 ^ (59 : Int).toNat) + (10 ^ (59 : Int).toNat + 7))], by rw [List.map_append]; rfl, by rw [List.length_append, e]; rfl, N8.snoc (fun t' xs h' => sT _ _ h') upd_same (by decide), s8.trans sT⟩
        · obtain ⟨ps', rfl, lps', N8, s8⟩ := h
          intro nl' hnl'
          have s9 := Same.new (o := .lst (ps'.map fun p => V.ref p.1)) hnl'
          have s79 := s8.trans s9
          exact ⟨bt, nl', as, ps', k + 2 * m + 1, v4, rfl, S7.same s79, by omega, ((b03.trans b37).trans s79.but), s79 _ _ hbt7, B37.same s79, upd_same, lps', N8.tup fun t xs h => s9 _ _ h⟩
      · exact ⟨bt, nl, as, ps, k + 2 * m + 1, v4, rfl, S7, by omega, b03.trans b37, hbt7, B37, B7 _ _ hnl5 nns, lps, N5.tup fun t xs h => stf_tup S5 B7 h⟩
    clear S5 N5 b35 hnl5 sn hnl S4 B4 N4 lps nns S3 b03 B3 hbt3 s3 nas nbt hsp2 s02 S2 s2 hsp
    rintro _ H9 ⟨bt, nl, as, ps, k9, v4, rfl, S9, hk9, B9, hbt9, BA9, hnl9, lps, N9⟩
    have p16 : as.length = 2 ^ bs.length := BA9.1.trans (dbl_len _ _)
    have p4 : 2 ^ bs.length ≤ 2 ^ 4 := Nat.pow_le_pow_right (by decide) lb
    have p0 : 0 < 2 ^ bs.length := Nat.two_pow_pos _
    refine ⟨(by show 0 ≤ sizeLine; exact Nat.zero_le _), fun rp hrp => ?_⟩
    obtain ⟨hrpH, nrs⟩ := stf_fresh S9 B9 hrp
    have sr := Same.new (o := .lst []) hrp
    have nbr : bt ≠ rp := ne_of_none hbt9 hrp
    have nnr : nl ≠ rp := ne_of_none hnl9 hrp
    have nar : ∀ a ∈ as, a ≠ rp := fun a ha => by
      obtain ⟨i, hi, e⟩ := List.getElem_of_mem ha
      have hi2 : i < (dblS bs bs.length).length := by rw [← BA9.1]; exact hi
      exact ne_of_none (BA9.2 i a _ (by rw [List.getElem?_eq_getElem hi, e]) (List.getElem?_eq_getElem hi2)) hrp
    have hbtA := sr _ _ hbt9
    have hnlA := sr _ _ hnl9
    have SA := S9.same sr
    have NA := N9.tup fun t xs h => sr _ _ h
    have BAA := BA9.same sr
    have BA := B9.trans sr.but
    have hrpA : (upd H9 rp (.lst [])) rp = some (.lst []) := upd_same
    dsimp only
    generalize upd H9 rp (.lst []) = HA at sr hbtA hnlA SA NA BAA hrpA BA
    clear hbt9 hnl9 S9 N9 BA9 B9 hrp
    refine ⟨_, rfl, bt, rfl, ⟨_, SqL.of hbtA⟩, for_list (xs := as.map V.ref) (fun i σ HB => (∃ v7, σ = [some (.ref st), some (vN m), some (.ref bl), some (.ref bt), v4, some (.ref nl), some (.ref rp), v7, none]) ∧ But rp HA HB ∧ STF K HB st ns k9 ∧ ∃ T : List RW, HB rp = some (.lst (refsOf T)) ∧ RowsOk HB m T ∧ T.map (·.2) = ((dblS bs bs.length).take i).map fun x => (List.range m).map fun c => if hasB x c = true then hiP ps c else loP ps c) ⟨⟨_, rfl⟩, But.refl _ _, SA, [], hrpA, (fun r h => absurd h List.not_mem_nil), rfl⟩ (fun i σ HB _ h => SqL.of (h.2.1 _ _ hbtA nbr)) ?_ ?_⟩
    · rintro i v σ HB hv ⟨⟨v7, rfl⟩, BB, SB, T, hrpB, RB, eT⟩
      rw [List.getElem?_map] at hv
      cases ea : as[i]? with
      | none => rw [ea] at hv; cases hv
      | some a =>
        rw [ea] at hv
        obtain rfl := (Option.some.inj hv).symm
        have hia : i < (dblS bs bs.length).length := by rw [← BAA.1]; exact (List.getElem?_eq_some_iff.mp ea).1
        have es : (dblS bs bs.length)[i]? = some (dblS bs bs.length)[i] := List.getElem?_eq_getElem hia
        obtain ⟨x, hx⟩ : ∃ x, x = (dblS bs bs.length)[i] := ⟨_, rfl⟩
        rw [← hx] at es
        have haB := BB _ _ (BAA.2 i a x ea es) (nar a (List.mem_of_getElem? ea))
        have hnlB := BB _ _ hnlA nnr
        have NB := NA.tup fun t xs h => BB t _ h fun z => by rw [z, hrpA] at h; cases h
        have lT : T.length ≤ 16 := by
          have h1 := congrArg List.length eT
          have h2 := List.length_take_le i (dblS bs bs.length)
          have h3 := List.length_take_le' i (dblS bs bs.length)
          rw [dbl_len] at h3
          rw [List.length_map, List.length_map] at h1
          omega
        refine ⟨_, rfl, .inl ⟨rfl, _, SqL.of hrpB⟩, _, rfl, (m : Int), rfl, by omega, by omega, lc_rangeN (k := m) (n := 1) (fun c acc HC => HC = HB ∧ acc = ((List.range c).map fun c => if hasB x c = true then hiP ps c else loP ps c).map V.int) (by omega) ⟨rfl, rfl⟩ (fun c acc HC hc h => ?_) (fun c acc HC hc h => ?_) (fun acc HC h => ?_)⟩
        · rw [h.2, List.length_map, List.length_map, List.length_range]; exact Nat.le_refl _
        · obtain ⟨rfl, rfl⟩ := h
          have hps : c < ps.length := by omega
          have ep : ps[c]? = some ps[c] := List.getElem?_eq_getElem hps
          have enl : (ps.map fun p => V.ref p.1)[c]? = some (V.ref ps[c].1) := by rw [List.getElem?_map, ep]; rfl
          have tp := NB.1 _ (List.getElem_mem hps)
          have elo : loP ps c = ps[c].2.1 := by unfold loP; rw [ep]
          have ehi : hiP ps c = ps[c].2.2 := by unfold hiP; rw [ep]
          have lr : c < (bitR m x).length := by rw [bitR_len]; exact hc
          have eb : ((bitR m x).map vN)[c]? = some (vN ((bitR m x).getD c 0)) := by rw [List.getElem?_map, List.getD_eq_getElem?_getD, List.getElem?_eq_getElem lr]; rfl
          have gb : (bitR m x).getD c 0 = if hasB x c = true then 1 else 0 := bitR_get hc
          have b1 : (bitR m x).getD c 0 ≤ 1 := by rw [gb]; split <;> omega
          have ev : ps[c].2.1 + (ps[c].2.2 - ps[c].2.1) * (((bitR m x).getD c 0 : Nat) : Int) = if hasB x c = true then hiP ps c else loP ps c := by
            rw [gb, elo, ehi]
            by_cases z : hasB x c = true
            · rw [if_pos z, if_pos z]
              show ps[c].2.1 + (ps[c].2.2 - ps[c].2.1) * 1 = ps[c].2.2
              omega
            · rw [if_neg z, if_neg z]
              show ps[c].2.1 + (ps[c].2.2 - ps[c].2.1) * 0 = ps[c].2.1
              omega
          refine ⟨rfl, _, rfl, _, rfl, nl, _, _, _, rfl, rfl, SqL.of hnlB, atI_nat (j := c) enl, ps[c].1, _, _, _, rfl, rfl, SqT.of tp, atI_nat (j := 0) rfl, _, rfl, _, rfl, nl, _, _, _, rfl, rfl, SqL.of hnlB, atI_nat (j := c) enl, ps[c].1, _, _, _, rfl, rfl, SqT.of tp, atI_nat (j := 1) rfl, _, rfl, _, rfl, a, _, _, _, rfl, rfl, SqL.of haB, atI_nat (j := c) eb, ps[c].2.2 - ps[c].2.1, (((bitR m x).getD c 0 : Nat) : Int), rfl, rfl, .inr ⟨by omega, by omega⟩, ps[c].2.1, _, rfl, rfl, rfl, ?_⟩
          rw [List.range_succ, List.map_append, List.map_append, List.map_singleton, ← ev]
          rfl
        · obtain ⟨rfl, rfl⟩ := h
          obtain ⟨row, hrow⟩ : ∃ row, row = (List.range m).map fun c => if hasB x c = true then hiP ps c else loP ps c := ⟨_, rfl⟩
          have lrow : row.length = m := by rw [hrow, List.length_map, List.length_range]
          rw [← hrow]
          intro d hd
          refine ⟨d, _, rfl, .inl ⟨SqL.of upd_same, fun t ht => ?_⟩⟩
          have sS := (Same.new (o := .lst (row.map V.int)) hd).trans (Same.new (o := .tup (row.map V.int)) ht)
          have htC : (upd (upd HC d (.lst (row.map V.int))) t (.tup (row.map V.int))) t = some (.tup (row.map V.int)) := upd_same
          have hrpC := sS _ _ hrpB
          have SC := SB.same sS
          have RC := RB.same sS
          have BC : But rp HA (upd (upd HC d (.lst (row.map V.int))) t (.tup (row.map V.int))) := BB.trans sS.but
          generalize upd (upd HC d (.lst (row.map V.int))) t (.tup (row.map V.int)) = HD at sS htC hrpC SC RC BC
          refine ⟨rp, _, _, rfl, rfl, hrpC, by unfold refsOf; rw [List.length_map]; exact small1000 (by omega), ⟨_, rfl⟩, BC.trans (But.put _ _ _), SC.put hrpC nrs, T ++ [(t, row)], ?_, fun r hr0 => ?_, ?_⟩
          · rw [upd_same]; unfold refsOf; rw [List.map_append]; rfl
          · rcases List.mem_append.mp hr0 with hr0 | hr0
            · exact ⟨tup_put hrpC _ _ (RC r hr0).1, (RC r hr0).2⟩
            · rw [List.mem_singleton.mp hr0]
              exact ⟨tup_put hrpC _ _ htC, lrow⟩
          · rw [List.map_append, eT, List.take_succ, es, List.map_append, hrow]
            rfl
    · rintro σ HB ⟨⟨v7, rfl⟩, BB, SB, T, hrpB, RB, eT⟩
      rw [List.length_map, p16, ← dbl_len bs bs.length, List.take_length, dbl_eq, List.map_map] at eT
      have eT' : T.map (·.2) = (List.range (2 ^ bs.length)).map (rowC m (loP ps) (hiP ps) bs) := by
        rw [eT]
        exact List.map_congr_left fun n _ => rowC_chosen _ _ _ _ _
      have lT : T.length = 2 ^ bs.length := by
        have := congrArg List.length eT'
        rwa [List.length_map, List.length_map, List.length_range] at this
      have lrf : (refsOf T).length = T.length := List.length_map ..
      have bHB : But st H' HB := fun c o e n => by
        have h1 := BA c o e n
        exact BB c o h1 fun z => by rw [z, hrpH] at e; cases e
      refine ⟨_, rfl, _, rfl, rp, _, rfl, .inl (SqL.of hrpB), st, ns, k9, (((refsOf T).length : Nat) : Int), rfl, SB, by omega, hl, by omega, fun r HC aC bC SC BC => ?_⟩
      obtain ⟨j, rfl, hj⟩ := nat_of aC bC
      have hrpC := BC _ _ hrpB nrs
      have RC : RowsOk HC m T := fun r hr0 => ⟨stf_tup SB BC (RB r hr0).1, (RB r hr0).2⟩
      refine ⟨_, rfl, _, rfl, (j : Int), rfl, rp, _, rfl, SqL.of hrpC, fun p1 hp1 => ?_⟩
      rw [cut_drop]
      have s1' := Same.new (o := .lst ((refsOf T).drop j)) hp1
      refine ⟨_, rfl, _, rfl, (j : Int), rfl, rp, _, rfl, SqL.of (s1' _ _ hrpC), fun p2 hp2 => ?_⟩
      rw [cut_take]
      have s2' := Same.new (o := .lst ((refsOf T).take j)) hp2
      refine ⟨p1, p2, _, _, rfl, rfl, s2' _ _ upd_same, upd_same, Nat.le_of_lt (small1000 (by rw [List.length_drop, List.length_take]; omega)), fun p3 hp3 => ?_⟩
      have s3' := Same.new (o := .lst ((refsOf T).drop j ++ (refsOf T).take j)) hp3
      have sx := (s1'.trans s2').trans s3'
      have hfr := stf_fresh (SC.same (s1'.trans s2')) ((bHB.trans BC).trans (s1'.trans s2').but) hp3
      refine qq p3 (T.drop j ++ T.take j) (loP ps) (hiP ps) (k9 + 1) _ (loP_ne NA.2) ?_ hfr.1 (by rw [upd_same]; unfold refsOf; rw [List.map_append, List.map_drop, List.map_take]) ?_ (by omega) (SC.same sx) ((bHB.trans BC).trans sx.but) hfr.2
      · rw [← eT', List.map_append]
        refine List.Perm.trans List.perm_append_comm ?_
        rw [← List.map_append, List.take_append_drop]
      · intro r hr0
        have : r ∈ T := by
          rcases List.mem_append.mp hr0 with h | h
          · exact List.mem_of_mem_drop h
          · exact List.mem_of_mem_take h
        exact (RC.same sx) r this
end
end Own

namespace Own
open PySem L2
section
variable {P : Program} {w : World} {K : PySem.W.Frag} {mg : Str → Option Value} {base : Heap}
seal PySem.wpAny
noncomputable def spLaw (K : PySem.W.Frag) : Sp := fun vs H Q _ => ∃ (a : Addr) (ns : List Int), vs = [.ref a] ∧ SqF K H a ns ∧ ns.length ≤ 63 ∧ ∀ H', Q (.bl true) H'
noncomputable abbrev sLaw : Stmt := top 44
theorem scLaw : FnScope ["_law_script", "_law_state", "_law_many", "_law_rules_here", "_law_blocks", "_law_rows", "_law_k", "_law_part", "_law_turn", "_law_found"] ["_law_script"] (defScope sLaw) := ⟨rfl, rfl, rfl, by decide +kernel, rfl, by decide +kernel, by decide +kernel⟩

theorem ok_law {f fT fTB fUN fS fCH fKP fFW fPR fTW : Addr} {fd fdT fdTB fdUN fdS fdCH fdKP fdFW fdPR fdTW : FuncData} (F : Fun K "law" "law" sLaw f fd) (GT : FnOk P w K mg base CX0 1 fT fdT ["_law_state", "_law_most"] (spTakeF K)) (mT : mg "_law_take" = some (.ref fT)) (kT : PySem.W.keepIn K (.ref fT) = true) (bT : Binds K fdT ["_law_state", "_law_most"] []) (GTB : FnOk P w K mg base CX0 4 fTB fdTB ["_law_state"] (spTable61 K)) (mTB : mg "_law_table" = some (.ref fTB)) (kTB : PySem.W.keepIn K (.ref fTB) = true) (bTB : Binds K fdTB ["_law_state"] []) (GUN : FnOk P w K mg base CX0 3 fUN fdUN ["many", "rules", "some"] (spUnfolded K)) (mUN : mg "unfolded" = some (.ref fUN)) (kUN : PySem.W.keepIn K (.ref fUN) = true) (bUN : Binds K fdUN ["many", "rules", "some"] []) (GS : FnOk P w K mg base CX0 2 fS fdS ["_law_state", "_law_many"] (spSetF K)) (mS : mg "_law_set" = some (.ref fS)) (kS : PySem.W.keepIn K (.ref fS) = true) (bS : Binds K fdS ["_law_state", "_law_many"] []) (GCH : FnOk P w K mg base CX0 2 fCH fdCH ["_law_state", "_law_many", "_law_blocks"] (spChoices61 K)) (mCH : mg "_law_choices" = some (.ref fCH)) (kCH : PySem.W.keepIn K (.ref fCH) = true) (bCH : Binds K fdCH ["_law_state", "_law_many", "_law_blocks"] []) (GKP : FnOk P w K mg base CX0 9 fKP fdKP ["book", "rules"] (spKeeps K)) (mKP : mg "keeps" = some (.ref fKP)) (kKP : PySem.W.keepIn K (.ref fKP) = true) (bKP : Binds K fdKP ["book", "rules"] []) (GFW : FnOk P w K mg base CX0 3 fFW fdFW ["_law_state", "_law_many"] (spFew61 K)) (mFW : mg "_law_few" = some (.ref fFW)) (kFW : PySem.W.keepIn K (.ref fFW) = true) (bFW : Binds K fdFW ["_law_state", "_law_many"] []) (GPR : FnOk P w K mg base CX0 11 fPR fdPR ["_law_many", "_law_rules_here", "_law_rows", "_law_part"] (spPart61 K)) (mPR : mg "_law_part_right" = some (.ref fPR)) (kPR : PySem.W.keepIn K (.ref fPR) = true) (bPR : Binds K fdPR ["_law_many", "_law_rules_here", "_law_rows", "_law_part"] []) (GTW : FnOk P w K mg base CX0 5 fTW fdTW ["many", "rules", "part"] (spTwice K)) (mTW : mg "twice" = some (.ref fTW)) (kTW : PySem.W.keepIn K (.ref fTW) = true) (bTW : Binds K fdTW ["many", "rules", "part"] []) (zlist : mg "list" = none) (zrange : mg "range" = none) : FnOk P w K mg base CX0 12 f fd ["_law_script"] (spLaw K) := by
  refine F.ok scLaw (fun vs H Q E h => ?_) (fun cdv A outer s H vs Q E hr h => ?_)
  · obtain ⟨a, ns, rfl, _⟩ := h
    rfl
  · obtain ⟨a, ns, rfl, hS, hlen, q⟩ := h
    have nd := scLaw.nd
    have hr1 : Room 1 _ := hr.mono (by decide)
    have hr2 : Room 2 _ := hr.mono (by decide)
    have hr3 : Room 3 _ := hr.mono (by decide)
    have hr4 : Room 4 _ := hr.mono (by decide)
    have hr5 : Room 5 _ := hr.mono (by decide)
    have hr9 : Room 9 _ := hr.mono (by decide)
    have hr11 : Room 11 _ := hr.mono (by decide)
    refine ⟨_, (pss_cons (ps_set (i := 1) nd rfl (Or.inl rfl) (pe_lst (pa_cons (pv 0) (pa_cons pe_int pa_nil))))
      (pss_cons (ps_asg (pe_call GTB hr4 rfl mTB kTB bTB .nil pass0 (pa_cons (pv 1) pa_nil)) (pg_tup rfl (pgs_cons (pg_name (i := 2) nd rfl (Or.inl rfl)) (pgs_cons (pg_name (i := 3) nd rfl (Or.inl rfl)) pgs_nil))))
      (pss_cons (ps_set (i := 4) nd rfl (Or.inl rfl) (pe_ix (ix_tupK (K := K) rfl) (pe_call GUN hr3 rfl mUN kUN bUN .nil pass0 (pa_cons (pv 2) (pa_cons (pe_callTy (call_listK (K := K) rfl) (by rfl) zlist PyProof.Rows.boot_list (pa_cons (pv 3) pa_nil)) (pa_cons (pe_call GS hr2 rfl mS kS bS .nil pass0 (pa_cons (pv 1) (pa_cons (pv 2) pa_nil))) pa_nil)))) pe_int (fun _ _ => rfl)))
      (pss_cons (ps_set (i := 5) nd rfl (Or.inl rfl) (pe_call GCH hr2 rfl mCH kCH bCH .nil pass0 (pa_cons (pv 1) (pa_cons (pv 2) (pa_cons (pv 4) pa_nil)))))
      (pss_cons (ps_if (pt_not (pt_val (pe_call GKP hr9 rfl mKP kKP bKP .nil pass0 (pa_cons (pe_callTy (call_listK (K := K) rfl) (by rfl) zlist PyProof.Rows.boot_list (pa_cons (pv 5) pa_nil)) (pa_cons (pe_callTy (call_listK (K := K) rfl) (by rfl) zlist PyProof.Rows.boot_list (pa_cons (pv 3) pa_nil)) pa_nil))))) (pss_one (ps_ret pe_bl)) pss_nil)
      (pss_cons (ps_for PassesOwn.never rfl (pi_range1 rfl zrange (pa_cons pe_int pa_nil)) (pg_name (i := 6) nd rfl (Or.inl rfl)) (pss_cons (ps_set (i := 7) nd rfl (Or.inl rfl) (pe_call GFW hr3 rfl mFW kFW bFW .nil pass0 (pa_cons (pv 1) (pa_cons (pv 2) pa_nil))))
      (pss_one (ps_for PassesOwn.never rfl (pi_range1 rfl zrange (pa_cons pe_int pa_nil)) (pg_name (i := 8) nd rfl (Or.inl rfl)) (pss_cons (ps_if (pt_not (pt_val (pe_call GPR hr11 rfl mPR kPR bPR .nil pass0 (pa_cons (pv 2) (pa_cons (pv 3) (pa_cons (pv 5) (pa_cons (pv 7) pa_nil))))))) (pss_one (ps_ret pe_bl)) pss_nil)
      (pss_cons (ps_set (i := 9) nd rfl (Or.inl rfl) (pe_call GTW hr5 rfl mTW kTW bTW .nil pass0 (pa_cons (pv 2) (pa_cons (pe_callTy (call_listK (K := K) rfl) (by rfl) zlist PyProof.Rows.boot_list (pa_cons (pv 3) pa_nil)) (pa_cons (pv 7) pa_nil)))))
      (pss_one (ps_if (pt_cmpR op_notN (pv 9) pe_non (nomark _)) (pss_one (ps_set (i := 7) nd rfl (Or.inl rfl) (pe_ix (ix_listK (K := K) rfl) (pe_lst (pa_cons (pe_op op_orN (pe_ix (ix_tupK (K := K) rfl) (pv 9) pe_int (fun _ _ => rfl)) (pe_ix (ix_tupK (K := K) rfl) (pv 9) pe_int (fun _ _ => rfl))) (pa_cons (pe_op op_andInv (pv 7) (pe_un un_inv (pe_ix (ix_tupK (K := K) rfl) (pv 9) pe_int (fun _ _ => rfl)))) pa_nil))) (pe_call GT hr1 rfl mT kT bT .nil pass0 (pa_cons (pv 1) (pa_cons pe_int pa_nil))) (fun _ _ => rfl)))) pss_nil))))))))
      (pss_one (ps_ret pe_bl)))))))), ?_⟩
    refine ⟨_, rfl, (by show 2 ≤ sizeLine; decide), fun st hst => ?_⟩
    have S0 := STF.start hS hst
    generalize upd H st (.lst [.ref a, .int 0]) = H0 at S0
    refine ⟨_, rfl, st, ns, 0, rfl, S0, by omega, hlen, fun t rp m rs k1 H1 m1 m7 lrs hRs ht hrp hrp0 nrp hk1 S1 B1 => ?_⟩
    refine ⟨t, _, rfl, SqT.of ht, rfl, _, _, rfl, _, _, rfl, rfl, ?_⟩
    refine ⟨_, rfl, _, rfl, rp, _, rfl, .inl (SqL.of hrp), fun hd hhd => ?_⟩
    have s2 := Same.new (o := .lst (rs.map fun (r : Rl) => V.ref r.r)) hhd
    have hhd2 : (upd H1 hd (.lst (rs.map fun (r : Rl) => V.ref r.r))) hd = some (.lst (rs.map fun (r : Rl) => V.ref r.r)) := upd_same
    have nhd : hd ≠ st := (stf_fresh S1 (But.refl _ _) hhd).2
    have S2 := S1.same s2
    have hrp2 := s2 _ _ hrp
    have hRs2 := hRs.same s2
    generalize upd H1 hd (.lst (rs.map fun (r : Rl) => V.ref r.r)) = H2 at s2 hhd2 S2 hrp2 hRs2
    refine ⟨_, rfl, _, rfl, st, ns, k1, m, rfl, S2, by omega, hlen, m1, m7, fun x k3 H3 hx hk3 S3 B3 => ?_⟩
    have hrp3 := B3 _ _ hrp2 nrp
    have hRs3 : RulesAt H3 m rs := fun r hr' => ⟨stf_tup S2 B3 (hRs2 r hr').1, (hRs2 r hr').2⟩
    refine ⟨m, x, hd, rs, rfl, m7, hx, SqL.of (B3 _ _ hhd2 nhd), hRs3, by omega, fun t2 bp qa u sw H4 R s4 ht2 ht2' hbp hbp' hq hq' st1 e1 l1 n1 => ?_⟩
    refine ⟨t2, _, _, _, rfl, rfl, SqT.of ht2', atI_nat (j := 1) rfl, ?_⟩
    have S4 := S3.same s4
    have hrp4 := s4 _ _ hrp3
    have hRs4 := hRs3.same s4
    refine ⟨_, rfl, _, rfl, _, rfl, st, bp, ns, k3, m, u.bs, rfl, S4, by omega, hlen, m1, m7, SqL.of hbp', fun tb T lo hi k5 H5 lh pr htb0 htb hT hk5 S5 B5 ntb => ?_⟩
    have CT : ChT m (rs.map Rl.d) (u.bs.take 4) lo hi T := ⟨chs_of (R.blocks hx) 4, lh, pr⟩
    have lT : T.length ≤ 16 := by
      rw [CT.len]
      exact Nat.pow_le_pow_right (by decide) (List.length_take_le _ _)
    have hrp5 := B5 _ _ hrp4 nrp
    have hRs5 : RulesAt H5 m rs := fun r hr' => ⟨stf_tup S4 B5 (hRs4 r hr').1, (hRs4 r hr').2⟩
    clear hrp4 hRs4 S4 hrp3 hRs3 S3 hrp2 hRs2 S2 hhd2 hq' hbp' ht2' hRs hrp S1 ht
    refine ⟨_, rfl, tb, _, rfl, .inl (SqL.of htb), fun h1 hh1 => ?_⟩
    have s6 := Same.new (o := .lst (refsOf T)) hh1
    refine ⟨_, rfl, rp, _, rfl, .inl (SqL.of (s6 _ _ hrp5)), fun h2 hh2 => ?_⟩
    have s7 := Same.new (o := .lst (rs.map fun (r : Rl) => V.ref r.r)) hh2
    have s57 := s6.trans s7
    refine ⟨h1, h2, T, rs, m, rfl, ⟨SqL.of (s7 _ _ upd_same), hT.same s57, m1, m7, by omega⟩, SqL.of upd_same, by omega, (fun r hr' => (hRs5.same s57) r hr'), fun kb H8 s8 iff => ⟨_, rfl, ?_⟩⟩
    obtain rfl : kb = true := iff.mpr fun r hr' => CT.rok fun b hb => (CT.chs.kept b hb).2.2 r.d (List.mem_map.mpr ⟨r, hr', rfl⟩)
    refine iteF ?_
    have s58 := s57.trans s8
    refine ⟨2, rfl, by decide, by decide, for_rangeN (n := 2) (LwA K a st rp bp tb ns m rs T) ⟨⟨_, _, _, _, rfl⟩, k5, S5.same s58, by omega, s58 _ _ hrp5, hRs5.same s58, s58 _ _ htb, hT.same s58⟩ ?_ ?_⟩
    · rintro i σ H9 hi9 ⟨⟨v6, v7, v8, v9, rfl⟩, k9, S9, hk9, hrp9, hRs9, htb9, hT9⟩
      refine ⟨_, rfl, _, rfl, st, ns, k9, m, rfl, S9, by omega, hlen, m1, m7, fun p kA HA hp hkA SA BA => ?_⟩
      refine ⟨4, rfl, by decide, by decide, for_rangeN (n := 4) (LwB K a st rp bp tb ns m rs T i (some (vN i))) ⟨⟨p, _, _, hp, rfl⟩, LwH.take S9 hrp9 hRs9 htb9 hT9 nrp ntb SA BA (by omega)⟩ ?_ ?_⟩
      · clear hrp9 hRs9 htb9 hT9 SA BA
        rintro j σ HB hj ⟨⟨p, v8', v9', hp, rfl⟩, kB, SB, hkB, hrpB, hRsB, htbB, hTB⟩
        refine ⟨_, rfl, _, rfl, _, rfl, _, rfl, rp, tb, rs, T, u.bs.take 4, lo, hi, p, m, rfl, hrpB, by omega, hRsB, ?_⟩
        refine ⟨?_, ?_, hp, htbB, hTB, by omega, CT, fun HC sC => ⟨_, rfl, iteF ?_⟩⟩
        · exact m1
        · exact m7
        refine ⟨_, rfl, _, rfl, rp, _, rfl, .inl (SqL.of (sC _ _ hrpB)), fun h3 hh3 => ?_⟩
        have sD := Same.new (o := .lst (rs.map fun (r : Rl) => V.ref r.r)) hh3
        have sBD := sC.trans sD
        refine ⟨_, rfl, m, p, h3, rs, rfl, m7, hp, SqL.of upd_same, hRsB.same sBD, by omega, fun v HE sE pv => ?_⟩
        have sBE := sBD.trans sE
        have LH : LwH K HE st rp tb ns m rs T (403 + 10 * i + j) := ⟨kB, SB.same sBE, hkB, sBE _ _ hrpB, hRsB.same sBE, sBE _ _ htbB, hTB.same sBE⟩
        cases tw : twF m (rs.map Rl.d) p with
        | none =>
          rw [tw] at pv
          obtain rfl : v = .non := pv
          refine ⟨_, rfl, rfl, _, rfl, iteF ?_⟩
          obtain ⟨k', h1', h2', h3'⟩ := LH
          exact ⟨⟨p, _, _, hp, rfl⟩, k', h1', by omega, h3'⟩
        | some w0 =>
          rw [tw] at pv
          obtain ⟨c, rfl, hc⟩ := pv
          have z := tw_ok hp tw
          have z1 := z.one
          have z2 := z.oth
          refine ⟨_, rfl, rfl, _, rfl, iteT ?_⟩
          refine ⟨_, rfl, c, _, _, _, rfl, rfl, SqT.of hc, atI_nat (j := 0) rfl, _, rfl, c, _, _, _, rfl, rfl, SqT.of hc, atI_nat (j := 1) rfl, w0.1, w0.2, rfl, rfl, ?_⟩
          refine ⟨_, rfl, _, rfl, c, _, _, _, rfl, rfl, SqT.of hc, atI_nat (j := 1) rfl, w0.2, rfl, p, w0.2, rfl, rfl, (by show 2 ≤ sizeLine; decide), fun g hg => ?_⟩
          have sG := Same.new (o := .lst [vN (w0.1 ||| w0.2), vN (p - (p &&& w0.2))]) hg
          have hgG : (upd HE g (.lst [vN (w0.1 ||| w0.2), vN (p - (p &&& w0.2))])) g = some (.lst [vN (w0.1 ||| w0.2), vN (p - (p &&& w0.2))]) := upd_same
          have LG := LH.same sG
          generalize upd HE g (.lst [vN (w0.1 ||| w0.2), vN (p - (p &&& w0.2))]) = HG at sG hgG LG
          obtain ⟨kG, SG, hkG, hrpG, hRsG, htbG, hTG⟩ := LG
          have ngs : g ≠ st := fun y => by
            have := SB.same sBE
            exact absurd (stf_fresh this (But.refl _ _) hg).2 (fun w => w y)
          refine ⟨_, rfl, st, ns, kG, 2, rfl, SG, by omega, hlen, by decide, fun rI HI aI bI SI BI => ?_⟩
          obtain ⟨n2, rfl, hn2⟩ := nat_of (n := 2) aI bI
          obtain ⟨p', ep, hp'⟩ : ∃ p' : Nat, ([vN (w0.1 ||| w0.2), vN (p - (p &&& w0.2))] : List V)[n2]? = some (vN p') ∧ p' < 2 ^ m := by
            match n2, hn2 with
            | 0, _ => exact ⟨w0.1 ||| w0.2, rfl, by omega⟩
            | 1, _ => exact ⟨p - (p &&& w0.2), rfl, by omega⟩
          refine ⟨g, _, _, _, rfl, rfl, SqL.of (BI _ _ hgG ngs), atI_nat ep, ?_⟩
          exact ⟨⟨p', _, _, hp', rfl⟩, LwH.take SG hrpG hRsG htbG hTG nrp ntb SI BI (by omega)⟩
      · rintro σ HB ⟨⟨p', v8', v9', _, rfl⟩, kB, SB, hkB, rest⟩
        exact ⟨⟨_, _, _, _, rfl⟩, kB, SB, by omega, rest⟩
    · rintro σ H9 ⟨⟨v6, v7, v8, v9, rfl⟩, _⟩
      exact q H9
end
end Own

namespace Own
open PySem L2
section
variable {P : Program} {w : World} {K : PySem.W.Frag} {mg : Str → Option Value} {base : Heap}
seal PySem.wpAny
noncomputable abbrev sHas : Stmt := top 1
theorem scHas : FnScope ["some", "column"] ["some", "column"] (defScope sHas) := ⟨rfl, rfl, rfl, by decide +kernel, rfl, by decide +kernel, by decide +kernel⟩
theorem ok_has {f : Addr} {fd : FuncData} (F : Fun K "has_column" "has_column" sHas f fd) : FnOk P w K mg base CX0 1 f fd ["some", "column"] spHas := by
  refine F.ok scHas (fun vs H Q E h => ?_) (fun cdv A outer s H vs Q E hr h => ?_)
  · obtain ⟨a, k, rfl, _⟩ := h
    rfl
  · obtain ⟨a, k, rfl, q⟩ := h
    refine ⟨_, pss_one (ps_ret (pe_cmpR op_eq (pe_op op_and (pe_op op_shr (pv 0) (pv 1)) pe_int) pe_int (nomark _))), ?_⟩
    refine ⟨_, rfl, _, rfl, _, _, rfl, rfl, (by omega), _, _, rfl, rfl, rfl, ?_⟩
    show Q (V.bl (decide (V.int (Builtin.bitAnd ((a : Int) / 2 ^ (k : Int).toNat) 1) = V.int 1))) H
    rw [has_eq]
    exact q
noncomputable abbrev sCols : Stmt := top 2
theorem scCols : FnScope ["some"] ["some"] (defScope sCols) := ⟨rfl, rfl, rfl, by decide +kernel, rfl, by decide +kernel, by decide +kernel⟩
theorem ok_cols {f fH : Addr} {fd fdH : FuncData} (F : Fun K "columns_of" "columns_of" sCols f fd) (GH : FnOk P w K mg base CX0 1 fH fdH ["some", "column"] spHas) (mH : mg "has_column" = some (.ref fH)) (kH : PySem.W.keepIn K (.ref fH) = true) (bH : Binds K fdH ["some", "column"] []) (zR : mg "range" = none) : FnOk P w K mg base CX0 2 f fd ["some"] spCols := by
  refine F.ok scCols (fun vs H Q E h => ?_) (fun cdv A outer s H vs Q E hr h => ?_)
  · obtain ⟨a, rfl, _⟩ := h
    rfl
  · obtain ⟨a, rfl, ha, q⟩ := h
    refine ⟨_, pss_one (ps_ret (pe_comp (xs := ["column"]) (cs ["some"] (defScope sCols) rfl rfl (by decide +kernel)) rfl (pi_range1 rfl zR (pa_cons (pe_bm0 PySem.F.plainAttrs_int PySem.F.slot_int_bit_length PySem.F.type_int_bit_length mt_bitlen (pv 0)) pa_nil))
      (fun _ _ _ => pg_name (i := 0) (show (["column", "some"] : List Str).Nodup by decide +kernel) rfl (Or.inl rfl)) (fun _ _ _ => pts_one (pt_val (pe_call GH hr rfl mH kH bH .nil pass0 (pa_cons (pv 1) (pa_cons (pv 0) pa_nil))))) (fun _ _ _ => pv 0))), ?_⟩
    refine ⟨_, rfl, rfl, (a : Int), rfl, rfl, _, rfl, (by omega), ?_, ?_⟩
    · have := bitsN_le ha
      show ((bitsN a : Nat) : Int) < _
      omega
    · refine lc_range (lo := 0) (k := ((bitsN a : Nat) : Int).toNat) (n := 1) (fun i acc H' => H' = H ∧ acc = ((List.range i).filter (hasB a)).map vN) ?_ ⟨rfl, rfl⟩ (fun i acc H' hi h => ?_) (fun i acc H' hi h => ?_) (fun acc H' h => ?_)
      · have := bitsN_le ha
        omega
      · rw [h.2, List.length_map]
        exact Nat.le_trans (List.length_filter_le _ _) (by simp)
      · obtain ⟨rfl, rfl⟩ := h
        refine ⟨rfl, _, rfl, _, rfl, a, i, ?_, _, rfl, ?_⟩
        · show [vN a, V.int (0 + (i : Int))] = _
          rw [Int.zero_add]; rfl
        · refine ite2 (fun hc => ?_) (fun hc => ?_)
          · refine ⟨_, rfl, rfl, ?_⟩
            rw [filt_succ, if_pos hc, List.map_append, Int.zero_add]
            rfl
          · refine ⟨rfl, ?_⟩
            rw [filt_succ, if_neg hc, List.append_nil]
      · obtain ⟨rfl, rfl⟩ := h
        intro p hp
        exact q p hp
noncomputable abbrev sAll : Stmt := top 3
theorem scAll : FnScope ["many"] ["many"] (defScope sAll) := ⟨rfl, rfl, rfl, by decide +kernel, rfl, by decide +kernel, by decide +kernel⟩
theorem ok_all {f : Addr} {fd : FuncData} (F : Fun K "all_of" "all_of" sAll f fd) : FnOk P w K mg base CX0 1 f fd ["many"] spAllOf := by
  refine F.ok scAll (fun vs H Q E h => ?_) (fun cdv A outer s H vs Q E hr h => ?_)
  · obtain ⟨m, rfl, _⟩ := h
    rfl
  · obtain ⟨m, rfl, hm, q⟩ := h
    refine ⟨_, pss_one (ps_ret (pe_op op_sub (pe_op op_shl pe_int (pv 0)) pe_int)), ?_⟩
    refine ⟨_, rfl, _, _, rfl, rfl, cpow1 hm, _, _, rfl, rfl, ?_⟩
    show Q (V.int (1 * 2 ^ (m : Int).toNat - 1)) H
    have pw : 0 < 2 ^ m := Nat.two_pow_pos m
    have e : (1 : Int) * 2 ^ (m : Int).toNat - 1 = ((2 ^ m - 1 : Nat) : Int) := by rw [shl1]; omega
    rw [e]
    exact q
noncomputable abbrev sWithin : Stmt := top 4
noncomputable def spWithin : Sp := fun vs H Q _ => ∃ a b : Nat, vs = [.int (a : Int), .int (b : Int)] ∧ Q (.bl (decide (a &&& b = a))) H
theorem scWithin : FnScope ["one", "other"] ["one", "other"] (defScope sWithin) := ⟨rfl, rfl, rfl, by decide +kernel, rfl, by decide +kernel, by decide +kernel⟩
theorem ok_within {f : Addr} {fd : FuncData} (F : Fun K "is_within" "is_within" sWithin f fd) : FnOk P w K mg base CX0 1 f fd ["one", "other"] spWithin := by
  refine F.ok scWithin (fun vs H Q E h => ?_) (fun cdv A outer s H vs Q E hr h => ?_)
  · obtain ⟨a, b, rfl, _⟩ := h
    rfl
  · obtain ⟨a, b, rfl, q⟩ := h
    refine ⟨_, pss_one (ps_ret (pe_cmpR op_eq (pe_op op_and (pv 0) (pv 1)) (pv 0) (nomark _))), ?_⟩
    refine ⟨_, rfl, _, rfl, _, _, rfl, rfl, _, rfl, rfl, ?_⟩
    show Q (V.bl (decide (V.int (Builtin.bitAnd (a : Int) (b : Int)) = V.int (a : Int)))) H
    rw [bitAnd_nat, dec_int]
    have e : (((a &&& b : Nat) : Int) == (a : Int)) = decide (a &&& b = a) := by
      rw [Bool.eq_iff_iff, beq_iff_eq, decide_eq_true_iff]
      exact Int.ofNat_inj
    rw [e]
    exact q
noncomputable abbrev sMore : Stmt := top 5
theorem scMore : FnScope ["sets", "some", "found", "inner"] ["sets", "some"] (defScope sMore) := ⟨rfl, rfl, rfl, by decide +kernel, rfl, by decide +kernel, by decide +kernel⟩
theorem ok_more {f fC : Addr} {fd fdC : FuncData} (F : Fun K "with_one_more" "with_one_more" sMore f fd) (GC : FnOk P w K mg base CX0 2 fC fdC ["some"] spCols) (mC : mg "columns_of" = some (.ref fC)) (kC : PySem.W.keepIn K (.ref fC) = true) (bC : Binds K fdC ["some"] []) (zsorted : mg "sorted" = none) : FnOk P w K mg base CX0 3 f fd ["sets", "some"] spOneUp := by
  refine F.ok scMore (fun vs H Q E h => ?_) (fun cdv A outer s H vs Q E hr h => ?_)
  · obtain ⟨p, a, i, rfl, _⟩ := h
    rfl
  · obtain ⟨p, a, i, rfl, ha, hi, hp, q⟩ := h
    have nd := scMore.nd
    have hr2 : Room 2 _ := hr.mono (by decide)
    obtain ⟨c7, cb⟩ := cols7 a ha
    have lr := row_len a ha i (by omega)
    refine ⟨_, (pss_cons (ps_set (i := 2) nd rfl (Or.inl rfl) (pe_lst pa_nil))
      (pss_cons (ps_for PassesOwn.never rfl (pi_listK (K := K) rfl (pv 0)) (pg_name (i := 3) nd rfl (Or.inr rfl)) (pss_one (ps_expr (pe_bm PySem.F.plainAttrs_list PySem.F.slot_list_extend PySem.F.type_list_extend mt_extend (pv 2) (pa_cons (pe_comp (xs := ["column"]) (cs ["sets", "some", "found", "inner"] (defScope sMore) rfl rfl (by decide +kernel)) rfl (pi_listK (K := K) rfl (pe_call GC hr2 rfl mC kC bC .nil pass0 (pa_cons (pv 1) pa_nil))) (fun _ _ _ => pg_name (i := 0) (show (["column", "sets", "some", "found", "inner"] : List Str).Nodup by decide +kernel) rfl (Or.inl rfl)) (fun _ _ _ => (pts_one (pt_cmpR op_gtN (pe_op op_shl1 pe_int (pv 0)) (pv 4) (nomark _)))) (fun _ _ _ => (pe_op op_orN (pv 4) (pe_op op_shl1 pe_int (pv 0))))) pa_nil)))))
      (pss_one (ps_ret (pe_callB (call_sortedK (K := K) rfl) (by rfl) zsorted PyProof.Rows.boot_sorted (pa_cons (pv 2) pa_nil)))))), ?_⟩
    refine ⟨Nat.zero_le _, fun fp hfp => ?_⟩
    have s0 := Same.new (o := .lst []) hfp
    refine ⟨_, rfl, p, rfl, ⟨_, SqL.of (s0 _ _ hp)⟩, for_list (K := K) (xs := (rowN a i).map vN) (fun j σ H' => (∃ v3 : Option V, σ = [some (.ref p), some (vN a), some (.ref fp), v3]) ∧ Same H H' ∧ H' fp = some (.lst ((moreN a ((rowN a i).take j)).map vN))) ⟨⟨_, rfl⟩, s0, upd_same⟩ (fun j σ H' _ h => SqL.of (h.2.1 _ _ hp)) ?_ ?_⟩
    · rintro j v σ H1 hv ⟨⟨v3, rfl⟩, s1, hf1⟩
      rw [List.getElem?_map] at hv
      cases ex : (rowN a i)[j]? with
      | none => rw [ex] at hv; cases hv
      | some x =>
        rw [ex] at hv
        obtain rfl := (Option.some.inj hv).symm
        refine ⟨_, rfl, .inl ⟨rfl, _, SqL.of hf1⟩, _, rfl, a, rfl, by omega, fun cp hcp => ⟨cp, rfl, ⟨_, SqL.of upd_same⟩, ?_⟩⟩
        have sC := Same.new (o := .lst ((colsN a).map vN)) hcp
        have hcp2 : (upd H1 cp (.lst ((colsN a).map vN))) cp = some (.lst ((colsN a).map vN)) := upd_same
        generalize upd H1 cp (.lst ((colsN a).map vN)) = H2 at sC hcp2
        refine lc_list (K := K) (xs := (colsN a).map vN) (fun k acc H3 => H3 = H2 ∧ acc = ((((colsN a).take k).filter fun c => decide (x < 2 ^ c)).map fun c => x ||| 2 ^ c).map vN) (by rw [List.length_map]; omega) ⟨rfl, rfl⟩ (fun k acc H3 hk h => ?_) (fun k u acc H3 hu h => ?_) (fun acc H3 h => ?_)
        · obtain ⟨rfl, rfl⟩ := h
          exact ⟨SqL.of hcp2, by rw [List.length_map, List.length_map]; exact Nat.le_trans (List.length_filter_le _ _) (List.length_take_le _ _)⟩
        · obtain ⟨rfl, rfl⟩ := h
          rw [List.getElem?_map] at hu
          cases ec : (colsN a)[k]? with
          | none => rw [ec] at hu; cases hu
          | some c =>
            rw [ec] at hu
            obtain rfl := (Option.some.inj hu).symm
            have c1 : c < 7 := of_decide_eq_true (List.all_eq_true.mp cb c (List.mem_of_getElem? ec))
            have et : ((colsN a).take (k + 1)).filter (fun c => decide (x < 2 ^ c)) = ((colsN a).take k).filter (fun c => decide (x < 2 ^ c)) ++ [c].filter (fun c => decide (x < 2 ^ c)) := by rw [List.take_succ, ec, ← List.filter_append]; rfl
            refine ⟨rfl, _, rfl, c, rfl, rfl, by omega, _, rfl, 2 ^ c, x, rfl, rfl, _, rfl, ite2 (fun hb => ?_) (fun hb => ?_)⟩
            · refine ⟨_, rfl, _, rfl, c, rfl, rfl, by omega, x, 2 ^ c, rfl, rfl, rfl, ?_⟩
              rw [et, List.filter_cons_of_pos (p := fun c => decide (x < 2 ^ c)) hb, List.map_append, List.map_append]; rfl
            · refine ⟨rfl, ?_⟩
              rw [et, List.filter_cons_of_neg (p := fun c => decide (x < 2 ^ c)) hb, List.filter_nil, List.append_nil]
        · obtain ⟨rfl, rfl⟩ := h
          rw [List.length_map, List.take_length]
          intro ep hep
          have sE := Same.new (o := .lst (((((colsN a).filter fun c => decide (x < 2 ^ c)).map fun c => x ||| 2 ^ c)).map vN)) hep
          have hf3 := (sC.trans sE) _ _ hf1
          have lm := moreN_len a ha ((rowN a i).take j)
          have lt : ((rowN a i).take j).length ≤ (rowN a i).length := List.length_take_le' j _
          have lu := upOf_len a x ha
          refine ⟨fp, ep, _, _, rfl, rfl, hf3, upd_same, Nat.le_of_lt (small1000 ?_), ?_⟩
          · rw [List.length_map, List.length_map]
            have : (((colsN a).filter fun c => decide (x < 2 ^ c)).map fun c => x ||| 2 ^ c).length ≤ 7 := lu
            omega
          · refine ⟨⟨_, rfl⟩, (s1.trans (sC.trans sE)).own3 hfp, ?_⟩
            rw [upd_same, moreN_succ ex, List.map_append]
            rfl
    · rintro σ H1 ⟨⟨v3, rfl⟩, s1, hf1⟩
      rw [List.length_map, List.take_length] at hf1
      have mi := map_int (moreN a (rowN a i))
      have l64 : ((moreN a (rowN a i)).map fun (k : Nat) => (k : Int)).length < 64 := by
        rw [List.length_map, (List.isPerm_iff.mp (more_perm a ha i hi)).length_eq]
        have := row_len a ha (i + 1) (by omega)
        omega
      refine ⟨_, rfl, fp, (moreN a (rowN a i)).map fun (k : Nat) => (k : Int), rfl, SqL.of (by rw [mi]; exact hf1), l64, fun l ns' hl pm pw => ?_⟩
      rw [row_is ha hi pm pw, map_int]
      exact q l _ (s1.trans (Same.new hl)) (s1.free hl) upd_same
noncomputable abbrev sCanUse : Stmt := top 21
theorem scCanUse : FnScope ["rule", "block", "taken"] ["rule", "block"] (defScope sCanUse) := ⟨rfl, rfl, rfl, by decide +kernel, rfl, by decide +kernel, by decide +kernel⟩
theorem ok_canuse {f : Addr} {fd : FuncData} (F : Fun K "can_use" "can_use" sCanUse f fd) : FnOk P w K mg base CX0 1 f fd ["rule", "block"] spUsable := by
  refine F.ok scCanUse (fun vs H Q E h => ?_) (fun cdv A outer s H vs Q E hr h => ?_)
  · obtain ⟨r, st, x, y, b, rfl, _⟩ := h
    rfl
  · obtain ⟨r, st, x, y, b, rfl, hR, q⟩ := h
    have nd := scCanUse.nd
    refine ⟨_, (pss_cons (ps_if (pt_cmpR op_neN (pe_op op_andN (pe_ix (ix_tupK (K := K) rfl) (pv 0) pe_int (fun _ _ => rfl)) (pv 1)) pe_int (nomark _)) (pss_one (ps_ret pe_bl)) pss_nil)
      (pss_cons (ps_set (i := 2) nd rfl (Or.inl rfl) (pe_op op_andN (pe_ix (ix_tupK (K := K) rfl) (pv 0) pe_int (fun _ _ => rfl)) (pv 1)))
      (pss_cons (ps_if (pt_cmpR op_eq (pe_ix (ix_tupK (K := K) rfl) (pv 0) pe_int (fun _ _ => rfl)) pe_str (nomark _)) (pss_one (ps_ret (pe_cmpR op_neN (pv 2) pe_int (nomark _)))) pss_nil)
      (pss_one (ps_ret (pe_and (pe_cmpR op_neN (pv 2) pe_int (nomark _)) (pe_one (pe_cmpR op_neN (pv 2) (pv 1) (nomark _))))))))), ?_⟩
    refine ⟨_, rfl, r, _, _, _, rfl, rfl, SqT.of hR, atI_nat (j := 1) rfl, _, rfl, x, b, rfl, rfl, x &&& b, 0, rfl, rfl, _, rfl, ?_⟩
    cases c1 : decide (x &&& b = 0) with
    | false =>
      refine iteT ?_
      have : usableB st x y b = false := by unfold usableB; rw [c1]; rfl
      rw [this] at q
      exact q
    | true =>
      refine iteF ?_
      refine ⟨_, rfl, r, _, _, _, rfl, rfl, SqT.of hR, atI_nat (j := 2) rfl, _, rfl, y, b, rfl, rfl, ?_⟩
      refine ⟨_, rfl, r, _, _, _, rfl, rfl, SqT.of hR, atI_nat (j := 0) rfl, rfl, _, rfl, ?_⟩
      cases st with
      | true =>
        refine iteT ?_
        have : usableB true x y b = !decide (y &&& b = 0) := by unfold usableB; rw [c1]; simp
        rw [this] at q
        exact ⟨_, rfl, y &&& b, 0, rfl, rfl, q⟩
      | false =>
        refine ite2 (fun hc => ?_) (fun _ => ?_)
        · exact absurd (of_decide_eq_true hc) (by intro z; injection z with z; revert z; decide)
        refine ⟨_, rfl, y &&& b, 0, rfl, rfl, _, rfl, ?_⟩
        cases c2 : decide (y &&& b = 0) with
        | true =>
          refine iteF ?_
          have : usableB false x y b = false := by unfold usableB; rw [c1, c2]; rfl
          rw [this] at q
          exact q
        | false =>
          refine iteT ?_
          have : usableB false x y b = !decide (y &&& b = b) := by unfold usableB; rw [c1, c2]; simp
          rw [this] at q
          exact ⟨_, rfl, _, rfl, y &&& b, b, rfl, rfl, q⟩
noncomputable abbrev sListed : Stmt := top 22
theorem scListed : FnScope ["block"] ["block"] (defScope sListed) := ⟨rfl, rfl, rfl, by decide +kernel, rfl, by decide +kernel, by decide +kernel⟩
theorem ok_listed {f : Addr} {fd : FuncData} (F : Fun K "listed" "listed" sListed f fd) : FnOk P w K mg base CX0 1 f fd ["block"] spListed := by
  refine F.ok scListed (fun vs H Q E h => ?_) (fun cdv A outer s H vs Q E hr h => ?_)
  · obtain ⟨b, rfl, _⟩ := h
    rfl
  · obtain ⟨b, rfl, q⟩ := h
    refine ⟨_, (pss_cons (ps_if (pt_cmpR op_eqN (pv 0) pe_int (nomark _)) (pss_one (ps_ret (pe_lst pa_nil))) pss_nil)
      (pss_one (ps_ret (pe_lst (pa_cons (pv 0) pa_nil))))), ?_⟩
    refine ⟨_, rfl, b, 0, rfl, rfl, _, rfl, ite2 (fun hc => ?_) (fun hc => ?_)⟩
    · have b0 : b = 0 := of_decide_eq_true hc
      refine ⟨(by show 0 ≤ sizeLine; exact Nat.zero_le _), fun p hp => ?_⟩
      have := q p hp
      rw [if_neg (by omega)] at this
      exact this
    · have b0 : 0 < b := Nat.pos_of_ne_zero fun z => hc (decide_eq_true z)
      refine ⟨_, rfl, (by show 1 ≤ sizeLine; decide), fun p hp => ?_⟩
      have := q p hp
      rw [if_pos b0] at this
      exact this
noncomputable abbrev sAlike : Stmt := top 7
theorem scAlike : FnScope ["one", "other", "some"] ["one", "other", "some"] (defScope sAlike) := ⟨rfl, rfl, rfl, by decide +kernel, rfl, by decide +kernel, by decide +kernel⟩
theorem ok_alike {f fC : Addr} {fd fdC : FuncData} (F : Fun K "alike" "alike" sAlike f fd) (GC : FnOk P w K mg base CX0 2 fC fdC ["some"] spCols) (mC : mg "columns_of" = some (.ref fC)) (kC : PySem.W.keepIn K (.ref fC) = true) (bC : Binds K fdC ["some"] []) (zall : mg "all" = none) : FnOk P w K mg base CX0 3 f fd ["one", "other", "some"] (spAlike K) := by
  refine F.ok scAlike (fun vs H Q E h => ?_) (fun cdv A outer s H vs Q E hr h => ?_)
  · obtain ⟨a, b, r1, r2, x, rfl, _⟩ := h
    rfl
  · obtain ⟨a, b, r1, r2, x, rfl, ha, hb, hx, hc, q⟩ := h
    refine ⟨_, (pss_one (ps_ret (pe_callB (call_allK (K := K) rfl rfl) (by rfl) zall PyProof.Rows.boot_all (pa_cons (pe_comp (xs := ["column"]) (cs ["one", "other", "some"] (defScope sAlike) rfl rfl (by decide +kernel)) rfl (pi_listK (K := K) rfl (pe_call GC hr rfl mC kC bC .nil pass0 (pa_cons (pv 2) pa_nil))) (fun _ _ _ => pg_name (i := 0) (show (["column", "one", "other", "some"] : List Str).Nodup by decide +kernel) rfl (Or.inl rfl)) (fun _ _ _ => pts_nil) (fun _ _ _ => (pe_cmpR op_eqI (pe_ix (ix_tupK (K := K) rfl) (pv 1) (pv 0) (fun _ _ => rfl)) (pe_ix (ix_tupK (K := K) rfl) (pv 2) (pv 0) (fun _ _ => rfl)) (nomark _)))) pa_nil)))), ?_⟩
    refine ⟨_, rfl, x, rfl, hx, fun d hd => ⟨d, rfl, ⟨_, SqL.of upd_same⟩, ?_⟩⟩
    have s1 : Same H (upd H d (.lst ((colsN x).map vN))) := Same.new hd
    have hd1 : (upd H d (.lst ((colsN x).map vN))) d = some (.lst ((colsN x).map vN)) := upd_same
    generalize upd H d (.lst ((colsN x).map vN)) = H1 at s1 hd1
    have cl : (colsN x).length ≤ 1000 := Nat.le_trans (List.length_filter_le _ _) (by rw [List.length_range]; exact Nat.le_trans (bitsN_le hx) (by decide))
    refine lc_list (xs := (colsN x).map vN) (fun i acc H' => H' = H1 ∧ acc = (((colsN x).take i).map fun c => decide (r1.getD c 0 = r2.getD c 0)).map V.bl) (by rw [List.length_map]; omega) ⟨rfl, rfl⟩ (fun i acc H' hi h => ?_) (fun i y acc H' hy h => ?_) (fun acc H' h => ?_)
    · rw [h.1, h.2]
      exact ⟨SqL.of hd1, by rw [List.length_map, List.length_map]; exact List.length_take_le _ _⟩
    · obtain ⟨rfl, rfl⟩ := h
      rw [List.getElem?_map] at hy
      cases ez : (colsN x)[i]? with
      | none => rw [ez] at hy; cases hy
      | some c =>
        rw [ez] at hy
        obtain rfl := (Option.some.inj hy).symm
        obtain ⟨c1, c2⟩ := hc c (List.mem_of_getElem? ez)
        refine ⟨rfl, _, rfl, _, rfl, a, _, _, _, rfl, rfl, s1.tupS ha, atI_nat (j := c) (getD_int c1), _, rfl, _, rfl, b, _, _, _, rfl, rfl, s1.tupS hb, atI_nat (j := c) (getD_int c2), _, _, rfl, rfl, rfl, ?_⟩
        rw [List.take_succ, ez, List.map_append, List.map_append]
        rfl
    · obtain ⟨rfl, rfl⟩ := h
      intro e he
      refine ⟨e, _, rfl, SqL.of upd_same, ?_⟩
      rw [List.length_map, List.take_length]
      exact q _ (s1.trans (Same.new he))
noncomputable abbrev sMixed : Stmt := top 8
theorem scMixed : FnScope ["one", "other", "some"] ["one", "other", "some"] (defScope sMixed) := ⟨rfl, rfl, rfl, by decide +kernel, rfl, by decide +kernel, by decide +kernel⟩
theorem ok_mixed {f fH : Addr} {fd fdH : FuncData} (F : Fun K "mixed" "mixed" sMixed f fd) (GH : FnOk P w K mg base CX0 1 fH fdH ["some", "column"] spHas) (mH : mg "has_column" = some (.ref fH)) (kH : PySem.W.keepIn K (.ref fH) = true) (bH : Binds K fdH ["some", "column"] []) (zrange : mg "range" = none) (zlen : mg "len" = none) (ztuple : mg "tuple" = none) : FnOk P w K mg base CX0 2 f fd ["one", "other", "some"] (spMixed K) := by
  refine F.ok scMixed (fun vs H Q E h => ?_) (fun cdv A outer s H vs Q E hr h => ?_)
  · obtain ⟨a, b, r1, r2, x, rfl, _⟩ := h
    rfl
  · obtain ⟨a, b, r1, r2, x, rfl, ha, hb, hl, hl2, q⟩ := h
    refine ⟨_, (pss_one (ps_ret (pe_callTy (call_tupleK (K := K) rfl) (by rfl) ztuple PyProof.Rows.boot_tuple (pa_cons (pe_comp (xs := ["column"]) (cs ["one", "other", "some"] (defScope sMixed) rfl rfl (by decide +kernel)) rfl (pi_range1 rfl zrange (pa_cons (pe_callB (call_lenK (K := K) rfl) (by rfl) zlen PySem.boot_len (pa_cons (pv 0) pa_nil)) pa_nil)) (fun _ _ _ => pg_name (i := 0) (show (["column", "one", "other", "some"] : List Str).Nodup by decide +kernel) rfl (Or.inl rfl)) (fun _ _ _ => pts_nil) (fun _ _ _ => (pe_ifExp (pt_val (pe_call GH hr rfl mH kH bH .nil pass0 (pa_cons (pv 3) (pa_cons (pv 0) pa_nil)))) (pe_ix (ix_tupK (K := K) rfl) (pv 1) (pv 0) (fun _ _ => rfl)) (pe_ix (ix_tupK (K := K) rfl) (pv 2) (pv 0) (fun _ _ => rfl))))) pa_nil)))), ?_⟩
    have lm : (r1.map V.int).length = r1.length := List.length_map ..
    refine ⟨_, rfl, a, _, rfl, .inr ha, _, rfl, (by omega), (by omega), lc_rangeN (k := (r1.map V.int).length) (n := 1) (fun i acc H' => H' = H ∧ acc = ((List.range i).map fun k => if hasB x k = true then r1.getD k 0 else r2.getD k 0).map V.int) (by omega) ⟨rfl, rfl⟩ (fun i acc H' hi h => ?_) (fun i acc H' hi h => ?_) (fun acc H' h => ?_)⟩
    · rw [h.2, List.length_map, List.length_map, List.length_range]; exact Nat.le_refl _
    · obtain ⟨rfl, rfl⟩ := h
      rw [lm] at hi
      refine ⟨rfl, _, rfl, _, rfl, x, i, rfl, _, rfl, ?_⟩
      refine ite2 (fun hc => ?_) (fun hc => ?_)
      · refine ⟨_, rfl, _, rfl, a, _, _, _, rfl, rfl, ha, atI_nat (j := i) (getD_int hi), rfl, ?_⟩
        rw [List.range_succ, List.map_append, List.map_append, List.map_singleton, if_pos hc]
        rfl
      · refine ⟨_, rfl, _, rfl, b, _, _, _, rfl, rfl, hb, atI_nat (j := i) (getD_int (by omega)), rfl, ?_⟩
        rw [List.range_succ, List.map_append, List.map_append, List.map_singleton, if_neg hc]
        rfl
    · obtain ⟨rfl, rfl⟩ := h
      intro d hd
      refine ⟨d, _, rfl, .inl ⟨SqL.of upd_same, fun t ht => ?_⟩⟩
      have ss := (Same.new (o := .lst (((List.range (r1.map V.int).length).map fun k => if hasB x k = true then r1.getD k 0 else r2.getD k 0).map V.int)) hd)
      refine q t _ (ss.trans (Same.new ht)) (ss.free ht) ?_
      rw [upd_same, lm]
      rfl
noncomputable abbrev sUsed : Stmt := top 23
theorem scUsed : FnScope ["rule", "fixed", "blocks", "at", "taken", "rest"] ["rule", "fixed", "blocks", "at"] (defScope sUsed) := ⟨rfl, rfl, rfl, by decide +kernel, rfl, by decide +kernel, by decide +kernel⟩
theorem ok_used {f fI : Addr} {fd fdI : FuncData} (F : Fun K "used" "used" sUsed f fd) (GI : FnOk P w K mg base CX0 1 fI fdI ["block"] spListed) (mI : mg "listed" = some (.ref fI)) (kI : PySem.W.keepIn K (.ref fI) = true) (bI : Binds K fdI ["block"] []) : FnOk P w K mg base CX0 2 f fd ["rule", "fixed", "blocks", "at"] (spUsed K) := by
  refine F.ok scUsed (fun vs H Q E h => ?_) (fun cdv A outer s H vs Q E hr h => ?_)
  · obtain ⟨r, l, st, x, y, fx, at_, bs, rfl, _⟩ := h
    rfl
  · obtain ⟨r, l, st, x, y, fx, at_, bs, rfl, hR, hl, hat, hb, hdis, q⟩ := h
    have nd := scUsed.nd
    refine ⟨_, (pss_cons (ps_set (i := 4) nd rfl (Or.inl rfl) (pe_op op_andN (pe_ix (ix_listK (K := K) rfl) (pv 2) (pv 3) (fun _ _ => rfl)) (pe_ix (ix_tupK (K := K) rfl) (pv 0) pe_int (fun _ _ => rfl))))
      (pss_cons (ps_set (i := 5) nd rfl (Or.inl rfl) (pe_op op_andInv (pe_ix (ix_listK (K := K) rfl) (pv 2) (pv 3) (fun _ _ => rfl)) (pe_un un_inv (pe_ix (ix_tupK (K := K) rfl) (pv 0) pe_int (fun _ _ => rfl)))))
      (pss_cons (ps_if (pt_cmpR op_eq (pe_ix (ix_tupK (K := K) rfl) (pv 0) pe_int (fun _ _ => rfl)) pe_str (nomark _)) (pss_one (ps_ret (pe_tup (pa_cons (pe_op op_orN (pv 1) (pv 4)) (pa_cons (pe_op op_cat (pe_op op_cat (pe_slice sl_list (pv 2) po_none (po_some (pv 3))) (pe_call GI hr rfl mI kI bI .nil pass0 (pa_cons (pv 5) pa_nil))) (pe_slice sl_list (pv 2) (po_some (pe_op op_addN (pv 3) pe_int)) po_none)) pa_nil))))) pss_nil)
      (pss_one (ps_ret (pe_tup (pa_cons (pv 1) (pa_cons (pe_op op_cat (pe_op op_cat (pe_slice sl_list (pv 2) po_none (po_some (pv 3))) (pe_lst (pa_cons (pv 4) (pa_cons (pv 5) pa_nil)))) (pe_slice sl_list (pv 2) (po_some (pe_op op_addN (pv 3) pe_int)) po_none)) pa_nil)))))))), ?_⟩
    have eb : bs[at_]? = some (bs.getD at_ 0) := by rw [List.getD_eq_getElem?_getD, List.getElem?_eq_getElem hat]; rfl
    have ebv : (bs.map vN)[at_]? = some (vN (bs.getD at_ 0)) := by rw [List.getElem?_map, eb]; rfl
    refine ⟨_, rfl, _, rfl, l, _, _, _, rfl, rfl, hl, atI_nat ebv, _, rfl, r, _, _, _, rfl, rfl, SqT.of hR, atI_nat (j := 2) rfl, bs.getD at_ 0, y, rfl, rfl, ?_⟩
    refine ⟨_, rfl, _, rfl, l, _, _, _, rfl, rfl, hl, atI_nat ebv, _, rfl, r, _, _, _, rfl, rfl, SqT.of hR, atI_nat (j := 2) rfl, (y : Int), rfl, bs.getD at_ 0, y, rfl, rfl, ?_⟩
    refine ⟨_, rfl, r, _, _, _, rfl, rfl, SqT.of hR, atI_nat (j := 0) rfl, rfl, _, rfl, ?_⟩
    have lt : (List.take at_ (bs.map vN)).length ≤ 200 := by rw [List.length_take, List.length_map]; omega
    have ld : (List.drop (at_ + 1) (bs.map vN)).length ≤ 200 := by rw [List.length_drop, List.length_map]; omega
    have szc : ∀ n : Nat, n ≤ 1000 → n ≤ sizeLine := fun n h => Nat.le_of_lt (small1000 h)
    have e1 : cutV (bs.map vN) none (some (at_ : Int)) = List.take at_ (bs.map vN) := cut_take _ _
    have e2 : cutV (bs.map vN) (some ((at_ + 1 : Nat) : Int)) none = List.drop (at_ + 1) (bs.map vN) := cut_drop _ _
    cases st with
    | true =>
      refine iteT ?_
      have eo : behindFx true y fx bs at_ = fx ||| inN y bs at_ := by
        unfold behindFx
        rw [if_pos rfl]
        exact (or_add fx (inN y bs at_) (dis_sub hdis (sub_in _ y))).symm
      refine ⟨_, rfl, _, rfl, fx, inN y bs at_, rfl, rfl, ?_⟩
      refine ⟨_, rfl, _, rfl, (at_ : Int), rfl, l, _, rfl, hl, fun p1 hp1 => ?_⟩
      rw [e1]
      have s1 := Same.new (o := .lst (List.take at_ (bs.map vN))) hp1
      refine ⟨_, rfl, outN y bs at_, rfl, fun p3 hp3 => ?_⟩
      have s3 := Same.new (o := .lst ((if 0 < outN y bs at_ then [outN y bs at_] else []).map vN)) hp3
      have l3 : ((if 0 < outN y bs at_ then [outN y bs at_] else []).map vN).length ≤ 1 := by split <;> simp
      refine ⟨p1, p3, List.take at_ (bs.map vN), (if 0 < outN y bs at_ then [outN y bs at_] else []).map vN, rfl, rfl, s3 _ _ upd_same, upd_same, szc _ (by omega), fun p4 hp4 => ?_⟩
      have s4 := Same.new (o := .lst (List.take at_ (bs.map vN) ++ (if 0 < outN y bs at_ then [outN y bs at_] else []).map vN)) hp4
      have s14 := (s1.trans s3).trans s4
      refine ⟨_, rfl, _, rfl, at_, 1, rfl, rfl, ((at_ + 1 : Nat) : Int), rfl, l, _, rfl, s14.seq hl, fun p5 hp5 => ?_⟩
      rw [e2]
      have s5 := Same.new (o := .lst (List.drop (at_ + 1) (bs.map vN))) hp5
      refine ⟨p4, p5, List.take at_ (bs.map vN) ++ (if 0 < outN y bs at_ then [outN y bs at_] else []).map vN, List.drop (at_ + 1) (bs.map vN), rfl, rfl, s5 _ _ upd_same, upd_same, szc _ (by rw [List.length_append]; omega), fun p6 hp6 => ?_⟩
      have e6 : List.take at_ (bs.map vN) ++ (if 0 < outN y bs at_ then [outN y bs at_] else []).map vN ++ List.drop (at_ + 1) (bs.map vN) = (behindBs true y bs at_).map vN := by
        unfold behindBs
        rw [if_pos rfl, List.map_append, List.map_append, List.map_take, List.map_drop]
      rw [e6]
      have s6 := Same.new (o := .lst ((behindBs true y bs at_).map vN)) hp6
      refine ⟨(by show 2 ≤ sizeLine; decide), fun t ht => ?_⟩
      have s7 := Same.new (o := .tup [vN (fx ||| inN y bs at_), V.ref p6]) ht
      have s16 := (s14.trans s5).trans s6
      exact q t p6 _ (s16.trans s7) (s16.none ht) (by rw [eo]; exact upd_same) ((s14.trans s5).none hp6) (s7 _ _ upd_same)
    | false =>
      refine ite2 (fun hc => ?_) (fun _ => ?_)
      · exact absurd (of_decide_eq_true hc) (by intro z; injection z with z; revert z; decide)
      refine ⟨_, rfl, ?_⟩
      refine ⟨_, rfl, _, rfl, (at_ : Int), rfl, l, _, rfl, hl, fun p1 hp1 => ?_⟩
      rw [e1]
      have s1 := Same.new (o := .lst (List.take at_ (bs.map vN))) hp1
      refine ⟨_, rfl, _, rfl, (by show 2 ≤ sizeLine; decide), fun p3 hp3 => ?_⟩
      have s3 := Same.new (o := .lst [vN (inN y bs at_), vN (outN y bs at_)]) hp3
      refine ⟨p1, p3, List.take at_ (bs.map vN), [vN (inN y bs at_), vN (outN y bs at_)], rfl, rfl, s3 _ _ upd_same, upd_same, szc _ (by show _ + 2 ≤ 1000; omega), fun p4 hp4 => ?_⟩
      have s4 := Same.new (o := .lst (List.take at_ (bs.map vN) ++ [vN (inN y bs at_), vN (outN y bs at_)])) hp4
      have s14 := (s1.trans s3).trans s4
      refine ⟨_, rfl, _, rfl, at_, 1, rfl, rfl, ((at_ + 1 : Nat) : Int), rfl, l, _, rfl, s14.seq hl, fun p5 hp5 => ?_⟩
      rw [e2]
      have s5 := Same.new (o := .lst (List.drop (at_ + 1) (bs.map vN))) hp5
      refine ⟨p4, p5, List.take at_ (bs.map vN) ++ [vN (inN y bs at_), vN (outN y bs at_)], List.drop (at_ + 1) (bs.map vN), rfl, rfl, s5 _ _ upd_same, upd_same, szc _ (by rw [List.length_append]; show _ + 2 + _ ≤ 1000; omega), fun p6 hp6 => ?_⟩
      have e6 : List.take at_ (bs.map vN) ++ [vN (inN y bs at_), vN (outN y bs at_)] ++ List.drop (at_ + 1) (bs.map vN) = (behindBs false y bs at_).map vN := by
        unfold behindBs
        rw [if_neg Bool.false_ne_true, List.map_append, List.map_append, List.map_take, List.map_drop]
        rfl
      rw [e6]
      have s6 := Same.new (o := .lst ((behindBs false y bs at_).map vN)) hp6
      refine ⟨(by show 2 ≤ sizeLine; decide), fun t ht => ?_⟩
      have s7 := Same.new (o := .tup [vN fx, V.ref p6]) ht
      have s16 := (s14.trans s5).trans s6
      exact q t p6 _ (s16.trans s7) (s16.none ht) upd_same ((s14.trans s5).none hp6) (s7 _ _ upd_same)
noncomputable abbrev sBegun : Stmt := top 24
theorem scBegun : FnScope ["many", "some"] ["many", "some"] (defScope sBegun) := ⟨rfl, rfl, rfl, by decide +kernel, rfl, by decide +kernel, by decide +kernel⟩
theorem ok_begun {f fI fAL : Addr} {fd fdI fdAL : FuncData} (F : Fun K "begun" "begun" sBegun f fd) (GI : FnOk P w K mg base CX0 1 fI fdI ["block"] spListed) (mI : mg "listed" = some (.ref fI)) (kI : PySem.W.keepIn K (.ref fI) = true) (bI : Binds K fdI ["block"] []) (GAL : FnOk P w K mg base CX0 1 fAL fdAL ["many"] spAllOf) (mAL : mg "all_of" = some (.ref fAL)) (kAL : PySem.W.keepIn K (.ref fAL) = true) (bAL : Binds K fdAL ["many"] []) : FnOk P w K mg base CX0 2 f fd ["many", "some"] (spBegun K) := by
  refine F.ok scBegun (fun vs H Q E h => ?_) (fun cdv A outer s H vs Q E hr h => ?_)
  · obtain ⟨m, x, rfl, _⟩ := h
    rfl
  · obtain ⟨m, x, rfl, m7, hx, q⟩ := h
    have hr1 : Room 1 _ := hr.mono (by decide)
    refine ⟨_, (pss_one (ps_ret (pe_tup (pa_cons (pv 1) (pa_cons (pe_call GI hr1 rfl mI kI bI .nil pass0 (pa_cons (pe_op op_andInv (pe_call GAL hr1 rfl mAL kAL bAL .nil pass0 (pa_cons (pv 0) pa_nil)) (pe_un un_inv (pv 1))) pa_nil)) pa_nil))))), ?_⟩
    refine ⟨_, rfl, _, rfl, m, rfl, by omega, _, rfl, (x : Int), rfl, 2 ^ m - 1, x, rfl, rfl, 2 ^ m - 1 - ((2 ^ m - 1) &&& x), rfl, fun p hp => ?_⟩
    have ea : (2 ^ m - 1) &&& x = x := by rw [Nat.and_comm, Nat.and_two_pow_sub_one_eq_mod, Nat.mod_eq_of_lt hx]
    have e : (if 0 < 2 ^ m - 1 - ((2 ^ m - 1) &&& x) then [2 ^ m - 1 - ((2 ^ m - 1) &&& x)] else []) = beginBs m x := by
      rw [ea]
      unfold beginBs
      by_cases h : x < 2 ^ m - 1
      · rw [if_pos h, if_pos (by omega)]
      · rw [if_neg h, if_neg (by omega)]
    rw [e]
    have s1 := Same.new (o := .lst ((beginBs m x).map vN)) hp
    refine ⟨(by show 2 ≤ sizeLine; decide), fun t ht => ?_⟩
    have s2 := Same.new (o := .tup [vN x, V.ref p]) ht
    exact q t p _ (s1.trans s2) (s1.none ht) upd_same hp (s2 _ _ upd_same)
noncomputable abbrev sFirst : Stmt := top 25
theorem scFirst : FnScope ["rules", "blocks", "number", "rule", "at", "block"] ["rules", "blocks"] (defScope sFirst) := ⟨rfl, rfl, rfl, by decide +kernel, rfl, by decide +kernel, by decide +kernel⟩
theorem ok_first {f fCU : Addr} {fd fdCU : FuncData} (F : Fun K "first_use" "first_use" sFirst f fd) (GCU : FnOk P w K mg base CX0 1 fCU fdCU ["rule", "block"] spUsable) (mCU : mg "can_use" = some (.ref fCU)) (kCU : PySem.W.keepIn K (.ref fCU) = true) (bCU : Binds K fdCU ["rule", "block"] []) (zenumerate : mg "enumerate" = none) : FnOk P w K mg base CX0 2 f fd ["rules", "blocks"] (spFirstUse K) := by
  refine F.ok scFirst (fun vs H Q E h => ?_) (fun cdv A outer s H vs Q E hr h => ?_)
  · obtain ⟨rl, bl, rs, bs, m, rfl, _⟩ := h
    rfl
  · obtain ⟨rl, bl, rs, bs, m, rfl, hrl, hRs, hbl, lr, lb, qn, qs⟩ := h
    have nd := scFirst.nd
    have hr : Room 1 _ := hr.mono (by decide)
    have lrm : (rs.map fun r => V.ref r.r).length = rs.length := List.length_map ..
    have lbm : (bs.map vN).length = bs.length := List.length_map ..
    refine ⟨_, (pss_cons (ps_for PassesOwn.never rfl (pi_enum (K := K) rfl rfl zenumerate (pa_cons (pv 0) pa_nil)) (pg_tup rfl (pgs_cons (pg_name (i := 2) nd rfl (Or.inl rfl)) (pgs_cons (pg_name (i := 3) nd rfl (Or.inl rfl)) pgs_nil))) (pss_one (ps_for PassesOwn.never rfl (pi_enum (K := K) rfl rfl zenumerate (pa_cons (pv 1) pa_nil)) (pg_tup rfl (pgs_cons (pg_name (i := 4) nd rfl (Or.inl rfl)) (pgs_cons (pg_name (i := 5) nd rfl (Or.inl rfl)) pgs_nil))) (pss_one (ps_if (pt_val (pe_call GCU hr rfl mCU kCU bCU .nil pass0 (pa_cons (pv 3) (pa_cons (pv 5) pa_nil)))) (pss_one (ps_ret (pe_tup (pa_cons (pv 2) (pa_cons (pv 4) pa_nil))))) pss_nil)))))
      (pss_one (ps_ret pe_non))), ?_⟩
    refine ⟨_, rfl, rl, _, rfl, hrl, for_enum (xs := rs.map fun r => V.ref r.r) (fun i σ H' => (∃ v2 v3 v4 v5, σ = [some (.ref rl), some (.ref bl), v2, v3, v4, v5]) ∧ Same H H' ∧ usesN (rs.map Rl.d) bs i = []) ⟨⟨none, none, none, none, rfl⟩, Same.refl _, rfl⟩ (fun i σ H' _ h => h.2.1.seq hrl) ?_ ?_⟩
    · rintro i v σ H0 t0 hv ⟨⟨v2, v3, v4, v5, rfl⟩, s0, u0⟩ ht0
      rw [List.getElem?_map] at hv
      cases er : rs[i]? with
      | none => rw [er] at hv; cases hv
      | some r =>
        rw [er] at hv
        obtain rfl := (Option.some.inj hv).symm
        have hi : i < rs.length := (List.getElem?_eq_some_iff.mp er).1
        have hrm := List.mem_of_getElem? er
        have s1 := s0.trans (Same.new (o := .tup [.int (i : Int), V.ref r.r]) ht0)
        refine ⟨t0, _, rfl, SqT.of upd_same, rfl, _, _, rfl, _, _, rfl, rfl, ?_⟩
        generalize upd H0 t0 (.tup [.int (i : Int), V.ref r.r]) = H1 at s1
        refine ⟨_, rfl, bl, _, rfl, s1.seq hbl, for_enum (xs := bs.map vN) (fun j σ H' => (∃ v4 v5, σ = [some (.ref rl), some (.ref bl), some (vN i), some (.ref r.r), v4, v5]) ∧ Same H H' ∧ usesR r.d i bs j = []) ⟨⟨_, _, rfl⟩, s1, rfl⟩ (fun j σ H' _ h => h.2.1.seq hbl) ?_ ?_⟩
        · rintro j v σ H2 t2 hv' ⟨⟨v4', v5', rfl⟩, s2, u2⟩ ht2
          rw [List.getElem?_map] at hv'
          cases eb : bs[j]? with
          | none => rw [eb] at hv'; cases hv'
          | some b =>
            rw [eb] at hv'
            obtain rfl := (Option.some.inj hv').symm
            have hj : j < bs.length := (List.getElem?_eq_some_iff.mp eb).1
            have ebd : bs.getD j 0 = b := by rw [List.getD_eq_getElem?_getD, eb]; rfl
            have s3 := s2.trans (Same.new (o := .tup [.int (j : Int), vN b]) ht2)
            refine ⟨t2, _, rfl, SqT.of upd_same, rfl, _, _, rfl, _, _, rfl, rfl, ?_⟩
            generalize upd H2 t2 (.tup [.int (j : Int), vN b]) = H3 at s3
            refine ⟨_, rfl, _, rfl, r.r, r.st, r.x, r.y, b, rfl, s3 _ _ (hRs r hrm).1, _, rfl, ite2 (fun hu => ?_) (fun hu => ?_)⟩
            · obtain ⟨us, eu⟩ := uses_first (n := rs.length) u0 (by rw [rd_at er]; exact u2) hi hj (by rw [rd_at er, ebd]; exact hu)
              refine ⟨_, rfl, _, rfl, (by show 2 ≤ sizeLine; decide), fun t ht => ?_⟩
              exact qs (i, j) us t _ (s3.trans (Same.new ht)) eu (s3.none ht) upd_same
            · refine ⟨⟨_, _, rfl⟩, s3, ?_⟩
              rw [usesR_succ, u2, ebd, if_neg (show ¬ usB r.d b = true from hu)]; rfl
        · rintro σ H2 ⟨⟨v4', v5', rfl⟩, s2, u2⟩
          rw [lbm] at u2
          refine ⟨⟨_, _, _, _, rfl⟩, s2, ?_⟩
          rw [usesN_succ, u0, rd_at er, u2]; rfl
    · rintro σ H' ⟨⟨v2, v3, v4, v5, rfl⟩, s', u'⟩
      rw [lrm] at u'
      exact qn H' s' u'
end
end Own

namespace Own
open PySem L2
section
variable {P : Program} {w : World} {K : PySem.W.Frag} {mg : Str → Option Value} {base : Heap}
seal PySem.wpAny
noncomputable abbrev sUnf : Stmt := top 26
theorem scUnf : FnScope ["many", "rules", "some", "now", "steps", "use"] ["many", "rules", "some"] (defScope sUnf) := ⟨rfl, rfl, rfl, by decide +kernel, rfl, by decide +kernel, by decide +kernel⟩
theorem ok_unf {f fBG fFU fUD : Addr} {fd fdBG fdFU fdUD : FuncData} (F : Fun K "unfolded" "unfolded" sUnf f fd) (GBG : FnOk P w K mg base CX0 2 fBG fdBG ["many", "some"] (spBegun K)) (mBG : mg "begun" = some (.ref fBG)) (kBG : PySem.W.keepIn K (.ref fBG) = true) (bBG : Binds K fdBG ["many", "some"] []) (GFU : FnOk P w K mg base CX0 2 fFU fdFU ["rules", "blocks"] (spFirstUse K)) (mFU : mg "first_use" = some (.ref fFU)) (kFU : PySem.W.keepIn K (.ref fFU) = true) (bFU : Binds K fdFU ["rules", "blocks"] []) (GUD : FnOk P w K mg base CX0 2 fUD fdUD ["rule", "fixed", "blocks", "at"] (spUsed K)) (mUD : mg "used" = some (.ref fUD)) (kUD : PySem.W.keepIn K (.ref fUD) = true) (bUD : Binds K fdUD ["rule", "fixed", "blocks", "at"] []) : FnOk P w K mg base CX0 3 f fd ["many", "rules", "some"] (spUnfolded K) := by
  refine F.ok scUnf (fun vs H Q E h => ?_) (fun cdv A outer s H vs Q E hr h => ?_)
  · obtain ⟨m, x, rl, rs, rfl, _⟩ := h
    rfl
  · obtain ⟨m, x, rl, rs, rfl, m7, hx, hrl, hRs, lr, qq⟩ := h
    have nd := scUnf.nd
    have hr2 : Room 2 _ := hr.mono (by decide)
    refine ⟨_, (pss_cons (ps_set (i := 3) nd rfl (Or.inl rfl) (pe_call GBG hr2 rfl mBG kBG bBG .nil pass0 (pa_cons (pv 0) (pa_cons (pv 2) pa_nil)))) (pss_cons (ps_set (i := 4) nd rfl (Or.inl rfl) (pe_lst pa_nil)) (pss_cut (fun σ H' => ∃ n, UInv H m x rl rs n σ H') (ps_set (i := 5) nd rfl (Or.inl rfl) (pe_call GFU hr2 rfl mFU kFU bFU .nil pass0 (pa_cons (pv 1) (pa_cons (pe_ix (ix_tupK (K := K) rfl) (pv 3) pe_int (fun _ _ => rfl)) pa_nil)))) (pss_cons (ps_while PassesOwn.never (pt_cmpR op_notN (pv 5) pe_non (nomark _)) (pss_cons (ps_expr (pe_bm PySem.F.plainAttrs_list PySem.F.slot_list_append PySem.F.type_list_append mt_append (pv 4) (pa_cons (pe_tup (pa_cons (pe_ix (ix_tupK (K := K) rfl) (pv 5) pe_int (fun _ _ => rfl)) (pa_cons (pe_ix (ix_listK (K := K) rfl) (pe_ix (ix_tupK (K := K) rfl) (pv 3) pe_int (fun _ _ => rfl)) (pe_ix (ix_tupK (K := K) rfl) (pv 5) pe_int (fun _ _ => rfl)) (fun _ _ => rfl)) pa_nil))) pa_nil)))
      (pss_cons (ps_set (i := 3) nd rfl (Or.inl rfl) (pe_call GUD hr2 rfl mUD kUD bUD .nil pass0 (pa_cons (pe_ix (ix_listK (K := K) rfl) (pv 1) (pe_ix (ix_tupK (K := K) rfl) (pv 5) pe_int (fun _ _ => rfl)) (fun _ _ => rfl)) (pa_cons (pe_ix (ix_tupK (K := K) rfl) (pv 3) pe_int (fun _ _ => rfl)) (pa_cons (pe_ix (ix_tupK (K := K) rfl) (pv 3) pe_int (fun _ _ => rfl)) (pa_cons (pe_ix (ix_tupK (K := K) rfl) (pv 5) pe_int (fun _ _ => rfl)) pa_nil))))))
      (pss_one (ps_set (i := 5) nd rfl (Or.inl rfl) (pe_call GFU hr2 rfl mFU kFU bFU .nil pass0 (pa_cons (pv 1) (pa_cons (pe_ix (ix_tupK (K := K) rfl) (pv 3) pe_int (fun _ _ => rfl)) pa_nil)))))))) (pss_one (ps_ret (pe_tup (pa_cons (pe_ix (ix_tupK (K := K) rfl) (pv 3) pe_int (fun _ _ => rfl)) (pa_cons (pe_ix (ix_tupK (K := K) rfl) (pv 3) pe_int (fun _ _ => rfl)) (pa_cons (pv 4) pa_nil)))))))))), ?_⟩
    refine ⟨_, rfl, _, rfl, m, x, rfl, m7, hx, fun t0 p0 H1 s1 ht0 ht1 hp0 hp1 => ?_⟩
    refine ⟨(by show 0 ≤ sizeLine; exact Nat.zero_le _), fun qa hqa => ?_⟩
    have c2 := UCore.begin (rs := rs) m7 hx s1 hp0 hp1 hqa
    have ht2 := Same.new (o := .lst []) hqa _ _ ht1
    generalize upd H1 qa (.lst []) = H2 at c2 ht2
    refine ⟨⟨_, rfl, _, rfl, t0, _, _, _, rfl, rfl, SqT.of ht2, atI_nat (j := 1) rfl, rl, p0, rs, beginBs m x, m, rfl, c2.same.seq hrl, hRs.same c2.same, SqL.of c2.hp, lr, (by have := c2.good.len m7; exact Nat.le_trans this (by decide)), fun H3 s3 hu => ?_, fun u us t5 H3 s3 hu ht5 ht5' => ?_⟩, ?_⟩
    · exact ⟨_, _, t0, p0, qa, [], .non, rfl, rfl, s3 _ _ ht2, c2.mono s3, .inl ⟨hu, rfl⟩⟩
    · exact ⟨_, _, t0, p0, qa, [], .ref t5, rfl, rfl, s3 _ _ ht2, c2.mono s3, .inr ⟨u, us, t5, hu, rfl, ht5'⟩⟩
    clear c2 ht2 ht1 hp1 hp0 ht0 s1 hqa
    rintro σ H3 ⟨n0, hinv⟩
    refine ⟨UInv H m x rl rs, ⟨n0, hinv⟩, ?_⟩
    rintro n _ H4 ⟨s, t, p, qa, sw, v, rfl, en, ht, c, hv⟩
    refine ⟨_, rfl, rfl, _, rfl, ?_⟩
    rcases hv with ⟨hu, rfl⟩ | ⟨u, us, t5, hu, rfl, ht5⟩
    · refine iteF ?_
      refine ⟨_, rfl, t, _, _, _, rfl, rfl, SqT.of ht, atI_nat (j := 0) rfl, _, rfl, t, _, _, _, rfl, rfl, SqT.of ht, atI_nat (j := 1) rfl, _, rfl, (by show 3 ≤ sizeLine; decide), fun tt htt => ?_⟩
      have s5 := Same.new (o := .tup [vN s.fx, V.ref p, V.ref qa]) htt
      have c5 := c.mono s5
      exact qq tt p qa s sw _ (c.run s (.done (by rw [rd_len]; exact hu))) c5.same (c.same.none htt) upd_same c5.hp0 c5.hp c5.hq0 c5.hq c5.st c5.est (by have := c5.slen; omega) c5.npq
    · refine iteT ?_
      refine ⟨_, fun _ _ h => h, ?_⟩
      obtain ⟨r, er, erd, hu2, ebu, hR⟩ := uses_at (rs := rs) (u := u) (by rw [hu]; exact List.mem_cons_self ..) (hRs.same c.same)
      have ebv : (s.bs.map vN)[u.2]? = some (vN (s.bs.getD u.2 0)) := by rw [List.getElem?_map, ebu]; rfl
      have erv : (rs.map fun r => V.ref r.r)[u.1]? = some (V.ref r.r) := by rw [List.getElem?_map, er]; rfl
      refine ⟨_, rfl, .inl ⟨rfl, _, SqL.of c.hq⟩, _, rfl, t5, _, _, _, rfl, rfl, SqT.of ht5, atI_nat (j := 0) rfl, _, rfl, t, _, _, _, rfl, rfl, SqT.of ht, atI_nat (j := 1) rfl, _, rfl, t5, _, _, _, rfl, rfl, SqT.of ht5, atI_nat (j := 1) rfl, p, _, _, _, rfl, rfl, SqL.of c.hp, atI_nat ebv, (by show 2 ≤ sizeLine; decide), fun w hw => ?_⟩
      have sw1 := Same.new (o := .tup [vN u.1, vN (s.bs.getD u.2 0)]) hw
      have c1 := c.mono sw1
      have hw1 : (upd H4 w (.tup [vN u.1, vN (s.bs.getD u.2 0)])) w = some (.tup [vN u.1, vN (s.bs.getD u.2 0)]) := upd_same
      have ht1 := sw1 _ _ ht
      have ht51 := sw1 _ _ ht5
      generalize upd H4 w (.tup [vN u.1, vN (s.bs.getD u.2 0)]) = H5 at sw1 c1 hw1 ht1 ht51
      refine ⟨qa, _, _, rfl, rfl, c1.hq, (by rw [List.length_map]; exact small1000 (by have := c1.slen; omega)), ?_⟩
      have sq : Same H (upd H5 qa (.lst ((sw.map fun w => V.ref w.1) ++ [V.ref w]))) := c1.same.own c1.hq0
      have ht2 : (upd H5 qa (.lst ((sw.map fun w => V.ref w.1) ++ [V.ref w]))) t = some (.tup [vN s.fx, .ref p]) := by rw [upd_ne (ne_of ht1 c1.hq (by intro z; cases z))]; exact ht1
      have ht52 : (upd H5 qa (.lst ((sw.map fun w => V.ref w.1) ++ [V.ref w]))) t5 = some (.tup [vN u.1, vN u.2]) := by rw [upd_ne (ne_of ht51 c1.hq (by intro z; cases z))]; exact ht51
      have hp2 : (upd H5 qa (.lst ((sw.map fun w => V.ref w.1) ++ [V.ref w]))) p = some (.lst (s.bs.map vN)) := by rw [upd_ne c1.npq]; exact c1.hp
      have hdis : s.fx &&& s.bs.getD u.2 0 = 0 := c.good.dis _ (List.mem_of_getElem? ebu)
      refine ⟨_, rfl, _, rfl, t5, _, _, _, rfl, rfl, SqT.of ht52, atI_nat (j := 0) rfl, rl, _, _, _, rfl, rfl, sq.seq hrl, atI_nat erv, _, rfl, t, _, _, _, rfl, rfl, SqT.of ht2, atI_nat (j := 0) rfl, _, rfl, t, _, _, _, rfl, rfl, SqT.of ht2, atI_nat (j := 1) rfl, _, rfl, t5, _, _, _, rfl, rfl, SqT.of ht52, atI_nat (j := 1) rfl, r.r, p, r.st, r.x, r.y, s.fx, u.2, s.bs, rfl, sq _ _ (hRs r (List.mem_of_getElem? er)).1, SqL.of hp2, hu2, (by have := c.good.len m7; omega), hdis, fun t' p' H6 s6 ht' ht6 hp' hp6 => ?_⟩
      have efx : (stepS (rs.map Rl.d) s u).fx = behindFx r.st r.y s.fx s.bs u.2 := by unfold stepS; rw [erd]; rfl
      have ebs : (stepS (rs.map Rl.d) s u).bs = behindBs r.st r.y s.bs u.2 := by unfold stepS; rw [erd]; rfl
      rw [← efx] at ht6
      rw [← ebs] at hp6
      obtain ⟨c6, mu⟩ := c1.next (w := (w, (u.1, s.bs.getD u.2 0))) hu rfl hw1 s6 hp' hp6
      refine ⟨_, rfl, _, rfl, t', _, _, _, rfl, rfl, SqT.of ht6, atI_nat (j := 1) rfl, rl, p', rs, (stepS (rs.map Rl.d) s u).bs, m, rfl, c6.same.seq hrl, hRs.same c6.same, SqL.of c6.hp, lr, (by have := c6.good.len m7; omega), fun H7 s7 hu' => ?_, fun u' us' t5' H7 s7 hu' ht7 ht7' => ?_⟩
      · exact ⟨_, by rw [en]; exact mu, _, t', p', qa, _, .non, rfl, rfl, s7 _ _ ht6, c6.mono s7, .inl ⟨hu', rfl⟩⟩
      · exact ⟨_, by rw [en]; exact mu, _, t', p', qa, _, .ref t5', rfl, rfl, s7 _ _ ht6, c6.mono s7, .inr ⟨u', us', t5', hu', rfl, ht7'⟩⟩
noncomputable abbrev sAgain : Stmt := top 28
theorem scAgain : FnScope ["many", "rules", "part", "some", "told", "gained", "pieces"] ["many", "rules", "part", "some"] (defScope sAgain) := ⟨rfl, rfl, rfl, by decide +kernel, rfl, by decide +kernel, by decide +kernel⟩
theorem ok_again {f fUN fIW : Addr} {fd fdUN fdIW : FuncData} (F : Fun K "told_again" "told_again" sAgain f fd) (GUN : FnOk P w K mg base CX0 3 fUN fdUN ["many", "rules", "some"] (spUnfolded K)) (mUN : mg "unfolded" = some (.ref fUN)) (kUN : PySem.W.keepIn K (.ref fUN) = true) (bUN : Binds K fdUN ["many", "rules", "some"] []) (GIW : FnOk P w K mg base CX0 1 fIW fdIW ["one", "other"] spWithin) (mIW : mg "is_within" = some (.ref fIW)) (kIW : PySem.W.keepIn K (.ref fIW) = true) (bIW : Binds K fdIW ["one", "other"] []) (zlen : mg "len" = none) : FnOk P w K mg base CX0 4 f fd ["many", "rules", "part", "some"] (spAgain K) := by
  refine F.ok scAgain (fun vs H Q E h => ?_) (fun cdv A outer s H vs Q E hr h => ?_)
  · obtain ⟨m, p, x, rl, rs, rfl, _⟩ := h
    rfl
  · obtain ⟨m, p, x, rl, rs, rfl, m7, hx, hrl, hRs, lr, q⟩ := h
    have nd := scAgain.nd
    have hr1 : Room 1 _ := hr.mono (by decide)
    have hr3 : Room 3 _ := hr.mono (by decide)
    refine ⟨_, (pss_cons (ps_set (i := 4) nd rfl (Or.inl rfl) (pe_call GUN hr3 rfl mUN kUN bUN .nil pass0 (pa_cons (pv 0) (pa_cons (pv 1) (pa_cons (pv 3) pa_nil)))))
      (pss_cons (ps_if (pt_val (pe_call GIW hr1 rfl mIW kIW bIW .nil pass0 (pa_cons (pv 2) (pa_cons (pe_ix (ix_tupK (K := K) rfl) (pv 4) pe_int (fun _ _ => rfl)) pa_nil)))) (pss_one (ps_ret pe_non)) pss_nil)
      (pss_cons (ps_set (i := 5) nd rfl (Or.inl rfl) (pe_op op_andInv (pe_op op_andN (pv 2) (pe_ix (ix_tupK (K := K) rfl) (pv 4) pe_int (fun _ _ => rfl))) (pe_un un_inv (pv 3))))
      (pss_cons (ps_if (pt_cmpR op_neN (pv 5) pe_int (nomark _)) (pss_one (ps_ret (pv 5))) pss_nil)
      (pss_cons (ps_comp (i := 6) (xs := ["block"]) (cs ["many", "rules", "part", "some", "told", "gained", "pieces"] (defScope sAgain) rfl rfl (by decide +kernel)) rfl nd rfl rfl (pi_listK (K := K) rfl (pe_ix (ix_tupK (K := K) rfl) (pv 4) pe_int (fun _ _ => rfl))) (fun _ _ _ => pg_name (i := 0) (show (["block", "many", "rules", "part", "some", "told", "gained", "pieces"] : List Str).Nodup by decide +kernel) rfl (Or.inl rfl)) (fun _ _ _ => (pts_one (pt_cmpR op_neN (pe_op op_andN (pv 0) (pv 3)) pe_int (nomark _)))) (fun _ _ _ => (pe_op op_andN (pv 0) (pv 3))))
      (pss_cons (ps_if (pt_cmpR op_gtN (pe_callB (call_lenK (K := K) rfl) (by rfl) zlen PySem.boot_len (pa_cons (pv 6) pa_nil)) pe_int (nomark _)) (pss_one (ps_ret (pe_ix (ix_listK (K := K) rfl) (pv 6) pe_int (fun _ _ => rfl)))) pss_nil)
      (pss_one (ps_ret pe_non)))))))), ?_⟩
    refine ⟨_, rfl, _, rfl, _, rfl, m, x, rl, rs, rfl, m7, hx, hrl, hRs, lr, fun t pb qb s sw H1 R s1 ht0 ht hp0 hp _ _ _ _ _ _ => ?_⟩
    have eU := R.unfF
    have G := (R.good (Good.begin hx)).1
    have ea : againN m (rs.map Rl.d) p x = if p &&& s.fx = p then none else if (p &&& s.fx) - ((p &&& s.fx) &&& x) ≠ 0 then some ((p &&& s.fx) - ((p &&& s.fx) &&& x)) else if 1 < (bitsIn p s.bs).length then (bitsIn p s.bs).head? else none := by
      unfold againN gainedN
      rw [eU]
    refine ⟨_, rfl, _, rfl, t, _, _, _, rfl, rfl, SqT.of ht, atI_nat (j := 0) rfl, p, s.fx, rfl, _, rfl, ite2 (fun hb => ?_) (fun hb => ?_)⟩
    · have z := q H1 s1
      rw [ea, if_pos (of_decide_eq_true hb)] at z
      exact z
    have n1 : ¬ p &&& s.fx = p := fun z => hb (decide_eq_true z)
    rw [if_neg n1] at ea
    refine ⟨_, rfl, _, rfl, t, _, _, _, rfl, rfl, SqT.of ht, atI_nat (j := 0) rfl, p, s.fx, rfl, rfl, _, rfl, (x : Int), rfl, p &&& s.fx, x, rfl, rfl, ?_⟩
    refine ⟨_, rfl, (p &&& s.fx) - ((p &&& s.fx) &&& x), 0, rfl, rfl, _, rfl, ite2 (fun hc => ?_) (fun hc => ?_)⟩
    · have n2 : (p &&& s.fx) - ((p &&& s.fx) &&& x) ≠ 0 := fun z => by rw [decide_eq_true z] at hc; cases hc
      have z := q H1 s1
      rw [ea, if_pos n2] at z
      exact ⟨_, rfl, z⟩
    have n2 : ¬ (p &&& s.fx) - ((p &&& s.fx) &&& x) ≠ 0 := fun z => hc (by rw [decide_eq_false z]; rfl)
    rw [if_neg n2] at ea
    have bl := G.len m7
    refine ⟨_, rfl, t, _, _, _, rfl, rfl, SqT.of ht, atI_nat (j := 1) rfl, pb, rfl, ⟨_, SqL.of hp⟩, lc_list (K := K) (xs := s.bs.map vN) (fun k acc H3 => H3 = H1 ∧ acc = (bitsIn p (s.bs.take k)).map vN) (by rw [List.length_map]; omega) ⟨rfl, rfl⟩ (fun k acc H3 hk h => ?_) (fun k u acc H3 hu h => ?_) (fun acc H3 h => ?_)⟩
    · obtain ⟨rfl, rfl⟩ := h
      exact ⟨SqL.of hp, by rw [List.length_map]; exact bitsIn_len p _ k⟩
    · obtain ⟨rfl, rfl⟩ := h
      rw [List.getElem?_map] at hu
      cases eb : s.bs[k]? with
      | none => rw [eb] at hu; cases hu
      | some b =>
        rw [eb] at hu
        obtain rfl := (Option.some.inj hu).symm
        refine ⟨rfl, _, rfl, _, rfl, b, p, rfl, rfl, b &&& p, 0, rfl, rfl, _, rfl, ite2 (fun hd => ?_) (fun hd => ?_)⟩
        · have z : ¬ b &&& p = 0 := fun z => by rw [decide_eq_true z] at hd; cases hd
          refine ⟨_, rfl, _, rfl, b, p, rfl, rfl, rfl, ?_⟩
          rw [bitsIn_succ eb, if_neg z, List.map_append]; rfl
        · have z : b &&& p = 0 := Classical.byContradiction fun z => hd (by rw [decide_eq_false z]; rfl)
          refine ⟨rfl, ?_⟩
          rw [bitsIn_succ eb, if_pos z, List.append_nil]
    · obtain ⟨rfl, rfl⟩ := h
      rw [List.length_map, List.take_length]
      intro lp hlp
      have sL := s1.trans (Same.new (o := .lst ((bitsIn p s.bs).map vN)) hlp)
      have hlp' : (upd H3 lp (.lst ((bitsIn p s.bs).map vN))) lp = some (.lst ((bitsIn p s.bs).map vN)) := upd_same
      have z := q _ sL
      generalize upd H3 lp (.lst ((bitsIn p s.bs).map vN)) = H4 at hlp' z
      rw [ea] at z
      refine ⟨_, rfl, lp, _, rfl, .inl (SqL.of hlp'), ((bitsIn p s.bs).map vN).length, 1, rfl, rfl, _, rfl, ite2 (fun he => ?_) (fun he => ?_)⟩
      · have he' := of_decide_eq_true he
        rw [List.length_map] at he'
        rw [if_pos he'] at z
        revert hlp' z he'
        match bitsIn p s.bs with
        | [] => intro _ _ h; exact absurd h (by decide)
        | g :: l =>
          intro hlp' z _
          exact ⟨_, rfl, lp, _, _, _, rfl, rfl, SqL.of hlp', atI_nat (j := 0) rfl, z⟩
      · have he' : ¬ 1 < (bitsIn p s.bs).length := fun w => he (decide_eq_true (by rw [List.length_map]; exact w))
        rw [if_neg he'] at z
        exact z
noncomputable abbrev sTwice : Stmt := top 29
theorem scTwice : FnScope ["many", "rules", "part", "level", "some", "again"] ["many", "rules", "part"] (defScope sTwice) := ⟨rfl, rfl, rfl, by decide +kernel, rfl, by decide +kernel, by decide +kernel⟩
theorem ok_twice {f fTA fMO : Addr} {fd fdTA fdMO : FuncData} (F : Fun K "twice" "twice" sTwice f fd) (GTA : FnOk P w K mg base CX0 4 fTA fdTA ["many", "rules", "part", "some"] (spAgain K)) (mTA : mg "told_again" = some (.ref fTA)) (kTA : PySem.W.keepIn K (.ref fTA) = true) (bTA : Binds K fdTA ["many", "rules", "part", "some"] []) (GMO : FnOk P w K mg base CX0 3 fMO fdMO ["sets", "some"] spOneUp) (mMO : mg "with_one_more" = some (.ref fMO)) (kMO : PySem.W.keepIn K (.ref fMO) = true) (bMO : Binds K fdMO ["sets", "some"] []) : FnOk P w K mg base CX0 5 f fd ["many", "rules", "part"] (spTwice K) := by
  refine F.ok scTwice (fun vs H Q E h => ?_) (fun cdv A outer s H vs Q E hr h => ?_)
  · obtain ⟨m, p, rl, rs, rfl, _⟩ := h
    rfl
  · obtain ⟨m, p, rl, rs, rfl, m7, hp, hrl, hRs, lr, q⟩ := h
    have nd := scTwice.nd
    have hr4 : Room 4 _ := hr.mono (by decide)
    have hr3 : Room 3 _ := hr.mono (by decide)
    have p7 : p < 128 := Nat.lt_of_lt_of_le hp (pow7 m7)
    refine ⟨_, (pss_cons (ps_set (i := 3) nd rfl (Or.inl rfl) (pe_lst (pa_cons pe_int pa_nil)))
      (pss_cons (ps_while PassesOwn.never (pt_cmpR (op_neLK (K := K) rfl hr.units) (pv 3) (pe_lst pa_nil) (nomark _)) (pss_cons (ps_for PassesOwn.never rfl (pi_listK (K := K) rfl (pv 3)) (pg_name (i := 4) nd rfl (Or.inl rfl)) (pss_cons (ps_set (i := 5) nd rfl (Or.inl rfl) (pe_call GTA hr4 rfl mTA kTA bTA .nil pass0 (pa_cons (pv 0) (pa_cons (pv 1) (pa_cons (pv 2) (pa_cons (pv 4) pa_nil))))))
      (pss_one (ps_if (pt_cmpR op_notN (pv 5) pe_non (nomark _)) (pss_one (ps_ret (pe_tup (pa_cons (pv 4) (pa_cons (pv 5) pa_nil))))) pss_nil))))
      (pss_one (ps_set (i := 3) nd rfl (Or.inl rfl) (pe_call GMO hr3 rfl mMO kMO bMO .nil pass0 (pa_cons (pv 3) (pa_cons (pv 2) pa_nil)))))))
      (pss_one (ps_ret pe_non)))), ?_⟩
    refine ⟨(by show 1 ≤ sizeLine; decide), fun l0 hl0 => ?_⟩
    have s1 := Same.new (o := .lst [V.int 0]) hl0
    have hl1 : (upd H l0 (.lst [V.int 0])) l0 = some (.lst ((rowN p 0).map vN)) := by rw [upd_same, row_zero p p7]; rfl
    refine ⟨fun n σ H' => ∃ (i : Nat) (lp : Addr) (v4 v5 : Option V), σ = [some (vN m), some (.ref rl), some (vN p), some (.ref lp), v4, v5] ∧ n = 8 - i ∧ i ≤ 8 ∧ Same H H' ∧ (dueM p i).findSome? (hitT m (rs.map Rl.d) p) = none ∧ H' lp = some (.lst ((rowN p i).map vN)), ⟨_, 0, l0, none, none, rfl, rfl, by omega, s1, rfl, hl1⟩, ?_⟩
    rintro n _ H1 ⟨i, lp, v4, v5, rfl, en, hi, s2, u0, hl2⟩
    have mi := map_int (rowN p i)
    refine ⟨_, rfl, Nat.zero_le _, fun np hnp => ?_⟩
    have sN := Same.new (o := .lst []) hnp
    refine ⟨lp, np, (rowN p i).map fun (k : Nat) => (k : Int), [], rfl, rfl, SqL.of (by rw [mi]; exact sN _ _ hl2), SqL.of upd_same, _, rfl, ?_⟩
    have hl3 := sN _ _ hl2
    have s3 := s2.trans sN
    generalize upd H1 np (.lst []) = H3 at hl3 s3
    rw [if_pos rfl]
    refine ite2 (fun hb => ?_) (fun hb => ?_)
    · have hne : rowN p i ≠ [] := fun z => by
        rw [z] at hb
        cases hb
      have hi8 : i < 8 := by
        rcases Nat.lt_or_ge i 8 with h | h
        · exact h
        · have : i = 8 := by omega
          rw [this, row_last p p7] at hne
          exact absurd rfl hne
      refine ⟨_, fun _ _ h => h, ?_⟩
      refine ⟨_, rfl, lp, rfl, ⟨_, SqL.of hl3⟩, for_list (K := K) (xs := (rowN p i).map vN) (fun j σ H' => (∃ v4 v5 : Option V, σ = [some (vN m), some (.ref rl), some (vN p), some (.ref lp), v4, v5]) ∧ Same H3 H' ∧ ((rowN p i).take j).findSome? (hitT m (rs.map Rl.d) p) = none) ⟨⟨_, _, rfl⟩, Same.refl _, rfl⟩ (fun j σ H' _ h => SqL.of (h.2.1 _ _ hl3)) ?_ ?_⟩
      · rintro j v σ H4 hv ⟨⟨v4, v5, rfl⟩, s4, u1⟩
        rw [List.getElem?_map] at hv
        cases ex : (rowN p i)[j]? with
        | none => rw [ex] at hv; cases hv
        | some x =>
          rw [ex] at hv
          obtain rfl := (Option.some.inj hv).symm
          have hx : x < 2 ^ m := by
            have h1 := row_sub (List.mem_of_getElem? ex)
            have h2 : x &&& p ≤ p := Nat.and_le_right
            rw [h1] at h2
            omega
          have s34 := s3.trans s4
          refine ⟨_, rfl, _, rfl, _, rfl, _, rfl, m, p, x, rl, rs, rfl, m7, hx, s34.seq hrl, hRs.same s34, lr, fun H5 s5 => ?_⟩
          cases eg : againN m (rs.map Rl.d) p x with
          | none =>
            refine ⟨_, rfl, rfl, _, rfl, iteF ?_⟩
            exact ⟨⟨_, _, rfl⟩, s4.trans s5, tw_miss u1 ex (by unfold hitT; rw [eg]; rfl)⟩
          | some g =>
            refine ⟨_, rfl, rfl, _, rfl, iteT ?_⟩
            refine ⟨_, rfl, _, rfl, (by show 2 ≤ sizeLine; decide), fun t ht => ?_⟩
            exact q _ _ ((s34.trans s5).trans (Same.new ht)) (by rw [tw_hit u0 u1 hi8 ex (u := (x, g)) (by unfold hitT; rw [eg]; rfl)]; exact ⟨t, rfl, upd_same⟩)
      · rintro σ H4 ⟨⟨v4, v5, rfl⟩, s4, u1⟩
        rw [List.length_map] at u1
        refine ⟨_, rfl, _, rfl, lp, p, i, rfl, p7, hi8, s4 _ _ hl3, fun l H5 s5 hl50 hl5 => ?_⟩
        exact ⟨8 - (i + 1), by omega, i + 1, l, _, _, rfl, rfl, by omega, (s3.trans s4).trans s5, tw_level u0 u1 (Nat.le_refl _), hl5⟩
    · have hz : rowN p i = [] := by
        cases z : rowN p i with
        | nil => rfl
        | cons x xs => exact absurd (by rw [z]; rfl) hb
      exact q _ _ s3 (by rw [tw_none p7 (by omega) u0 hz]; rfl)
end
end Own

namespace Own
open PySem L2
section
variable {P : Program} {w : World} {K : PySem.W.Frag} {mg : Str → Option Value} {base : Heap}
noncomputable abbrev sNoughts : Stmt := top 9
theorem scNoughts : FnScope ["many"] ["many"] (defScope sNoughts) := ⟨rfl, rfl, rfl, by decide +kernel, rfl, by decide +kernel, by decide +kernel⟩
theorem ok_noughts {f : Addr} {fd : FuncData} (F : Fun K "noughts" "noughts" sNoughts f fd) : FnOk P w K mg base CX0 1 f fd ["many"] spNoughts := by
  refine F.ok scNoughts (fun vs H Q E h => ?_) (fun cdv A outer s H vs Q E hr h => ?_)
  · obtain ⟨m, rfl, _⟩ := h
    rfl
  · obtain ⟨m, rfl, h1, h20, q⟩ := h
    refine ⟨_, (pss_one (ps_ret (pe_op op_repT (pe_tup (pa_cons pe_int pa_nil)) (pv 0)))), ?_⟩
    refine ⟨(by show 1 ≤ sizeLine; decide), fun l hl => ?_⟩
    refine ⟨_, rfl, l, V.int 0, m, rfl, rfl, upd_same, h1, by omega, fun e => ?_, fun e p hp => ?_⟩
    · subst e
      exact q l _ (Same.new hl) hl upd_same
    · refine q p _ ((Same.new hl).trans (Same.new hp)) ((Same.new hl).free hp) ?_
      rw [upd_same, List.map_replicate]
noncomputable abbrev sSeen : Stmt := top 10
theorem scSeen : FnScope ["row", "part"] ["row", "part"] (defScope sSeen) := ⟨rfl, rfl, rfl, by decide +kernel, rfl, by decide +kernel, by decide +kernel⟩
theorem ok_seen {f fM fN : Addr} {fd fdM fdN : FuncData} (F : Fun K "seen_row" "seen_row" sSeen f fd) (GM : FnOk P w K mg base CX0 2 fM fdM ["one", "other", "some"] (spMixed K)) (mM : mg "mixed" = some (.ref fM)) (kM : PySem.W.keepIn K (.ref fM) = true) (bM : Binds K fdM ["one", "other", "some"] []) (GN : FnOk P w K mg base CX0 1 fN fdN ["many"] spNoughts) (mN : mg "noughts" = some (.ref fN)) (kN : PySem.W.keepIn K (.ref fN) = true) (bN : Binds K fdN ["many"] []) (zlen : mg "len" = none) : FnOk P w K mg base CX0 3 f fd ["row", "part"] spSeen := by
  refine F.ok scSeen (fun vs H Q E h => ?_) (fun cdv A outer s H vs Q E hr h => ?_)
  · obtain ⟨a, r, x, rfl, _⟩ := h
    rfl
  · obtain ⟨a, r, x, rfl, ha, l1, l20, q⟩ := h
    have hr1 : Room 1 _ := hr.mono (by decide)
    refine ⟨_, (pss_one (ps_ret (pe_call GM hr rfl mM kM bM .nil pass0 (pa_cons (pv 0) (pa_cons (pe_call GN hr1 rfl mN kN bN .nil pass0 (pa_cons (pe_callB (call_lenK (K := K) rfl) (by rfl) zlen PySem.boot_len (pa_cons (pv 0) pa_nil)) pa_nil)) (pa_cons (pv 1) pa_nil)))))), ?_⟩
    have lm : (r.map V.int).length = r.length := List.length_map ..
    refine ⟨_, rfl, _, rfl, a, _, rfl, .inr (SqT.of ha), (r.map V.int).length, rfl, by omega, by omega, fun p H1 s1 hp hp1 => ?_⟩
    rw [lm] at hp1
    refine ⟨_, rfl, a, p, r, List.replicate r.length 0, x, rfl, SqT.of (s1 _ _ ha), SqT.of hp1, by rw [List.length_replicate], l20, fun p2 H2 s2 hp2 hp3 => ?_⟩
    exact q p2 H2 (s1.trans s2) (s1.free hp2) hp3
noncomputable abbrev sGroups : Stmt := top 11
theorem scGroups : FnScope ["book", "some", "groups", "row"] ["book", "some"] (defScope sGroups) := ⟨rfl, rfl, rfl, by decide +kernel, rfl, by decide +kernel, by decide +kernel⟩
theorem ok_groups {f fE : Addr} {fd fdE : FuncData} (F : Fun K "groups_on" "groups_on" sGroups f fd) (GE : FnOk P w K mg base CX0 3 fE fdE ["row", "part"] spSeen) (mE : mg "seen_row" = some (.ref fE)) (kE : PySem.W.keepIn K (.ref fE) = true) (bE : Binds K fdE ["row", "part"] []) : FnOk P w K mg base CX0 4 f fd ["book", "some"] (spGroups K) := by
  refine F.ok scGroups (fun vs H Q E h => ?_) (fun cdv A outer s H vs Q E hr h => ?_)
  · obtain ⟨bk, rws, x, m, rfl, _⟩ := h
    rfl
  · obtain ⟨bk, rws, x, m, rfl, hB, hR, m1, m20, hlen, q⟩ := h
    have nd := scGroups.nd
    refine ⟨_, (pss_cons (ps_set (i := 2) nd rfl (Or.inl rfl) pe_dnewT)
      (pss_cons (ps_for PassesOwn.never rfl (pi_listK (K := K) rfl (pv 0)) (pg_name (i := 3) nd rfl (Or.inl rfl)) (pss_one (ps_expr (pe_bm PySem.F.plainAttrs_list PySem.F.slot_list_append PySem.F.type_list_append mt_append (pe_dsd (hu_of hr) (pv 2) (pe_call GE hr rfl mE kE bE .nil pass0 (pa_cons (pv 3) (pa_cons (pv 1) pa_nil))) (pe_lst pa_nil) ⟨rfl, rfl, rfl, rfl⟩) (pa_cons (pv 3) pa_nil)))))
      (pss_one (ps_ret (pv 2))))), ?_⟩
    intro d hd
    have s0 : Same H (upd H d (.dT [])) := Same.new hd
    refine ⟨_, rfl, bk, rfl, ⟨_, s0.seq hB⟩, for_list (xs := refsOf rws) (fun i σ H2 => (∃ v, σ = [some (.ref bk), some (vN x), some (.ref d), v]) ∧ Same H H2 ∧ ∃ G, GroupsAt H2 d G ∧ forget G = groupsL (rws.take i) x ∧ ∀ g ∈ G, H g.at_ = none)
      ⟨⟨none, rfl⟩, s0, [], ⟨upd_same, fun g hg => absurd hg List.not_mem_nil, List.nodup_nil, List.nodup_nil⟩, rfl, fun g hg => absurd hg List.not_mem_nil⟩ (fun i σ H2 _ h => h.2.1.seq hB) ?_ ?_⟩
    · rintro i v σ H2 hv ⟨⟨v3, rfl⟩, s2, G, A2, eG, hf⟩
      unfold refsOf at hv
      rw [List.getElem?_map] at hv
      cases er : rws[i]? with
      | none => rw [er] at hv; cases hv
      | some rw0 =>
        rw [er] at hv
        obtain rfl := (Option.some.inj hv).symm
        obtain ⟨hrow, hrl⟩ := hR rw0 (List.mem_of_getElem? er)
        have tk : rws.take (i + 1) = rws.take i ++ [rw0] := by rw [List.take_succ, er]; rfl
        obtain ⟨gl1, gl2⟩ := groups_len x (rws.take i)
        have tl : (rws.take i).length ≤ 300 := Nat.le_trans (List.length_take_le _ _) (by
          have := (List.getElem?_eq_some_iff.mp er).1; omega)
        refine ⟨_, rfl, d, rfl, .inr ⟨_, .inl A2.dict⟩, ?_⟩
        refine ⟨_, rfl, _, rfl, rw0.1, rw0.2, x, rfl, s2 _ _ hrow, by omega, by omega, fun p H3 s3 hp hp3 => ?_⟩
        refine ⟨(by show 0 ≤ sizeLine; exact Nat.zero_le _), fun l hl => ?_⟩
        have s34 : Same H3 (upd H3 l (.lst [])) := Same.new hl
        have A4 : GroupsAt (upd H3 l (.lst [])) d G := (A2.same s3).same s34
        have hl4 : (upd H3 l (.lst [])) l = some (.lst []) := upd_same
        have hp4 : (upd H3 l (.lst [])) p = some (.tup ((seenL rw0.2 x).map V.int)) := s34 _ _ hp3
        have s4 : Same H (upd H3 l (.lst [])) := s2.trans (s3.trans s34)
        have hlG : ∀ g ∈ G, g.at_ ≠ l := fun g hg => ne_of_none ((A2.same s3).lists g hg) hl
        have hlH : H l = none := (s2.trans s3).free hl
        generalize upd H3 l (.lst []) = H4 at A4 hl4 hp4 s4
        refine ⟨kvsOf G, tks (seenL rw0.2 x), p, A4.dict, rfl, by rw [tks_kV]; exact hp4, ?_, fun v hv => ?_, fun hv => ?_⟩
        · unfold kvsOf
          rw [List.length_map, forget_len eG]
          exact small1000 (by omega)
        · rw [valV_G] at hv
          cases ef : (G.find? fun g => decide (g.key = seenL rw0.2 x)) with
          | none => rw [ef] at hv; cases hv
          | some g =>
            rw [ef] at hv
            obtain rfl := (Option.some.inj hv).symm
            obtain ⟨hm, hk, A5⟩ := A4.old (rw := rw0) ef
            refine ⟨.inl ⟨rfl, _, SqL.of (A4.lists g hm)⟩, _, rfl, g.at_, _, _, rfl, rfl, A4.lists g hm, ?_, ⟨_, rfl⟩, ?_, _, A5, ?_, fun g' hg' => ?_⟩
            · unfold refsOf
              rw [List.length_map]
              have h9 : g.rows.length ≤ (rws.take i).length := gl2 _ (forget_mem eG hm)
              exact small1000 (by show g.rows.length ≤ 1000; omega)
            · exact fun b o e => by rw [upd_ne (ne_of_none e (hf g hm))]; exact s4 b o e
            · rw [forget_upd (by rw [ef]; rfl), eG, tk, groupsL_snoc]
            · unfold updG at hg'
              obtain ⟨g0, h0, rfl⟩ := List.mem_map.mp hg'
              have := hf g0 h0
              split <;> exact this
        · rw [valV_G] at hv
          have ef : (G.find? fun g => decide (g.key = seenL rw0.2 x)) = none := by
            cases ef : (G.find? fun g => decide (g.key = seenL rw0.2 x)) with
            | none => rfl
            | some g => rw [ef] at hv; cases hv
          have A5 := A4.snoc (rw := rw0) ef hl4 hlG
          have hl5 : (upd H4 d (.dT (putK (kvsOf G) (tks (seenL rw0.2 x)) (V.ref l)))) l = some (.lst []) := by
            rw [upd_ne (ne_of hl4 A4.dict (fun z => nomatch z))]; exact hl4
          refine ⟨.inl ⟨rfl, _, SqL.of hl5⟩, _, rfl, l, _, _, rfl, rfl, hl5, (by show 0 < sizeLine; exact small1000 (by omega)), ⟨_, rfl⟩, ?_, _, A5, ?_, fun g' hg' => ?_⟩
          · exact fun b o e => by rw [upd_ne (ne_of_none e hlH), upd_ne (ne_of_none e hd)]; exact s4 b o e
          · rw [forget_new ef, eG, tk, groupsL_snoc]
          · rcases List.mem_append.mp hg' with hg' | hg'
            · exact hf g' hg'
            · rw [List.mem_singleton.mp hg']; exact hlH
    · rintro σ H2 ⟨⟨v3, rfl⟩, s2, G, A2, eG, hf⟩
      refine ⟨_, rfl, q d G _ s2 hd A2 ?_⟩
      rw [eG]
      unfold refsOf
      rw [List.length_map, List.take_length]
noncomputable abbrev sFirsts : Stmt := top 12
theorem scFirsts : FnScope ["book", "some"] ["book", "some"] (defScope sFirsts) := ⟨rfl, rfl, rfl, by decide +kernel, rfl, by decide +kernel, by decide +kernel⟩
theorem ok_firsts {f fU : Addr} {fd fdU : FuncData} (F : Fun K "firsts_on" "firsts_on" sFirsts f fd) (GU : FnOk P w K mg base CX0 4 fU fdU ["book", "some"] (spGroups K)) (mU : mg "groups_on" = some (.ref fU)) (kU : PySem.W.keepIn K (.ref fU) = true) (bU : Binds K fdU ["book", "some"] []) : FnOk P w K mg base CX0 5 f fd ["book", "some"] (spFirsts K) := by
  refine F.ok scFirsts (fun vs H Q E h => ?_) (fun cdv A outer s H vs Q E hr h => ?_)
  · obtain ⟨bk, rws, x, m, rfl, _⟩ := h
    rfl
  · obtain ⟨bk, rws, x, m, rfl, hB, hR, m1, m20, hlen, q⟩ := h
    refine ⟨_, (pss_one (ps_ret (pe_comp (xs := ["rows"]) (cs ["book", "some"] (defScope sFirsts) rfl rfl (by decide +kernel)) rfl (pi_vals (pe_call GU hr rfl mU kU bU .nil pass0 (pa_cons (pv 0) (pa_cons (pv 1) pa_nil)))) (fun _ _ _ => pg_name (i := 0) (show (["rows", "book", "some"] : List Str).Nodup by decide +kernel) rfl (Or.inl rfl)) (fun _ _ _ => pts_nil) (fun _ _ _ => (pe_ix (ix_listK (K := K) rfl) (pv 0) pe_int (fun _ _ => rfl)))))), ?_⟩
    refine ⟨_, rfl, _, rfl, bk, rws, x, m, rfl, hB, hR, m1, m20, hlen, fun d G H1 s1 hd A1 eG => ⟨d, _, rfl, A1.dict, fun ob => ?_⟩⟩
    obtain ⟨gl1, gl2⟩ := groups_len x rws
    obtain ⟨gk, gm, gc⟩ := groups_spec x rws
    have Gl := forget_len eG
    have kl : (kvsOf G).length = G.length := by unfold kvsOf; rw [List.length_map]
    have hdf : (upd H1 d (.frz ob (.dT (kvsOf G)))) d = some (.frz ob (.dT (kvsOf G))) := upd_same
    have sf : Same H (upd H1 d (.frz ob (.dT (kvsOf G)))) := fun b o e => by rw [upd_ne (ne_of_none e hd)]; exact s1 b o e
    have lf : ∀ g ∈ G, (upd H1 d (.frz ob (.dT (kvsOf G)))) g.at_ = some (.lst (refsOf g.rows)) := fun g hg => by
      rw [upd_ne (ne_of (A1.lists g hg) A1.dict (fun z => nomatch z))]; exact A1.lists g hg
    generalize upd H1 d (.frz ob (.dT (kvsOf G))) = H2 at hdf sf lf
    refine lc_vals (fun i acc H' => H' = H2 ∧ acc = refsOf ((G.take i).map fun g => g.rows.headD (0, []))) (by omega) ⟨rfl, rfl⟩ (fun i acc H' hi h => ?_) (fun i k v acc H' hv h => ?_) (fun acc H' h => ?_)
    · rw [h.1, h.2]
      refine ⟨hdf, ?_⟩
      unfold refsOf
      rw [List.length_map, List.length_map]
      exact List.length_take_le _ _
    · obtain ⟨rfl, rfl⟩ := h
      obtain ⟨g, eg, rfl⟩ := kvs_at hv
      have hg := List.mem_of_getElem? eg
      obtain ⟨ne, _⟩ := gm _ (forget_mem eG hg)
      obtain ⟨r0, rs, er⟩ : ∃ r0 rs, g.rows = r0 :: rs := by
        cases e : g.rows with
        | nil => exact absurd e ne
        | cons a b => exact ⟨a, b, rfl⟩
      refine ⟨rfl, _, rfl, g.at_, _, _, _, rfl, rfl, SqL.of (lf g hg), atI_nat (j := 0) (v := V.ref r0.1) (by rw [er]; rfl), rfl, ?_⟩
      rw [List.take_succ, eg]
      unfold refsOf
      rw [Option.toList_some, List.map_append, List.map_append, List.map_singleton, List.map_singleton, er]
      rfl
    · obtain ⟨rfl, rfl⟩ := h
      intro p hp
      rw [kl, List.take_length]
      have fst : ∀ g ∈ G, g.rows.headD (0, []) ∈ g.rows := fun g hg => by
        obtain ⟨ne, _⟩ := gm _ (forget_mem eG hg)
        cases e : g.rows with
        | nil => exact absurd e ne
        | cons a b => exact List.mem_cons_self
      refine q p _ _ (sf.trans (Same.new hp)) (sf.free hp) upd_same (fun f hf => ?_) (fun rw0 hr0 => ?_) (by rw [List.length_map]; omega)
      · obtain ⟨g, hg, rfl⟩ := List.mem_map.mp hf
        exact (((gm _ (forget_mem eG hg)).2 _).mp (fst g hg)).1
      · obtain ⟨y, hy, ey⟩ := gc rw0 hr0
        obtain ⟨g, hg, e1, e2⟩ := mem_forget eG hy
        refine ⟨_, List.mem_map.mpr ⟨g, hg, rfl⟩, ?_⟩
        have := (((gm _ (forget_mem eG hg)).2 _).mp (fst g hg)).2
        rw [this]
        show g.key = _
        rw [e1, ey]
noncomputable abbrev sSettle : Stmt := top 13
theorem scSettle : FnScope ["book", "left", "right", "rows", "row"] ["book", "left", "right"] (defScope sSettle) := ⟨rfl, rfl, rfl, by decide +kernel, rfl, by decide +kernel, by decide +kernel⟩
theorem ok_settle {f fU fL : Addr} {fd fdU fdL : FuncData} (F : Fun K "settle_breach" "settle_breach" sSettle f fd) (GU : FnOk P w K mg base CX0 4 fU fdU ["book", "some"] (spGroups K)) (mU : mg "groups_on" = some (.ref fU)) (kU : PySem.W.keepIn K (.ref fU) = true) (bU : Binds K fdU ["book", "some"] []) (GL : FnOk P w K mg base CX0 3 fL fdL ["one", "other", "some"] (spAlike K)) (mL : mg "alike" = some (.ref fL)) (kL : PySem.W.keepIn K (.ref fL) = true) (bL : Binds K fdL ["one", "other", "some"] []) : FnOk P w K mg base CX0 5 f fd ["book", "left", "right"] (spSettle K) := by
  refine F.ok scSettle (fun vs H Q E h => ?_) (fun cdv A outer s H vs Q E hr h => ?_)
  · obtain ⟨bk, rws, x, y, m, rfl, _⟩ := h
    rfl
  · obtain ⟨bk, rws, x, y, m, rfl, hBk, hx, hy, qn, qp⟩ := h
    have nd := scSettle.nd
    have hr3 : Room 3 _ := hr.mono (by decide)
    obtain ⟨hB, hR, m1, m7, hlen⟩ := hBk
    have m8 : m < 8 := by omega
    have pw : 2 ^ m ≤ 2 ^ 7 := Nat.pow_le_pow_right (by decide) m7
    obtain ⟨gl1, gl2⟩ := groups_len x rws
    obtain ⟨gk, gm, gc⟩ := groups_spec x rws

    refine ⟨_, (pss_cons (ps_for PassesOwn.never rfl (pi_vals (pe_call GU hr rfl mU kU bU .nil pass0 (pa_cons (pv 0) (pa_cons (pv 1) pa_nil)))) (pg_name (i := 3) nd rfl (Or.inl rfl)) (pss_one (ps_for PassesOwn.never rfl (pi_listK (K := K) rfl (pv 3)) (pg_name (i := 4) nd rfl (Or.inl rfl)) (pss_one (ps_if (pt_not (pt_val (pe_call GL hr3 rfl mL kL bL .nil pass0 (pa_cons (pe_ix (ix_listK (K := K) rfl) (pv 3) pe_int (fun _ _ => rfl)) (pa_cons (pv 4) (pa_cons (pv 2) pa_nil)))))) (pss_one (ps_ret (pe_tup (pa_cons (pe_ix (ix_listK (K := K) rfl) (pv 3) pe_int (fun _ _ => rfl)) (pa_cons (pv 4) pa_nil))))) pss_nil)))))
      (pss_one (ps_ret pe_non))), ?_⟩
    refine ⟨_, rfl, _, rfl, bk, rws, x, m, rfl, hB, hR, m1, by omega, hlen, fun d G H1 s1 hd A1 eG => ⟨d, _, rfl, A1.dict, fun ob => ?_⟩⟩
    have Gl := forget_len eG
    have kl : (kvsOf G).length = G.length := by unfold kvsOf; rw [List.length_map]
    have hdf : (upd H1 d (.frz ob (.dT (kvsOf G)))) d = some (.frz ob (.dT (kvsOf G))) := upd_same
    have sf : Same H (upd H1 d (.frz ob (.dT (kvsOf G)))) := fun b o e => by rw [upd_ne (ne_of_none e hd)]; exact s1 b o e
    have lf : ∀ g ∈ G, (upd H1 d (.frz ob (.dT (kvsOf G)))) g.at_ = some (.lst (refsOf g.rows)) := fun g hg => by
      rw [upd_ne (ne_of (A1.lists g hg) A1.dict (fun z => nomatch z))]; exact A1.lists g hg
    generalize upd H1 d (.frz ob (.dT (kvsOf G))) = H2 at hdf sf lf
    have inG : ∀ g ∈ G, ∀ rw0, rw0 ∈ g.rows ↔ rw0 ∈ rws ∧ seenL rw0.2 x = g.key := fun g hg => (gm _ (forget_mem eG hg)).2

    refine for_vals (fun i σ H' => (∃ v3 v4, σ = [some (.ref bk), some (vN x), some (vN y), v3, v4]) ∧ Same H2 H' ∧ ∀ j g, j < i → G[j]? = some g → ∀ a ∈ g.rows, ∀ b ∈ g.rows, seenL a.2 y = seenL b.2 y) ⟨⟨none, none, rfl⟩, Same.refl _, fun j g h => absurd h (Nat.not_lt_zero _)⟩ (fun i σ H' _ h => h.2.1 _ _ hdf) ?_ ?_
    · rintro i k v σ H' hv ⟨⟨v3, v4, rfl⟩, s', hj⟩
      obtain ⟨g, eg, rfl⟩ := kvs_at hv
      have hg := List.mem_of_getElem? eg
      obtain ⟨ne, _⟩ := gm _ (forget_mem eG hg)
      obtain ⟨r0, rs, er⟩ : ∃ r0 rs, g.rows = r0 :: rs := by
        cases e : g.rows with
        | nil => exact absurd e ne
        | cons a b => exact ⟨a, b, rfl⟩
      have hr0 : r0 ∈ g.rows := by rw [er]; exact List.mem_cons_self
      obtain ⟨r0r, r0k⟩ := (inG g hg r0).mp hr0
      obtain ⟨t0, l0⟩ := hR r0 r0r
      refine ⟨_, rfl, g.at_, rfl, ⟨_, SqL.of (s' _ _ (lf g hg))⟩, for_list (xs := refsOf g.rows) (fun j σ H'' => (∃ v4, σ = [some (.ref bk), some (vN x), some (vN y), some (.ref g.at_), v4]) ∧ Same H2 H'' ∧ ∀ b ∈ g.rows.take j, seenL r0.2 y = seenL b.2 y) ⟨⟨_, rfl⟩, s', fun b h => absurd h (by rw [List.take_zero]; exact List.not_mem_nil)⟩ (fun j σ H'' _ h => SqL.of (h.2.1 _ _ (lf g hg))) ?_ ?_⟩
      · rintro j v σ H'' hv' ⟨⟨v4', rfl⟩, s'', hb⟩
        unfold refsOf at hv'
        rw [List.getElem?_map] at hv'
        cases eb : g.rows[j]? with
        | none => rw [eb] at hv'; cases hv'
        | some b =>
          rw [eb] at hv'
          obtain rfl := (Option.some.inj hv').symm
          have hbm := List.mem_of_getElem? eb
          obtain ⟨bb, bk'⟩ := (inG g hg b).mp hbm
          obtain ⟨tb, lb⟩ := hR b bb
          have S := sf.trans s''
          have cl : ∀ c ∈ colsN y, c < m := fun c hc => ((mem_cols m8 hy).mp hc).1
          refine ⟨_, rfl, g.at_, _, _, _, rfl, rfl, SqL.of (s'' _ _ (lf g hg)), atI_nat (j := 0) (v := V.ref r0.1) (by rw [er]; rfl), _, rfl, _, rfl, r0.1, b.1, r0.2, b.2, y, rfl, SqT.of (S _ _ t0), SqT.of (S _ _ tb), by omega, fun c hc => ⟨by have := cl c hc; omega, by have := cl c hc; omega⟩, fun H3 s3 => ⟨_, rfl, ?_⟩⟩
          have S3 := S.trans s3
          cases ea : alikeL r0.2 b.2 y with
          | true =>
            refine iteF ?_
            refine ⟨⟨_, rfl⟩, s''.trans s3, fun c hc => ?_⟩
            rw [List.take_succ, eb] at hc
            rcases List.mem_append.mp hc with hc | hc
            · exact hb c hc
            · have ec : c = b := by simpa using hc
              rw [ec]
              exact (alike_seen m8 hy l0 lb).mp ea
          | false =>
            refine iteT ?_
            refine ⟨_, rfl, g.at_, _, _, _, rfl, rfl, SqL.of (s3 _ _ (s'' _ _ (lf g hg))), atI_nat (j := 0) (v := V.ref r0.1) (by rw [er]; rfl), _, rfl, (by show 2 ≤ sizeLine; decide), fun p hp => ?_⟩
            refine qp p r0 b _ ⟨r0r, bb, by rw [r0k, bk'], fun e => ?_⟩ (S3.trans (Same.new hp)) (S3.free hp) upd_same
            rw [(alike_seen m8 hy l0 lb).mpr e] at ea
            cases ea
      · rintro σ H'' ⟨⟨v4', rfl⟩, s'', hb⟩
        have hb' : ∀ b ∈ g.rows, seenL r0.2 y = seenL b.2 y := fun b hbm => hb b (by
          unfold refsOf
          rw [List.length_map, List.take_length]; exact hbm)
        refine ⟨⟨_, _, rfl⟩, s'', fun j g' hj' eg' => ?_⟩
        rcases Nat.lt_succ_iff_lt_or_eq.mp hj' with z | rfl
        · exact hj j g' z eg'
        · rw [eg] at eg'
          obtain rfl := Option.some.inj eg'
          exact fun a ha b hb'' => (hb' a ha).symm.trans (hb' b hb'')
    · rintro σ H' ⟨⟨v3, v4, rfl⟩, s', hj⟩
      refine qn H' (sf.trans s') fun a ha b hb hab => ?_
      obtain ⟨z, hz, ez⟩ := gc a ha
      obtain ⟨g, hg, e1, e2⟩ := mem_forget eG hz
      obtain ⟨j, hjl, ej⟩ := List.getElem_of_mem hg
      refine hj j g (by rw [kl]; exact hjl) (by rw [List.getElem?_eq_getElem hjl, ej]) a ((inG g hg a).mpr ⟨ha, by rw [e1, ez]⟩) b ((inG g hg b).mpr ⟨hb, by rw [e1, ez, hab]⟩)
noncomputable abbrev sLack : Stmt := top 14
theorem scLack : FnScope ["rows", "held", "there", "rest", "others", "one", "other"] ["rows", "held"] (defScope sLack) := ⟨rfl, rfl, rfl, by decide +kernel, rfl, by decide +kernel, by decide +kernel⟩
theorem ok_lack {f fA fF fM : Addr} {fd fdA fdF fdM : FuncData} (F : Fun K "lacking_mix" "lacking_mix" sLack f fd) (GA : FnOk P w K mg base CX0 1 fA fdA ["many"] spAllOf) (mA : mg "all_of" = some (.ref fA)) (kA : PySem.W.keepIn K (.ref fA) = true) (bA : Binds K fdA ["many"] []) (GF : FnOk P w K mg base CX0 5 fF fdF ["book", "some"] (spFirsts K)) (mF : mg "firsts_on" = some (.ref fF)) (kF : PySem.W.keepIn K (.ref fF) = true) (bF : Binds K fdF ["book", "some"] []) (GM : FnOk P w K mg base CX0 2 fM fdM ["one", "other", "some"] (spMixed K)) (mM : mg "mixed" = some (.ref fM)) (kM : PySem.W.keepIn K (.ref fM) = true) (bM : Binds K fdM ["one", "other", "some"] []) (zdict : mg "dict" = none) (zlen : mg "len" = none) : FnOk P w K mg base CX0 6 f fd ["rows", "held"] (spLack K) := by
  refine F.ok scLack (fun vs H Q E h => ?_) (fun cdv A outer s H vs Q E hr h => ?_)
  · obtain ⟨bk, rws, x, m, rfl, _⟩ := h
    rfl
  · obtain ⟨bk, rws, x, m, rfl, hBk, hx, hne, qn, qp⟩ := h
    have nd := scLack.nd
    have hr1 : Room 1 _ := hr.mono (by decide)
    have hr2 : Room 2 _ := hr.mono (by decide)
    have hBk' := hBk
    obtain ⟨hB, hR, m1, m7, hlen⟩ := hBk
    have m8 : m < 8 := by omega
    have pw : 2 ^ m ≤ 2 ^ 7 := Nat.pow_le_pow_right (by decide) m7
    obtain ⟨r0, rs0, er0⟩ : ∃ r0 rs, rws = r0 :: rs := by
      cases e : rws with
      | nil => exact absurd e hne
      | cons a b => exact ⟨a, b, rfl⟩
    have hr0 : r0 ∈ rws := by rw [er0]; exact List.mem_cons_self
    refine ⟨_, (pss_cons (ps_set (i := 2) nd rfl (Or.inl rfl) (pe_callTy (call_dictPrs rfl hr.units) (by rfl) zdict PyProof.Rows.boot_dict (pa_cons (pe_comp (xs := ["row"]) (cs ["rows", "held", "there", "rest", "others", "one", "other"] (defScope sLack) rfl rfl (by decide +kernel)) rfl (pi_listK (K := K) rfl (pv 0)) (fun _ _ _ => pg_name (i := 0) (show (["row", "rows", "held", "there", "rest", "others", "one", "other"] : List Str).Nodup by decide +kernel) rfl (Or.inl rfl)) (fun _ _ _ => pts_nil) (fun _ _ _ => (pe_tup (pa_cons (pv 0) (pa_cons pe_bl pa_nil))))) pa_nil)))
      (pss_cons (ps_set (i := 3) nd rfl (Or.inl rfl) (pe_op op_and (pe_call GA hr1 rfl mA kA bA .nil pass0 (pa_cons (pe_callB (call_lenK (K := K) rfl) (by rfl) zlen PySem.boot_len (pa_cons (pe_ix (ix_listK (K := K) rfl) (pv 0) pe_int (fun _ _ => rfl)) pa_nil)) pa_nil)) (pe_un un_inv (pv 1))))
      (pss_cons (ps_set (i := 4) nd rfl (Or.inl rfl) (pe_call GF hr rfl mF kF bF .nil pass0 (pa_cons (pv 0) (pa_cons (pv 3) pa_nil))))
      (pss_cons (ps_for PassesOwn.never rfl (pi_listK (K := K) rfl (pe_call GF hr rfl mF kF bF .nil pass0 (pa_cons (pv 0) (pa_cons (pv 1) pa_nil)))) (pg_name (i := 5) nd rfl (Or.inl rfl)) (pss_one (ps_for PassesOwn.never rfl (pi_listK (K := K) rfl (pv 4)) (pg_name (i := 6) nd rfl (Or.inl rfl)) (pss_one (ps_if (pt_cmp (pc_dnotin (hu_of hr) (pe_call GM hr2 rfl mM kM bM .nil pass0 (pa_cons (pv 5) (pa_cons (pv 6) (pa_cons (pv 1) pa_nil)))) (pv 2))) (pss_one (ps_ret (pe_tup (pa_cons (pv 5) (pa_cons (pv 6) pa_nil))))) pss_nil)))))
      (pss_one (ps_ret pe_non)))))), ?_⟩
    -- there
    refine ⟨_, rfl, bk, rfl, ⟨_, hB⟩, lc_list (xs := refsOf rws) (fun i acc H' => ∃ ps : List Pr, acc = ps.map (fun p => V.ref p.t) ∧ ps.length = i ∧ Same H H' ∧ (∀ p ∈ ps, p.At H') ∧ ps.map (·.k) = (rws.take i).map fun rw0 => tks rw0.2) (by unfold refsOf; rw [List.length_map]; omega)
      ⟨[], rfl, rfl, Same.refl _, (fun p h => absurd h List.not_mem_nil), rfl⟩ (fun i acc H' hi h => ?_) (fun i v acc H' hv h => ?_) (fun acc H' h => ?_)⟩
    · obtain ⟨ps, rfl, e, s', _⟩ := h
      exact ⟨s'.seq hB, by rw [List.length_map, e]; exact Nat.le_refl _⟩
    · obtain ⟨ps, rfl, e, s', hAt, hk⟩ := h
      unfold refsOf at hv
      rw [List.getElem?_map] at hv
      cases er : rws[i]? with
      | none => rw [er] at hv; cases hv
      | some b =>
        rw [er] at hv
        obtain rfl := (Option.some.inj hv).symm
        obtain ⟨tb, lb⟩ := hR b (List.mem_of_getElem? er)
        refine ⟨rfl, _, rfl, (by show 2 ≤ sizeLine; decide), fun t ht => ?_⟩
        have sn := Same.new (o := .tup [V.ref b.1, V.bl true]) ht
        refine ⟨ps ++ [⟨t, tks b.2, b.1, .bl true⟩], by rw [List.map_append]; rfl, by rw [List.length_append, e]; rfl, s'.trans sn, fun p hp => ?_, ?_⟩
        · rcases List.mem_append.mp hp with hp | hp
          · exact ⟨sn _ _ (hAt p hp).1, sn _ _ (hAt p hp).2⟩
          · rw [List.mem_singleton.mp hp]
            exact ⟨upd_same, by rw [tks_kV]; exact sn _ _ (s' _ _ tb)⟩
        · rw [List.map_append, hk, List.take_succ, er, List.map_append]
          rfl
    obtain ⟨ps, rfl, epl, s1, hAt, hk⟩ := h
    have rl : (refsOf rws).length = rws.length := by unfold refsOf; rw [List.length_map]
    rw [rl, List.take_length] at hk
    intro l hl
    have sl := Same.new (o := .lst (ps.map fun p => V.ref p.t)) hl
    refine ⟨l, ps, rfl, upd_same, fun p hp => ⟨sl _ _ (hAt p hp).1, sl _ _ (hAt p hp).2⟩, by omega, fun d hd => ?_⟩
    have s2 : Same H (upd (upd H' l (.lst (ps.map fun p => V.ref p.t))) d (.dT (putAll [] ps))) := s1.trans (sl.trans (Same.new hd))
    have hd2 : (upd (upd H' l (.lst (ps.map fun p => V.ref p.t))) d (.dT (putAll [] ps))) d = some (.dT (putAll [] ps)) := upd_same
    generalize upd (upd H' l (.lst (ps.map fun p => V.ref p.t))) d (.dT (putAll [] ps)) = H2 at s2 hd2
    -- rest
    obtain ⟨t0, l0⟩ := hR r0 hr0
    refine ⟨_, rfl, bk, _, _, _, rfl, rfl, s2.seq hB, atI_nat (j := 0) (v := V.ref r0.1) (by rw [er0]; rfl), r0.1, _, rfl, .inr (SqT.of (s2 _ _ t0)), (r0.2.map V.int).length, rfl, by rw [List.length_map]; omega, _, rfl, _, rfl, _, _, rfl, rfl, ?_⟩
    dsimp only
    rw [List.length_map, l0, rest_eq m m8 x hx]
    have hrest : 2 ^ m - 1 - x < 2 ^ m := by omega
    -- others
    refine ⟨_, rfl, _, rfl, bk, rws, 2 ^ m - 1 - x, m, rfl, s2.seq hB, hR.same s2, m1, by omega, hlen, fun po fo H3 s3 hpo hpo3 fo1 fo2 fo3 => ?_⟩
    refine ⟨_, rfl, _, rfl, bk, rws, x, m, rfl, (s2.trans s3).seq hB, (hR.same s2).same s3, m1, by omega, hlen, fun pe fe H4 s4 hpe hpe4 fe1 fe2 fe3 => ?_⟩
    have s24 : Same H2 H4 := s3.trans s4
    have hpo4 := s4 _ _ hpo3
    refine ⟨pe, rfl, ⟨_, SqL.of hpe4⟩, for_list (xs := refsOf fe) (fun i σ H' => (∃ v5 v6, σ = [some (.ref bk), some (vN x), some (.ref d), some (vN (2 ^ m - 1 - x)), some (.ref po), v5, v6]) ∧ Same H4 H' ∧ ∀ a ∈ fe.take i, ∀ b ∈ fo, ∃ c ∈ rws, c.2 = mixL a.2 b.2 x) ⟨⟨none, none, rfl⟩, Same.refl _, fun a h => absurd h (by rw [List.take_zero]; exact List.not_mem_nil)⟩ (fun i σ H' _ h => SqL.of (h.2.1 _ _ hpe4)) ?_ ?_⟩
    · rintro i v σ H' hv ⟨⟨v5, v6, rfl⟩, s', hc⟩
      unfold refsOf at hv
      rw [List.getElem?_map] at hv
      cases er : fe[i]? with
      | none => rw [er] at hv; cases hv
      | some a =>
        rw [er] at hv
        obtain rfl := (Option.some.inj hv).symm
        have ha := fe1 a (List.mem_of_getElem? er)
        obtain ⟨ta, la⟩ := hR a ha
        refine ⟨_, rfl, po, rfl, ⟨_, SqL.of (s' _ _ hpo4)⟩, for_list (xs := refsOf fo) (fun j σ H'' => (∃ v6, σ = [some (.ref bk), some (vN x), some (.ref d), some (vN (2 ^ m - 1 - x)), some (.ref po), some (.ref a.1), v6]) ∧ Same H4 H'' ∧ ∀ b ∈ fo.take j, ∃ c ∈ rws, c.2 = mixL a.2 b.2 x) ⟨⟨_, rfl⟩, s', fun b h => absurd h (by rw [List.take_zero]; exact List.not_mem_nil)⟩ (fun j σ H'' _ h => SqL.of (h.2.1 _ _ hpo4)) ?_ ?_⟩
        · rintro j v σ H'' hv' ⟨⟨v6', rfl⟩, s'', hc'⟩
          unfold refsOf at hv'
          rw [List.getElem?_map] at hv'
          cases eb : fo[j]? with
          | none => rw [eb] at hv'; cases hv'
          | some b =>
            rw [eb] at hv'
            obtain rfl := (Option.some.inj hv').symm
            have hb := fo1 b (List.mem_of_getElem? eb)
            obtain ⟨tb, lb⟩ := hR b hb
            have S : Same H H'' := s2.trans (s24.trans s'')
            refine ⟨_, rfl, _, rfl, _, rfl, a.1, b.1, a.2, b.2, x, rfl, SqT.of (S _ _ ta), SqT.of (S _ _ tb), by omega, by omega, fun p5 H5 s5 hp5 hp6 => ?_⟩
            have hd5 := s5 _ _ (s'' _ _ (s24 _ _ hd2))
            refine ⟨_, rfl, d, _, rfl, DGet.t (k := tks (mixL a.2 b.2 x)) hd5 (by rw [tks_kV]; exact hp6), _, rfl, ?_⟩
            rw [valV_putAll]
            have iff : (ps.any fun p => decide (p.k = tks (mixL a.2 b.2 x))) = true ↔ ∃ c ∈ rws, c.2 = mixL a.2 b.2 x := by
              rw [List.any_eq_true]
              constructor
              · rintro ⟨p, hp, e⟩
                have : p.k ∈ rws.map fun rw0 => tks rw0.2 := by rw [← hk]; exact List.mem_map.mpr ⟨p, hp, rfl⟩
                obtain ⟨c, hcm, ec⟩ := List.mem_map.mp this
                exact ⟨c, hcm, tks_inj (ec.trans (of_decide_eq_true e))⟩
              · rintro ⟨c, hcm, ec⟩
                have : tks c.2 ∈ ps.map (·.k) := by rw [hk]; exact List.mem_map.mpr ⟨c, hcm, rfl⟩
                obtain ⟨p, hp, ep⟩ := List.mem_map.mp this
                exact ⟨p, hp, decide_eq_true (by rw [ep, ec])⟩
            cases en : (ps.any fun p => decide (p.k = tks (mixL a.2 b.2 x))) with
            | true =>
              refine iteF ?_
              refine ⟨⟨_, rfl⟩, s''.trans s5, fun c hcc => ?_⟩
              rw [List.take_succ, eb] at hcc
              rcases List.mem_append.mp hcc with hcc | hcc
              · exact hc' c hcc
              · have ec : c = b := by simpa using hcc
                rw [ec]
                exact iff.mp en
            | false =>
              refine iteT ?_
              refine ⟨_, rfl, _, rfl, (by show 2 ≤ sizeLine; decide), fun p hp => ?_⟩
              refine qp p a b _ ⟨ha, hb, fun c hcm ec => ?_⟩ ((S.trans s5).trans (Same.new hp)) ((S.trans s5).free hp) upd_same
              rw [iff.mpr ⟨c, hcm, ec⟩] at en
              cases en
        · rintro σ H'' ⟨⟨v6', rfl⟩, s'', hc'⟩
          have fl : (refsOf fo).length = fo.length := by unfold refsOf; rw [List.length_map]
          rw [fl, List.take_length] at hc'
          refine ⟨⟨_, _, rfl⟩, s'', fun c hcc => ?_⟩
          rw [List.take_succ, er] at hcc
          rcases List.mem_append.mp hcc with hcc | hcc
          · exact hc c hcc
          · have ec : c = a := by simpa using hcc
            rw [ec]
            exact hc'
    · rintro σ H' ⟨⟨v5, v6, rfl⟩, s', hc⟩
      have fl : (refsOf fe).length = fe.length := by unfold refsOf; rw [List.length_map]
      rw [fl, List.take_length] at hc
      refine qn H' (s2.trans (s24.trans s')) fun a ha b hb => ?_
      obtain ⟨a', ha', ea⟩ := fe2 a ha
      obtain ⟨b', hb', eb⟩ := fo2 b hb
      obtain ⟨c, hcm, ec⟩ := hc a' ha' b' hb'
      refine ⟨c, hcm, ec.trans ?_⟩
      exact mix_congr m8 hx (hR a' (fe1 a' ha')).2 (hR b' (fo1 b' hb')).2 (hR a ha).2 (hR b hb).2 ea eb
noncomputable abbrev sDeal : Stmt := top 15
theorem scDeal : FnScope ["book", "left", "right", "rows", "found"] ["book", "left", "right"] (defScope sDeal) := ⟨rfl, rfl, rfl, by decide +kernel, rfl, by decide +kernel, by decide +kernel⟩
theorem ok_deal {f fU fX : Addr} {fd fdU fdX : FuncData} (F : Fun K "deal_breach" "deal_breach" sDeal f fd) (GU : FnOk P w K mg base CX0 4 fU fdU ["book", "some"] (spGroups K)) (mU : mg "groups_on" = some (.ref fU)) (kU : PySem.W.keepIn K (.ref fU) = true) (bU : Binds K fdU ["book", "some"] []) (GX : FnOk P w K mg base CX0 6 fX fdX ["rows", "held"] (spLack K)) (mX : mg "lacking_mix" = some (.ref fX)) (kX : PySem.W.keepIn K (.ref fX) = true) (bX : Binds K fdX ["rows", "held"] []) : FnOk P w K mg base CX0 7 f fd ["book", "left", "right"] (spDeal K) := by
  refine F.ok scDeal (fun vs H Q E h => ?_) (fun cdv A outer s H vs Q E hr h => ?_)
  · obtain ⟨bk, rws, x, y, m, rfl, _⟩ := h
    rfl
  · obtain ⟨bk, rws, x, y, m, rfl, hBk, hx, hy, qn, qp⟩ := h
    have nd := scDeal.nd
    have hr4 : Room 4 _ := hr.mono (by decide)
    obtain ⟨hB, hR, m1, m7, hlen⟩ := hBk
    have m8 : m < 8 := by omega
    have pw : 2 ^ m ≤ 2 ^ 7 := Nat.pow_le_pow_right (by decide) m7
    obtain ⟨gl1, gl2⟩ := groups_len x rws
    obtain ⟨gk, gm, gc⟩ := groups_spec x rws

    refine ⟨_, (pss_cons (ps_for PassesOwn.never rfl (pi_vals (pe_call GU hr4 rfl mU kU bU .nil pass0 (pa_cons (pv 0) (pa_cons (pv 1) pa_nil)))) (pg_name (i := 3) nd rfl (Or.inl rfl)) (pss_cons (ps_set (i := 4) nd rfl (Or.inl rfl) (pe_call GX hr rfl mX kX bX .nil pass0 (pa_cons (pv 3) (pa_cons (pe_op op_orN (pv 1) (pv 2)) pa_nil))))
      (pss_one (ps_if (pt_cmpR op_notN (pv 4) pe_non (nomark _)) (pss_one (ps_ret (pv 4))) pss_nil))))
      (pss_one (ps_ret pe_non))), ?_⟩
    refine ⟨_, rfl, _, rfl, bk, rws, x, m, rfl, hB, hR, m1, by omega, hlen, fun d G H1 s1 hd A1 eG => ⟨d, _, rfl, A1.dict, fun ob => ?_⟩⟩
    have Gl := forget_len eG
    have kl : (kvsOf G).length = G.length := by unfold kvsOf; rw [List.length_map]
    have hdf : (upd H1 d (.frz ob (.dT (kvsOf G)))) d = some (.frz ob (.dT (kvsOf G))) := upd_same
    have sf : Same H (upd H1 d (.frz ob (.dT (kvsOf G)))) := fun b o e => by rw [upd_ne (ne_of_none e hd)]; exact s1 b o e
    have lf : ∀ g ∈ G, (upd H1 d (.frz ob (.dT (kvsOf G)))) g.at_ = some (.lst (refsOf g.rows)) := fun g hg => by
      rw [upd_ne (ne_of (A1.lists g hg) A1.dict (fun z => nomatch z))]; exact A1.lists g hg
    generalize upd H1 d (.frz ob (.dT (kvsOf G))) = H2 at hdf sf lf
    have inG : ∀ g ∈ G, ∀ rw0, rw0 ∈ g.rows ↔ rw0 ∈ rws ∧ seenL rw0.2 x = g.key := fun g hg => (gm _ (forget_mem eG hg)).2

    have hxy : x ||| y < 2 ^ m := Nat.or_lt_two_pow hx hy
    refine for_vals (fun i σ H' => (∃ v3 v4, σ = [some (.ref bk), some (vN x), some (vN y), v3, v4]) ∧ Same H2 H' ∧ ∀ j g, j < i → G[j]? = some g → ∀ a ∈ g.rows, ∀ b ∈ g.rows, ∃ c ∈ g.rows, c.2 = mixL a.2 b.2 (x ||| y)) ⟨⟨none, none, rfl⟩, Same.refl _, fun j g h => absurd h (Nat.not_lt_zero _)⟩ (fun i σ H' _ h => h.2.1 _ _ hdf) ?_ ?_
    · rintro i k v σ H' hv ⟨⟨v3, v4, rfl⟩, s', hj⟩
      obtain ⟨g, eg, rfl⟩ := kvs_at hv
      have hg := List.mem_of_getElem? eg
      obtain ⟨ne, _⟩ := gm _ (forget_mem eG hg)
      have gr : ∀ b ∈ g.rows, b ∈ rws := fun b hb => ((inG g hg b).mp hb).1
      have S := sf.trans s'
      have gl : g.rows.length ≤ rws.length := gl2 _ (forget_mem eG hg)
      refine ⟨_, rfl, _, rfl, _, rfl, x, y, rfl, rfl, g.at_, g.rows, x ||| y, m, rfl, ⟨SqL.of (s' _ _ (lf g hg)), fun b hb => (hR.same S) b (gr b hb), m1, m7, by omega⟩, hxy, ne, fun H3 s3 ok => ?_, fun p a b H3 bad s3 hp hp3 => ?_⟩
      · refine ⟨_, rfl, rfl, _, rfl, ?_⟩
        refine iteF ?_
        refine ⟨⟨_, _, rfl⟩, s'.trans s3, fun j g' hj' eg' => ?_⟩
        rcases Nat.lt_succ_iff_lt_or_eq.mp hj' with z | rfl
        · exact hj j g' z eg'
        · rw [eg] at eg'
          obtain rfl := Option.some.inj eg'
          exact ok
      · refine ⟨_, rfl, rfl, _, rfl, ?_⟩
        refine iteT ?_
        refine ⟨_, rfl, ?_⟩
        obtain ⟨ha, hb, hc⟩ := bad
        obtain ⟨ha1, ha2⟩ := (inG g hg a).mp ha
        obtain ⟨hb1, hb2⟩ := (inG g hg b).mp hb
        refine qp p a b H3 ⟨ha1, hb1, ha2.trans hb2.symm, fun c hcm ec => hc c ((inG g hg c).mpr ⟨hcm, ?_⟩) ec⟩ (S.trans s3) (S.free hp) hp3
        rw [ec, seen_mix m8 hx hy (hR a ha1).2, ha2]
    · rintro σ H' ⟨⟨v3, v4, rfl⟩, s', hj⟩
      refine qn H' (sf.trans s') fun a ha b hb hab => ?_
      obtain ⟨z, hz, ez⟩ := gc a ha
      obtain ⟨g, hg, e1, e2⟩ := mem_forget eG hz
      obtain ⟨j, hjl, ej⟩ := List.getElem_of_mem hg
      obtain ⟨c, hc, ec⟩ := hj j g (by rw [kl]; exact hjl) (by rw [List.getElem?_eq_getElem hjl, ej]) a ((inG g hg a).mpr ⟨ha, by rw [e1, ez]⟩) b ((inG g hg b).mpr ⟨hb, by rw [e1, ez, hab]⟩)
      exact ⟨c, ((inG g hg c).mp hc).1, ec⟩
noncomputable abbrev sBreach : Stmt := top 16
theorem scBreach : FnScope ["book", "rule"] ["book", "rule"] (defScope sBreach) := ⟨rfl, rfl, rfl, by decide +kernel, rfl, by decide +kernel, by decide +kernel⟩
theorem ok_breach {f fS2 fD2 : Addr} {fd fdS2 fdD2 : FuncData} (F : Fun K "breach" "breach" sBreach f fd) (GS2 : FnOk P w K mg base CX0 5 fS2 fdS2 ["book", "left", "right"] (spSettle K)) (mS2 : mg "settle_breach" = some (.ref fS2)) (kS2 : PySem.W.keepIn K (.ref fS2) = true) (bS2 : Binds K fdS2 ["book", "left", "right"] []) (GD2 : FnOk P w K mg base CX0 7 fD2 fdD2 ["book", "left", "right"] (spDeal K)) (mD2 : mg "deal_breach" = some (.ref fD2)) (kD2 : PySem.W.keepIn K (.ref fD2) = true) (bD2 : Binds K fdD2 ["book", "left", "right"] []) : FnOk P w K mg base CX0 8 f fd ["book", "rule"] (spBreach K) := by
  refine F.ok scBreach (fun vs H Q E h => ?_) (fun cdv A outer s H vs Q E hr h => ?_)
  · obtain ⟨bk, r, rws, st, x, y, m, rfl, _⟩ := h
    rfl
  · obtain ⟨bk, r, rws, st, x, y, m, rfl, hBk, hr', hx, hy, qn, qp⟩ := h
    have hr5 : Room 5 _ := hr.mono (by decide)
    refine ⟨_, (pss_cons (ps_if (pt_cmpR op_eq (pe_ix (ix_tupK (K := K) rfl) (pv 1) pe_int (fun _ _ => rfl)) pe_str (nomark _)) (pss_one (ps_ret (pe_call GS2 hr5 rfl mS2 kS2 bS2 .nil pass0 (pa_cons (pv 0) (pa_cons (pe_ix (ix_tupK (K := K) rfl) (pv 1) pe_int (fun _ _ => rfl)) (pa_cons (pe_ix (ix_tupK (K := K) rfl) (pv 1) pe_int (fun _ _ => rfl)) pa_nil)))))) pss_nil)
      (pss_one (ps_ret (pe_call GD2 hr rfl mD2 kD2 bD2 .nil pass0 (pa_cons (pv 0) (pa_cons (pe_ix (ix_tupK (K := K) rfl) (pv 1) pe_int (fun _ _ => rfl)) (pa_cons (pe_ix (ix_tupK (K := K) rfl) (pv 1) pe_int (fun _ _ => rfl)) pa_nil))))))), ?_⟩
    have ix : ∀ (j : Nat) (v : V), ([.str (wordS st), vN x, vN y] : List V)[j]? = some v → atI ([.str (wordS st), vN x, vN y] : List V) (j : Int) = some v := fun j v e => atI_nat e
    refine ⟨_, rfl, r, _, _, _, rfl, rfl, SqT.of hr', ix 0 _ rfl, rfl, _, rfl, ?_⟩
    cases st with
    | true =>
      refine iteT ?_
      refine ⟨_, rfl, _, rfl, r, _, _, _, rfl, rfl, SqT.of hr', ix 1 _ rfl, _, rfl, r, _, _, _, rfl, rfl, SqT.of hr', ix 2 _ rfl, ?_⟩
      exact ⟨bk, rws, x, y, m, rfl, hBk, hx, hy, fun H' s' ok => qn H' s' ok, fun p a b H' bad s' hp hp' => qp p a b H' bad s' hp hp'⟩
    | false =>
      refine ite2 (fun hc => ?_) (fun _ => ?_)
      · exact absurd (of_decide_eq_true hc) (by intro z; injection z with z; revert z; decide)
      refine ⟨_, rfl, _, rfl, r, _, _, _, rfl, rfl, SqT.of hr', ix 1 _ rfl, _, rfl, r, _, _, _, rfl, rfl, SqT.of hr', ix 2 _ rfl, ?_⟩
      exact ⟨bk, rws, x, y, m, rfl, hBk, hx, hy, fun H' s' ok => qn H' s' ok, fun p a b H' bad s' hp hp' => qp p a b H' bad s' hp hp'⟩
noncomputable abbrev sKeeps : Stmt := top 17
theorem scKeeps : FnScope ["book", "rules", "rule"] ["book", "rules"] (defScope sKeeps) := ⟨rfl, rfl, rfl, by decide +kernel, rfl, by decide +kernel, by decide +kernel⟩
theorem ok_keeps {f fB : Addr} {fd fdB : FuncData} (F : Fun K "keeps" "keeps" sKeeps f fd) (GB : FnOk P w K mg base CX0 8 fB fdB ["book", "rule"] (spBreach K)) (mB : mg "breach" = some (.ref fB)) (kB : PySem.W.keepIn K (.ref fB) = true) (bB : Binds K fdB ["book", "rule"] []) : FnOk P w K mg base CX0 9 f fd ["book", "rules"] (spKeeps K) := by
  refine F.ok scKeeps (fun vs H Q E h => ?_) (fun cdv A outer s H vs Q E hr h => ?_)
  · obtain ⟨bk, rl, rws, rs, m, rfl, _⟩ := h
    rfl
  · obtain ⟨bk, rl, rws, rs, m, rfl, hBk, hrl, hlen, hrs, q⟩ := h
    have nd := scKeeps.nd
    refine ⟨_, (pss_cons (ps_for PassesOwn.never rfl (pi_listK (K := K) rfl (pv 1)) (pg_name (i := 2) nd rfl (Or.inl rfl)) (pss_one (ps_if (pt_cmpR op_notN (pe_call GB hr rfl mB kB bB .nil pass0 (pa_cons (pv 0) (pa_cons (pv 2) pa_nil))) pe_non (nomark _)) (pss_one (ps_ret pe_bl)) pss_nil)))
      (pss_one (ps_ret pe_bl))), ?_⟩
    refine ⟨_, rfl, rl, rfl, ⟨_, hrl⟩, for_list (xs := rs.map fun r => V.ref r.r) (fun i σ H' => (∃ v, σ = [some (.ref bk), some (.ref rl), v]) ∧ Same H H' ∧ ∀ r ∈ rs.take i, ROk rws r.st r.x r.y) ⟨⟨none, rfl⟩, Same.refl _, fun r h => absurd h (by rw [List.take_zero]; exact List.not_mem_nil)⟩ (fun i σ H' _ h => h.2.1.seq hrl) ?_ ?_⟩
    · rintro i v σ H' hv ⟨⟨v2, rfl⟩, s', hok⟩
      rw [List.getElem?_map] at hv
      cases er : rs[i]? with
      | none => rw [er] at hv; cases hv
      | some r =>
        rw [er] at hv
        obtain rfl := (Option.some.inj hv).symm
        obtain ⟨ra, rx, ry⟩ := hrs r (List.mem_of_getElem? er)
        refine ⟨_, rfl, _, rfl, bk, r.r, rws, r.st, r.x, r.y, m, rfl, hBk.same s', s' _ _ ra, rx, ry, fun H3 s3 ok => ?_, fun p a b H3 bad s3 hp hp3 => ?_⟩
        · refine ⟨rfl, _, rfl, ?_⟩
          refine iteF ?_
          refine ⟨⟨_, rfl⟩, s'.trans s3, fun z hz => ?_⟩
          rw [List.take_succ, er] at hz
          rcases List.mem_append.mp hz with hz | hz
          · exact hok z hz
          · have ez : z = r := by simpa using hz
            rw [ez]; exact ok
        · refine ⟨rfl, _, rfl, ?_⟩
          refine iteT ?_
          exact q false _ (s'.trans s3) ⟨fun z => absurd z Bool.false_ne_true, fun all => absurd (all r (List.mem_of_getElem? er)) bad.not⟩
    · rintro σ H' ⟨⟨v2, rfl⟩, s', hok⟩
      refine q true H' s' ⟨fun _ => ?_, fun _ => rfl⟩
      rw [List.length_map, List.take_length] at hok
      exact hok
noncomputable abbrev sBookOf : Stmt := top 18
theorem scBookOf : FnScope ["many", "some"] ["many", "some"] (defScope sBookOf) := ⟨rfl, rfl, rfl, by decide +kernel, rfl, by decide +kernel, by decide +kernel⟩
theorem ok_bookof {f fN fM : Addr} {fd fdN fdM : FuncData} (F : Fun K "book_of" "book_of" sBookOf f fd) (GN : FnOk P w K mg base CX0 1 fN fdN ["many"] spNoughts) (mN : mg "noughts" = some (.ref fN)) (kN : PySem.W.keepIn K (.ref fN) = true) (bN : Binds K fdN ["many"] []) (GM : FnOk P w K mg base CX0 2 fM fdM ["one", "other", "some"] (spMixed K)) (mM : mg "mixed" = some (.ref fM)) (kM : PySem.W.keepIn K (.ref fM) = true) (bM : Binds K fdM ["one", "other", "some"] []) : FnOk P w K mg base CX0 3 f fd ["many", "some"] (spNewBook K) := by
  refine F.ok scBookOf (fun vs H Q E h => ?_) (fun cdv A outer s H vs Q E hr h => ?_)
  · obtain ⟨m, x, rfl, _⟩ := h
    rfl
  · obtain ⟨m, x, rfl, m1, m7, hx, q⟩ := h
    have hr1 : Room 1 _ := hr.mono (by decide)
    refine ⟨_, (pss_cons (ps_if (pt_cmpR op_eqN (pv 1) pe_int (nomark _)) (pss_one (ps_ret (pe_lst (pa_cons (pe_call GN hr1 rfl mN kN bN .nil pass0 (pa_cons (pv 0) pa_nil)) pa_nil)))) pss_nil)
      (pss_one (ps_ret (pe_lst (pa_cons (pe_call GN hr1 rfl mN kN bN .nil pass0 (pa_cons (pv 0) pa_nil)) (pa_cons (pe_call GM hr rfl mM kM bM .nil pass0 (pa_cons (pe_op op_repT (pe_tup (pa_cons pe_int pa_nil)) (pv 0)) (pa_cons (pe_call GN hr1 rfl mN kN bN .nil pass0 (pa_cons (pv 0) pa_nil)) (pa_cons (pv 1) pa_nil)))) pa_nil)))))), ?_⟩
    refine ⟨_, rfl, x, 0, rfl, rfl, _, rfl, ?_⟩
    refine ite2 (fun hc => ?_) (fun hc => ?_)
    · have h0 : x = 0 := of_decide_eq_true hc
      refine ⟨_, rfl, m, rfl, m1, by omega, fun p H1 s1 hp hp1 => ⟨(by show 1 ≤ sizeLine; decide), fun l hl => ?_⟩⟩
      refine q l [(p, List.replicate m 0)] _ (s1.trans (Same.new hl)) (s1.free hl) upd_same (fun rw0 hr0 => ?_) ?_
      · rw [List.mem_singleton.mp hr0]
        exact ⟨(Same.new hl) _ _ hp1, List.length_replicate⟩
      · unfold bookL; rw [if_pos h0]; rfl
    · have h0 : x ≠ 0 := fun e => hc (decide_eq_true e)
      refine ⟨_, rfl, m, rfl, m1, by omega, fun p H1 s1 hp hp1 => ?_⟩
      refine ⟨(by show 1 ≤ sizeLine; decide), fun t ht => ?_⟩
      have st1 := Same.new (o := .tup [V.int 1]) ht
      have fin : ∀ (u : Addr) (H2 : Hp), Same (upd H1 t (.tup [V.int 1])) H2 → H2 u = some (.tup ((List.replicate m (1 : Int)).map V.int)) →
          (tCons (tVar 1) tNil : TA) [some (vN m), some (vN x)] H2 (fun _ _ => True) → tCall spNoughts [] E0 (tCons (tVar 0) tNil) [some (vN m), some (vN x)] H2 (fun v3 H3 => ∃ v4, ([some (vN m), some (vN x)] : St)[1]? = some (some v4) ∧ spMixed K [.ref u, v3, v4] H3 (fun v5 H5 => (2 ≤ sizeLine ∧ ∀ l, H5 l = none → Q (.ref l) (upd H5 l (.lst [.ref p, v5])))) E0) := fun u H2 s2 hu _ => by
        refine ⟨_, rfl, m, rfl, m1, by omega, fun p3 H3 s3 hp3 hp4 => ?_⟩
        refine ⟨_, rfl, u, p3, List.replicate m 1, List.replicate m 0, x, rfl, SqT.of (s3 _ _ hu), SqT.of hp4, by rw [List.length_replicate, List.length_replicate], by rw [List.length_replicate]; omega, fun p5 H5 s5 hp5 hp6 => ?_⟩
        refine ⟨(by decide), fun l hl => ?_⟩
        have sA : Same H H5 := s1.trans (st1.trans (s2.trans (s3.trans s5)))
        refine q l [(p, List.replicate m 0), (p5, onesL m x)] _ (sA.trans (Same.new hl)) (sA.free hl) upd_same (fun rw0 hr0 => ?_) ?_
        · rcases List.mem_cons.mp hr0 with e | hr0
          · rw [e]
            exact ⟨(Same.new hl) _ _ (s5 _ _ (s3 _ _ (s2 _ _ (st1 _ _ hp1)))), List.length_replicate⟩
          · rw [List.mem_singleton.mp hr0]
            exact ⟨(Same.new hl) _ _ hp6, ones_len m x⟩
        · unfold bookL; rw [if_neg h0]; rfl
      refine ⟨_, rfl, t, V.int 1, m, rfl, rfl, upd_same, m1, by omega, fun e => ?_, fun e u hu => ?_⟩
      · subst e
        exact fin t _ (Same.refl _) upd_same ⟨_, rfl, trivial⟩
      · exact fin u _ (Same.new hu) (by rw [upd_same, List.map_replicate]) ⟨_, rfl, trivial⟩
noncomputable abbrev sSeenOn : Stmt := top 19
theorem scSeenOn : FnScope ["book", "part"] ["book", "part"] (defScope sSeenOn) := ⟨rfl, rfl, rfl, by decide +kernel, rfl, by decide +kernel, by decide +kernel⟩
theorem ok_seenon {f fE : Addr} {fd fdE : FuncData} (F : Fun K "seen_on" "seen_on" sSeenOn f fd) (GE : FnOk P w K mg base CX0 3 fE fdE ["row", "part"] spSeen) (mE : mg "seen_row" = some (.ref fE)) (kE : PySem.W.keepIn K (.ref fE) = true) (bE : Binds K fdE ["row", "part"] []) (zset : mg "set" = none) (zsorted : mg "sorted" = none) : FnOk P w K mg base CX0 4 f fd ["book", "part"] (spSeenOn K) := by
  refine F.ok scSeenOn (fun vs H Q E h => ?_) (fun cdv A outer s H vs Q E hr h => ?_)
  · obtain ⟨bk, rws, x, m, rfl, _⟩ := h
    rfl
  · obtain ⟨bk, rws, x, m, rfl, hB, hR, m1, m20, hlen, q⟩ := h
    have nd := scSeenOn.nd
    refine ⟨_, (pss_one (ps_ret (pe_callB (call_sortedS rfl) (by rfl) zsorted PyProof.Rows.boot_sorted (pa_cons (pe_callTy (call_setT (K := K) rfl rfl hr.units) (by rfl) zset PyProof.Rows.boot_set (pa_cons (pe_comp (xs := ["row"]) (cs ["book", "part"] (defScope sSeenOn) rfl rfl (by decide +kernel)) rfl (pi_listK (K := K) rfl (pv 0)) (fun _ _ _ => pg_name (i := 0) (show (["row", "book", "part"] : List Str).Nodup by decide +kernel) rfl (Or.inl rfl)) (fun _ _ _ => pts_nil) (fun _ _ _ => (pe_call GE hr rfl mE kE bE .nil pass0 (pa_cons (pv 0) (pa_cons (pv 2) pa_nil))))) pa_nil)) pa_nil)))), ?_⟩
    refine ⟨_, rfl, bk, rfl, ⟨_, hB⟩, ?_⟩
    refine lc_list (xs := refsOf rws) (fun i acc H' => Same H H' ∧ ∃ w : List RW, acc = refsOf w ∧ w.length = i ∧ RowsOk H' m w ∧ w.map (·.2) = (rws.take i).map fun r => seenL r.2 x) (by unfold refsOf; rw [List.length_map]; omega) ⟨Same.refl _, [], rfl, rfl, fun r h => absurd h List.not_mem_nil, rfl⟩ (fun i acc H' hi h => ?_) (fun i y acc H' hy h => ?_) (fun acc H' h => ?_)
    · obtain ⟨s', w, rfl, lw, _⟩ := h
      refine ⟨s'.seq hB, ?_⟩
      unfold refsOf
      rw [List.length_map, lw]
      exact Nat.le_refl _
    · obtain ⟨s', w, rfl, lw, R', ew⟩ := h
      unfold refsOf at hy
      rw [List.getElem?_map] at hy
      cases er : rws[i]? with
      | none => rw [er] at hy; cases hy
      | some rw0 =>
        rw [er] at hy
        obtain rfl := (Option.some.inj hy).symm
        obtain ⟨hrow, hrl⟩ := hR rw0 (List.mem_of_getElem? er)
        refine ⟨rfl, _, rfl, _, rfl, rw0.1, rw0.2, x, rfl, s' _ _ hrow, by omega, by omega, fun p H3 s3 hp hp3 => ⟨s'.trans s3, w ++ [(p, seenL rw0.2 x)], ?_, ?_, fun r hr0 => ?_, ?_⟩⟩
        · unfold refsOf
          rw [List.map_append]
          rfl
        · rw [List.length_append, lw]
          rfl
        · rcases List.mem_append.mp hr0 with hr0 | hr0
          · exact R'.same s3 r hr0
          · rw [List.mem_singleton.mp hr0]
            exact ⟨hp3, (seen_len _ _).trans hrl⟩
        · rw [List.take_succ, er, List.map_append, List.map_append, ew]
          rfl
    · obtain ⟨s1, ws, rfl, lw, R1, ew⟩ := h
      have lrw : (refsOf rws).length = rws.length := List.length_map ..
      rw [lrw] at lw ew
      rw [List.take_length] at ew
      intro e he
      have s2 := Same.new (o := .lst (refsOf ws)) he
      refine ⟨e, m, ws, rfl, SqL.of upd_same, R1.same s2, by omega, fun l ws' hl sub mem nd' => ?_⟩
      have lw' : ws'.length ≤ ws.length := by
        have := nd_len nd' fun k hk => (mem k).mp hk
        rw [List.length_map, List.length_map] at this
        exact this
      have s3 := Same.new (o := tsO w l ws') hl
      have R3 := (R1.same s2).same s3
      refine ⟨l, m, ws', rfl, upd_same, fun r hr0 => R3 r (sub r hr0), m1, by omega, fun l2 w2 hl2 pr up => ?_⟩
      have s4 := Same.new (o := .lst (refsOf w2)) hl2
      refine q l2 w2 _ (s1.trans (s2.trans (s3.trans s4))) (s1.free (s2.free (s3.free hl2))) upd_same (fun r hr0 => (R3.same s4) r (sub r (pr.mem_iff.mp hr0))) (Asc.of up ((pr.map (·.2)).nodup_iff.mpr nd') fun k => ?_)
      rw [(pr.map (·.2)).mem_iff, mem k, ew]
end
end Own

namespace Own
open PySem L2
section
variable {P : Program} {w : World} {K : PySem.W.Frag} {mg : Str → Option Value} {base : Heap}
noncomputable abbrev sTake : Stmt := top 31
theorem scTake : FnScope ["_law_state", "_law_most", "_law_at", "_law_script", "_law_mingled"] ["_law_state", "_law_most"] (defScope sTake) := ⟨rfl, rfl, rfl, by decide +kernel, rfl, by decide +kernel, by decide +kernel⟩
theorem ok_take {f : Addr} {fd : FuncData} (F : Fun K "_law_take" "_law_take" sTake f fd) (zlen : mg "len" = none) : FnOk P w K mg base CX0 1 f fd ["_law_state", "_law_most"] (spTakeF K) := by
  refine F.ok scTake (fun vs H Q E h => ?_) (fun cdv A outer s H vs Q E hr h => ?_)
  · obtain ⟨st, ns, k, most, rfl, _⟩ := h
    rfl
  · obtain ⟨st, ns, k, most, rfl, ⟨sc, hst, hscF⟩, hk, hl, hm, q⟩ := h
    have nd := scTake.nd
    refine ⟨_, (pss_cons (ps_set (i := 2) nd rfl (Or.inl rfl) (pe_ix (ix_listK (K := K) rfl) (pv 0) pe_int (fun _ _ => rfl)))
      (pss_cons (ps_asg (pe_op op_add (pv 2) pe_int) (pg_sub (pv 0) pe_int set_list))
      (pss_cons (ps_set (i := 3) nd rfl (Or.inl rfl) (pe_ix (ix_listK (K := K) rfl) (pv 0) pe_int (fun _ _ => rfl)))
      (pss_cons (ps_if (pt_cmpR op_lt (pv 2) (pe_callB (call_lenK (K := K) rfl) (by rfl) zlen PySem.boot_len (pa_cons (pv 3) pa_nil)) (nomark _)) (pss_one (ps_ret (pe_op op_mod (pe_ix (ix_listK (K := K) rfl) (pv 3) (pv 2) (fun _ _ => rfl)) (pv 1)))) pss_nil)
      (pss_cons (ps_set (i := 4) nd rfl (Or.inl rfl) (pe_op op_add (pe_op op_add (pe_op op_mul (pv 2) (pv 2)) (pe_op op_mul pe_int (pv 2))) pe_int))
      (pss_cons (ps_if (pt_cmpR op_gt (pe_callB (call_lenK (K := K) rfl) (by rfl) zlen PySem.boot_len (pa_cons (pv 3) pa_nil)) pe_int (nomark _)) (pss_one (ps_set (i := 4) nd rfl (Or.inl rfl) (pe_op op_add (pv 4) (pe_op op_mul (pe_op op_mod (pe_ix (ix_listK (K := K) rfl) (pv 3) (pe_op op_mod (pe_op op_add (pe_op op_mul pe_int (pv 2)) pe_int) (pe_callB (call_lenK (K := K) rfl) (by rfl) zlen PySem.boot_len (pa_cons (pv 3) pa_nil))) (fun _ _ => rfl)) pe_int) pe_int)))) pss_nil)
      (pss_one (ps_ret (pe_op op_mod (pe_op op_mod (pe_op op_mul (pv 4) (pv 4)) pe_int) (pv 1)))))))))), ?_⟩
    refine ⟨_, rfl, st, _, _, _, rfl, rfl, SqL.of hst, atI_nat (j := 1) rfl, ?_⟩
    refine ⟨_, rfl, _, _, rfl, rfl, _, rfl, st, _, 1, 1, rfl, rfl, hst, rfl, ?_⟩
    have bt : But st H (upd H st (.lst [.ref sc, .int ((k : Int) + 1)])) := But.put st H _
    have hscF' : SqF K (upd H st (.lst [.ref sc, .int ((k : Int) + 1)])) sc ns := STF.seq hst hscF bt
    have hsc' := hscF'.sq
    have s' : L2.STF K (upd H st (.lst [.ref sc, .int ((k : Int) + 1)])) st ns (k + 1) := ⟨sc, by rw [upd_same]; rfl, hscF'⟩
    refine ⟨_, rfl, st, _, _, _, rfl, rfl, SqL.of upd_same, atI_nat (j := 0) rfl, ?_⟩
    have len1 : (ns.map V.int).length = ns.length := List.length_map ..
    refine ⟨_, rfl, _, rfl, sc, _, rfl, .inl hsc', _, _, rfl, rfl, _, rfl, ?_⟩
    refine ite2 (fun hc => ?_) (fun hc => ?_)
    · have hlt : k < ns.length := by
        have := of_decide_eq_true hc
        rw [len1] at this
        omega
      refine ⟨_, rfl, _, rfl, sc, _, _, _, rfl, rfl, hsc', atI_nat (j := k) (v := V.int ns[k]) (by simp [hlt]), _, rfl, _, _, rfl, rfl, hm, ?_⟩
      exact q _ _ (mod_lo _ hm) (mod_hi _ hm) s' bt
    · have kk0 : (0 : Int) ≤ (k : Int) * k := Int.mul_nonneg (by omega) (by omega)
      have kk1 : (k : Int) * k ≤ 1000000 * 1000000 := Int.mul_le_mul (by omega) (by omega) (by omega) (by omega)
      refine ⟨_, rfl, _, rfl, _, _, rfl, rfl, .inl ⟨by omega, by omega⟩, _, rfl, _, _, rfl, rfl, .inl ⟨by decide, by decide⟩, _, _, rfl, rfl, _, _, rfl, rfl, ?_⟩
      have fin : ∀ z : Int, 0 ≤ z → z < 1000000000000000000 → (tRet (tOp (rI (fun _ j => 0 < j) fun i j => V.int (i % j)) (tOp (rI (fun _ j => 0 < j) fun i j => V.int (i % j)) (tOp (rI CMul fun i j => V.int (i * j)) (tVar 4) (tVar 4)) (tC (.int 2147483647))) (tVar 1)))
          { nx := fun _ H' => Q .non H', rt := Q } [some (.ref st), some (.int most), some (.int k), some (.ref sc), some (.int z)] (upd H st (.lst [.ref sc, .int ((k : Int) + 1)])) := fun z z0 z1 =>
        ⟨_, rfl, _, rfl, _, _, rfl, rfl, .inl ⟨by omega, by omega⟩, _, _, rfl, rfl, (by show (0 : Int) < _; decide), _, rfl, _, _, rfl, rfl, hm, q _ _ (mod_lo _ hm) (mod_hi _ hm) s' bt⟩
      refine ⟨_, rfl, sc, _, rfl, .inl hsc', _, _, rfl, rfl, _, rfl, ?_⟩
      refine ite2 (fun hc2 => ?_) (fun hc2 => ?_)
      · have hpos : 0 < ns.length := by
          have := of_decide_eq_true hc2
          rw [len1] at this
          omega
        have hp' : (0 : Int) < ((ns.map V.int).length : Int) := by rw [len1]; omega
        obtain ⟨j, ej, hj⟩ : ∃ j : Nat, ((5 * (k : Int) + 2) % ((ns.map V.int).length : Int)) = (j : Int) ∧ j < ns.length := by
          have h1 := mod_lo (5 * (k : Int) + 2) hp'
          have h2 := mod_hi (5 * (k : Int) + 2) hp'
          rw [len1] at h1 h2 ⊢
          exact ⟨((5 * (k : Int) + 2) % (ns.length : Int)).toNat, by omega, by omega⟩
        have m0 := mod_lo ns[j] (show (0 : Int) < 2147483629 by decide)
        have m1 := mod_hi ns[j] (show (0 : Int) < 2147483629 by decide)
        refine ⟨_, rfl, _, rfl, _, rfl, _, _, rfl, rfl, .inl ⟨by decide, by decide⟩, _, _, rfl, rfl, _, rfl, sc, _, rfl, .inl hsc', _, _, rfl, rfl, hp', sc, _, _, _, rfl, rfl, hsc', (by rw [ej]; exact atI_nat (j := j) (v := V.int ns[j]) (by simp [hj])), _, _, rfl, rfl, (by show (0 : Int) < _; decide), _, _, rfl, rfl, .inr ⟨by decide, by decide⟩, _, _, rfl, rfl, ?_⟩
        exact fin _ (by omega) (by omega)
      · exact fin _ (by omega) (by omega)
noncomputable abbrev sSet : Stmt := top 32
theorem scSet : FnScope ["_law_state", "_law_many", "_law_way", "_law_some"] ["_law_state", "_law_many"] (defScope sSet) := ⟨rfl, rfl, rfl, by decide +kernel, rfl, by decide +kernel, by decide +kernel⟩
theorem ok_set {f fT : Addr} {fd fdT : FuncData} (F : Fun K "_law_set" "_law_set" sSet f fd) (GT : FnOk P w K mg base CX0 1 fT fdT ["_law_state", "_law_most"] (spTakeF K)) (mT : mg "_law_take" = some (.ref fT)) (kT : PySem.W.keepIn K (.ref fT) = true) (bT : Binds K fdT ["_law_state", "_law_most"] []) : FnOk P w K mg base CX0 2 f fd ["_law_state", "_law_many"] (spSetF K) := by
  refine F.ok scSet (fun vs H Q E h => ?_) (fun cdv A outer s H vs Q E hr h => ?_)
  · obtain ⟨st, ns, k, m, rfl, _⟩ := h
    rfl
  · obtain ⟨st, ns, k, m, rfl, S, hk, hl, hm1, hm7, q⟩ := h
    have nd := scSet.nd
    refine ⟨_, (pss_cons (ps_set (i := 2) nd rfl (Or.inl rfl) (pe_call GT hr rfl mT kT bT .nil pass0 (pa_cons (pv 0) (pa_cons pe_int pa_nil))))
      (pss_cons (ps_set (i := 3) nd rfl (Or.inl rfl) (pe_call GT hr rfl mT kT bT .nil pass0 (pa_cons (pv 0) (pa_cons (pe_op op_shl pe_int (pv 1)) pa_nil))))
      (pss_cons (ps_if (pt_cmpR op_eq (pv 2) pe_int (nomark _)) (pss_one (ps_ret (pe_op op_and (pv 3) (pe_call GT hr rfl mT kT bT .nil pass0 (pa_cons (pv 0) (pa_cons (pe_op op_shl pe_int (pv 1)) pa_nil)))))) pss_nil)
      (pss_cons (ps_if (pt_cmpR op_eq (pv 2) pe_int (nomark _)) (pss_one (ps_ret (pe_op op_or (pv 3) (pe_call GT hr rfl mT kT bT .nil pass0 (pa_cons (pv 0) (pa_cons (pe_op op_shl pe_int (pv 1)) pa_nil)))))) pss_nil)
      (pss_cons (ps_if (pt_cmpR op_eq (pv 2) pe_int (nomark _)) (pss_one (ps_ret (pe_op op_shl pe_int (pe_call GT hr rfl mT kT bT .nil pass0 (pa_cons (pv 0) (pa_cons (pv 1) pa_nil)))))) pss_nil)
      (pss_one (ps_ret (pv 3)))))))), ?_⟩
    have cp : CPow 1 (m : Int) := cpow1 (by omega)
    have e1 := shl1 m
    have pw : 0 < 2 ^ m := Nat.two_pow_pos m
    refine ⟨_, rfl, st, ns, k, 4, rfl, S, by omega, hl, by decide, fun r1 H1 a1 b1 S1 B1 => ?_⟩
    refine ⟨_, rfl, _, rfl, _, _, rfl, rfl, cp, st, ns, k + 1, _, rfl, S1, by omega, hl, by rw [e1]; omega, fun r2 H2 a2 b2 S2 B2 => ?_⟩
    rw [e1] at b2
    obtain ⟨n2, rfl, hn2⟩ := nat_of a2 b2
    have B12 := B1.trans B2
    refine ⟨_, rfl, rfl, _, rfl, ?_⟩
    refine ite2 (fun _ => ?_) (fun _ => ?_)
    · refine ⟨_, rfl, _, rfl, _, rfl, _, _, rfl, rfl, cp, st, ns, k + 2, _, rfl, S2, by omega, hl, by rw [e1]; omega, fun r3 H3 a3 b3 S3 B3 => ?_⟩
      rw [e1] at b3
      obtain ⟨n3, rfl, hn3⟩ := nat_of a3 b3
      refine ⟨_, _, rfl, rfl, ?_⟩
      show Q (V.int (Builtin.bitAnd (n2 : Int) (n3 : Int))) _
      rw [bitAnd_nat]
      exact q _ _ _ (and_lt hn2) (Nat.le_refl _) S3 (B12.trans B3)
    refine ⟨_, rfl, rfl, _, rfl, ?_⟩
    refine ite2 (fun _ => ?_) (fun _ => ?_)
    · refine ⟨_, rfl, _, rfl, _, rfl, _, _, rfl, rfl, cp, st, ns, k + 2, _, rfl, S2, by omega, hl, by rw [e1]; omega, fun r3 H3 a3 b3 S3 B3 => ?_⟩
      rw [e1] at b3
      obtain ⟨n3, rfl, hn3⟩ := nat_of a3 b3
      refine ⟨_, _, rfl, rfl, ?_⟩
      show Q (V.int (Builtin.bitOr (n2 : Int) (n3 : Int))) _
      rw [bitOr_nat]
      exact q _ _ _ (Nat.or_lt_two_pow hn2 hn3) (Nat.le_refl _) S3 (B12.trans B3)
    refine ⟨_, rfl, rfl, _, rfl, ?_⟩
    refine ite2 (fun _ => ?_) (fun _ => ?_)
    · refine ⟨_, rfl, _, rfl, st, ns, k + 2, (m : Int), rfl, S2, by omega, hl, by omega, fun r3 H3 a3 b3 S3 B3 => ?_⟩
      obtain ⟨n3, rfl, hn3⟩ := nat_of a3 b3
      refine ⟨_, _, rfl, rfl, cpow1 (by omega), ?_⟩
      show Q (V.int (1 * 2 ^ (n3 : Int).toNat)) _
      rw [shl1]
      exact q _ _ _ (Nat.pow_lt_pow_right (by decide) hn3) (Nat.le_refl _) S3 (B12.trans B3)
    · exact ⟨_, rfl, q _ _ _ hn2 (by omega) S2 B12⟩
noncomputable abbrev sHas2 : Stmt := top 33
theorem scHas2 : FnScope ["_law_some", "_law_k"] ["_law_some", "_law_k"] (defScope sHas2) := ⟨rfl, rfl, rfl, by decide +kernel, rfl, by decide +kernel, by decide +kernel⟩
theorem ok_has2 {f : Addr} {fd : FuncData} (F : Fun K "_law_has" "_law_has" sHas2 f fd) : FnOk P w K mg base CX0 1 f fd ["_law_some", "_law_k"] spHas2 := by
  refine F.ok scHas2 (fun vs H Q E h => ?_) (fun cdv A outer s H vs Q E hr h => ?_)
  · obtain ⟨a, k, rfl, _⟩ := h
    rfl
  · obtain ⟨a, k, rfl, hk, q⟩ := h
    refine ⟨_, (pss_one (ps_ret (pe_cmpR op_eqN (pe_op op_modN' (pe_op op_fdivN' (pv 0) (pe_op op_shl1 pe_int (pv 1))) pe_int) pe_int (nomark _)))), ?_⟩
    have hp2 : 0 < 2 ^ k := Nat.two_pow_pos k
    have hp3 : 2 ^ k ≤ 2 ^ 20 := Nat.pow_le_pow_right (by decide) hk
    exact ⟨_, rfl, _, rfl, k, rfl, rfl, by omega, a, 2 ^ k, rfl, rfl, ⟨hp2, by omega⟩, a / 2 ^ k, 2, rfl, rfl, (by show (0 : Nat) < 2; decide), a / 2 ^ k % 2, 1, rfl, rfl, q⟩
noncomputable abbrev sRules : Stmt := top 34
theorem scRules : FnScope ["_law_state", "_law_many", "_law_count", "_law_rules_here", "_law_k", "_law_word"] ["_law_state", "_law_many", "_law_count"] (defScope sRules) := ⟨rfl, rfl, rfl, by decide +kernel, rfl, by decide +kernel, by decide +kernel⟩
theorem ok_rules {f fT fS : Addr} {fd fdT fdS : FuncData} (F : Fun K "_law_rules" "_law_rules" sRules f fd) (GT : FnOk P w K mg base CX0 1 fT fdT ["_law_state", "_law_most"] (spTakeF K)) (mT : mg "_law_take" = some (.ref fT)) (kT : PySem.W.keepIn K (.ref fT) = true) (bT : Binds K fdT ["_law_state", "_law_most"] []) (GS : FnOk P w K mg base CX0 2 fS fdS ["_law_state", "_law_many"] (spSetF K)) (mS : mg "_law_set" = some (.ref fS)) (kS : PySem.W.keepIn K (.ref fS) = true) (bS : Binds K fdS ["_law_state", "_law_many"] []) (zrange : mg "range" = none) : FnOk P w K mg base CX0 3 f fd ["_law_state", "_law_many", "_law_count"] (spRules K) := by
  refine F.ok scRules (fun vs H Q E h => ?_) (fun cdv A outer s H vs Q E hr h => ?_)
  · obtain ⟨st, ns, k, m, n, rfl, _⟩ := h
    rfl
  · obtain ⟨st, ns, k, m, n, rfl, S, hk, hl, hm1, hm7, hn, q⟩ := h
    have nd := scRules.nd
    have hr1 : Room 1 _ := hr.mono (by decide)
    refine ⟨_, (pss_cons (ps_set (i := 3) nd rfl (Or.inl rfl) (pe_lst pa_nil))
      (pss_cons (ps_for PassesOwn.never rfl (pi_range1 rfl zrange (pa_cons (pv 2) pa_nil)) (pg_name (i := 4) nd rfl (Or.inl rfl)) (pss_cons (ps_set (i := 5) nd rfl (Or.inl rfl) (pe_ix (ix_listK (K := K) rfl) (pe_lst (pa_cons pe_str (pa_cons pe_str pa_nil))) (pe_call GT hr1 rfl mT kT bT .nil pass0 (pa_cons (pv 0) (pa_cons pe_int pa_nil))) (fun _ _ => rfl)))
      (pss_one (ps_expr (pe_bm PySem.F.plainAttrs_list PySem.F.slot_list_append PySem.F.type_list_append mt_append (pv 3) (pa_cons (pe_tup (pa_cons (pv 5) (pa_cons (pe_call GS hr rfl mS kS bS .nil pass0 (pa_cons (pv 0) (pa_cons (pv 1) pa_nil))) (pa_cons (pe_call GS hr rfl mS kS bS .nil pass0 (pa_cons (pv 0) (pa_cons (pv 1) pa_nil))) pa_nil)))) pa_nil))))))
      (pss_one (ps_ret (pv 3))))), ?_⟩
    refine ⟨(by show 0 ≤ sizeLine; exact Nat.zero_le _), fun g hg => ?_⟩
    obtain ⟨hgH, hgs⟩ := stf_fresh S (But.refl _ _) hg
    refine ⟨_, rfl, (n : Int), rfl, by omega, by omega, for_rangeN (n := n) (fun i σ H2 => (∃ v4 v5, σ = [some (.ref st), some (vN m), some (vN n), some (.ref g), v4, v5]) ∧
      ∃ (rs : List Rl) (k2 : Nat), rs.length = i ∧ (∀ r ∈ rs, RuleAt H2 r.r r.st r.x r.y ∧ r.x < 2 ^ m ∧ r.y < 2 ^ m) ∧ H2 g = some (.lst (rs.map fun r => V.ref r.r)) ∧ L2.STF K H2 st ns k2 ∧ k2 ≤ k + 7 * i ∧ But st H H2)
      ⟨⟨none, none, rfl⟩, [], k, rfl, (fun r h => absurd h List.not_mem_nil), upd_same, S.new hg, by omega, (But.refl _ _).own hgH⟩ ?_ ?_⟩
    · rintro i σ H2 hi ⟨⟨v4, v5, rfl⟩, rs, k2, hrl, hrs, hg2, S2, hk2, B2⟩
      refine ⟨(by show 2 ≤ sizeLine; decide), fun l hl2 => ?_⟩
      have sl := Same.new (o := .lst [V.str "settle", V.str "deal"]) hl2
      have hls : l ≠ st := (stf_fresh S2 (But.refl _ _) hl2).2
      refine ⟨_, rfl, st, ns, k2, 2, rfl, S2.new hl2, by omega, hl, by decide, fun r1 H3 a3 b3 S3 B3 => ?_⟩
      obtain ⟨n1, rfl, hn1⟩ := nat_of (n := 2) a3 b3
      have hl3 := B3 _ _ (show (upd H2 l (.lst [V.str "settle", V.str "deal"])) l = some (.lst [V.str "settle", V.str "deal"]) from upd_same) hls
      have B03 : But st H H3 := B2.trans ((But.new hl2).trans B3)
      obtain ⟨sb, esb⟩ : ∃ sb : Bool, ([V.str "settle", V.str "deal"] : List V)[n1]? = some (V.str (wordS sb)) := by
        match n1, hn1 with
        | 0, _ => exact ⟨true, rfl⟩
        | 1, _ => exact ⟨false, rfl⟩
      refine ⟨l, _, _, _, rfl, rfl, SqL.of hl3, atI_nat esb, ?_⟩
      have hg3 : H3 g = some (.lst (rs.map fun r => V.ref r.r)) := B3 _ _ (sl _ _ hg2) hgs
      have rk : ∀ r ∈ rs, RuleAt H3 r.r r.st r.x r.y := fun r hr' => stf_tup (S2.new hl2) B3 (sl _ _ (hrs r hr').1)
      refine ⟨_, rfl, .inl ⟨rfl, _, SqL.of hg3⟩, _, rfl, ?_⟩
      refine ⟨_, rfl, _, rfl, st, ns, k2 + 1, m, rfl, S3, by omega, hl, hm1, hm7, fun x k4 H4 hx hk4 S4 B4 => ?_⟩
      refine ⟨_, rfl, _, rfl, st, ns, k4, m, rfl, S4, by omega, hl, hm1, hm7, fun y k5 H5 hy hk5 S5 B5 => ?_⟩
      refine ⟨(by show 3 ≤ sizeLine; decide), fun t ht => ?_⟩
      have B05 := (B03.trans B4).trans B5
      have htH := stf_fresh S5 B05 ht
      have sn := Same.new (o := .tup [V.str (wordS sb), V.int (x : Int), V.int (y : Int)]) ht
      have hg5 := B5 _ _ (B4 _ _ hg3 hgs) hgs
      have hg6 := sn _ _ hg5
      refine ⟨g, _, _, rfl, rfl, hg6, by rw [List.length_map, hrl]; exact small1000 (by omega), ⟨_, _, rfl⟩, rs ++ [⟨t, sb, x, y⟩], k5, by rw [List.length_append, hrl]; rfl, fun r hr' => ?_, by rw [upd_same, List.map_append]; rfl, (S5.new ht).put hg6 hgs, by omega, (B05.trans (But.new ht)).own hgH⟩
      rcases List.mem_append.mp hr' with hr' | hr'
      · exact ⟨tup_put hg6 _ _ (sn _ _ (stf_tup S4 B5 (stf_tup S3 B4 (rk r hr')))), (hrs r hr').2⟩
      · rw [List.mem_singleton.mp hr']
        exact ⟨tup_put hg6 _ _ upd_same, hx, hy⟩
    · rintro σ H2 ⟨⟨v4, v5, rfl⟩, rs, k2, hrl, hrs, hg2, S2, hk2, B2⟩
      exact ⟨_, rfl, q rs g k2 _ hrl hrs hk2 hgH hg2 S2 B2⟩
noncomputable abbrev sAgree : Stmt := top 36
theorem scAgree : FnScope ["_law_one", "_law_other", "_law_some"] ["_law_one", "_law_other", "_law_some"] (defScope sAgree) := ⟨rfl, rfl, rfl, by decide +kernel, rfl, by decide +kernel, by decide +kernel⟩
theorem ok_agree {f fG : Addr} {fd fdG : FuncData} (F : Fun K "_law_agree" "_law_agree" sAgree f fd) (GG : FnOk P w K mg base CX0 1 fG fdG ["_law_some", "_law_k"] spHas2) (mG : mg "_law_has" = some (.ref fG)) (kG : PySem.W.keepIn K (.ref fG) = true) (bG : Binds K fdG ["_law_some", "_law_k"] []) (zrange : mg "range" = none) (zlen : mg "len" = none) : FnOk P w K mg base CX0 2 f fd ["_law_one", "_law_other", "_law_some"] (spAgree K) := by
  refine F.ok scAgree (fun vs H Q E h => ?_) (fun cdv A outer s H vs Q E hr h => ?_)
  · obtain ⟨a, b, r1, r2, x, rfl, _⟩ := h
    rfl
  · obtain ⟨a, b, r1, r2, x, rfl, ha, hb, hl, hl2, q⟩ := h
    refine ⟨_, (pss_one (ps_ret (pe_cmpR (op_eqLK (K := K) rfl hr.units) (pe_comp (xs := ["_law_k"]) (cs ["_law_one", "_law_other", "_law_some"] (defScope sAgree) rfl rfl (by decide +kernel)) rfl (pi_range1 rfl zrange (pa_cons (pe_callB (call_lenK (K := K) rfl) (by rfl) zlen PySem.boot_len (pa_cons (pv 0) pa_nil)) pa_nil)) (fun _ _ _ => pg_name (i := 0) (show (["_law_k", "_law_one", "_law_other", "_law_some"] : List Str).Nodup by decide +kernel) rfl (Or.inl rfl)) (fun _ _ _ => (pts_one (PW.pt (pw_and (pt_val (pe_call GG hr rfl mG kG bG .nil pass0 (pa_cons (pv 3) (pa_cons (pv 0) pa_nil)))) (pw_and1 (pt_cmpR op_neI (pe_ix (ix_tupK (K := K) rfl) (pv 1) (pv 0) (fun _ _ => rfl)) (pe_ix (ix_tupK (K := K) rfl) (pv 2) (pv 0) (fun _ _ => rfl)) (nomark _))))))) (fun _ _ _ => (pv 0))) (pe_lst pa_nil) (nomark _)))), ?_⟩
    have lm : (r1.map V.int).length = r1.length := List.length_map ..
    refine ⟨_, rfl, a, _, rfl, .inr ha, _, rfl, (by omega), (by omega), lc_rangeN (k := (r1.map V.int).length) (n := 1) (fun i acc H' => H' = H ∧ acc = ((List.range i).filter fun k => hasB x k && !decide (r1.getD k 0 = r2.getD k 0)).map vN) (by omega) ⟨rfl, rfl⟩ (fun i acc H' hi h => ?_) (fun i acc H' hi h => ?_) (fun acc H' h => ?_)⟩
    · rw [h.2, List.length_map]
      exact Nat.le_trans (List.length_filter_le _ _) (by simp)
    · obtain ⟨rfl, rfl⟩ := h
      rw [lm] at hi
      refine ⟨rfl, _, rfl, _, rfl, x, i, rfl, by omega, _, rfl, ?_⟩
      refine ite2 (fun hc => ?_) (fun hc => ?_)
      · refine ⟨_, rfl, _, rfl, a, _, _, _, rfl, rfl, ha, atI_nat (j := i) (getD_int hi), _, rfl, _, rfl, b, _, _, _, rfl, rfl, hb, atI_nat (j := i) (getD_int (by omega)), _, _, rfl, rfl, _, rfl, ?_⟩
        refine ite2 (fun hd => ?_) (fun hd => ?_)
        · refine ⟨_, rfl, rfl, ?_⟩
          rw [filt_succ, if_pos (by rw [hc, Bool.true_and]; exact hd), List.map_append]
          rfl
        · refine ⟨rfl, ?_⟩
          rw [filt_succ, if_neg (by rw [hc, Bool.true_and]; exact hd), List.append_nil]
      · refine iteF ⟨rfl, ?_⟩
        rw [filt_succ, if_neg (by intro z; rw [Bool.and_eq_true] at z; exact hc z.1), List.append_nil]
    · obtain ⟨rfl, rfl⟩ := h
      intro d hd
      refine ⟨(by show 0 ≤ sizeLine; exact Nat.zero_le _), fun e he => ?_⟩
      refine ⟨d, e, (offL r1 r2 x).map fun (k : Nat) => (k : Int), [], rfl, rfl, SqL.of ?_, SqL.of upd_same, ?_⟩
      · rw [upd_ne (ne_of_none upd_same he), upd_same, map_int, lm]
        rfl
      · have e1 : decide ((offL r1 r2 x).map (fun (k : Nat) => (k : Int)) = []) = agreeL r1 r2 x := by
          unfold agreeL
          rw [decide_eq_decide, List.map_eq_nil_iff]
        show Q (V.bl (decide _)) _
        rw [e1]
        exact q _ ((Same.new hd).trans (Same.new he))
noncomputable abbrev sMix : Stmt := top 37
theorem scMix : FnScope ["_law_one", "_law_other", "_law_some", "_law_row", "_law_k"] ["_law_one", "_law_other", "_law_some"] (defScope sMix) := ⟨rfl, rfl, rfl, by decide +kernel, rfl, by decide +kernel, by decide +kernel⟩
theorem ok_mix {f fG : Addr} {fd fdG : FuncData} (F : Fun K "_law_mix" "_law_mix" sMix f fd) (GG : FnOk P w K mg base CX0 1 fG fdG ["_law_some", "_law_k"] spHas2) (mG : mg "_law_has" = some (.ref fG)) (kG : PySem.W.keepIn K (.ref fG) = true) (bG : Binds K fdG ["_law_some", "_law_k"] []) (zrange : mg "range" = none) (zlen : mg "len" = none) (zint : mg "int" = none) (ztuple : mg "tuple" = none) : FnOk P w K mg base CX0 2 f fd ["_law_one", "_law_other", "_law_some"] (spMixed K) := by
  refine F.ok scMix (fun vs H Q E h => ?_) (fun cdv A outer s H vs Q E hr h => ?_)
  · obtain ⟨a, b, r1, r2, x, rfl, _⟩ := h
    rfl
  · obtain ⟨a, b, r1, r2, x, rfl, ha, hb, hl, hl2, q⟩ := h
    have nd := scMix.nd
    refine ⟨_, (pss_cons (ps_set (i := 3) nd rfl (Or.inl rfl) (pe_lst pa_nil))
      (pss_cons (ps_for PassesOwn.never rfl (pi_range1 rfl zrange (pa_cons (pe_callB (call_lenK (K := K) rfl) (by rfl) zlen PySem.boot_len (pa_cons (pv 0) pa_nil)) pa_nil)) (pg_name (i := 4) nd rfl (Or.inl rfl)) (pss_one (ps_expr (pe_bm PySem.F.plainAttrs_list PySem.F.slot_list_append PySem.F.type_list_append mt_append (pv 3) (pa_cons (pe_ix (ix_listK (K := K) rfl) (pe_lst (pa_cons (pe_ix (ix_tupK (K := K) rfl) (pv 1) (pv 4) (fun _ _ => rfl)) (pa_cons (pe_ix (ix_tupK (K := K) rfl) (pv 0) (pv 4) (fun _ _ => rfl)) pa_nil))) (pe_callTy call_int1 (by rfl) zint PyProof.Rows.boot_int (pa_cons (pe_call GG hr rfl mG kG bG .nil pass0 (pa_cons (pv 2) (pa_cons (pv 4) pa_nil))) pa_nil)) (fun _ _ => rfl)) pa_nil)))))
      (pss_one (ps_ret (pe_callTy (call_tupleK (K := K) rfl) (by rfl) ztuple PyProof.Rows.boot_tuple (pa_cons (pv 3) pa_nil)))))), ?_⟩
    have lm : (r1.map V.int).length = r1.length := List.length_map ..
    refine ⟨(by show 0 ≤ sizeLine; exact Nat.zero_le _), fun p hp => ?_⟩
    refine ⟨_, rfl, a, _, rfl, .inr ((Same.new hp).tupS ha), _, rfl, (by omega), (by omega), for_rangeN (n := (r1.map V.int).length) (fun i σ H2 => (∃ v, σ = [some (.ref a), some (.ref b), some (vN x), some (.ref p), v]) ∧ Same H H2 ∧ H2 p = some (.lst (((List.range i).map fun k => if hasB x k = true then r1.getD k 0 else r2.getD k 0).map V.int))) ⟨⟨none, rfl⟩, Same.new hp, upd_same⟩ ?_ ?_⟩
    · rintro i σ H2 hi ⟨⟨v, rfl⟩, s2, hp2⟩
      rw [lm] at hi
      refine ⟨_, rfl, .inl ⟨rfl, _, SqL.of hp2⟩, ?_⟩
      refine ⟨_, rfl, _, rfl, b, _, _, _, rfl, rfl, s2.tupS hb, atI_nat (j := i) (getD_int (by omega)), _, rfl, _, rfl, a, _, _, _, rfl, rfl, s2.tupS ha, atI_nat (j := i) (getD_int hi), (by show 2 ≤ sizeLine; decide), fun l hl => ?_⟩
      refine ⟨_, rfl, _, rfl, x, i, rfl, by omega, .inr ⟨_, rfl, ?_⟩⟩
      have hp3 : (upd H2 l (.lst [V.int (r2.getD i 0), V.int (r1.getD i 0)])) p = some (.lst (((List.range i).map fun k => if hasB x k = true then r1.getD k 0 else r2.getD k 0).map V.int)) := (Same.new hl) _ _ hp2
      have s3 : Same H (upd H2 l (.lst [V.int (r2.getD i 0), V.int (r1.getD i 0)])) := s2.trans (Same.new hl)
      have fin : ∀ (j : Nat) (z : Int), ([V.int (r2.getD i 0), V.int (r1.getD i 0)] : List V)[j]? = some (V.int z) → z = (if hasB x i = true then r1.getD i 0 else r2.getD i 0) → ∀ n : Int, n = (j : Int) →
          rIxL K (.ref l) (.int n) (upd H2 l (.lst [V.int (r2.getD i 0), V.int (r1.getD i 0)])) fun y H4 => rAppend (.ref p) [y] H4 fun _ H5 => (∃ v, ([some (.ref a), some (.ref b), some (vN x), some (.ref p), some (vN i)] : St) = [some (.ref a), some (.ref b), some (vN x), some (.ref p), v]) ∧ Same H H5 ∧ H5 p = some (.lst (((List.range (i + 1)).map fun k => if hasB x k = true then r1.getD k 0 else r2.getD k 0).map V.int)) := fun j z e1 e2 n e3 => by
        refine ⟨l, _, _, _, rfl, rfl, SqL.of upd_same, (by rw [e3]; exact atI_nat e1), p, _, _, rfl, rfl, hp3, ?_, ⟨_, rfl⟩, ?_, ?_⟩
        · rw [List.length_map, List.length_map, List.length_range]; exact small1000 (by omega)
        · exact fun c o e => by rw [upd_ne (ne_of_none e hp)]; exact s3 c o e
        · rw [upd_same, List.range_succ, List.map_append, List.map_append, e2]
          rfl
      cases hb' : hasB x i with
      | true => exact fin 1 (r1.getD i 0) rfl (by rw [if_pos hb']) _ rfl
      | false => exact fin 0 (r2.getD i 0) rfl (by rw [if_neg (by rw [hb']; exact Bool.false_ne_true)]) _ rfl
    · rintro σ H2 ⟨⟨v, rfl⟩, s2, hp2⟩
      refine ⟨_, rfl, p, _, rfl, .inl ⟨SqL.of hp2, fun t ht => ?_⟩⟩
      refine q t _ (s2.trans (Same.new ht)) (s2.free ht) ?_
      rw [upd_same, lm]
      rfl
end
end Own

namespace Own
open PySem L2
/-! what the top has written, and the law's own head -/
theorem all_mk {l : PySem.W.OpenLaw} {w : World} {K : PySem.W.Frag} {h : Heap} {mg : Str → Option Value} {fa fH fC fAL fIW fMO fL fM fN fE fU fF fS2 fX fD2 fB fKP fBO fO fCU fI fUD fBG fFU fUN fTA fTW fT fS fG fRU fTB fAG fMX fCH fFW fWI fSP fWS fPR fQ : Addr} (X : K.In h) (G : h.Ns mainGlobals mg) (hfa : mg "law" = some (.ref fa))
    {odH anH odC anC odAL anAL odIW anIW odMO anMO odL anL odM anM odN anN odE anE odU anU odF anF odS2 anS2 odX anX odD2 anD2 odB anB odKP anKP odBO anBO odO anO odCU anCU odI anI odUD anUD odBG anBG odFU anFU odUN anUN odTA anTA odTW anTW odT anT odS anS odG anG odRU anRU odTB anTB odAG anAG odMX anMX odCH anCH odFW anFW odWI anWI odSP anSP odWS anWS odPR anPR odQ anQ : Option Addr} {slH slC slAL slIW slMO slL slM slN slE slU slF slS2 slX slD2 slB slKP slBO slO slCU slI slUD slBG slFU slUN slTA slTW slT slS slG slRU slTB slAG slMX slCH slFW slWI slSP slWS slPR slQ : Array (Option Value)} {ocH kVH dcH pmH cdH ctH ocC kVC dcC pmC cdC ctC ocAL kVAL dcAL pmAL cdAL ctAL ocIW kVIW dcIW pmIW cdIW ctIW ocMO kVMO dcMO pmMO cdMO ctMO ocL kVL dcL pmL cdL ctL ocM kVM dcM pmM cdM ctM ocN kVN dcN pmN cdN ctN ocE kVE dcE pmE cdE ctE ocU kVU dcU pmU cdU ctU ocF kVF dcF pmF cdF ctF ocS2 kVS2 dcS2 pmS2 cdS2 ctS2 ocX kVX dcX pmX cdX ctX ocD2 kVD2 dcD2 pmD2 cdD2 ctD2 ocB kVB dcB pmB cdB ctB ocKP kVKP dcKP pmKP cdKP ctKP ocBO kVBO dcBO pmBO cdBO ctBO ocO kVO dcO pmO cdO ctO ocCU kVCU dcCU pmCU cdCU ctCU ocI kVI dcI pmI cdI ctI ocUD kVUD dcUD pmUD cdUD ctUD ocBG kVBG dcBG pmBG cdBG ctBG ocFU kVFU dcFU pmFU cdFU ctFU ocUN kVUN dcUN pmUN cdUN ctUN ocTA kVTA dcTA pmTA cdTA ctTA ocTW kVTW dcTW pmTW cdTW ctTW ocT kVT dcT pmT cdT ctT ocS kVS dcS pmS cdS ctS ocG kVG dcG pmG cdG ctG ocRU kVRU dcRU pmRU cdRU ctRU ocTB kVTB dcTB pmTB cdTB ctTB ocAG kVAG dcAG pmAG cdAG ctAG ocMX kVMX dcMX pmMX cdMX ctMX ocCH kVCH dcCH pmCH cdCH ctCH ocFW kVFW dcFW pmFW cdFW ctFW ocWI kVWI dcWI pmWI cdWI ctWI ocSP kVSP dcSP pmSP cdSP ctSP ocWS kVWS dcWS pmWS cdWS ctWS ocPR kVPR dcPR pmPR cdPR ctPR ocQ kVQ dcQ pmQ cdQ ctQ : Value}
    (aH : PySem.W.nsIn K mainGlobals "has_column" = some (some (.ref fH))) (lH : K.lookup fH = some ⟨ocH, odH, .func (PySem.W.fnOf "has_column" "has_column" (defArgs sHas) (defBody sHas) (defScope sHas) .none kVH dcH pmH anH cdH ctH), slH⟩) (cH : PySem.W.codeIn K cdH "has_column" = true) (kH : PySem.W.keepIn K (.ref fH) = true)
    (aC : PySem.W.nsIn K mainGlobals "columns_of" = some (some (.ref fC))) (lC : K.lookup fC = some ⟨ocC, odC, .func (PySem.W.fnOf "columns_of" "columns_of" (defArgs sCols) (defBody sCols) (defScope sCols) .none kVC dcC pmC anC cdC ctC), slC⟩) (cC : PySem.W.codeIn K cdC "columns_of" = true) (kC : PySem.W.keepIn K (.ref fC) = true)
    (aAL : PySem.W.nsIn K mainGlobals "all_of" = some (some (.ref fAL))) (lAL : K.lookup fAL = some ⟨ocAL, odAL, .func (PySem.W.fnOf "all_of" "all_of" (defArgs sAll) (defBody sAll) (defScope sAll) .none kVAL dcAL pmAL anAL cdAL ctAL), slAL⟩) (cAL : PySem.W.codeIn K cdAL "all_of" = true) (kAL : PySem.W.keepIn K (.ref fAL) = true)
    (aIW : PySem.W.nsIn K mainGlobals "is_within" = some (some (.ref fIW))) (lIW : K.lookup fIW = some ⟨ocIW, odIW, .func (PySem.W.fnOf "is_within" "is_within" (defArgs sWithin) (defBody sWithin) (defScope sWithin) .none kVIW dcIW pmIW anIW cdIW ctIW), slIW⟩) (cIW : PySem.W.codeIn K cdIW "is_within" = true) (kIW : PySem.W.keepIn K (.ref fIW) = true)
    (aMO : PySem.W.nsIn K mainGlobals "with_one_more" = some (some (.ref fMO))) (lMO : K.lookup fMO = some ⟨ocMO, odMO, .func (PySem.W.fnOf "with_one_more" "with_one_more" (defArgs sMore) (defBody sMore) (defScope sMore) .none kVMO dcMO pmMO anMO cdMO ctMO), slMO⟩) (cMO : PySem.W.codeIn K cdMO "with_one_more" = true) (kMO : PySem.W.keepIn K (.ref fMO) = true)
    (aL : PySem.W.nsIn K mainGlobals "alike" = some (some (.ref fL))) (lL : K.lookup fL = some ⟨ocL, odL, .func (PySem.W.fnOf "alike" "alike" (defArgs sAlike) (defBody sAlike) (defScope sAlike) .none kVL dcL pmL anL cdL ctL), slL⟩) (cL : PySem.W.codeIn K cdL "alike" = true) (kL : PySem.W.keepIn K (.ref fL) = true)
    (aM : PySem.W.nsIn K mainGlobals "mixed" = some (some (.ref fM))) (lM : K.lookup fM = some ⟨ocM, odM, .func (PySem.W.fnOf "mixed" "mixed" (defArgs sMixed) (defBody sMixed) (defScope sMixed) .none kVM dcM pmM anM cdM ctM), slM⟩) (cM : PySem.W.codeIn K cdM "mixed" = true) (kM : PySem.W.keepIn K (.ref fM) = true)
    (aN : PySem.W.nsIn K mainGlobals "noughts" = some (some (.ref fN))) (lN : K.lookup fN = some ⟨ocN, odN, .func (PySem.W.fnOf "noughts" "noughts" (defArgs sNoughts) (defBody sNoughts) (defScope sNoughts) .none kVN dcN pmN anN cdN ctN), slN⟩) (cN : PySem.W.codeIn K cdN "noughts" = true) (kN : PySem.W.keepIn K (.ref fN) = true)
    (aE : PySem.W.nsIn K mainGlobals "seen_row" = some (some (.ref fE))) (lE : K.lookup fE = some ⟨ocE, odE, .func (PySem.W.fnOf "seen_row" "seen_row" (defArgs sSeen) (defBody sSeen) (defScope sSeen) .none kVE dcE pmE anE cdE ctE), slE⟩) (cE : PySem.W.codeIn K cdE "seen_row" = true) (kE : PySem.W.keepIn K (.ref fE) = true)
    (aU : PySem.W.nsIn K mainGlobals "groups_on" = some (some (.ref fU))) (lU : K.lookup fU = some ⟨ocU, odU, .func (PySem.W.fnOf "groups_on" "groups_on" (defArgs sGroups) (defBody sGroups) (defScope sGroups) .none kVU dcU pmU anU cdU ctU), slU⟩) (cU : PySem.W.codeIn K cdU "groups_on" = true) (kU : PySem.W.keepIn K (.ref fU) = true)
    (aF : PySem.W.nsIn K mainGlobals "firsts_on" = some (some (.ref fF))) (lF : K.lookup fF = some ⟨ocF, odF, .func (PySem.W.fnOf "firsts_on" "firsts_on" (defArgs sFirsts) (defBody sFirsts) (defScope sFirsts) .none kVF dcF pmF anF cdF ctF), slF⟩) (cF : PySem.W.codeIn K cdF "firsts_on" = true) (kF : PySem.W.keepIn K (.ref fF) = true)
    (aS2 : PySem.W.nsIn K mainGlobals "settle_breach" = some (some (.ref fS2))) (lS2 : K.lookup fS2 = some ⟨ocS2, odS2, .func (PySem.W.fnOf "settle_breach" "settle_breach" (defArgs sSettle) (defBody sSettle) (defScope sSettle) .none kVS2 dcS2 pmS2 anS2 cdS2 ctS2), slS2⟩) (cS2 : PySem.W.codeIn K cdS2 "settle_breach" = true) (kS2 : PySem.W.keepIn K (.ref fS2) = true)
    (aX : PySem.W.nsIn K mainGlobals "lacking_mix" = some (some (.ref fX))) (lX : K.lookup fX = some ⟨ocX, odX, .func (PySem.W.fnOf "lacking_mix" "lacking_mix" (defArgs sLack) (defBody sLack) (defScope sLack) .none kVX dcX pmX anX cdX ctX), slX⟩) (cX : PySem.W.codeIn K cdX "lacking_mix" = true) (kX : PySem.W.keepIn K (.ref fX) = true)
    (aD2 : PySem.W.nsIn K mainGlobals "deal_breach" = some (some (.ref fD2))) (lD2 : K.lookup fD2 = some ⟨ocD2, odD2, .func (PySem.W.fnOf "deal_breach" "deal_breach" (defArgs sDeal) (defBody sDeal) (defScope sDeal) .none kVD2 dcD2 pmD2 anD2 cdD2 ctD2), slD2⟩) (cD2 : PySem.W.codeIn K cdD2 "deal_breach" = true) (kD2 : PySem.W.keepIn K (.ref fD2) = true)
    (aB : PySem.W.nsIn K mainGlobals "breach" = some (some (.ref fB))) (lB : K.lookup fB = some ⟨ocB, odB, .func (PySem.W.fnOf "breach" "breach" (defArgs sBreach) (defBody sBreach) (defScope sBreach) .none kVB dcB pmB anB cdB ctB), slB⟩) (cB : PySem.W.codeIn K cdB "breach" = true) (kB : PySem.W.keepIn K (.ref fB) = true)
    (aKP : PySem.W.nsIn K mainGlobals "keeps" = some (some (.ref fKP))) (lKP : K.lookup fKP = some ⟨ocKP, odKP, .func (PySem.W.fnOf "keeps" "keeps" (defArgs sKeeps) (defBody sKeeps) (defScope sKeeps) .none kVKP dcKP pmKP anKP cdKP ctKP), slKP⟩) (cKP : PySem.W.codeIn K cdKP "keeps" = true) (kKP : PySem.W.keepIn K (.ref fKP) = true)
    (aBO : PySem.W.nsIn K mainGlobals "book_of" = some (some (.ref fBO))) (lBO : K.lookup fBO = some ⟨ocBO, odBO, .func (PySem.W.fnOf "book_of" "book_of" (defArgs sBookOf) (defBody sBookOf) (defScope sBookOf) .none kVBO dcBO pmBO anBO cdBO ctBO), slBO⟩) (cBO : PySem.W.codeIn K cdBO "book_of" = true) (kBO : PySem.W.keepIn K (.ref fBO) = true)
    (aO : PySem.W.nsIn K mainGlobals "seen_on" = some (some (.ref fO))) (lO : K.lookup fO = some ⟨ocO, odO, .func (PySem.W.fnOf "seen_on" "seen_on" (defArgs sSeenOn) (defBody sSeenOn) (defScope sSeenOn) .none kVO dcO pmO anO cdO ctO), slO⟩) (cO : PySem.W.codeIn K cdO "seen_on" = true) (kO : PySem.W.keepIn K (.ref fO) = true)
    (aCU : PySem.W.nsIn K mainGlobals "can_use" = some (some (.ref fCU))) (lCU : K.lookup fCU = some ⟨ocCU, odCU, .func (PySem.W.fnOf "can_use" "can_use" (defArgs sCanUse) (defBody sCanUse) (defScope sCanUse) .none kVCU dcCU pmCU anCU cdCU ctCU), slCU⟩) (cCU : PySem.W.codeIn K cdCU "can_use" = true) (kCU : PySem.W.keepIn K (.ref fCU) = true)
    (aI : PySem.W.nsIn K mainGlobals "listed" = some (some (.ref fI))) (lI : K.lookup fI = some ⟨ocI, odI, .func (PySem.W.fnOf "listed" "listed" (defArgs sListed) (defBody sListed) (defScope sListed) .none kVI dcI pmI anI cdI ctI), slI⟩) (cI : PySem.W.codeIn K cdI "listed" = true) (kI : PySem.W.keepIn K (.ref fI) = true)
    (aUD : PySem.W.nsIn K mainGlobals "used" = some (some (.ref fUD))) (lUD : K.lookup fUD = some ⟨ocUD, odUD, .func (PySem.W.fnOf "used" "used" (defArgs sUsed) (defBody sUsed) (defScope sUsed) .none kVUD dcUD pmUD anUD cdUD ctUD), slUD⟩) (cUD : PySem.W.codeIn K cdUD "used" = true) (kUD : PySem.W.keepIn K (.ref fUD) = true)
    (aBG : PySem.W.nsIn K mainGlobals "begun" = some (some (.ref fBG))) (lBG : K.lookup fBG = some ⟨ocBG, odBG, .func (PySem.W.fnOf "begun" "begun" (defArgs sBegun) (defBody sBegun) (defScope sBegun) .none kVBG dcBG pmBG anBG cdBG ctBG), slBG⟩) (cBG : PySem.W.codeIn K cdBG "begun" = true) (kBG : PySem.W.keepIn K (.ref fBG) = true)
    (aFU : PySem.W.nsIn K mainGlobals "first_use" = some (some (.ref fFU))) (lFU : K.lookup fFU = some ⟨ocFU, odFU, .func (PySem.W.fnOf "first_use" "first_use" (defArgs sFirst) (defBody sFirst) (defScope sFirst) .none kVFU dcFU pmFU anFU cdFU ctFU), slFU⟩) (cFU : PySem.W.codeIn K cdFU "first_use" = true) (kFU : PySem.W.keepIn K (.ref fFU) = true)
    (aUN : PySem.W.nsIn K mainGlobals "unfolded" = some (some (.ref fUN))) (lUN : K.lookup fUN = some ⟨ocUN, odUN, .func (PySem.W.fnOf "unfolded" "unfolded" (defArgs sUnf) (defBody sUnf) (defScope sUnf) .none kVUN dcUN pmUN anUN cdUN ctUN), slUN⟩) (cUN : PySem.W.codeIn K cdUN "unfolded" = true) (kUN : PySem.W.keepIn K (.ref fUN) = true)
    (aTA : PySem.W.nsIn K mainGlobals "told_again" = some (some (.ref fTA))) (lTA : K.lookup fTA = some ⟨ocTA, odTA, .func (PySem.W.fnOf "told_again" "told_again" (defArgs sAgain) (defBody sAgain) (defScope sAgain) .none kVTA dcTA pmTA anTA cdTA ctTA), slTA⟩) (cTA : PySem.W.codeIn K cdTA "told_again" = true) (kTA : PySem.W.keepIn K (.ref fTA) = true)
    (aTW : PySem.W.nsIn K mainGlobals "twice" = some (some (.ref fTW))) (lTW : K.lookup fTW = some ⟨ocTW, odTW, .func (PySem.W.fnOf "twice" "twice" (defArgs sTwice) (defBody sTwice) (defScope sTwice) .none kVTW dcTW pmTW anTW cdTW ctTW), slTW⟩) (cTW : PySem.W.codeIn K cdTW "twice" = true) (kTW : PySem.W.keepIn K (.ref fTW) = true)
    (aT : PySem.W.nsIn K mainGlobals "_law_take" = some (some (.ref fT))) (lT : K.lookup fT = some ⟨ocT, odT, .func (PySem.W.fnOf "_law_take" "_law_take" (defArgs sTake) (defBody sTake) (defScope sTake) .none kVT dcT pmT anT cdT ctT), slT⟩) (cT : PySem.W.codeIn K cdT "_law_take" = true) (kT : PySem.W.keepIn K (.ref fT) = true)
    (aS : PySem.W.nsIn K mainGlobals "_law_set" = some (some (.ref fS))) (lS : K.lookup fS = some ⟨ocS, odS, .func (PySem.W.fnOf "_law_set" "_law_set" (defArgs sSet) (defBody sSet) (defScope sSet) .none kVS dcS pmS anS cdS ctS), slS⟩) (cS : PySem.W.codeIn K cdS "_law_set" = true) (kS : PySem.W.keepIn K (.ref fS) = true)
    (aG : PySem.W.nsIn K mainGlobals "_law_has" = some (some (.ref fG))) (lG : K.lookup fG = some ⟨ocG, odG, .func (PySem.W.fnOf "_law_has" "_law_has" (defArgs sHas2) (defBody sHas2) (defScope sHas2) .none kVG dcG pmG anG cdG ctG), slG⟩) (cG : PySem.W.codeIn K cdG "_law_has" = true) (kG : PySem.W.keepIn K (.ref fG) = true)
    (aRU : PySem.W.nsIn K mainGlobals "_law_rules" = some (some (.ref fRU))) (lRU : K.lookup fRU = some ⟨ocRU, odRU, .func (PySem.W.fnOf "_law_rules" "_law_rules" (defArgs sRules) (defBody sRules) (defScope sRules) .none kVRU dcRU pmRU anRU cdRU ctRU), slRU⟩) (cRU : PySem.W.codeIn K cdRU "_law_rules" = true) (kRU : PySem.W.keepIn K (.ref fRU) = true)
    (aTB : PySem.W.nsIn K mainGlobals "_law_table" = some (some (.ref fTB))) (lTB : K.lookup fTB = some ⟨ocTB, odTB, .func (PySem.W.fnOf "_law_table" "_law_table" (defArgs sTable) (defBody sTable) (defScope sTable) .none kVTB dcTB pmTB anTB cdTB ctTB), slTB⟩) (cTB : PySem.W.codeIn K cdTB "_law_table" = true) (kTB : PySem.W.keepIn K (.ref fTB) = true)
    (aAG : PySem.W.nsIn K mainGlobals "_law_agree" = some (some (.ref fAG))) (lAG : K.lookup fAG = some ⟨ocAG, odAG, .func (PySem.W.fnOf "_law_agree" "_law_agree" (defArgs sAgree) (defBody sAgree) (defScope sAgree) .none kVAG dcAG pmAG anAG cdAG ctAG), slAG⟩) (cAG : PySem.W.codeIn K cdAG "_law_agree" = true) (kAG : PySem.W.keepIn K (.ref fAG) = true)
    (aMX : PySem.W.nsIn K mainGlobals "_law_mix" = some (some (.ref fMX))) (lMX : K.lookup fMX = some ⟨ocMX, odMX, .func (PySem.W.fnOf "_law_mix" "_law_mix" (defArgs sMix) (defBody sMix) (defScope sMix) .none kVMX dcMX pmMX anMX cdMX ctMX), slMX⟩) (cMX : PySem.W.codeIn K cdMX "_law_mix" = true) (kMX : PySem.W.keepIn K (.ref fMX) = true)
    (aCH : PySem.W.nsIn K mainGlobals "_law_choices" = some (some (.ref fCH))) (lCH : K.lookup fCH = some ⟨ocCH, odCH, .func (PySem.W.fnOf "_law_choices" "_law_choices" (defArgs sCho) (defBody sCho) (defScope sCho) .none kVCH dcCH pmCH anCH cdCH ctCH), slCH⟩) (cCH : PySem.W.codeIn K cdCH "_law_choices" = true) (kCH : PySem.W.keepIn K (.ref fCH) = true)
    (aFW : PySem.W.nsIn K mainGlobals "_law_few" = some (some (.ref fFW))) (lFW : K.lookup fFW = some ⟨ocFW, odFW, .func (PySem.W.fnOf "_law_few" "_law_few" (defArgs sFew) (defBody sFew) (defScope sFew) .none kVFW dcFW pmFW anFW cdFW ctFW), slFW⟩) (cFW : PySem.W.codeIn K cdFW "_law_few" = true) (kFW : PySem.W.keepIn K (.ref fFW) = true)
    (aWI : PySem.W.nsIn K mainGlobals "_law_within" = some (some (.ref fWI))) (lWI : K.lookup fWI = some ⟨ocWI, odWI, .func (PySem.W.fnOf "_law_within" "_law_within" (defArgs sWit) (defBody sWit) (defScope sWit) .none kVWI dcWI pmWI anWI cdWI ctWI), slWI⟩) (cWI : PySem.W.codeIn K cdWI "_law_within" = true) (kWI : PySem.W.keepIn K (.ref fWI) = true)
    (aSP : PySem.W.nsIn K mainGlobals "_law_split_shows" = some (some (.ref fSP))) (lSP : K.lookup fSP = some ⟨ocSP, odSP, .func (PySem.W.fnOf "_law_split_shows" "_law_split_shows" (defArgs sSplit) (defBody sSplit) (defScope sSplit) .none kVSP dcSP pmSP anSP cdSP ctSP), slSP⟩) (cSP : PySem.W.codeIn K cdSP "_law_split_shows" = true) (kSP : PySem.W.keepIn K (.ref fSP) = true)
    (aWS : PySem.W.nsIn K mainGlobals "_law_whole_shows" = some (some (.ref fWS))) (lWS : K.lookup fWS = some ⟨ocWS, odWS, .func (PySem.W.fnOf "_law_whole_shows" "_law_whole_shows" (defArgs sWholeS) (defBody sWholeS) (defScope sWholeS) .none kVWS dcWS pmWS anWS cdWS ctWS), slWS⟩) (cWS : PySem.W.codeIn K cdWS "_law_whole_shows" = true) (kWS : PySem.W.keepIn K (.ref fWS) = true)
    (aPR : PySem.W.nsIn K mainGlobals "_law_part_right" = some (some (.ref fPR))) (lPR : K.lookup fPR = some ⟨ocPR, odPR, .func (PySem.W.fnOf "_law_part_right" "_law_part_right" (defArgs sPartR) (defBody sPartR) (defScope sPartR) .none kVPR dcPR pmPR anPR cdPR ctPR), slPR⟩) (cPR : PySem.W.codeIn K cdPR "_law_part_right" = true) (kPR : PySem.W.keepIn K (.ref fPR) = true)
    (aQ : PySem.W.nsIn K mainGlobals "law" = some (some (.ref fQ))) (lQ : K.lookup fQ = some ⟨ocQ, odQ, .func (PySem.W.fnOf "law" "law" (defArgs sLaw) (defBody sLaw) (defScope sLaw) .none kVQ dcQ pmQ anQ cdQ ctQ), slQ⟩) (cQ : PySem.W.codeIn K cdQ "law" = true) (kQ : PySem.W.keepIn K (.ref fQ) = true)
    
    (ylen : PySem.W.nsIn K mainGlobals "len" = some none) (yrange : PySem.W.nsIn K mainGlobals "range" = some none) (yenumerate : PySem.W.nsIn K mainGlobals "enumerate" = some none) (yall : PySem.W.nsIn K mainGlobals "all" = some none) (ytuple : PySem.W.nsIn K mainGlobals "tuple" = some none) (ydict : PySem.W.nsIn K mainGlobals "dict" = some none) (ysorted : PySem.W.nsIn K mainGlobals "sorted" = some none) (yset : PySem.W.nsIn K mainGlobals "set" = some none) (ylist : PySem.W.nsIn K mainGlobals "list" = some none) (yint : PySem.W.nsIn K mainGlobals "int" = some none) :
    ∃ fd : FuncData, (∀ (s : Shared) (v : Value), BindsTo s fd ⟨[v], []⟩ [("_law_script", v)]) ∧ ∀ base : Heap, K.In base → base.Ns mainGlobals mg → FnOk l.prog w K mg base CX0 12 fa fd ["_law_script"] (spLaw K) := by
  have e := hfa.symm.trans (PySem.W.mg_of X G aQ)
  cases e
  have FH := fun_mk (st := sHas) lH cH kH
  have mH := PySem.W.mg_of X G aH
  have bH := FH.binds (ps := ["some", "column"]) fun _ _ _ _ _ _ us hl => match us, hl with | [_, _], _ => rfl
  have FC := fun_mk (st := sCols) lC cC kC
  have mC := PySem.W.mg_of X G aC
  have bC := FC.binds (ps := ["some"]) fun _ _ _ _ _ _ us hl => match us, hl with | [_], _ => rfl
  have FAL := fun_mk (st := sAll) lAL cAL kAL
  have mAL := PySem.W.mg_of X G aAL
  have bAL := FAL.binds (ps := ["many"]) fun _ _ _ _ _ _ us hl => match us, hl with | [_], _ => rfl
  have FIW := fun_mk (st := sWithin) lIW cIW kIW
  have mIW := PySem.W.mg_of X G aIW
  have bIW := FIW.binds (ps := ["one", "other"]) fun _ _ _ _ _ _ us hl => match us, hl with | [_, _], _ => rfl
  have FMO := fun_mk (st := sMore) lMO cMO kMO
  have mMO := PySem.W.mg_of X G aMO
  have bMO := FMO.binds (ps := ["sets", "some"]) fun _ _ _ _ _ _ us hl => match us, hl with | [_, _], _ => rfl
  have FL := fun_mk (st := sAlike) lL cL kL
  have mL := PySem.W.mg_of X G aL
  have bL := FL.binds (ps := ["one", "other", "some"]) fun _ _ _ _ _ _ us hl => match us, hl with | [_, _, _], _ => rfl
  have FM := fun_mk (st := sMixed) lM cM kM
  have mM := PySem.W.mg_of X G aM
  have bM := FM.binds (ps := ["one", "other", "some"]) fun _ _ _ _ _ _ us hl => match us, hl with | [_, _, _], _ => rfl
  have FN := fun_mk (st := sNoughts) lN cN kN
  have mN := PySem.W.mg_of X G aN
  have bN := FN.binds (ps := ["many"]) fun _ _ _ _ _ _ us hl => match us, hl with | [_], _ => rfl
  have FE := fun_mk (st := sSeen) lE cE kE
  have mE := PySem.W.mg_of X G aE
  have bE := FE.binds (ps := ["row", "part"]) fun _ _ _ _ _ _ us hl => match us, hl with | [_, _], _ => rfl
  have FU := fun_mk (st := sGroups) lU cU kU
  have mU := PySem.W.mg_of X G aU
  have bU := FU.binds (ps := ["book", "some"]) fun _ _ _ _ _ _ us hl => match us, hl with | [_, _], _ => rfl
  have FF := fun_mk (st := sFirsts) lF cF kF
  have mF := PySem.W.mg_of X G aF
  have bF := FF.binds (ps := ["book", "some"]) fun _ _ _ _ _ _ us hl => match us, hl with | [_, _], _ => rfl
  have FS2 := fun_mk (st := sSettle) lS2 cS2 kS2
  have mS2 := PySem.W.mg_of X G aS2
  have bS2 := FS2.binds (ps := ["book", "left", "right"]) fun _ _ _ _ _ _ us hl => match us, hl with | [_, _, _], _ => rfl
  have FX := fun_mk (st := sLack) lX cX kX
  have mX := PySem.W.mg_of X G aX
  have bX := FX.binds (ps := ["rows", "held"]) fun _ _ _ _ _ _ us hl => match us, hl with | [_, _], _ => rfl
  have FD2 := fun_mk (st := sDeal) lD2 cD2 kD2
  have mD2 := PySem.W.mg_of X G aD2
  have bD2 := FD2.binds (ps := ["book", "left", "right"]) fun _ _ _ _ _ _ us hl => match us, hl with | [_, _, _], _ => rfl
  have FB := fun_mk (st := sBreach) lB cB kB
  have mB := PySem.W.mg_of X G aB
  have bB := FB.binds (ps := ["book", "rule"]) fun _ _ _ _ _ _ us hl => match us, hl with | [_, _], _ => rfl
  have FKP := fun_mk (st := sKeeps) lKP cKP kKP
  have mKP := PySem.W.mg_of X G aKP
  have bKP := FKP.binds (ps := ["book", "rules"]) fun _ _ _ _ _ _ us hl => match us, hl with | [_, _], _ => rfl
  have FBO := fun_mk (st := sBookOf) lBO cBO kBO
  have mBO := PySem.W.mg_of X G aBO
  have bBO := FBO.binds (ps := ["many", "some"]) fun _ _ _ _ _ _ us hl => match us, hl with | [_, _], _ => rfl
  have FO := fun_mk (st := sSeenOn) lO cO kO
  have mO := PySem.W.mg_of X G aO
  have bO := FO.binds (ps := ["book", "part"]) fun _ _ _ _ _ _ us hl => match us, hl with | [_, _], _ => rfl
  have FCU := fun_mk (st := sCanUse) lCU cCU kCU
  have mCU := PySem.W.mg_of X G aCU
  have bCU := FCU.binds (ps := ["rule", "block"]) fun _ _ _ _ _ _ us hl => match us, hl with | [_, _], _ => rfl
  have FI := fun_mk (st := sListed) lI cI kI
  have mI := PySem.W.mg_of X G aI
  have bI := FI.binds (ps := ["block"]) fun _ _ _ _ _ _ us hl => match us, hl with | [_], _ => rfl
  have FUD := fun_mk (st := sUsed) lUD cUD kUD
  have mUD := PySem.W.mg_of X G aUD
  have bUD := FUD.binds (ps := ["rule", "fixed", "blocks", "at"]) fun _ _ _ _ _ _ us hl => match us, hl with | [_, _, _, _], _ => rfl
  have FBG := fun_mk (st := sBegun) lBG cBG kBG
  have mBG := PySem.W.mg_of X G aBG
  have bBG := FBG.binds (ps := ["many", "some"]) fun _ _ _ _ _ _ us hl => match us, hl with | [_, _], _ => rfl
  have FFU := fun_mk (st := sFirst) lFU cFU kFU
  have mFU := PySem.W.mg_of X G aFU
  have bFU := FFU.binds (ps := ["rules", "blocks"]) fun _ _ _ _ _ _ us hl => match us, hl with | [_, _], _ => rfl
  have FUN := fun_mk (st := sUnf) lUN cUN kUN
  have mUN := PySem.W.mg_of X G aUN
  have bUN := FUN.binds (ps := ["many", "rules", "some"]) fun _ _ _ _ _ _ us hl => match us, hl with | [_, _, _], _ => rfl
  have FTA := fun_mk (st := sAgain) lTA cTA kTA
  have mTA := PySem.W.mg_of X G aTA
  have bTA := FTA.binds (ps := ["many", "rules", "part", "some"]) fun _ _ _ _ _ _ us hl => match us, hl with | [_, _, _, _], _ => rfl
  have FTW := fun_mk (st := sTwice) lTW cTW kTW
  have mTW := PySem.W.mg_of X G aTW
  have bTW := FTW.binds (ps := ["many", "rules", "part"]) fun _ _ _ _ _ _ us hl => match us, hl with | [_, _, _], _ => rfl
  have FT := fun_mk (st := sTake) lT cT kT
  have mT := PySem.W.mg_of X G aT
  have bT := FT.binds (ps := ["_law_state", "_law_most"]) fun _ _ _ _ _ _ us hl => match us, hl with | [_, _], _ => rfl
  have FS := fun_mk (st := sSet) lS cS kS
  have mS := PySem.W.mg_of X G aS
  have bS := FS.binds (ps := ["_law_state", "_law_many"]) fun _ _ _ _ _ _ us hl => match us, hl with | [_, _], _ => rfl
  have FG := fun_mk (st := sHas2) lG cG kG
  have mG := PySem.W.mg_of X G aG
  have bG := FG.binds (ps := ["_law_some", "_law_k"]) fun _ _ _ _ _ _ us hl => match us, hl with | [_, _], _ => rfl
  have FRU := fun_mk (st := sRules) lRU cRU kRU
  have mRU := PySem.W.mg_of X G aRU
  have bRU := FRU.binds (ps := ["_law_state", "_law_many", "_law_count"]) fun _ _ _ _ _ _ us hl => match us, hl with | [_, _, _], _ => rfl
  have FTB := fun_mk (st := sTable) lTB cTB kTB
  have mTB := PySem.W.mg_of X G aTB
  have bTB := FTB.binds (ps := ["_law_state"]) fun _ _ _ _ _ _ us hl => match us, hl with | [_], _ => rfl
  have FAG := fun_mk (st := sAgree) lAG cAG kAG
  have mAG := PySem.W.mg_of X G aAG
  have bAG := FAG.binds (ps := ["_law_one", "_law_other", "_law_some"]) fun _ _ _ _ _ _ us hl => match us, hl with | [_, _, _], _ => rfl
  have FMX := fun_mk (st := sMix) lMX cMX kMX
  have mMX := PySem.W.mg_of X G aMX
  have bMX := FMX.binds (ps := ["_law_one", "_law_other", "_law_some"]) fun _ _ _ _ _ _ us hl => match us, hl with | [_, _, _], _ => rfl
  have FCH := fun_mk (st := sCho) lCH cCH kCH
  have mCH := PySem.W.mg_of X G aCH
  have bCH := FCH.binds (ps := ["_law_state", "_law_many", "_law_blocks"]) fun _ _ _ _ _ _ us hl => match us, hl with | [_, _, _], _ => rfl
  have FFW := fun_mk (st := sFew) lFW cFW kFW
  have mFW := PySem.W.mg_of X G aFW
  have bFW := FFW.binds (ps := ["_law_state", "_law_many"]) fun _ _ _ _ _ _ us hl => match us, hl with | [_, _], _ => rfl
  have FWI := fun_mk (st := sWit) lWI cWI kWI
  have mWI := PySem.W.mg_of X G aWI
  have bWI := FWI.binds (ps := ["_law_many", "_law_part"]) fun _ _ _ _ _ _ us hl => match us, hl with | [_, _], _ => rfl
  have FSP := fun_mk (st := sSplit) lSP cSP kSP
  have mSP := PySem.W.mg_of X G aSP
  have bSP := FSP.binds (ps := ["_law_rows", "_law_part", "_law_some", "_law_off"]) fun _ _ _ _ _ _ us hl => match us, hl with | [_, _, _, _], _ => rfl
  have FWS := fun_mk (st := sWholeS) lWS cWS kWS
  have mWS := PySem.W.mg_of X G aWS
  have bWS := FWS.binds (ps := ["_law_many", "_law_rules_here", "_law_part", "_law_some"]) fun _ _ _ _ _ _ us hl => match us, hl with | [_, _, _, _], _ => rfl
  have FPR := fun_mk (st := sPartR) lPR cPR kPR
  have mPR := PySem.W.mg_of X G aPR
  have bPR := FPR.binds (ps := ["_law_many", "_law_rules_here", "_law_rows", "_law_part"]) fun _ _ _ _ _ _ us hl => match us, hl with | [_, _, _, _], _ => rfl
  have FQ := fun_mk (st := sLaw) lQ cQ kQ
  have mQ := PySem.W.mg_of X G aQ
  have zlen := PySem.W.mg_none_of X G ylen
  have zrange := PySem.W.mg_none_of X G yrange
  have zenumerate := PySem.W.mg_none_of X G yenumerate
  have zall := PySem.W.mg_none_of X G yall
  have ztuple := PySem.W.mg_none_of X G ytuple
  have zdict := PySem.W.mg_none_of X G ydict
  have zsorted := PySem.W.mg_none_of X G ysorted
  have zset := PySem.W.mg_none_of X G yset
  have zlist := PySem.W.mg_none_of X G ylist
  have zint := PySem.W.mg_none_of X G yint
  refine ⟨PySem.W.fnOf "law" "law" (defArgs sLaw) (defBody sLaw) (defScope sLaw) .none kVQ dcQ pmQ anQ cdQ ctQ, fun s v => .of_eq rfl, fun base _ _ => ?_⟩
  have GH := ok_has (P := l.prog) (w := w) (mg := mg) (base := base) FH
  have GC := ok_cols FC GH mH kH bH zrange
  have GAL := ok_all (P := l.prog) (w := w) (mg := mg) (base := base) FAL
  have GIW := ok_within (P := l.prog) (w := w) (mg := mg) (base := base) FIW
  have GMO := ok_more FMO GC mC kC bC zsorted
  have GL := ok_alike FL GC mC kC bC zall
  have GM := ok_mixed FM GH mH kH bH zrange zlen ztuple
  have GN := ok_noughts (P := l.prog) (w := w) (mg := mg) (base := base) FN
  have GE := ok_seen FE GM mM kM bM GN mN kN bN zlen
  have GU := ok_groups FU GE mE kE bE
  have GF := ok_firsts FF GU mU kU bU
  have GS2 := ok_settle FS2 GU mU kU bU GL mL kL bL
  have GX := ok_lack FX GAL mAL kAL bAL GF mF kF bF GM mM kM bM zdict zlen
  have GD2 := ok_deal FD2 GU mU kU bU GX mX kX bX
  have GB := ok_breach FB GS2 mS2 kS2 bS2 GD2 mD2 kD2 bD2
  have GKP := ok_keeps FKP GB mB kB bB
  have GBO := ok_bookof FBO GN mN kN bN GM mM kM bM
  have GO := ok_seenon FO GE mE kE bE zset zsorted
  have GCU := ok_canuse (P := l.prog) (w := w) (mg := mg) (base := base) FCU
  have GI := ok_listed (P := l.prog) (w := w) (mg := mg) (base := base) FI
  have GUD := ok_used FUD GI mI kI bI
  have GBG := ok_begun FBG GI mI kI bI GAL mAL kAL bAL
  have GFU := ok_first FFU GCU mCU kCU bCU zenumerate
  have GUN := ok_unf FUN GBG mBG kBG bBG GFU mFU kFU bFU GUD mUD kUD bUD
  have GTA := ok_again FTA GUN mUN kUN bUN GIW mIW kIW bIW zlen
  have GTW := ok_twice FTW GTA mTA kTA bTA GMO mMO kMO bMO
  have GT := ok_take (P := l.prog) (w := w) (base := base) FT zlen
  have GS := ok_set FS GT mT kT bT
  have GG := ok_has2 (P := l.prog) (w := w) (mg := mg) (base := base) FG
  have GRU := ok_rules FRU GT mT kT bT GS mS kS bS zrange
  have GTB := ok_table FTB GT mT kT bT GRU mRU kRU bRU
  have GAG := ok_agree FAG GG mG kG bG zrange zlen
  have GMX := ok_mix FMX GG mG kG bG zrange zlen zint ztuple
  have GCH := ok_cho FCH GT mT kT bT GG mG kG bG zrange zlen zint ztuple
  have GFW := ok_few FFW GS mS kS bS GG mG kG bG zrange zlen
  have GWI := ok_wit (P := l.prog) (w := w) (base := base) FWI zrange
  have GSP := ok_split FSP GO mO kO bO GAG mAG kAG bAG GMX mMX kMX bMX zlist
  have GWS := ok_wholes FWS GUN mUN kUN bUN GBO mBO kBO bBO GKP mKP kKP bKP GO mO kO bO GWI mWI kWI bWI GMX mMX kMX bMX zlist zlen
  have GPR := ok_partr FPR GTW mTW kTW bTW GWI mWI kWI bWI GWS mWS kWS bWS GSP mSP kSP bSP zlist
  exact ok_law FQ GT mT kT bT GTB mTB kTB bTB GUN mUN kUN bUN GS mS kS bS GCH mCH kCH bCH GKP mKP kKP bKP GFW mFW kFW bFW GPR mPR kPR bPR GTW mTW kTW bTW zlist zrange
theorem walk {l : PySem.W.OpenLaw} {q : Program} {loose : List Str} {XP : (Str → Option Value) → Heap → Prop} {YP : World → Heap → Prop} {d : DefRec} {K : Params → PySem.W.Frag} (hn : l.most = some 63) (hdf : d.params.defaults = [])
    (hY : ∀ (w : World) (h : Heap), YP w h → (K w.params).In h)
    (F : ∀ (w : World) (mg : Str → Option Value) (fa : Addr) (h : Heap), (K w.params).In h → h.Ns mainGlobals mg → mg d.name = some (.ref fa) →
      ∃ fd : FuncData, (∀ (s : Shared) (u : Value), BindsTo s fd ⟨[u], []⟩ [("_law_script", u)]) ∧ ∀ base : Heap, (K w.params).In base → base.Ns mainGlobals mg → FnOk l.prog w (K w.params) mg base CX0 12 fa fd ["_law_script"] (spLaw (K w.params))) :
    PySem.W.WalkO q loose XP YP l.row.toRowW d [] (fun f vs => PySem.call f vs) :=
  L2.walk_of (n := 63) (k := 12) (x := "_law_script") (CX := fun _ => CX0) (sp := fun w => spLaw (K w.params)) hn (by decide) hdf ⟨rfl, by decide, by decide⟩ hY F (fun _ _ a ns hl hO hS => ⟨a, ns, rfl, SqF.of hO hS, hl, fun _ => rfl⟩) fun _ _ _ _ _ z => z
end Own
/-! names laid ahead, so that the head makes no twins of heaps, trees and the whole text: its own evaluation is quick without them -/
noncomputable def PySem.W.Fast.tw1153226549049562614 : Unit := ()
noncomputable def PySem.W.Fast.tw2370900160328144452 : Unit := ()
noncomputable def PySem.W.Fast.tw3724029279477648490 : Unit := ()
noncomputable def PySem.W.Fast.tw11567582312638869434 : Unit := ()
noncomputable def PySem.W.Fast.tw12465798682654163803 : Unit := ()
noncomputable def PySem.W.Fast.tw7170296812313093717 : Unit := ()
noncomputable def PySem.W.Fast.tw13172465209998655209 : Unit := ()
open PySem PySem.W PyProof.Rows
set_option maxRecDepth 100000 in
set_option maxHeartbeats 0 in
theorem PySem.Challenge.cw_splithouse_k61_shown_by_books_holds : PySem.Challenge.rw_splithouse_k61_shown_by_books.Holds := by
  w_on; o_law; k_head; (case hw => w_witness2)
  k_fill
  refine Own.walk (l := PySem.Challenge.rw_splithouse_k61_shown_by_books) rfl rfl (fun w h Y => PySem.W.kIn_of Y) ?F
  case F =>
    intro w mg fa h KX G hmg
    refine' Own.all_mk KX G hmg ?aH ?lH ?cH ?kH ?aC ?lC ?cC ?kC ?aAL ?lAL ?cAL ?kAL ?aIW ?lIW ?cIW ?kIW ?aMO ?lMO ?cMO ?kMO ?aL ?lL ?cL ?kL ?aM ?lM ?cM ?kM ?aN ?lN ?cN ?kN ?aE ?lE ?cE ?kE ?aU ?lU ?cU ?kU ?aF ?lF ?cF ?kF ?aS2 ?lS2 ?cS2 ?kS2 ?aX ?lX ?cX ?kX ?aD2 ?lD2 ?cD2 ?kD2 ?aB ?lB ?cB ?kB ?aKP ?lKP ?cKP ?kKP ?aBO ?lBO ?cBO ?kBO ?aO ?lO ?cO ?kO ?aCU ?lCU ?cCU ?kCU ?aI ?lI ?cI ?kI ?aUD ?lUD ?cUD ?kUD ?aBG ?lBG ?cBG ?kBG ?aFU ?lFU ?cFU ?kFU ?aUN ?lUN ?cUN ?kUN ?aTA ?lTA ?cTA ?kTA ?aTW ?lTW ?cTW ?kTW ?aT ?lT ?cT ?kT ?aS ?lS ?cS ?kS ?aG ?lG ?cG ?kG ?aRU ?lRU ?cRU ?kRU ?aTB ?lTB ?cTB ?kTB ?aAG ?lAG ?cAG ?kAG ?aMX ?lMX ?cMX ?kMX ?aCH ?lCH ?cCH ?kCH ?aFW ?lFW ?cFW ?kFW ?aWI ?lWI ?cWI ?kWI ?aSP ?lSP ?cSP ?kSP ?aWS ?lWS ?cWS ?kWS ?aPR ?lPR ?cPR ?kPR ?aQ ?lQ ?cQ ?kQ ?ylen ?yrange ?yenumerate ?yall ?ytuple ?ydict ?ysorted ?yset ?ylist ?yint
    (case aH => k_is)
    (case lH => k_is)
    (case cH => k_is)
    (case kH => k_is)
    (case aC => k_is)
    (case lC => k_is)
    (case cC => k_is)
    (case kC => k_is)
    (case aAL => k_is)
    (case lAL => k_is)
    (case cAL => k_is)
    (case kAL => k_is)
    (case aIW => k_is)
    (case lIW => k_is)
    (case cIW => k_is)
    (case kIW => k_is)
    (case aMO => k_is)
    (case lMO => k_is)
    (case cMO => k_is)
    (case kMO => k_is)
    (case aL => k_is)
    (case lL => k_is)
    (case cL => k_is)
    (case kL => k_is)
    (case aM => k_is)
    (case lM => k_is)
    (case cM => k_is)
    (case kM => k_is)
    (case aN => k_is)
    (case lN => k_is)
    (case cN => k_is)
    (case kN => k_is)
    (case aE => k_is)
    (case lE => k_is)
    (case cE => k_is)
    (case kE => k_is)
    (case aU => k_is)
    (case lU => k_is)
    (case cU => k_is)
    (case kU => k_is)
    (case aF => k_is)
    (case lF => k_is)
    (case cF => k_is)
    (case kF => k_is)
    (case aS2 => k_is)
    (case lS2 => k_is)
    (case cS2 => k_is)
    (case kS2 => k_is)
    (case aX => k_is)
    (case lX => k_is)
    (case cX => k_is)
    (case kX => k_is)
    (case aD2 => k_is)
    (case lD2 => k_is)
    (case cD2 => k_is)
    (case kD2 => k_is)
    (case aB => k_is)
    (case lB => k_is)
    (case cB => k_is)
    (case kB => k_is)
    (case aKP => k_is)
    (case lKP => k_is)
    (case cKP => k_is)
    (case kKP => k_is)
    (case aBO => k_is)
    (case lBO => k_is)
    (case cBO => k_is)
    (case kBO => k_is)
    (case aO => k_is)
    (case lO => k_is)
    (case cO => k_is)
    (case kO => k_is)
    (case aCU => k_is)
    (case lCU => k_is)
    (case cCU => k_is)
    (case kCU => k_is)
    (case aI => k_is)
    (case lI => k_is)
    (case cI => k_is)
    (case kI => k_is)
    (case aUD => k_is)
    (case lUD => k_is)
    (case cUD => k_is)
    (case kUD => k_is)
    (case aBG => k_is)
    (case lBG => k_is)
    (case cBG => k_is)
    (case kBG => k_is)
    (case aFU => k_is)
    (case lFU => k_is)
    (case cFU => k_is)
    (case kFU => k_is)
    (case aUN => k_is)
    (case lUN => k_is)
    (case cUN => k_is)
    (case kUN => k_is)
    (case aTA => k_is)
    (case lTA => k_is)
    (case cTA => k_is)
    (case kTA => k_is)
    (case aTW => k_is)
    (case lTW => k_is)
    (case cTW => k_is)
    (case kTW => k_is)
    (case aT => k_is)
    (case lT => k_is)
    (case cT => k_is)
    (case kT => k_is)
    (case aS => k_is)
    (case lS => k_is)
    (case cS => k_is)
    (case kS => k_is)
    (case aG => k_is)
    (case lG => k_is)
    (case cG => k_is)
    (case kG => k_is)
    (case aRU => k_is)
    (case lRU => k_is)
    (case cRU => k_is)
    (case kRU => k_is)
    (case aTB => k_is)
    (case lTB => k_is)
    (case cTB => k_is)
    (case kTB => k_is)
    (case aAG => k_is)
    (case lAG => k_is)
    (case cAG => k_is)
    (case kAG => k_is)
    (case aMX => k_is)
    (case lMX => k_is)
    (case cMX => k_is)
    (case kMX => k_is)
    (case aCH => k_is)
    (case lCH => k_is)
    (case cCH => k_is)
    (case kCH => k_is)
    (case aFW => k_is)
    (case lFW => k_is)
    (case cFW => k_is)
    (case kFW => k_is)
    (case aWI => k_is)
    (case lWI => k_is)
    (case cWI => k_is)
    (case kWI => k_is)
    (case aSP => k_is)
    (case lSP => k_is)
    (case cSP => k_is)
    (case kSP => k_is)
    (case aWS => k_is)
    (case lWS => k_is)
    (case cWS => k_is)
    (case kWS => k_is)
    (case aPR => k_is)
    (case lPR => k_is)
    (case cPR => k_is)
    (case kPR => k_is)
    (case aQ => k_is)
    (case lQ => k_is)
    (case cQ => k_is)
    (case kQ => k_is)
    (case ylen => k_is)
    (case yrange => k_is)
    (case yenumerate => k_is)
    (case yall => k_is)
    (case ytuple => k_is)
    (case ydict => k_is)
    (case ysorted => k_is)
    (case yset => k_is)
    (case ylist => k_is)
    (case yint => k_is)


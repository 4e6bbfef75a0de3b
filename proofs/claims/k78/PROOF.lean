import PyProof.Rows.All
import Wide.All
import OpenK.AllK
import Wide.FinOn
import Lean
import PyProof.EqAt
import PyProof.EqKinds
import PyProof.TupleCall
import KE.KSortTup
import PySem.SetTable
import PyProof.SetScanFacts
import PyProof.Rows.SetFrom
import PyProof.TupleKey
import KE.KDictList
import PySem.Challenge.RW_splithouse_k78_whole_columns_exchanged
-- CHANGE: your row's module here, as the last of these rows
set_option Elab.async false
set_option linter.all false
set_option maxRecDepth 100000
/-! THE HAND LAYER, for ints, bools, texts, own classes, LISTS and tuples (index, slices, in, append, pop ..), calls, loops. Paste it whole ahead of your own text; what your proof does not reach may be deleted. -/
namespace L2
open PySem PySem.Spec PyProof.Rows

/-- a key: an int or a str -/
noncomputable abbrev Key := Sum Int Str
noncomputable def keyIs : Key → Value → Bool
  | .inl k, v => Value.isInt k v
  | .inr x, v => Value.isStrOf x v
noncomputable def keyH (w : World) : Key → Int
  | .inl k => hashInt k
  | .inr x => hashStr w x
theorem keyIs_shape : ∀ {k : Key} {v : Value}, keyIs k v = true → (∃ i t, k = Sum.inl i ∧ v = Value.int i t) ∨ (∃ x t, k = Sum.inr x ∧ v = Value.str x t)
  | .inl i, v, h => by
    obtain ⟨t, e⟩ := Value.isInt_shape (k := i) (v := v) h
    exact .inl ⟨i, t, rfl, e⟩
  | .inr x, v, h => by
    obtain ⟨t, e⟩ := Value.isStrOf_shape (x := x) (v := v) h
    exact .inr ⟨x, t, rfl, e⟩
theorem keyIs_int (i : Int) (t : Tok) : keyIs (.inl i) (.int i t) = true := by simp [keyIs, Value.isInt]
theorem keyIs_str (x : Str) (t : Tok) : keyIs (.inr x) (.str x t) = true := by simp [keyIs, Value.isStrOf]
theorem key_ll (a b : Int) : decide ((Sum.inl a : Key) = Sum.inl b) = (a == b) := by
  by_cases e : a = b
  · subst e; simp
  · have h : ¬ (Sum.inl a : Key) = Sum.inl b := fun q => e (Sum.inl.inj q)
    rw [decide_eq_false h]
    exact (beq_eq_false_iff_ne.mpr e).symm
theorem key_rr (a b : Str) : decide ((Sum.inr a : Key) = Sum.inr b) = decide (a = b) := by
  by_cases e : a = b
  · subst e; simp
  · have h : ¬ (Sum.inr a : Key) = Sum.inr b := fun q => e (Sum.inr.inj q)
    rw [decide_eq_false h, decide_eq_false e]
theorem key_lr (a : Int) (b : Str) : decide ((Sum.inl a : Key) = Sum.inr b) = false := decide_eq_false (fun q => nomatch q)
theorem key_rl (a : Str) (b : Int) : decide ((Sum.inr a : Key) = Sum.inl b) = false := decide_eq_false (fun q => nomatch q)

noncomputable def mixKind (prog : Program) (w : World) : PySem.KeyKind prog w Key where
  is := keyIs
  hash := keyH w
  inj := fun v a b ha hb => by
    rcases keyIs_shape ha with ⟨i, t, rfl, rfl⟩ | ⟨x, t, rfl, rfl⟩
    · rcases keyIs_shape hb with ⟨j, u, rfl, e⟩ | ⟨y, u, rfl, e⟩
      · injection e with e1 _; rw [e1]
      · exact nomatch e
    · rcases keyIs_shape hb with ⟨j, u, rfl, e⟩ | ⟨y, u, rfl, e⟩
      · exact nomatch e
      · injection e with e1 _; rw [e1]
  byValue := fun k v h => by
    rcases keyIs_shape h with ⟨i, t, rfl, rfl⟩ | ⟨x, t, rfl, rfl⟩ <;> rfl
  pyHash := fun hv h => by
    rcases keyIs_shape hv with ⟨i, t, rfl, rfl⟩ | ⟨x, t, rfl, rfl⟩
    · exact wpAny_pyHash_int h
    · exact wpAny_pyHash_str h
  eqBool := fun hu hv h => by
    rcases keyIs_shape hu with ⟨i, t, rfl, rfl⟩ | ⟨x, t, rfl, rfl⟩
    · rcases keyIs_shape hv with ⟨j, u, rfl, rfl⟩ | ⟨y, u, rfl, rfl⟩
      · rw [key_ll] at h; exact wpAny_eqBool_int h
      · rw [key_lr] at h; exact SeqAt.EqAt.int_str i t y u _ _ _ _ h
    · rcases keyIs_shape hv with ⟨j, u, rfl, rfl⟩ | ⟨y, u, rfl, rfl⟩
      · rw [key_rl] at h; exact SeqAt.EqAt.str_int x t j u _ _ _ _ h
      · rw [key_rr] at h; exact wpAny_eqBool_str h
  «strs» := fun k x t v h => by
    rcases keyIs_shape h with ⟨i, u, rfl, e⟩ | ⟨y, u, rfl, e⟩
    · exact nomatch e
    · injection e with e1 _
      subst e1
      cases v <;> rfl

theorem mixKind_int (prog : Program) (w : World) (i : Int) (t : Tok) : (mixKind prog w).is (.inl i) (.int i t) = true := keyIs_int i t
theorem mixKind_str (prog : Program) (w : World) (x : Str) (t : Tok) : (mixKind prog w).is (.inr x) (.str x t) = true := keyIs_str x t
end L2

namespace L2
open PySem PySem.Spec PyProof.Rows

/-- a value, without the heap -/
inductive V where
  | non | bl (b : Bool) | int (i : Int) | str (x : Str) | byt (b : Array UInt8) | flt (b : UInt64) | ref (a : Addr) | ty (n : String)
  deriving DecidableEq

noncomputable def RelV : V → Value → Prop
  | .non, u => u = Value.none
  | .bl b, u => u = Value.bool b
  | .int i, u => ∃ t, u = Value.int i t
  | .str x, u => ∃ t, u = Value.str x t
  | .byt b, u => ∃ t, u = Value.bytes b t
  | .flt b, u => ∃ t, u = Value.float b t
  | .ref a, u => u = Value.ref a
  | .ty n, u => u = Value.type n

noncomputable abbrev Vals : List V → List Value → Prop := Paired RelV
theorem Vals.length {xs : List V} {us : List Value} (r : Vals xs us) : xs.length = us.length := Paired.length r
theorem Vals.get : ∀ {xs : List V} {us : List Value} {i : Nat} {x : V}, Vals xs us → xs[i]? = some x → ∃ u, us[i]? = some u ∧ RelV x u
  | _, _, _, _, .nil, e => by simp at e
  | _, _, 0, _, .cons r _, e => by simp at e; subst e; exact ⟨_, rfl, r⟩
  | _, _, i + 1, x, .cons _ t, e => by
    obtain ⟨u, h1, h2⟩ := Vals.get (i := i) (x := x) t (by simpa using e)
    exact ⟨u, by simpa using h1, h2⟩
theorem Vals.set {x : V} {u : Value} (r : RelV x u) : ∀ {xs : List V} {us : List Value} (i : Nat), Vals xs us → Vals (xs.set i x) (us.set i u)
  | _, _, _, .nil => .nil
  | _, _, 0, .cons _ t => .cons r t
  | _, _, i + 1, .cons q t => .cons q (Vals.set r i t)
theorem Vals.append : ∀ {xs ys : List V} {us ws : List Value}, Vals xs us → Vals ys ws → Vals (xs ++ ys) (us ++ ws)
  | _, _, _, _, .nil, s => s
  | _, _, _, _, .cons r t, s => .cons r (Vals.append t s)
theorem Vals.take : ∀ {xs : List V} {us : List Value} (n : Nat), Vals xs us → Vals (xs.take n) (us.take n)
  | _, _, 0, _ => .nil
  | _, _, _ + 1, .nil => .nil
  | _, _, n + 1, .cons r t => .cons r (Vals.take n t)
theorem Vals.drop : ∀ {xs : List V} {us : List Value} (n : Nat), Vals xs us → Vals (xs.drop n) (us.drop n)
  | _, _, 0, r => r
  | _, _, _ + 1, .nil => .nil
  | _, _, n + 1, .cons _ t => Vals.drop n t
noncomputable def RelO : Option V → Option Value → Prop
  | some v, some u => RelV v u
  | none, none => True
  | _, _ => False
noncomputable def KV {κ : Type} : List (κ × V) → List (κ × Value) → Prop := Paired fun (p : κ × V) (q : κ × Value) => p.1 = q.1 ∧ RelV p.2 q.2

/-- a key of a dict (00_mix): an int or a text -/
noncomputable def kV : Key → V
  | .inl i => .int i
  | .inr x => .str x

/-- what stands at a tracked address -/
inductive HO where
  /-- a list -/
  | lst (xs : List V)
  /-- a tuple (never changes) -/
  | tup (xs : List V)
  /-- a dict whose keys are ints and texts; one whose keys are tuples of ints and texts (the empty one is both) -/
  | dK (kvs : List (Key × V)) | dT (kvs : List (List Key × V))
  /-- a set of ints: its members, its size -/
  | set (S : Int → Bool) (n : Nat)
  /-- an instance of the class at C, its dict at dx, its attributes -/
  | ins (C dx : Addr) (fs : List (Str × V))
  /-- the dict of the instance at x -/
  | own (x : Addr)
  /-- the dict of an exception -/
  | xd (fs : List (Str × V))
  /-- a bound method, f of x -/
  | met (f x : Addr)
  /-- a range object lo, lo + 1, .. below hi -/
  | rng (lo hi : Int)
  /-- a thing that is known to the object (the script; a dict while a loop walks it): read, never written while it is so -/
  | frz (o : Obj) (u : HO)
  /-- a code object's table -/
  | tbl (ps : Array Value)
  /-- any other thing, by what is true of its one object (a def of one's own: SetO a S n := HO.ext fun h => ..) -/
  | ext (φ : Heap → Prop)

noncomputable abbrev Hp := Addr → Option HO
noncomputable def upd (H : Hp) (a : Addr) (o : HO) : Hp := fun b => if b = a then some o else H b
theorem upd_same {H : Hp} {a : Addr} {o : HO} : upd H a o a = some o := by unfold upd; rw [if_pos rfl]
theorem upd_ne {H : Hp} {a b : Addr} {o : HO} (h : b ≠ a) : upd H a o b = H b := by unfold upd; rw [if_neg h]
theorem upd_upd {H : Hp} {a : Addr} {o u : HO} : upd (upd H a o) a u = upd H a u := by
  funext b; unfold upd; split <;> rfl
/-- two objects of different content stand apart -/
theorem ne_of {H : Hp} {a b : Addr} {o u : HO} (h : H a = some o) (h' : H b = some u) (d : o ≠ u) : a ≠ b := by
  intro e; subst e; rw [h] at h'; exact d (Option.some.inj h')
theorem ne_of_none {H : Hp} {a b : Addr} {o : HO} (h : H a = some o) (h' : H b = none) : a ≠ b := by
  intro e; subst e; rw [h] at h'; cases h'

section
variable (P : Program) (w : World)
noncomputable def ObjOk (H : Hp) (h : Heap) (a : Addr) : HO → Prop
  | .lst xs => xs.length ≤ sizeLine ∧ ∃ (its : List Value) (n : Nat), Vals xs its ∧ h.get? a = some { cls := .type "list", data := .seq its.toArray n }
  | .tup xs => xs.length ≤ sizeLine ∧ ∃ its : List Value, Vals xs its ∧ IsTup h a its.toArray
  | .dK kvs => kvs.length ≤ sizeLine ∧ (a == sysModules) = false ∧ ∃ vs, KV kvs vs ∧ h.DictOf (mixKind P w) a vs
  | .dT kvs => kvs.length ≤ sizeLine ∧ (a == sysModules) = false ∧ ∃ xs : List (List Key × Addr × Value),
      Paired (fun (p : List Key × V) (q : List Key × Addr × Value) => p.1 = q.1 ∧ H q.2.1 = some (.tup (p.1.map kV)) ∧ RelV p.2 q.2.2) kvs xs ∧
      ∃ o es ep, h.get? a = some o ∧ o.ExactDict ∧ o.data = .dict es ep ∧ es.toList = xs.map (entryOfKey (tupleKind (mixKind P w))) ∧ (xs.map (·.1)).Nodup
  | .set S n => h.SetOf (intKind P w) a S n
  | .ins C dx fs => H dx = some (.own a) ∧ fs.length ≤ 1000 ∧ dx ≠ a ∧ h.get? a = some (PySem.W.instObj C dx) ∧
      ∃ mA, h.Ns1 dx mA ∧ (∀ f, RelO (fs.lookup f) (mA f)) ∧ PySem.Within mA (fs.map (·.1))
  | .own _ => ∃ o, h.get? a = some o
  | .xd fs => ∃ mA, h.Ns1 a mA ∧ ∀ f, RelO (fs.lookup f) (mA f)
  | .rng lo hi => ∃ t u v, h.get? a = some { cls := .type "range", data := .fields #[.int lo t, .int hi u, .int 1 v] }
  | .frz o u => h.get? a = some o ∧ ObjOk H h a u
  | .tbl ps => h.get? a = some { cls := .none, data := .fields ps }
  | .met f x => h.get? a = some (PySem.W.methodObj (.ref f) (.ref x))
  | .ext φ => φ h ∧ (∃ o, h.get? a = some o) ∧ ∀ h1 h2 : Heap, φ h1 → (∀ o, h1.get? a = some o → h2.get? a = some o) → φ h2
/-- the abstract heap is held -/
noncomputable def HOk (H : Hp) (h : Heap) : Prop := ∀ a o, H a = some o → ObjOk P w H h a o
end

section
variable {P : Program} {w : World} {H H' : Hp} {h h' : Heap} {a : Addr} {o : HO}
theorem ObjOk.lt (x : ObjOk P w H h a o) : a < h.objs.size := by
  cases o with
  | lst xs => obtain ⟨_, _, _, _, e⟩ := x; exact Heap.lt_size e
  | tup xs => obtain ⟨_, _, _, p⟩ := x; exact p.lt
  | dK kvs => obtain ⟨_, _, _, _, o, _, _, e, _⟩ := x; exact Heap.lt_size e
  | dT kvs => obtain ⟨_, _, _, _, o, _, _, e, _⟩ := x; exact Heap.lt_size e
  | set S n => obtain ⟨o, _, _, _, e, _⟩ := x; exact Heap.lt_size e
  | ins C dx fs => obtain ⟨_, _, _, e, _⟩ := x; exact Heap.lt_size e
  | own y => obtain ⟨_, e⟩ := x; exact Heap.lt_size e
  | xd fs => obtain ⟨_, ⟨_, _, _, e, _⟩, _⟩ := x; exact Heap.lt_size e
  | rng lo hi => obtain ⟨_, _, _, e⟩ := x; exact Heap.lt_size e
  | frz ob u => obtain ⟨e, _⟩ := x; exact Heap.lt_size e
  | tbl ps => exact Heap.lt_size (show h.get? a = some _ from x)
  | met f y => exact Heap.lt_size (show h.get? a = some _ from x)
  | ext φ => obtain ⟨_, ⟨_, e⟩, _⟩ := x; exact Heap.lt_size e
theorem Paired.mapP {α β : Type} {F G : α → β → Prop} : ∀ {l₁ : List α} {l₂ : List β}, Paired F l₁ l₂ → (∀ a b, F a b → G a b) → Paired G l₁ l₂
  | _, _, .nil, _ => .nil
  | _, _, .cons r t, f => .cons (f _ _ r) (Paired.mapP t f)
/-- what an object's description leans on: its own object, its own dict, the tuples -/
theorem ObjOk.stay (x : ObjOk P w H h a o) (k : ∀ b u, (b = a ∨ H b = some (.own a)) → h.get? b = some u → h'.get? b = some u)
    (ho : ∀ b, H b = some (.own a) → H' b = some (.own a)) (ht : ∀ b xs, H b = some (.tup xs) → H' b = some (.tup xs)) : ObjOk P w H' h' a o := by
  induction o with
  | lst xs => obtain ⟨z, its, n, r, e⟩ := x; exact ⟨z, its, n, r, k _ _ (.inl rfl) e⟩
  | tup xs => obtain ⟨z, its, r, ob, e, c⟩ := x; exact ⟨z, its, r, ob, k _ _ (.inl rfl) e, c⟩
  | dK kvs => obtain ⟨z, y, vs, r, ob, es, ep, e, c⟩ := x; exact ⟨z, y, vs, r, ob, es, ep, k _ _ (.inl rfl) e, c⟩
  | dT kvs =>
    obtain ⟨z, y, xs, r, ob, es, ep, e, c⟩ := x
    exact ⟨z, y, xs, Paired.mapP r fun p q z => ⟨z.1, ht _ _ z.2.1, z.2.2⟩, ob, es, ep, k _ _ (.inl rfl) e, c⟩
  | set S n => obtain ⟨ob, es, ep, t, e, c⟩ := x; exact ⟨ob, es, ep, t, k _ _ (.inl rfl) e, c⟩
  | ins C dx fs =>
    obtain ⟨d, z, ne, e, mA, ⟨od, es, ep, e2, c⟩, r⟩ := x
    exact ⟨ho _ d, z, ne, k _ _ (.inl rfl) e, mA, ⟨od, es, ep, k _ _ (.inr d) e2, c⟩, r⟩
  | own y => obtain ⟨ob, e⟩ := x; exact ⟨ob, k _ _ (.inl rfl) e⟩
  | xd fs => obtain ⟨mA, ⟨od, es, ep, e, c⟩, r⟩ := x; exact ⟨mA, ⟨od, es, ep, k _ _ (.inl rfl) e, c⟩, r⟩
  | rng lo hi => obtain ⟨t, u, v, e⟩ := x; exact ⟨t, u, v, k _ _ (.inl rfl) e⟩
  | frz ob u ih => obtain ⟨e, q⟩ := x; exact ⟨k _ _ (.inl rfl) e, ih q⟩
  | tbl ps =>
    have e : h.get? a = some { cls := .none, data := .fields ps } := x
    show h'.get? a = some { cls := .none, data := .fields ps }
    exact k a _ (.inl rfl) e
  | met f y =>
    have e : h.get? a = some (PySem.W.methodObj (.ref f) (.ref y)) := x
    show h'.get? a = some (PySem.W.methodObj (.ref f) (.ref y))
    exact k a _ (.inl rfl) e
  | ext φ => obtain ⟨p, ⟨o, e⟩, st⟩ := x; exact ⟨st _ _ p fun o q => k _ _ (.inl rfl) q, ⟨o, k _ _ (.inl rfl) e⟩, st⟩
theorem HOk.lt (x : HOk P w H h) (e : H a = some o) : a < h.objs.size := (x a o e).lt
theorem HOk.fresh (x : HOk P w H h) (e : h.objs.size ≤ a) : H a = none := by
  cases q : H a with
  | none => rfl
  | some u => exact absurd (Nat.lt_of_lt_of_le (x.lt q) e) (Nat.lt_irrefl _)
/-- every object of the heap is kept -/
theorem HOk.kept (x : HOk P w H h) (k : ∀ b u, h.get? b = some u → h'.get? b = some u) : HOk P w H h' := fun a o e =>
  (x a o e).stay (fun b u _ q => k b u q) (fun _ q => q) fun _ _ q => q
/-- a new object is laid and tracked -/
theorem HOk.laid (x : HOk P w H h) (k : ∀ b u, h.get? b = some u → h'.get? b = some u) (hp : h.objs.size ≤ a) (new : ObjOk P w (upd H a o) h' a o) : HOk P w (upd H a o) h' := fun b u e => by
  have hn := x.fresh hp
  by_cases hb : b = a
  · subst hb; rw [upd_same] at e; cases e; exact new
  · rw [upd_ne hb] at e
    exact (x b u e).stay (fun c v _ q => k c v q) (fun c q => by rw [upd_ne (ne_of_none q hn)]; exact q) fun c xs q => by rw [upd_ne (ne_of_none q hn)]; exact q
end

/-- what may be read as u: it is u, or a known u -/
noncomputable def Rd (H : Hp) (a : Addr) (u : HO) : Prop := H a = some u ∨ ∃ o, H a = some (.frz o u)
theorem Rd.ok {P : Program} {w : World} {H : Hp} {h : Heap} {a : Addr} {u : HO} (r : Rd H a u) (x : HOk P w H h) : ObjOk P w H h a u := by
  rcases r with r | ⟨o, r⟩
  · exact x a u r
  · obtain ⟨_, q⟩ := x a _ r
    exact q
/-- what may be written -/
noncomputable def Mut : Option HO → Prop
  | some (.lst _) => True
  | some (.dK _) => True
  | some (.dT _) => True
  | some (.set _ _) => True
  | some (.ins _ _ _) => True
  | some (.ext _) => True
  | _ => False
section
variable {P : Program} {w : World} {H : Hp} {h h' : Heap} {x e : Addr} {o' : HO}
/-- the object at e is changed: x itself, or the dict of the instance x -/
theorem HOk.write (ok : HOk P w H h) (mu : Mut (H x)) (he : e = x ∨ H e = some (.own x)) (k : ∀ b u, b ≠ e → h.get? b = some u → h'.get? b = some u) (heo : ∃ u, h'.get? e = some u)
    (new : ObjOk P w (upd H x o') h' x o') : HOk P w (upd H x o') h' := fun b u q => by
  have nown : ∀ c y, H c = some (.own y) → c ≠ x := fun c y r z => by subst z; rw [r] at mu; exact mu
  have ntup : ∀ c xs, H c = some (.tup xs) → c ≠ x := fun c xs r z => by subst z; rw [r] at mu; exact mu
  by_cases hb : b = x
  · subst hb; rw [upd_same] at q; cases q; exact new
  · rw [upd_ne hb] at q
    by_cases hbe : b = e
    · have q' : H b = some (.own x) := by
        rcases he with z | z
        · exact absurd (hbe.trans z) hb
        · rw [hbe]; exact z
      rw [q] at q'; cases q'
      obtain ⟨v, hv⟩ := heo
      exact ⟨v, by rw [hbe]; exact hv⟩
    · refine (ok b u q).stay (fun c v hc r => k c v ?_ r) (fun c r => by rw [upd_ne (nown c b r)]; exact r) fun c xs r => by rw [upd_ne (ntup c xs r)]; exact r
      rcases hc with rfl | hc
      · exact hbe
      · rintro rfl
        rcases he with z | z
        · exact nown c b hc z
        · rw [hc] at z; cases z; exact hb rfl
end

/-! ### kept unless tracked; of the frames at fs (the callers') the slots may change (an exception that passes writes there); of the records at ex (iterators) nothing is said -/
structure Un (fs ex : List Addr) (H H' : Hp) (h h' : Heap) : Prop where
  keep : ∀ b o, h.get? b = some o → H b = none → b ∉ fs → b ∉ ex → h'.get? b = some o
  slot : ∀ b o, h.get? b = some o → H b = none → b ∈ fs → b ∉ ex → ∃ sl, h'.get? b = some { o with slots := sl }
  free : ∀ b o, h.get? b = some o → H b = none → b ∉ ex → H' b = none
  there : ∀ b o, h.get? b = some o → b ∉ ex → ∃ o', h'.get? b = some o'
  tups : ∀ b xs, H b = some (.tup xs) → H' b = some (.tup xs)
  frzs : ∀ b o u, H b = some (.frz o u) → H' b = some (.frz o u)
  tbls : ∀ b ps, H b = some (.tbl ps) → ∃ more, H' b = some (.tbl (ps ++ more))
section
variable {fs fs' ex ex' : List Addr} {H H1 H2 : Hp} {h h1 h2 h' : Heap} {a x e : Addr} {o : HO}
theorem Un.any (u : Un fs ex H H1 h h1) {b : Addr} {ob : Obj} (q : h.get? b = some ob) (n : H b = none) (hx : b ∉ ex) : ∃ sl, h1.get? b = some { ob with slots := sl } := by
  by_cases hb : b ∈ fs
  · exact u.slot b ob q n hb hx
  · exact ⟨ob.slots, u.keep b ob q n hb hx⟩
theorem Un.kept (k : ∀ b u, h.get? b = some u → h'.get? b = some u) : Un fs ex H H h h' :=
  ⟨fun b ob q _ _ _ => k b ob q, fun b ob q _ _ _ => ⟨ob.slots, k b ob q⟩, fun _ _ _ n _ => n, fun b ob q _ => ⟨ob, k b ob q⟩, fun _ _ q => q, fun _ _ _ q => q, fun _ ps q => ⟨#[], by rw [q]; simp⟩⟩
theorem Un.refl : Un fs ex H H h h := Un.kept fun _ _ q => q
theorem Un.laid (k : ∀ b u, h.get? b = some u → h'.get? b = some u) (hp : h.objs.size ≤ a) (hn : H a = none) : Un fs ex H (upd H a o) h h' where
  keep := fun b u q _ _ _ => k b u q
  slot := fun b u q _ _ _ => ⟨u.slots, k b u q⟩
  free := fun b u q n _ => by rw [upd_ne (Nat.ne_of_lt (Nat.lt_of_lt_of_le (Heap.lt_size q) hp))]; exact n
  there := fun b u q _ => ⟨u, k b u q⟩
  tups := fun b xs q => by rw [upd_ne (ne_of_none q hn)]; exact q
  frzs := fun b u xs q => by rw [upd_ne (ne_of_none q hn)]; exact q
  tbls := fun b ps q => ⟨#[], by rw [upd_ne (ne_of_none q hn), q]; simp⟩
theorem Un.write (mu : Mut (H x)) (he : e = x ∨ H e = some (.own x)) (k : ∀ b u, b ≠ e → h.get? b = some u → h'.get? b = some u) (heo : ∃ u, h'.get? e = some u) : Un fs ex H (upd H x o) h h' := by
  have hx : ∀ b, H b = none → b ≠ x := fun b n z => by subst z; rw [n] at mu; exact mu
  have hb : ∀ b, H b = none → b ≠ e := fun b n z => by
    subst z
    rcases he with r | r
    · exact hx b n r
    · rw [n] at r; cases r
  have hm : ∀ b u, H b = some u → ¬ Mut (some u) → b ≠ x := fun b u q nm z => by subst z; rw [q] at mu; exact nm mu
  refine ⟨fun b u q n _ _ => k b u (hb b n) q, fun b u q n _ _ => ⟨u.slots, k b u (hb b n) q⟩, fun b u q n _ => by rw [upd_ne (hx b n)]; exact n, fun b u q _ => ?_,
    fun b xs q => by rw [upd_ne (hm b _ q fun z => z)]; exact q, fun b u xs q => by rw [upd_ne (hm b _ q fun z => z)]; exact q, fun b ps q => ⟨#[], by rw [upd_ne (hm b _ q fun z => z), q]; simp⟩⟩
  by_cases hbe : b = e
  · subst hbe; exact heo
  · exact ⟨u, k b u hbe q⟩
end

/-! ### the heap without what is tracked -/
noncomputable def trk (h : Heap) (H : Hp) : List Addr := (List.range h.objs.size).filter fun a => (H a).isSome
noncomputable def hidT (h : Heap) (H : Hp) : Heap := PySem.W.hideAll h (trk h H)
theorem hidT_size (h : Heap) (H : Hp) : (hidT h H).objs.size = h.objs.size := PySem.W.hideAll_size _ _
theorem hidT_get {h : Heap} {H : Hp} {b : Addr} {o : Obj} (e : h.get? b = some o) (n : H b = none) : (hidT h H).get? b = some o :=
  PySem.W.hideAll_get _ e fun hm => by
    have q : (H b).isSome = true := (List.mem_filter.mp hm).2
    rw [n] at q; simp at q
theorem of_hidT {h : Heap} {H : Hp} {b : Addr} {o : Obj} (e : (hidT h H).get? b = some o) : h.get? b = some o ∧ H b = none := by
  have e' : h.get? b = some o := PySem.W.of_hideAll (trk h H) e
  refine ⟨e', ?_⟩
  cases q : H b with
  | none => rfl
  | some x =>
    have hm : b ∈ trk h H := List.mem_filter.mpr ⟨List.mem_range.mpr (Heap.lt_size e'), by simp [q]⟩
    have z : (hidT h H).get? b = none := PySem.W.hideAll_none (trk h H) hm
    rw [z] at e; cases e

/-! ### OpenK's ledger, filled with every new object but one -/
end L2

namespace L2
open PySem PySem.Spec PyProof.Rows

/-- the module's facts, over the base: the heap at the law's entry without what is tracked there -/
structure Mod (K : PySem.W.Frag) (mg : Str → Option Value) (base : Heap) : Prop where
  kin : K.In base
  glob : base.Ns mainGlobals mg
  blt : ∃ mb, base.Ns builtinsNs mb ∧ ∀ x : Str, x ≠ "__name__" → mb x = bootBuiltins x
  nolimit : base.NoLimit

/-- the context: a def's body (or a comprehension's block) running. base: fixed through the whole law; s₀, H₀: the entry; outer: the frames whose slots others may change (a def's callers); stack: all frames that run;
   ex: iterators that were made ahead of the entry and are walked here (a comprehension's); fn: the names whose cells were made at the entry (a def: all; a comprehension's block: its own); calm: not within an except suite; pn: pins that every state bears; xe: what is wanted of an exception that leaves the code -/
structure Cx where
  prog : Program
  w : World
  K : PySem.W.Frag
  mg : Str → Option Value
  base : Heap
  A : Around
  N : List Str
  s₀ : Shared
  H₀ : Hp
  env : Env
  outer : List Env
  stack : List Env
  ex : List Addr
  fn : Str → Bool
  calm : Bool
  pn : List (Addr × Obj)
  xe : Value → Shared → Prop
/-- the callers' frames -/
noncomputable def frs (l : List Env) : List Addr := l.filterMap (·.frame)
noncomputable abbrev Cx.fs (X : Cx) : List Addr := frs X.outer

noncomputable def Vis (sc : Scope) (x : Str) : Prop := sc.names.lookup x = some .local ∨ sc.names.lookup x = some .cell ∨ sc.names.lookup x = some .free
noncomputable def Loc (sc : Scope) (x : Str) : Prop := sc.names.lookup x = some .local ∨ sc.names.lookup x = some .cell
noncomputable def Look (env : Env) (h : Heap) (m : Str → Option Value) (x : Str) (u : Value) : Prop :=
  (env.kindOf x = some .local ∧ m x = some u) ∨ ((env.kindOf x = some .cell ∨ env.kindOf x = some .free) ∧ ∃ c, env.cells.lookup x = some c ∧ h.IsCell c (some u))

structure Cx.Ok (X : Cx) : Prop where
  mod : Mod X.K X.mg X.base
  kind : X.env.scope.kind = .function
  glob : X.env.globals = mainGlobals
  blt : X.env.builtins = builtinsNs
  above : X.s₀.heap.objs.size ≤ X.env.locals
  inj : ∀ x y c, X.env.cells.lookup x = some c → X.env.cells.lookup y = some c → x = y
  has : ∀ x, (X.env.kindOf x = some .cell ∨ X.env.kindOf x = some .free) → ∃ c, X.env.cells.lookup x = some c
  cab : ∀ x c, X.fn x = true → X.env.cells.lookup x = some c → X.s₀.heap.objs.size ≤ c
  hd : X.calm = true → X.A.handled = none
  frames : X.A.frames = some X.stack
  stk : X.stack = X.outer ∨ (X.stack = X.env :: X.outer ∧ X.env.frame = some X.env.locals)
  exf : ∀ b ∈ X.ex, b ≠ X.env.locals ∧ ∀ x c, X.env.cells.lookup x = some c → c ≠ b
  bs : ∀ b o, X.base.get? b = some o → X.s₀.heap.get? b = some o ∧ X.H₀ b = none
  bsz : X.base.objs.size ≤ X.s₀.heap.objs.size
  noex : ∀ b o, X.base.get? b = some o → b ∉ X.ex
  exfs : ∀ b ∈ X.ex, b ∉ X.fs
  funs : X.s₀.heap.FunFrames X.base X.outer
  frf : ∀ b ∈ X.fs, X.H₀ b = none

structure Inv (X : Cx) (pins : List (Addr × Obj)) (σ : List (Option V)) (H : Hp) (s : Shared) : Prop where
  ok : X.Ok
  os : s.os = X.s₀.os
  bare : AllBare s.gens
  base : Un X.fs X.ex X.H₀ H X.s₀.heap s.heap
  loc : ∃ m, s.heap.Ns X.env.locals m ∧ ∀ (i : Nat) (x : Str) (v : V), X.N[i]? = some x → σ[i]? = some (some v) → Vis X.env.scope x → ∃ u, RelV v u ∧ Look X.env s.heap m x u
  cell : ∀ x c, X.env.cells.lookup x = some c → ∃ v, s.heap.IsCell c v
  free : H X.env.locals = none
  freeC : ∀ x c, X.env.cells.lookup x = some c → H c = none
  pin : ∀ p ∈ X.pn ++ pins, s.heap.get? p.1 = some p.2 ∧ H p.1 = none ∧ p.1 ≠ X.env.locals ∧ p.1 ∉ X.fs ∧ ∀ v, p.2.data ≠ .cell v
  hok : HOk X.prog X.w H s.heap
  len : σ.length = X.N.length

section
variable {X : Cx} {pins : List (Addr × Obj)} {σ : List (Option V)} {H H' : Hp} {s : Shared} {h' : Heap}

theorem Cx.Ok.nofr (ok : X.Ok) {b : Addr} {o : Obj} (e : X.base.get? b = some o) : b ∉ X.fs := fun hb => by
  have := (ok.funs.mem hb).1
  rw [e] at this; cases this
theorem Inv.bs (I : Inv X pins σ H s) : ∀ b o, X.base.get? b = some o → s.heap.get? b = some o ∧ H b = none := fun b o e =>
  ⟨I.base.keep b o (I.ok.bs b o e).1 (I.ok.bs b o e).2 (I.ok.nofr e) (I.ok.noex b o e), I.base.free b o (I.ok.bs b o e).1 (I.ok.bs b o e).2 (I.ok.noex b o e)⟩
theorem Inv.bk (I : Inv X pins σ H s) : ∀ b o, X.base.get? b = some o → s.heap.get? b = some o := fun b o e => (I.bs b o e).1
theorem Inv.mod (I : Inv X pins σ H s) : Mod X.K X.mg X.base := I.ok.mod
theorem Inv.kIn (I : Inv X pins σ H s) : X.K.In s.heap := I.ok.mod.kin.keeps I.bk
theorem Inv.lt (I : Inv X pins σ H s) : X.env.locals < s.heap.objs.size := let ⟨_, hn, _⟩ := I.loc; hn.lt
theorem Inv.sz (I : Inv X pins σ H s) : X.s₀.heap.objs.size ≤ s.heap.objs.size := Nat.le_trans I.ok.above (Nat.le_of_lt I.lt)
theorem Inv.nofs (I : Inv X pins σ H s) {a : Addr} (h : s.heap.objs.size ≤ a) : a ∉ X.fs := fun hb => by
  obtain ⟨_, o, ho, _⟩ := I.ok.funs.mem hb
  exact absurd (Nat.lt_of_lt_of_le (Heap.lt_size ho) (Nat.le_trans I.sz h)) (Nat.lt_irrefl _)
theorem Inv.cne (I : Inv X pins σ H s) : ∀ x c, X.env.cells.lookup x = some c → c ≠ X.env.locals := fun x c e z => by
  obtain ⟨v, o, ho, hd⟩ := I.cell x c e
  obtain ⟨m, ⟨o', es, ep, ho', hd', _⟩, _⟩ := I.loc
  rw [z, ho'] at ho; cases ho; rw [hd'] at hd; cases hd
theorem Inv.funs (I : Inv X pins σ H s) : s.heap.FunFrames X.base X.outer := by
  have all : ∀ (l : List Env), (∀ b ∈ frs l, b ∈ X.fs) → X.s₀.heap.FunFrames X.base l → s.heap.FunFrames X.base l := by
    intro l
    induction l with
    | nil => intro _ _; trivial
    | cons env r ih =>
      intro hs hl
      obtain ⟨hk, ⟨L, o, hf, hn, ho, hd⟩, hr⟩ := hl
      have hL : L ∈ X.fs := hs L (by unfold frs; rw [List.filterMap_cons, hf]; exact List.mem_cons_self)
      obtain ⟨sl, e⟩ := I.base.slot L o ho (I.ok.frf L hL) hL fun z => I.ok.exfs L z hL
      exact ⟨hk, ⟨L, _, hf, hn, e, hd⟩, ih (fun b hb => hs b (by unfold frs; rw [List.filterMap_cons, hf]; exact List.mem_cons_of_mem _ hb)) hr⟩
  exact all X.outer (fun _ hb => hb) I.ok.funs

/-- the frames that run, for a call -/
theorem Inv.stack (I : Inv X pins σ H s) : s.heap.FunFrames X.base X.stack := by
  rcases I.ok.stk with e | ⟨e, hf⟩
  · rw [e]; exact I.funs
  · rw [e]
    obtain ⟨m, hn, _⟩ := I.loc
    refine .cons (by rw [I.ok.kind]; decide) hf hn ?_ I.funs
    exact Heap.get?_none_of_le (Nat.le_trans I.ok.bsz I.ok.above)
theorem Inv.stkSub (I : Inv X pins σ H s) : ∀ b ∈ frs X.stack, b ∈ X.env.locals :: X.fs := fun b hb => by
  rcases I.ok.stk with e | ⟨e, hf⟩
  · rw [e] at hb; exact List.mem_cons_of_mem _ hb
  · rw [e] at hb
    unfold frs at hb
    rw [List.filterMap_cons, hf] at hb
    exact hb
theorem Inv.stkFree (I : Inv X pins σ H s) : ∀ b ∈ frs X.stack, H b = none := fun b hb => by
  rcases List.mem_cons.mp (I.stkSub b hb) with e | hb
  · rw [e]; exact I.free
  · obtain ⟨_, o, ho, _⟩ := I.ok.funs.mem hb
    exact I.base.free b o ho (I.ok.frf b hb) fun z => I.ok.exfs b z hb

/-- THE STEP: the untracked objects but the frame and the records at ch are kept (the callers' frames up to slots), the frame's map is kept, the new abstract heap is held -/
theorem Inv.step {g' : Array GenState} {t' : Nat} {d' : Drawn} {ch : List Addr} (I : Inv X pins σ H s)
    (hch : ∀ b ∈ ch, (b ∈ X.ex ∨ X.s₀.heap.objs.size ≤ b) ∧ b ≠ X.env.locals ∧ (∀ x c, X.env.cells.lookup x = some c → c ≠ b) ∧ ∀ p ∈ X.pn ++ pins, p.1 ≠ b)
    (keep : ∀ b o, b ≠ X.env.locals → b ∉ X.fs → b ∉ ch → s.heap.get? b = some o → H b = none → h'.get? b = some o)
    (slot : ∀ b o, b ≠ X.env.locals → b ∈ X.fs → b ∉ ch → s.heap.get? b = some o → H b = none → ∃ sl, h'.get? b = some { o with slots := sl }) (free : ∀ b o, b ∉ ch → s.heap.get? b = some o → H b = none → H' b = none)
    (there : ∀ b o, b ∉ ch → s.heap.get? b = some o → ∃ o', h'.get? b = some o')
    (tups : ∀ b xs, H b = some (.tup xs) → H' b = some (.tup xs)) (frzs : ∀ b o u, H b = some (.frz o u) → H' b = some (.frz o u)) (tbls : ∀ b ps, H b = some (.tbl ps) → ∃ more, H' b = some (.tbl (ps ++ more)))
    (ns : ∀ m, s.heap.Ns X.env.locals m → h'.Ns X.env.locals m) (hok : HOk X.prog X.w H' h') (hg : AllBare g') :
    Inv X pins σ H' { s with heap := h', gens := g', drawn := d', toks := t' } := by
  have neL : ∀ b o, X.s₀.heap.get? b = some o → b ≠ X.env.locals := fun b o e => Nat.ne_of_lt (Nat.lt_of_lt_of_le (Heap.lt_size e) I.ok.above)
  have neC : ∀ b o, X.s₀.heap.get? b = some o → b ∉ X.ex → b ∉ ch := fun b o e hx hb => by
    rcases (hch b hb).1 with z | z
    · exact hx z
    · exact absurd (Nat.lt_of_lt_of_le (Heap.lt_size e) z) (Nat.lt_irrefl _)
  have cellK : ∀ x c, X.env.cells.lookup x = some c → ∀ v, s.heap.IsCell c v → h'.IsCell c v := fun x c e v ⟨o, ho, hd⟩ => by
    have nch : c ∉ ch := fun z => (hch c z).2.2.1 x c e rfl
    by_cases hc : c ∈ X.fs
    · obtain ⟨sl, q⟩ := slot c o (I.cne x c e) hc nch ho (I.freeC x c e)
      exact ⟨_, q, hd⟩
    · exact ⟨o, keep c o (I.cne x c e) hc nch ho (I.freeC x c e), hd⟩
  refine ⟨I.ok, I.os, hg, ⟨fun b o e n hb hx => ?_, fun b o e n hb hx => ?_, fun b o e n hx => ?_, fun b o e hx => ?_, fun b xs e => tups b xs (I.base.tups b xs e), fun b o xs e => frzs b o xs (I.base.frzs b o xs e), fun b ps e => ?_⟩, ?_, fun x c e => ?_, ?_, fun x c e => ?_, fun p hp => ?_, hok, I.len⟩
  · exact keep b o (neL b o e) hb (neC b o e hx) (I.base.keep b o e n hb hx) (I.base.free b o e n hx)
  · obtain ⟨sl, e1⟩ := I.base.slot b o e n hb hx
    obtain ⟨sl', e2⟩ := slot b _ (neL b o e) hb (neC b o e hx) e1 (I.base.free b o e n hx)
    exact ⟨sl', e2⟩
  · obtain ⟨o', e1⟩ := I.base.there b o e hx
    exact free b o' (neC b o e hx) e1 (I.base.free b o e n hx)
  · obtain ⟨o', e1⟩ := I.base.there b o e hx
    exact there b o' (neC b o e hx) e1
  · obtain ⟨m1, e1⟩ := I.base.tbls b ps e
    obtain ⟨m2, e2⟩ := tbls b _ e1
    exact ⟨m1 ++ m2, by rw [e2, Array.append_assoc]⟩
  · obtain ⟨m, hn, hl⟩ := I.loc
    refine ⟨m, ns m hn, fun i x v e1 e2 e3 => ?_⟩
    obtain ⟨u, r, l⟩ := hl i x v e1 e2 e3
    refine ⟨u, r, ?_⟩
    rcases l with l | ⟨k, c, e, z⟩
    · exact .inl l
    · exact .inr ⟨k, c, e, cellK x c e _ z⟩
  · obtain ⟨v, z⟩ := I.cell x c e
    exact ⟨v, cellK x c e v z⟩
  · obtain ⟨m, ⟨o, _, _, ho, _⟩, _⟩ := I.loc
    exact free _ o (fun z => (hch _ z).2.1 rfl) ho I.free
  · obtain ⟨v, o, ho, hd⟩ := I.cell x c e
    exact free c o (fun z => (hch c z).2.2.1 x c e rfl) ho (I.freeC x c e)
  · obtain ⟨e, n, ne, nf, d⟩ := I.pin p hp
    have nch : p.1 ∉ ch := fun z => (hch p.1 z).2.2.2 p hp rfl
    exact ⟨keep p.1 p.2 ne nf nch e n, free p.1 p.2 nch e n, ne, nf, d⟩
/-- .. where the frame's own object is kept too -/
theorem Inv.un {t' : Nat} (I : Inv X pins σ H s) (u : Un X.fs [] H H' s.heap h') (hok : HOk X.prog X.w H' h') : Inv X pins σ H' { s with heap := h', toks := t' } := by
  obtain ⟨m, ⟨o, es, ep, ho, r⟩, _⟩ := id I.loc
  obtain ⟨sl, hL⟩ := u.any ho I.free (by simp)
  exact I.step (g' := s.gens) (d' := s.drawn) (ch := []) (fun _ z => nomatch z) (fun b o _ hb _ e n => u.keep b o e n hb (by simp)) (fun b o _ hb _ e n => u.slot b o e n hb (by simp)) (fun b o _ e n => u.free b o e n (by simp)) (fun b o _ e => u.there b o e (by simp)) u.tups u.frzs u.tbls (fun m' hm => by
    obtain ⟨o', es', ep', ho', r'⟩ := hm
    rw [ho] at ho'; cases ho'
    exact ⟨_, es', ep', hL, r'⟩) hok I.bare
/-- behind a call (or a comprehension's block): the slots of this frame may have changed too, the records at ch may have turned -/
theorem Inv.call {g' : Array GenState} {t' : Nat} {d' : Drawn} {ch : List Addr} (I : Inv X pins σ H s) (u : Un (frs X.stack) ch H H' s.heap h') (hok : HOk X.prog X.w H' h') (hg : AllBare g')
    (hch : ∀ b ∈ ch, (b ∈ X.ex ∨ X.s₀.heap.objs.size ≤ b) ∧ b ≠ X.env.locals ∧ (∀ x c, X.env.cells.lookup x = some c → c ≠ b) ∧ ∀ p ∈ X.pn ++ pins, p.1 ≠ b) :
    Inv X pins σ H' { s with heap := h', gens := g', drawn := d', toks := t' } := by
  obtain ⟨m, ⟨o, es, ep, ho, r⟩, _⟩ := id I.loc
  obtain ⟨sl, hL⟩ := u.any ho I.free fun z => (hch _ z).2.1 rfl
  exact I.step (ch := ch) hch (fun b o hL hb hc e n => u.keep b o e n (fun z => (List.mem_cons.mp (I.stkSub b z)).elim hL hb) hc) (fun b o _ _ hc e n => u.any e n hc) (fun b o hc e n => u.free b o e n hc) (fun b o hc e => u.there b o e hc) u.tups u.frzs u.tbls (fun m' hm => by
    obtain ⟨o', es', ep', ho', r'⟩ := hm
    rw [ho] at ho'; cases ho'
    exact ⟨_, es', ep', hL, r'⟩) hok hg
/-- an untracked record of ours (an iterator) has turned -/
theorem Inv.turned {t' : Nat} {it : Addr} (I : Inv X pins σ H s) (k : ∀ b o, b ≠ it → s.heap.get? b = some o → h'.get? b = some o) (hn : H it = none) (hL : it ≠ X.env.locals)
    (h1 : it ∈ X.ex ∨ X.s₀.heap.objs.size ≤ it) (h2 : ∀ x c, X.env.cells.lookup x = some c → c ≠ it) (h3 : ∀ p ∈ X.pn ++ pins, p.1 ≠ it) : Inv X pins σ H { s with heap := h', toks := t' } := by
  have nit : ∀ b u, H b = some u → b ≠ it := fun b u e z => by rw [z, hn] at e; cases e
  refine I.step (g' := s.gens) (d' := s.drawn) (ch := [it]) (fun b hb => ?_) (fun b o _ _ hc e _ => k b o (fun z => hc (by simp [z])) e) (fun b o _ _ hc e _ => ⟨o.slots, k b o (fun z => hc (by simp [z])) e⟩) (fun _ _ _ _ n => n)
    (fun b o hc e => ⟨o, k b o (fun z => hc (by simp [z])) e⟩) (fun _ _ e => e) (fun _ _ _ e => e) (fun b ps e => ⟨#[], by rw [e]; simp⟩) (fun m hm => ?_) (fun b u e => ?_) I.bare
  · have e : b = it := by simpa using hb
    subst e
    exact ⟨h1, hL, h2, h3⟩
  · obtain ⟨o, es, ep, ho, r⟩ := hm
    exact ⟨o, es, ep, k _ o (Ne.symm hL) ho, r⟩
  · refine (I.hok b u e).stay (fun c v hc q => k c v ?_ q) (fun _ q => q) fun _ _ q => q
    rcases hc with z | z
    · rw [z]; exact nit b u e
    · exact nit c _ z
theorem Inv.tok (I : Inv X pins σ H s) (t : Nat) : Inv X pins σ H { s with toks := t } := I.un (h' := s.heap) (t' := t) Un.refl I.hok
/-- all objects kept -/
theorem Inv.kept {t' : Nat} (I : Inv X pins σ H s) (k : ∀ b u, s.heap.get? b = some u → h'.get? b = some u) : Inv X pins σ H { s with heap := h', toks := t' } := I.un (Un.kept k) (I.hok.kept k)
/-- a new object laid and tracked -/
theorem Inv.laid {a : Addr} {o : HO} {t' : Nat} (I : Inv X pins σ H s) (k : ∀ b u, s.heap.get? b = some u → h'.get? b = some u) (hp : s.heap.objs.size ≤ a) (new : ObjOk X.prog X.w (upd H a o) h' a o) :
    Inv X pins σ (upd H a o) { s with heap := h', toks := t' } := I.un (Un.laid k hp (I.hok.fresh hp)) (I.hok.laid k hp new)
/-- an object written -/
theorem Inv.write {x e : Addr} {o : HO} {t' : Nat} (I : Inv X pins σ H s) (mu : Mut (H x)) (he : e = x ∨ H e = some (.own x)) (k : ∀ b u, b ≠ e → s.heap.get? b = some u → h'.get? b = some u) (heo : ∃ u, h'.get? e = some u)
    (new : ObjOk X.prog X.w (upd H x o) h' x o) : Inv X pins σ (upd H x o) { s with heap := h', toks := t' } := I.un (Un.write mu he k heo) (I.hok.write mu he k heo new)
/-- forgetting slots, pins -/
theorem Inv.weak {σ' : List (Option V)} (I : Inv X pins σ H s) (hl : σ'.length = σ.length) (w : ∀ (i : Nat) v, σ'[i]? = some (some v) → σ[i]? = some (some v)) : Inv X pins σ' H s :=
  ⟨I.ok, I.os, I.bare, I.base, let ⟨m, hn, hl'⟩ := I.loc; ⟨m, hn, fun i x v e1 e2 e3 => hl' i x v e1 (w i v e2) e3⟩, I.cell, I.free, I.freeC, I.pin, I.hok, hl.trans I.len⟩
theorem Inv.pins_of {pins' : List (Addr × Obj)} (I : Inv X pins σ H s) (h : ∀ p ∈ pins', s.heap.get? p.1 = some p.2 ∧ H p.1 = none ∧ p.1 ≠ X.env.locals ∧ p.1 ∉ X.fs ∧ ∀ v, p.2.data ≠ .cell v) : Inv X pins' σ H s :=
  ⟨I.ok, I.os, I.bare, I.base, I.loc, I.cell, I.free, I.freeC, fun p hp => (List.mem_append.mp hp).elim (fun z => I.pin p (List.mem_append_left _ z)) (h p), I.hok, I.len⟩

theorem nodup_ix {N : List Str} (hN : N.Nodup) {i j : Nat} {x : Str} (a : N[i]? = some x) (b : N[j]? = some x) : i = j := by
  obtain ⟨h1, e1⟩ := List.getElem?_eq_some_iff.mp a
  obtain ⟨h2, e2⟩ := List.getElem?_eq_some_iff.mp b
  exact (List.getElem_inj hN).mp (e1.trans e2.symm)

/-- a name is stored; what changed -/
theorem store_ok2 {M : Model} {A : Around} {E : Value → Shared → Prop} {i : Nat} {x : Str} {v : V} {u : Value} {Q : Unit → Shared → Prop} (I : Inv X pins σ H s) (hN : X.N.Nodup) (hi : X.N[i]? = some x) (hx : Loc X.env.scope x) (r : RelV v u)
    (h : ∀ s', Inv X pins (σ.set i (some v)) H s' → (∃ a, Heap.SameBut a s.heap s'.heap ∧ (a = X.env.locals ∨ X.env.cells.lookup x = some a)) → Q () s') (hf : X.fn x = true ∨ X.env.scope.names.lookup x = some .local := by first | exact .inl rfl | exact .inr rfl | assumption) : wpAny M A (storeName X.env x u) Q E s := by
  obtain ⟨m, hn, hl⟩ := id I.loc
  have hcls : (X.env.scope.kind == .class || (X.env.scope.kind == .module && X.env.locals != X.env.globals)) = false := by rw [I.ok.kind]; rfl
  have hiσ : i < σ.length := by rw [I.len]; exact (List.getElem?_eq_some_iff.mp hi).1
  have cne := I.cne
  have tracked : ∀ {a : Addr} {h' : Heap}, (∃ o, s.heap.get? a = some o ∧ H a = none) → Heap.SameBut a s.heap h' → HOk X.prog X.w H h' := fun {a h'} ha hs b ob e => by
    obtain ⟨_, _, hfree⟩ := ha
    refine (I.hok b ob e).stay (fun c w' hc q => (hs.2 c ?_).trans q) (fun _ q => q) fun _ _ q => q
    rintro rfl
    rcases hc with rfl | hc
    · rw [hfree] at e; cases e
    · rw [hfree] at hc; cases hc
  rcases hx with hk | hk
  · refine wpAny_storeName_local hk hn (fun h' hn' hs => ?_) hcls
    obtain ⟨oL, _, _, hoL, _⟩ := id hn
    refine h _ ⟨I.ok, I.os, I.bare, ⟨fun b o e n hb hx => ?_, fun b o e n hb hx => ?_, I.base.free, fun b o e hx => ?_, I.base.tups, I.base.frzs, I.base.tbls⟩, ⟨_, hn', fun j y v' e1 e2 e3 => ?_⟩, fun y c e => ?_, I.free, I.freeC, fun p hp => ?_, tracked ⟨oL, hoL, I.free⟩ hs, by simpa using I.len⟩ ⟨_, hs, .inl rfl⟩
    · exact (hs.2 b (Nat.ne_of_lt (Nat.lt_of_lt_of_le (Heap.lt_size e) I.ok.above))).trans (I.base.keep b o e n hb hx)
    · obtain ⟨sl, e1⟩ := I.base.slot b o e n hb hx
      exact ⟨sl, (hs.2 b (Nat.ne_of_lt (Nat.lt_of_lt_of_le (Heap.lt_size e) I.ok.above))).trans e1⟩
    · obtain ⟨o', e1⟩ := I.base.there b o e hx
      exact ⟨o', (hs.2 b (Nat.ne_of_lt (Nat.lt_of_lt_of_le (Heap.lt_size e) I.ok.above))).trans e1⟩
    · by_cases hj : j = i
      · subst hj
        rw [hi] at e1; cases e1
        rw [List.getElem?_set_self hiσ] at e2
        cases e2
        exact ⟨u, r, .inl ⟨hk, by simp⟩⟩
      · rw [List.getElem?_set_ne (Ne.symm hj)] at e2
        obtain ⟨u', r', q⟩ := hl j y v' e1 e2 e3
        refine ⟨u', r', ?_⟩
        rcases q with ⟨k, e⟩ | ⟨k, c, e, z⟩
        · refine .inl ⟨k, ?_⟩
          have : y ≠ x := fun e => hj (nodup_ix hN e1 (e ▸ hi))
          simp [this, e]
        · exact .inr ⟨k, c, e, z.sameBut hs (cne y c e)⟩
    · obtain ⟨w', z⟩ := I.cell y c e
      exact ⟨w', z.sameBut hs (cne y c e)⟩
    · obtain ⟨e, n, ne, nf, d⟩ := I.pin p hp
      exact ⟨(hs.2 p.1 ne).trans e, n, ne, nf, d⟩
  · have hfn : X.fn x = true := by
      rcases hf with z | z
      · exact z
      · rw [z] at hk; cases hk
    obtain ⟨c, hc⟩ := I.ok.has x (.inl hk)
    obtain ⟨w', z⟩ := I.cell x c hc
    refine wpAny_storeName_cell I.ok.kind hk hc z (fun h' hc' hs => ?_)
    obtain ⟨oc, hoc, hocd⟩ := id z
    refine h { s with heap := h' } ⟨I.ok, I.os, I.bare, ⟨fun b o e n hb hx => ?_, fun b o e n hb hx => ?_, I.base.free, fun b o e hx => ?_, I.base.tups, I.base.frzs, I.base.tbls⟩, ⟨m, hn.sameBut hs (Ne.symm (cne x c hc)), fun j y v' e1 e2 e3 => ?_⟩, fun y c' e => ?_, I.free, I.freeC, fun p hp => ?_, tracked ⟨oc, hoc, I.freeC x c hc⟩ hs, by simpa using I.len⟩ ⟨c, hs, .inr hc⟩
    · exact (hs.2 b (Nat.ne_of_lt (Nat.lt_of_lt_of_le (Heap.lt_size e) (I.ok.cab x c hfn hc)))).trans (I.base.keep b o e n hb hx)
    · obtain ⟨sl, e1⟩ := I.base.slot b o e n hb hx
      exact ⟨sl, (hs.2 b (Nat.ne_of_lt (Nat.lt_of_lt_of_le (Heap.lt_size e) (I.ok.cab x c hfn hc)))).trans e1⟩
    · obtain ⟨o', e1⟩ := I.base.there b o e hx
      exact ⟨o', (hs.2 b (Nat.ne_of_lt (Nat.lt_of_lt_of_le (Heap.lt_size e) (I.ok.cab x c hfn hc)))).trans e1⟩
    · by_cases hj : j = i
      · subst hj
        rw [hi] at e1; cases e1
        rw [List.getElem?_set_self hiσ] at e2
        cases e2
        exact ⟨u, r, .inr ⟨.inl hk, c, hc, hc'⟩⟩
      · rw [List.getElem?_set_ne (Ne.symm hj)] at e2
        obtain ⟨u', r', q⟩ := hl j y v' e1 e2 e3
        refine ⟨u', r', ?_⟩
        rcases q with q | ⟨k, c', e, z'⟩
        · exact .inl q
        · refine .inr ⟨k, c', e, z'.sameBut hs ?_⟩
          rintro rfl
          exact hj (nodup_ix hN e1 (I.ok.inj _ _ _ e hc ▸ hi))
    · by_cases hcc : c' = c
      · subst hcc; exact ⟨_, hc'⟩
      · obtain ⟨w2, z2⟩ := I.cell y c' e
        exact ⟨w2, z2.sameBut hs hcc⟩
    · obtain ⟨e, n, ne, nf, d⟩ := I.pin p hp
      refine ⟨(hs.2 p.1 ?_).trans e, n, ne, nf, d⟩
      intro q
      rw [q, hoc] at e
      have q' : oc = p.2 := Option.some.inj e
      exact d w' (by rw [← q']; exact hocd)
theorem store_ok {M : Model} {A : Around} {E : Value → Shared → Prop} {i : Nat} {x : Str} {v : V} {u : Value} {Q : Unit → Shared → Prop} (I : Inv X pins σ H s) (hN : X.N.Nodup) (hi : X.N[i]? = some x) (hx : Loc X.env.scope x) (r : RelV v u)
    (h : ∀ s', Inv X pins (σ.set i (some v)) H s' → Q () s') (hf : X.fn x = true ∨ X.env.scope.names.lookup x = some .local := by first | exact .inl rfl | exact .inr rfl | assumption) : wpAny M A (storeName X.env x u) Q E s :=
  store_ok2 I hN hi hx r (fun s' I' _ => h s' I') hf
/-- behind a call or a block, the state as it is -/
theorem Inv.call' {s' : Shared} {ch : List Addr} (I : Inv X pins σ H s) (ho : s'.os = s.os) (u : Un (frs X.stack) ch H H' s.heap s'.heap) (hok : HOk X.prog X.w H' s'.heap) (hg : AllBare s'.gens)
    (hch : ∀ b ∈ ch, (b ∈ X.ex ∨ X.s₀.heap.objs.size ≤ b) ∧ b ≠ X.env.locals ∧ (∀ x c, X.env.cells.lookup x = some c → c ≠ b) ∧ ∀ p ∈ X.pn ++ pins, p.1 ≠ b) : Inv X pins σ H' s' := by
  obtain ⟨h', g', d', t', o'⟩ := s'
  have e : o' = s.os := ho
  subst e
  exact I.call (g' := g') (t' := t') (d' := d') u hok hg hch
end

/-! ### the judgements -/
/-- an exception: its class, its own dict's address (where it has one), the abstract heap behind it -/
noncomputable abbrev XK := Value → Option Addr → Hp → Prop
noncomputable abbrev St := List (Option V)
noncomputable abbrev VK := V → Hp → Prop
/-- an expression's reading; a test's; an argument list's -/
noncomputable abbrev TE := St → Hp → VK → Prop
noncomputable abbrev TT := St → Hp → (Bool → Hp → Prop) → Prop
noncomputable abbrev TA := St → Hp → (List V → Hp → Prop) → Prop
/-- what is wanted behind a statement -/
structure Ends where
  nx : St → Hp → Prop
  rt : VK
  bk : St → Hp → Prop := fun _ _ => False
  ct : St → Hp → Prop := fun _ _ => False
noncomputable abbrev TS := Ends → St → Hp → Prop

noncomputable def EP (X : Cx) (pins : List (Addr × Obj)) (σ : St) (Q : VK) (u : Value) (s' : Shared) : Prop := ∃ v H', Inv X pins σ H' s' ∧ RelV v u ∧ Q v H'
noncomputable def TP (X : Cx) (pins : List (Addr × Obj)) (σ : St) (Q : Bool → Hp → Prop) (b : Bool) (s' : Shared) : Prop := ∃ H', Inv X pins σ H' s' ∧ Q b H'
noncomputable def AP (X : Cx) (pins : List (Addr × Obj)) (σ : St) (Q : List V → Hp → Prop) (us : List Value) (s' : Shared) : Prop := ∃ vs H', Inv X pins σ H' s' ∧ Vals vs us ∧ Q vs H'
noncomputable def SP (X : Cx) (pins : List (Addr × Obj)) (D : Ends) (f : Flow) (s' : Shared) : Prop :=
  match f with
  | .next => ∃ σ' H', Inv X pins σ' H' s' ∧ D.nx σ' H'
  | .brk => ∃ σ' H', Inv X pins σ' H' s' ∧ D.bk σ' H'
  | .cont => ∃ σ' H', Inv X pins σ' H' s' ∧ D.ct σ' H'
  | .ret u => ∃ v σ' H', Inv X pins σ' H' s' ∧ RelV v u ∧ D.rt v H'

noncomputable def PE (X : Cx) (e : Expr) (t : TE) : Prop :=
  ∀ (pins : List (Addr × Obj)) (s : Shared) (σ : St) (H : Hp) (Q : VK), Inv X pins σ H s → t σ H Q → wpAny (model X.prog X.w) X.A (eval e X.env) (EP X pins σ Q) X.xe s
noncomputable def PT (X : Cx) (e : Expr) (t : TT) : Prop :=
  ∀ (pins : List (Addr × Obj)) (s : Shared) (σ : St) (H : Hp) (Q : Bool → Hp → Prop), Inv X pins σ H s → t σ H Q → wpAny (model X.prog X.w) X.A (isTrue e X.env (eval e X.env)) (TP X pins σ Q) X.xe s
/-- a test whatever its 'whole' is (and, or) -/
noncomputable def PW (X : Cx) (e : Expr) (t : TT) : Prop :=
  ∀ (whole : Sem Value) (pins : List (Addr × Obj)) (s : Shared) (σ : St) (H : Hp) (Q : Bool → Hp → Prop), Inv X pins σ H s → t σ H Q → wpAny (model X.prog X.w) X.A (isTrue e X.env whole) (TP X pins σ Q) X.xe s
theorem PW.pt {X : Cx} {e : Expr} {t : TT} (h : PW X e t) : PT X e t := h _
/-- an argument list (no star), from the left -/
noncomputable def PA (X : Cx) (es : List Expr) (t : TA) : Prop :=
  ∀ (pos : Pos) (pins : List (Addr × Obj)) (s : Shared) (σ : St) (H : Hp) (Q : List V → Hp → Prop), Inv X pins σ H s → t σ H Q → wpAny (model X.prog X.w) X.A (spliced (backTo pos (starEach es X.env))) (AP X pins σ Q) X.xe s
noncomputable def PS (X : Cx) (st : Stmt) (t : TS) : Prop :=
  ∀ (pins : List (Addr × Obj)) (s : Shared) (σ : St) (H : Hp) (D : Ends), Inv X pins σ H s → t D σ H → wpAny (model X.prog X.w) X.A (exec st X.env) (SP X pins D) X.xe s
noncomputable def PSs (X : Cx) (st : List Stmt) (t : TS) : Prop :=
  ∀ (pins : List (Addr × Obj)) (s : Shared) (σ : St) (H : Hp) (D : Ends), Inv X pins σ H s → t D σ H → wpAny (model X.prog X.w) X.A (execs st X.env) (SP X pins D) X.xe s
/-- weaken the end -/
theorem thn {α : Type} {t : Sem α} {Q Q' : α → Shared → Prop} {M : Model} {A : Around} {E : Value → Shared → Prop} {s : Shared} (h : wpAny M A t Q E s) (hQ : ∀ a s, Q a s → Q' a s) : wpAny M A t Q' E s := wpAny_mono h hQ fun _ _ x => x
end L2

namespace L2
open PySem PySem.Spec PyProof.Rows
section
variable {X : Cx}

/-! ### names and constants -/
noncomputable def tVar (i : Nat) : TE := fun σ H Q => ∃ v, σ[i]? = some (some v) ∧ Q v H
noncomputable def tC (v : V) : TE := fun _ H Q => Q v H
theorem pe_var {i : Nat} {x : Str} {pos : Pos} (hN : X.N[i]? = some x) (hv : Vis X.env.scope x) (hd : (x == ("__debug__" : Str)) = false := by decide) (hcd : (x == ("__classdict__" : Str)) = false := by decide) : PE X (.Name x pos) (tVar i) := by
  intro pins s σ H Q I h
  obtain ⟨v, e, h⟩ := h
  obtain ⟨m, hn, hl⟩ := I.loc
  obtain ⟨u, r, l⟩ := hl i x v hN e hv
  have fin : EP X pins σ Q u s := ⟨v, H, I, r, h⟩
  rcases l with ⟨hk, hm⟩ | ⟨hk, c, hc, hcell⟩
  · exact wpAny_Name (wpAny_loadName_local I.ok.kind hk hn hm fin) hd
  · rcases hk with hk | hk
    · exact wpAny_Name (wpAny_loadName_cell I.ok.kind hk hc hcell fin) hd
    · exact wpAny_Name (wpAny_loadName_free I.ok.kind hk hc hcell fin hcd) hd
theorem pe_int {i j pos} : PE X (.Constant (.int i) j pos) (tC (.int i)) := fun _ _ _ H _ I h => wpAny_Constant_int ⟨.int i, H, I.tok _, ⟨_, rfl⟩, h⟩
theorem pe_bl {b j pos} : PE X (.Constant (.bool b) j pos) (tC (.bl b)) := fun _ _ _ H _ I h => Constant_bool ⟨.bl b, H, I, rfl, h⟩
theorem pe_non {j pos} : PE X (.Constant .none j pos) (tC .non) := fun _ _ _ H _ I h => Constant_none ⟨.non, H, I, rfl, h⟩
theorem pe_str {x j pos} : PE X (.Constant (.str x) j pos) (tC (.str x)) := fun _ _ _ H _ I h => Calls.Constant_str ⟨.str x, H, I.tok _, ⟨_, rfl⟩, h⟩

/-- a global name of the def -/
noncomputable def Gl (X : Cx) (x : Str) : Prop := X.env.kindOf x = some .globalImplicit
theorem ld_glob {E : Value → Shared → Prop} {pins : List (Addr × Obj)} {s : Shared} {σ : St} {H : Hp} {x : Str} {u : Value} {pos : Pos} {Q : Value → Shared → Prop} (I : Inv X pins σ H s) (hg : Gl X x) (hm : X.mg x = some u) (h : Q u s)
    (hd : (x == ("__debug__" : Str)) = false := by decide) : wpAny (model X.prog X.w) X.A (eval (.Name x pos) X.env) Q E s :=
  Calls.Name_function_global I.ok.kind hg (Calls.loadGlobal_global (by rw [I.ok.glob]; exact I.mod.glob.keeps I.bk) hm h) hd
theorem ld_blt {E : Value → Shared → Prop} {pins : List (Addr × Obj)} {s : Shared} {σ : St} {H : Hp} {x : Str} {u : Value} {pos : Pos} {Q : Value → Shared → Prop} (I : Inv X pins σ H s) (hg : Gl X x) (hm : X.mg x = none) (hv : bootBuiltins x = some u) (h : Q u s)
    (hn : x ≠ "__name__" := by decide) (hd : (x == ("__debug__" : Str)) = false := by decide) : wpAny (model X.prog X.w) X.A (eval (.Name x pos) X.env) Q E s := by
  obtain ⟨mb, h1, h2⟩ := I.mod.blt
  exact Calls.Name_function_global I.ok.kind hg (Calls.loadGlobal_builtin (by rw [I.ok.glob]; exact I.mod.glob.keeps I.bk) hm (by rw [I.ok.blt]; exact h1.keeps I.bk) ((h2 x hn).trans hv) h) hd
/-- a module's constant, a class, a function, as a value -/
theorem pe_glob {x : Str} {v : V} {u : Value} {pos : Pos} (hg : Gl X x) (hm : X.mg x = some u) (r : RelV v u) (hd : (x == ("__debug__" : Str)) = false := by decide) : PE X (.Name x pos) (tC v) :=
  fun _ _ _ H _ I h => ld_glob I hg hm ⟨v, H, I, r, h⟩ hd
/-! ### arithmetic -/
variable {a b : Expr} {ta tb : TE} {pos : Pos}
/-! ### comparisons -/
/-- a comparison as a value, as a test -/
noncomputable def tB (t : TE) : TT := fun σ H Q => t σ H fun x H1 => ∃ c, x = .bl c ∧ Q c H1
/-- an expression whose value is a bool, as a test -/
theorem pt_val {e : Expr} {t : TE} (h : PE X e t) (he : ∀ whole, isTrue e X.env whole = (do let v ← whole; standAt e.pos; holding [v] (truthy v)) := by intro _; rfl) : PT X e (tB t) := by
  intro pins s σ H Q I hw
  refine isTrue_plain (thn (h pins s σ H _ I hw) fun v s1 ⟨x, H1, I1, r1, q1⟩ => ?_) (he _)
  obtain ⟨d, rfl, q⟩ := q1
  cases r1
  exact wpAny_truthy_bool ⟨H1, I1, q⟩

/-! ### and, or, not -/
variable {tA tB' : TT} {rest : List Expr}
noncomputable def tAnd (t u : TT) : TT := fun σ H Q => t σ H fun c H1 => if c = true then u σ H1 Q else Q false H1
noncomputable def tOr (t u : TT) : TT := fun σ H Q => t σ H fun c H1 => if c = true then Q true H1 else u σ H1 Q
noncomputable def tNot (t : TT) : TT := fun σ H Q => t σ H fun c H1 => Q (!c) H1
theorem pw_and1 (ha : PT X a tA) : PW X (.BoolOp .And [a] pos) tA := by
  intro wh pins s σ H Q I h
  refine isTrue_and (thn (ha pins s σ H Q I h) fun c s1 e => ?_)
  cases c with
  | true => exact isTrue_and_nil e
  | false => exact e
theorem pw_or1 (ha : PT X a tA) : PW X (.BoolOp .Or [a] pos) tA := by
  intro wh pins s σ H Q I h
  refine isTrue_or (thn (ha pins s σ H Q I h) fun c s1 e => ?_)
  cases c with
  | false => exact isTrue_or_nil e
  | true => exact e
theorem pw_and (ha : PT X a tA) (hb : PW X (.BoolOp .And (b :: rest) pos) tB') : PW X (.BoolOp .And (a :: b :: rest) pos) (tAnd tA tB') := by
  intro wh pins s σ H Q I h
  refine isTrue_and (thn (ha pins s σ H _ I h) fun c s1 ⟨H1, I1, q1⟩ => ?_)
  cases c with
  | true => exact hb wh pins s1 σ H1 Q I1 q1
  | false => exact ⟨H1, I1, q1⟩
theorem pw_or (ha : PT X a tA) (hb : PW X (.BoolOp .Or (b :: rest) pos) tB') : PW X (.BoolOp .Or (a :: b :: rest) pos) (tOr tA tB') := by
  intro wh pins s σ H Q I h
  refine isTrue_or (thn (ha pins s σ H _ I h) fun c s1 ⟨H1, I1, q1⟩ => ?_)
  cases c with
  | true => exact ⟨H1, I1, q1⟩
  | false => exact hb wh pins s1 σ H1 Q I1 q1
theorem pt_not (ha : PT X a tA) : PT X (.UnaryOp .Not a pos) (tNot tA) := by
  intro pins s σ H Q I h
  exact isTrue_not (ha pins s σ H (fun c H1 => Q (!c) H1) I h)
/-- .. as values (bools) -/
noncomputable def tAndV (ta tb : TE) : TE := fun σ H Q => ta σ H fun x H1 => ∃ c, x = .bl c ∧ if c = true then tb σ H1 Q else Q (.bl false) H1
theorem pe_one {op} {t : TE} (h : PE X a t) : PE X (.BoolOp op [a] pos) t := fun pins s σ H Q I hw => BoolOp_one (h pins s σ H Q I hw)
theorem pe_and (ha : PE X a ta) (hb : PE X (.BoolOp .And (b :: rest) pos) tb) : PE X (.BoolOp .And (a :: b :: rest) pos) (tAndV ta tb) := by
  intro pins s σ H Q I h
  refine BoolOp_and (thn (ha pins s σ H _ I h) fun v s1 ⟨x, H1, I1, r1, q1⟩ => ?_)
  obtain ⟨c, rfl, q1⟩ := q1
  cases r1
  refine wpAny_truthy_bool ?_
  cases c with
  | true => exact hb pins s1 σ H1 Q I1 q1
  | false => exact ⟨.bl false, H1, I1, rfl, q1⟩
end
end L2

namespace L2
open PySem PySem.Spec PyProof.Rows

/-! ### a list, a tuple that is read: tracked, frozen, or an object of the module -/
noncomputable def SqL (K : PySem.W.Frag) (H : Hp) (a : Addr) (xs : List V) : Prop :=
  Rd H a (.lst xs) ∨
    ∃ (o : Obj) (its : Array Value) (n : Nat), K.lookup a = some o ∧ o.cls = .type "list" ∧ o.dict = none ∧ o.data = .seq its n ∧ its.size ≤ sizeLine ∧ Vals xs its.toList
noncomputable def SqT (K : PySem.W.Frag) (H : Hp) (a : Addr) (xs : List V) : Prop :=
  Rd H a (.tup xs) ∨
    ∃ (o : Obj) (its : Array Value) (n : Nat), K.lookup a = some o ∧ o.cls = .type "tuple" ∧ o.data = .seq its n ∧ its.size ≤ sizeLine ∧ Vals xs its.toList
noncomputable def absV : Value → Option V
  | .none => some .non
  | .bool b => some (.bl b)
  | .int i _ => some (.int i)
  | .str x _ => some (.str x)
  | .bytes b _ => some (.byt b)
  | .float b _ => some (.flt b)
  | .ref a => some (.ref a)
  | .type n => some (.ty n)
  | _ => none
theorem RelV.abs {x : V} {u : Value} (r : RelV x u) : absV u = some x := by
  cases x with
  | non => cases r; rfl
  | bl _ => cases r; rfl
  | int _ => obtain ⟨t, rfl⟩ := r; rfl
  | str _ => obtain ⟨t, rfl⟩ := r; rfl
  | byt _ => obtain ⟨t, rfl⟩ := r; rfl
  | flt _ => obtain ⟨t, rfl⟩ := r; rfl
  | ref _ => cases r; rfl
  | ty _ => cases r; rfl
theorem RelV.inj {x y : V} {u : Value} (r : RelV x u) (q : RelV y u) : x = y := Option.some.inj (r.abs.symm.trans q.abs)
theorem Vals.inj : ∀ {xs ys : List V} {us : List Value}, Vals xs us → Vals ys us → xs = ys
  | _, _, _, .nil, .nil => rfl
  | _, _, _, .cons r t, .cons r' t' => by rw [r.inj r', Vals.inj t t']
section
variable {X : Cx} {pins : List (Addr × Obj)} {σ : St} {H : Hp} {s : Shared} {a : Addr} {xs ys : List V}
theorem SqL.of {K : PySem.W.Frag} (h : H a = some (.lst xs)) : SqL K H a xs := .inl (.inl h)
theorem SqT.of {K : PySem.W.Frag} (h : H a = some (.tup xs)) : SqT K H a xs := .inl (.inl h)
theorem Inv.list (I : Inv X pins σ H s) (h : SqL X.K H a xs) : ∃ its : List Value, Vals xs its ∧ PlainL s.heap a its.toArray ∧ xs.length ≤ sizeLine := by
  rcases h with h | ⟨o, its, n, hk, hc, hd, hs, hz, r⟩
  · obtain ⟨z, its, n, r, e⟩ := h.ok I.hok
    exact ⟨its, r, ⟨_, n, e, rfl, rfl, rfl⟩, z⟩
  · refine ⟨its.toList, r, ⟨o, n, I.kIn a o hk, hc, hd, by simpa using hs⟩, ?_⟩
    have e := r.length
    simp only [Array.length_toList] at e
    omega
theorem Inv.tuple (I : Inv X pins σ H s) (h : SqT X.K H a xs) : ∃ its : List Value, Vals xs its ∧ IsTup s.heap a its.toArray ∧ xs.length ≤ sizeLine := by
  rcases h with h | ⟨o, its, n, hk, hc, hs, hz, r⟩
  · obtain ⟨z, its, r, p⟩ := h.ok I.hok
    exact ⟨its, r, p, z⟩
  · refine ⟨its.toList, r, ⟨o, I.kIn a o hk, hc, n, by simpa using hs⟩, ?_⟩
    have e := r.length
    simp only [Array.length_toList] at e
    omega
theorem Inv.list_inj (I : Inv X pins σ H s) (h : SqL X.K H a xs) (h' : SqL X.K H a ys) : xs = ys := by
  obtain ⟨its, r, ⟨o, n, e, _, _, d⟩, _⟩ := I.list h
  obtain ⟨its', r', ⟨o', n', e', _, _, d'⟩, _⟩ := I.list h'
  rw [e] at e'; cases e'
  rw [d] at d'
  injection d' with d1 _
  have : its = its' := by simpa using congrArg Array.toList d1
  subst this
  exact r.inj r'
end

/-! ### another wish about exceptions -/
noncomputable abbrev Cx.wish (X : Cx) (E : Value → Shared → Prop) : Cx := { X with xe := E }
/-- no exception leaves -/
noncomputable abbrev Cx.nox (X : Cx) : Cx := X.wish fun _ _ => False
theorem Cx.Ok.wish {X : Cx} (ok : X.Ok) (E : Value → Shared → Prop) : (X.wish E).Ok :=
  ⟨ok.mod, ok.kind, ok.glob, ok.blt, ok.above, ok.inj, ok.has, ok.cab, ok.hd, ok.frames, ok.stk, ok.exf, ok.bs, ok.bsz, ok.noex, ok.exfs, ok.funs, ok.frf⟩
theorem Cx.Ok.unwish {X : Cx} {E : Value → Shared → Prop} (ok : (X.wish E).Ok) : X.Ok :=
  ⟨ok.mod, ok.kind, ok.glob, ok.blt, ok.above, ok.inj, ok.has, ok.cab, ok.hd, ok.frames, ok.stk, ok.exf, ok.bs, ok.bsz, ok.noex, ok.exfs, ok.funs, ok.frf⟩
section
variable {X : Cx} {pins : List (Addr × Obj)} {σ : St} {H : Hp} {s : Shared} {E : Value → Shared → Prop}
theorem Inv.wish (I : Inv X pins σ H s) (E : Value → Shared → Prop) : Inv (X.wish E) pins σ H s := ⟨I.ok.wish E, I.os, I.bare, I.base, I.loc, I.cell, I.free, I.freeC, I.pin, I.hok, I.len⟩
theorem Inv.unwish (I : Inv (X.wish E) pins σ H s) : Inv X pins σ H s := ⟨I.ok.unwish, I.os, I.bare, I.base, I.loc, I.cell, I.free, I.freeC, I.pin, I.hok, I.len⟩
theorem SP.unwish {D : Ends} {f : Flow} {s' : Shared} (h : SP (X.wish E) pins D f s') : SP X pins D f s' := by
  cases f with
  | next => obtain ⟨σ', H', I, q⟩ := h; exact ⟨σ', H', I.unwish, q⟩
  | brk => obtain ⟨σ', H', I, q⟩ := h; exact ⟨σ', H', I.unwish, q⟩
  | cont => obtain ⟨σ', H', I, q⟩ := h; exact ⟨σ', H', I.unwish, q⟩
  | ret u => obtain ⟨v, σ', H', I, r, q⟩ := h; exact ⟨v, σ', H', I.unwish, r, q⟩
theorem PSs.nox {st : List Stmt} {t : TS} (h : PSs X.nox st t) : PSs X st t := fun pins s σ H D I hw =>
  wpAny_mono (h pins s σ H D (I.wish _) hw) (fun _ _ q => q.unwish) fun _ _ z => False.elim z
end

/-! ### blocks and small statements -/
section
variable {X : Cx} {st : Stmt} {rest : List Stmt} {t u : TS} {e : Expr} {te : TE} {pos : Pos}
noncomputable def tNext : TS := fun D σ H => D.nx σ H
noncomputable def tSeq (t u : TS) : TS := fun D σ H => t { D with nx := u D } σ H
theorem pss_nil : PSs X [] tNext := fun _ _ σ H _ I h => wpAny_execs_nil ⟨σ, H, I, h⟩
theorem pss_cons (h1 : PS X st t) (h2 : PSs X rest u) : PSs X (st :: rest) (tSeq t u) := by
  intro pins s σ H D I h
  refine wpAny_execs_cons (thn (h1 pins s σ H { D with nx := u D } I h) fun f s1 q => ?_)
  cases f with
  | next =>
    obtain ⟨σ', H', I', q⟩ := q
    exact h2 pins s1 σ' H' D I' q
  | ret v => exact q
  | brk => exact q
  | cont => exact q
theorem pss_one (h1 : PS X st t) : PSs X [st] t := by
  intro pins s σ H D I h
  refine wpAny_execs_cons (thn (h1 pins s σ H D I h) fun f s1 q => ?_)
  cases f with
  | next => exact wpAny_execs_nil q
  | ret v => exact q
  | brk => exact q
  | cont => exact q
/-- in a def's body nothing is shown -/
theorem Inv.quiet {pins : List (Addr × Obj)} {σ : St} {H : Hp} {s : Shared} (I : Inv X pins σ H s) : interactive X.env = false := by simp [interactive, I.ok.kind]
/-- an expression whose value is dropped -/
noncomputable def tDrop (te : TE) : TS := fun D σ H => te σ H fun _ H1 => D.nx σ H1
theorem ps_expr (he : PE X e te) (hs : swapsWith e none pos.line X.env = pure false := by rfl) : PS X (.Expr e pos) (tDrop te) := by
  intro pins s σ H D I h
  exact wpAny_Expr_any (thn (he pins s σ H _ I h) fun v s1 ⟨x, H1, I1, r1, q1⟩ => ⟨σ, H1, I1, q1⟩) I.quiet hs
noncomputable def tRet (te : TE) : TS := fun D σ H => te σ H D.rt
theorem ps_ret (he : PE X e te) : PS X (.Return (some e) pos) (tRet te) := by
  intro pins s σ H D I h
  exact wpAny_Return_some (thn (he pins s σ H _ I h) fun v s1 ⟨x, H1, I1, r1, q1⟩ => ⟨x, σ, H1, I1, r1, q1⟩)
noncomputable def tIfS (c : TT) (t u : TS) : TS := fun D σ H => c σ H fun b H1 => if b = true then t D σ H1 else u D σ H1
theorem ps_if {c : Expr} {a b : List Stmt} {tc : TT} (hc : PT X c tc) (ha : PSs X a t) (hb : PSs X b u) : PS X (.If c a b pos) (tIfS tc t u) := by
  intro pins s σ H D I h
  refine wpAny_If (thn (hc pins s σ H _ I h) fun d s1 ⟨H1, I1, q1⟩ => ?_)
  cases d with
  | true => exact ha pins s1 σ H1 D I1 q1
  | false => exact hb pins s1 σ H1 D I1 q1
/-- code that the proof never comes to -/
noncomputable def tNever : TS := fun _ _ _ => False
theorem ps_never : PS X st tNever := fun _ _ _ _ _ _ h => h.elim
end

/-! ### targets -/
noncomputable abbrev TG := V → St → Hp → (St → Hp → Prop) → Prop
noncomputable abbrev TGs := List V → St → Hp → (St → Hp → Prop) → Prop
noncomputable def PG (X : Cx) (target : Expr) (t : TG) : Prop :=
  ∀ (pins : List (Addr × Obj)) (s : Shared) (σ : St) (H : Hp) (v : V) (u : Value) (Q : St → Hp → Prop), Inv X pins σ H s → RelV v u → t v σ H Q →
    wpAny (model X.prog X.w) X.A (assign target X.env u) (fun _ s' => ∃ σ' H', Inv X pins σ' H' s' ∧ Q σ' H') X.xe s
/-- several targets, one after another -/
noncomputable def PGs (X : Cx) (ts : List Expr) (t : TGs) : Prop :=
  ∀ (pins : List (Addr × Obj)) (s : Shared) (σ : St) (H : Hp) (vs : List V) (us : List Value) (Q : St → Hp → Prop), Inv X pins σ H s → Vals vs us → t vs σ H Q →
    wpAny (model X.prog X.w) X.A (assignInOrder ((assignEach ts X.env).map (·.2)) us) (fun _ s' => ∃ σ' H', Inv X pins σ' H' s' ∧ Q σ' H') X.xe s
/-- o[i] = v, by values -/
noncomputable abbrev TSet := V → V → V → Hp → (Hp → Prop) → Prop
noncomputable def PSet (X : Cx) (t : TSet) : Prop :=
  ∀ (pins : List (Addr × Obj)) (s : Shared) (σ : St) (H : Hp) (o i v : V) (ov iv u : Value) (Q : Hp → Prop), Inv X pins σ H s → RelV o ov → RelV i iv → RelV v u → t o i v H Q →
    wpAny (model X.prog X.w) X.A (setItem ov iv u) (fun _ s' => ∃ H', Inv X pins σ H' s' ∧ Q H') X.xe s
section
variable {X : Cx} {pos : Pos}
noncomputable def gName (i : Nat) : TG := fun v σ H Q => Q (σ.set i (some v)) H
theorem pg_name {i : Nat} {x : Str} (hN : X.N.Nodup) (hi : X.N[i]? = some x) (hx : Loc X.env.scope x) (hf : X.fn x = true ∨ X.env.scope.names.lookup x = some .local := by first | exact .inl rfl | exact .inr rfl | assumption) : PG X (.Name x pos) (gName i) := by
  intro pins s σ H v u Q I r h
  exact wpAny_assign_Name (store_ok I hN hi hx r (fun s' I' => ⟨_, H, I', h⟩) hf)
noncomputable def gNil : TGs := fun vs σ H Q => vs = [] ∧ Q σ H
noncomputable def gCons (t : TG) (u : TGs) : TGs := fun vs σ H Q => ∃ v r, vs = v :: r ∧ t v σ H fun σ' H' => u r σ' H' Q
theorem pgs_nil : PGs X [] gNil := by
  intro pins s σ H vs us Q I r h
  obtain ⟨e, h⟩ := h
  subst e
  cases r
  exact assignInOrder_nil ⟨σ, H, I, h⟩
theorem pgs_cons {e : Expr} {es : List Expr} {t : TG} {u : TGs} (h1 : PG X e t) (h2 : PGs X es u)
    (hs : (assignEach (e :: es) X.env).map (·.2) = assign e X.env :: (assignEach es X.env).map (·.2) := by rfl) : PGs X (e :: es) (gCons t u) := by
  intro pins s σ H vs us Q I r h
  obtain ⟨v, vr, e1, h⟩ := h
  subst e1
  cases r with
  | cons r rr =>
    rw [hs]
    refine assignInOrder_cons (thn (h1 pins s σ H _ _ _ I r h) fun _ s1 ⟨σ1, H1, I1, q1⟩ => ?_)
    exact h2 pins s1 σ1 H1 _ _ Q I1 rr q1
/-- (a, b, ..) = a tuple of that length -/
noncomputable def gTup (K : PySem.W.Frag) (n : Nat) (t : TGs) : TG := fun v σ H Q => ∃ a xs, v = .ref a ∧ SqT K H a xs ∧ xs.length = n ∧ t xs σ H Q
theorem pg_tup {es : List Expr} {k : Nat} {t : TGs} {n : Nat} (hc : X.calm = true) (h : PGs X es t)
    (hn : (assignEach es X.env).length = n := by rfl) (hst : (assignEach es X.env).findIdx? (·.1) = none := by rfl) : PG X (.Tuple es k pos) (gTup X.K n t) := by
  intro pins s σ H v u Q I r hw
  obtain ⟨a, xs, e1, hq, hl, hw⟩ := hw
  subst e1
  cases r
  obtain ⟨its, rv, ht, hz⟩ := I.tuple hq
  refine assign_Tuple_tuple (I.ok.hd hc) ht (by simp [hn, ← hl, rv.length]) hst fun h' hx => ?_
  have I1 : Inv X pins σ H { s with heap := h' } := I.kept (t' := s.toks) fun b o e => hx b o (Nat.ne_of_lt (Heap.lt_size e)) e
  exact h pins _ σ H xs _ Q I1 (by simpa using rv) hw
/-- o[i] = .. -/
noncomputable def gSub (to ti : TE) (t : TSet) : TG := fun v σ H Q => to σ H fun o H1 => ti σ H1 fun i H2 => t o i v H2 fun H3 => Q σ H3
theorem pg_sub {o i : Expr} {to ti : TE} {t : TSet} (ho : PE X o to) (hi : PE X i ti) (hs : PSet X t)
    (ha : ∀ v, assign (.Subscript o i pos) X.env v = (do
      let ov ← holding [v] (eval o X.env)
      let iv ← holding [v, ov] (eval i X.env)
      standAt pos
      holding [v, ov, iv] (setItem ov iv v)
      release [v, ov, iv] []) := by intro _; rfl) : PG X (.Subscript o i pos) (gSub to ti t) := by
  intro pins s σ H v u Q I r h
  rw [ha]
  refine wpAny_bind (wpAny_holding (thn (ho pins s σ H _ I h) fun ov s1 ⟨x, H1, I1, r1, q1⟩ => ?_))
  refine wpAny_bind (wpAny_holding (thn (hi pins s1 σ H1 _ I1 q1) fun iv s2 ⟨y, H2, I2, r2, q2⟩ => ?_))
  refine wpAny_bind (wpAny_standAt (wpAny_bind (wpAny_holding (thn (hs pins s2 σ H2 x y v ov iv u _ I2 r1 r2 r q2) fun _ s3 ⟨H3, I3, q3⟩ => ?_))))
  exact wpAny_release ⟨σ, H3, I3, q3⟩
/-- target = value -/
noncomputable def tAsg (te : TE) (g : TG) : TS := fun D σ H => te σ H fun x H1 => g x σ H1 D.nx
theorem ps_asg {tg e : Expr} {te : TE} {g : TG} (he : PE X e te) (hg : PG X tg g) (hs : swapsWithSole [tg] e pos.line X.env = pure false := by rfl) (hw : swappedStores [tg] e X.env = pure none := by rfl)
    (h1 : (assignEach [tg] X.env).map (·.2) = [assign tg X.env] := by rfl) : PS X (.Assign [tg] e pos) (tAsg te g) := by
  intro pins s σ H D I h
  refine wpAny_Assign_stores (thn (he pins s σ H _ I h) fun v s1 ⟨x, H1, I1, r1, q1⟩ => ?_) hs hw
  rw [h1]
  exact thn (hg pins s1 σ H1 x v _ I1 r1 q1) fun _ s2 q => q
/-- name = value -/
theorem ps_set {i : Nat} {x : Str} {e : Expr} {te : TE} {pos' : Pos} (hN : X.N.Nodup) (hi : X.N[i]? = some x) (hx : Loc X.env.scope x) (he : PE X e te) (hs : swapsWith e (some (.Name x pos')) pos.line X.env = pure false := by rfl) (hf : X.fn x = true ∨ X.env.scope.names.lookup x = some .local := by first | exact .inl rfl | exact .inr rfl | assumption) :
    PS X (.Assign [.Name x pos'] e pos) (tAsg te (gName i)) := by
  intro pins s σ H D I h
  refine wpAny_Assign_Name (thn (he pins s σ H _ I h) fun v s1 ⟨y, H1, I1, r1, q1⟩ => ?_) hs
  exact store_ok I1 hN hi hx r1 (fun s2 I2 => ⟨_, H1, I2, q1⟩) hf
end

/-! ### while -/
section
variable {X : Cx} {pos : Pos}
/-- the invariant W with its measure -/
noncomputable def tWhile (c : TT) (tb : TS) : TS := fun D σ H => ∃ W : Nat → St → Hp → Prop, (∃ m, W m σ H) ∧ ∀ m σ H, W m σ H →
  c σ H fun b H1 => if b = true then ∃ N : St → Hp → Prop, (∀ σ' H', N σ' H' → ∃ m', m' < m ∧ W m' σ' H') ∧ tb { D with nx := N, ct := N, bk := D.nx } σ H1 else D.nx σ H1
theorem ps_while {c : Expr} {body : List Stmt} {tc : TT} {tb : TS} (hp : PassesOwn (model X.prog X.w) X.A X.env X.xe) (hc : PT X c tc) (hb : PSs X body tb) : PS X (.While c body [] pos) (tWhile tc tb) := by
  intro pins s σ H D I h
  obtain ⟨W, ⟨m0, w0⟩, turn⟩ := h
  refine wpAny_While (codeAny_whileLoop (fun n s' => ∃ σ' H', Inv X pins σ' H' s' ∧ W n σ' H') ?_ m0 ⟨σ, H, I, w0⟩)
  rintro n s1 ⟨σ1, H1, I1, w1⟩
  refine wpAny_passesOwn hp (thn (hc pins s1 σ1 H1 _ I1 (turn n σ1 H1 w1)) fun b s2 ⟨H2, I2, q2⟩ => ?_)
  cases b with
  | true =>
    obtain ⟨N, hN, q2⟩ := q2
    rw [if_pos rfl]
    refine wpAny_passesOwn hp (thn (hb pins s2 σ1 H2 _ I2 q2) fun f s3 q3 => ?_)
    cases f with
    | next =>
      obtain ⟨σ3, H3, I3, n3⟩ := q3
      obtain ⟨m', hm, w3⟩ := hN σ3 H3 n3
      exact ⟨m', hm, σ3, H3, I3, w3⟩
    | cont =>
      obtain ⟨σ3, H3, I3, n3⟩ := q3
      obtain ⟨m', hm, w3⟩ := hN σ3 H3 n3
      exact ⟨m', hm, σ3, H3, I3, w3⟩
    | brk => exact q3
    | ret v => exact q3
  | false =>
    rw [if_neg Bool.false_ne_true]
    exact wpAny_execs_nil ⟨σ1, H2, I2, q2⟩
end

/-! ### what a loop or a comprehension walks -/
/-- at turn i: it yields x (the heap may grow), or it stops -/
structure It where
  go : Nat → Hp → Prop
  yld : Nat → Hp → V → Hp → Prop
  stop : Nat → Hp → Prop
/-- the iterator's own objects may turn: they are not the frame's, not pinned, younger than the entry (or a comprehension's own) -/
noncomputable def FpOk (X : Cx) (pins : List (Addr × Obj)) (H : Hp) (b : Addr) : Prop :=
  H b = none ∧ b ≠ X.env.locals ∧ b ∉ X.fs ∧ (b ∈ X.ex ∨ X.s₀.heap.objs.size ≤ b) ∧ (∀ x c, X.env.cells.lookup x = some c → c ≠ b) ∧ ∀ p ∈ X.pn ++ pins, p.1 ≠ b
theorem Inv.fpOk {X : Cx} {pins : List (Addr × Obj)} {σ : St} {H H' : Hp} {s : Shared} {b : Addr} (I : Inv X pins σ H s) (hb : s.heap.objs.size ≤ b) (hn : H' b = none) : FpOk X pins H' b := by
  refine ⟨hn, Nat.ne_of_gt (Nat.lt_of_lt_of_le I.lt hb), I.nofs hb, .inr (Nat.le_trans I.sz hb), fun x c e z => ?_, fun p hp z => ?_⟩
  · obtain ⟨v, q⟩ := I.cell x c e
    exact absurd (Nat.lt_of_lt_of_le q.lt (by rw [z]; exact hb)) (Nat.lt_irrefl _)
  · exact absurd (Nat.lt_of_lt_of_le (Heap.lt_size (I.pin p hp).1) (by rw [z]; exact hb)) (Nat.lt_irrefl _)
structure Turn (P : Program) (w : World) (K : PySem.W.Frag) (tg : Expr) (J : It) (fp : List Addr) (it : Addr) (tn : Nat → Heap → Prop) : Prop where
  mem : it ∈ fp
  obj : ∀ i h, tn i h → ∀ b ∈ fp, ∃ o, h.get? b = some o ∧ ∀ v, o.data ≠ .cell v
  keep : ∀ i h h', tn i h → (∀ b ∈ fp, ∀ o, h.get? b = some o → h'.get? b = some o) → tn i h'
  item : ∀ (X : Cx), X.prog = P → X.w = w → X.K = K → X.calm = true → ∀ (i : Nat) (pins : List (Addr × Obj)) (s : Shared) (σ : St) (H : Hp) (E : Value → Shared → Prop), Inv X pins σ H s → (∀ b ∈ fp, FpOk X pins H b) → tn i s.heap → J.go i H →
    wpAny (model P w) X.A (pyNext (.ref it)) (fun r s1 => ∃ u, r = some u ∧
      wpAny (model P w) X.A (letOwnedTupleGo tg (.ref it) u) (fun _ s2 => ∃ x H', Inv X pins σ H' s2 ∧ RelV x u ∧ J.yld i H x H' ∧ tn (i + 1) s2.heap ∧ ∀ b ∈ fp, H' b = none) E s1) E s
  done : ∀ (X : Cx), X.prog = P → X.w = w → X.K = K → X.calm = true → ∀ (i : Nat) (pins : List (Addr × Obj)) (s : Shared) (σ : St) (H : Hp) (E : Value → Shared → Prop), Inv X pins σ H s → (∀ b ∈ fp, FpOk X pins H b) → tn i s.heap → J.stop i H →
    wpAny (model P w) X.A (pyNext (.ref it)) (fun r s1 => r = none ∧ Inv X pins σ H s1) E s
  self : ∀ (A : Around) (i : Nat) (s : Shared) (Q : Value → Shared → Prop) (E : Value → Shared → Prop), tn i s.heap → Q (.ref it) s → wpAny (model P w) A (pyIter (.ref it)) Q E s
noncomputable abbrev TI := St → Hp → (It → Hp → Prop) → Prop
/-- an iterator has come -/
noncomputable def PIE (X : Cx) (pins : List (Addr × Obj)) (σ : St) (tg : Expr) (R : It → Hp → Prop) (itv : Value) (s2 : Shared) : Prop :=
  ∃ (it : Addr) (fp : List Addr) (tn : Nat → Heap → Prop) (J : It) (H' : Hp), itv = .ref it ∧ Inv X pins σ H' s2 ∧ Turn X.prog X.w X.K tg J fp it tn ∧ tn 0 s2.heap ∧ (∀ b ∈ fp, FpOk X pins H' b) ∧ R J H'
noncomputable def PI (X : Cx) (tg iter : Expr) (wi : TI) : Prop :=
  ∀ (pins : List (Addr × Obj)) (s : Shared) (σ : St) (H : Hp) (R : It → Hp → Prop), Inv X pins σ H s → wi σ H R →
    wpAny (model X.prog X.w) X.A (eval iter X.env) (fun v s1 => wpAny (model X.prog X.w) X.A (pyIter v) (PIE X pins σ tg R) X.xe s1) X.xe s

/-- the step ahead of the store is nothing for an iterator that keeps no tuple -/
theorem go_of {M : Model} {A : Around} {E : Value → Shared → Prop} {s : Shared} {tg : Expr} {it : Addr} {u : Value} {o : Obj} {n : String} {vs : Array Value} {Q : Unit → Shared → Prop} (ho : s.heap.get? it = some o) (hc : o.cls = .type n) (hd : o.data = .fields vs)
    (hn : ["enumerate", "zip", "dict_itemiterator", "dict_reverseitemiterator", "odict_iterator", "itertools.zip_longest", "itertools.pairwise"].contains n = false) (hQ : Q () s) : wpAny M A (letOwnedTupleGo tg (.ref it) u) Q E s := by
  unfold letOwnedTupleGo
  cases tg <;> first
    | exact wpAny_pure hQ
    | (cases u <;> first
        | exact wpAny_pure hQ
        | (refine wpAny_bind (wpAny_load ho ?_)
           rw [hc, hd]
           show wpAny M A (if (["enumerate", "zip", "dict_itemiterator", "dict_reverseitemiterator", "odict_iterator", "itertools.zip_longest", "itertools.pairwise"].contains n && vs[0]? == some (rawInt _)) = true then _ else _) Q E s
           rw [if_neg (by intro h; rw [hn, Bool.false_and] at h; cases h)]
           exact wpAny_pure hQ))

/-- the list at a, as it stands at each turn (a loop may append to it) -/
noncomputable def Itl (K : PySem.W.Frag) (a : Addr) : It :=
  ⟨fun i H => ∃ xs x, SqL K H a xs ∧ xs[i]? = some x, fun i H x H' => H' = H ∧ ∀ xs, SqL K H a xs → xs[i]? = some x, fun i H => ∃ xs, SqL K H a xs ∧ xs.length ≤ i⟩
/-- lo, lo + 1, .. (n of them) -/
noncomputable def Itr (lo : Int) (n : Nat) : It := ⟨fun i _ => i < n, fun i H x H' => H' = H ∧ x = .int (lo + i), fun i _ => n ≤ i⟩
theorem turn_list {P : Program} {w : World} {K : PySem.W.Frag} {tg : Expr} (a it : Addr) : Turn P w K tg (Itl K a) [it] it (fun i h => h.IsListIter it a i) where
  mem := by simp
  obj := fun i h st b hb => by
    have e : b = it := by simpa using hb
    subst e
    obtain ⟨o, e, c, d⟩ := st
    exact ⟨o, e, fun v z => by rw [d] at z; cases z⟩
  keep := fun i h h' st k => st.at fun o e => k it (by simp) o e
  item := by
    intro X hP hw hK hc i pins s σ H E I hf st hg
    subst hP hw hK
    obtain ⟨xs, x, hq, hx⟩ := hg
    obtain ⟨its, rv, p, hz⟩ := I.list hq
    obtain ⟨u, hu, ru⟩ := rv.get hx
    obtain ⟨f0, f1, f2, f3, f4, f5⟩ := hf it (by simp)
    refine wpAny_pyNext_list_item st p.isList (x := u) (by simpa using hu) fun h' st' sb => ?_
    have I1 : Inv X pins σ H { s with heap := h' } := I.turned (t' := s.toks) (fun b o hb e => (sb.2 b hb).trans e) f0 f1 f3 f4 f5
    obtain ⟨o, e, c, d⟩ := id st'
    exact ⟨u, rfl, go_of (s := { s with heap := h' }) e c d (by decide) ⟨x, H, I1, ru, ⟨rfl, fun ys hy => by rw [I.list_inj hy hq]; exact hx⟩, st', fun b hb => (hf b hb).1⟩⟩
  done := by
    intro X hP hw hK hc i pins s σ H E I hf st hg
    subst hP hw hK
    obtain ⟨xs, hq, hx⟩ := hg
    obtain ⟨its, rv, p, hz⟩ := I.list hq
    obtain ⟨f0, f1, f2, f3, f4, f5⟩ := hf it (by simp)
    have hl := rv.length
    exact wpAny_pyNext_list_end (I.ok.hd hc) st p.isList (by simp; omega) fun h' eb => ⟨rfl, I.turned (t' := s.toks) (fun b o hb e => eb b o hb e) f0 f1 f3 f4 f5⟩
  self := fun _ _ _ _ _ st h => wpAny_pyIter_listiter st h
theorem turn_range {P : Program} {w : World} {K : PySem.W.Frag} {tg : Expr} (it : Addr) (lo : Int) (n : Nat) : Turn P w K tg (Itr lo n) [it] it (fun i h => IsRangeIter h it (lo + (i : Nat) * 1) ((n : Int) - (i : Nat)) 1) where
  mem := by simp
  obj := fun i h st b hb => by
    have e : b = it := by simpa using hb
    subst e
    exact ⟨_, st, fun v z => by
      have z' : Data.fields _ = Data.cell v := z
      cases z'⟩
  keep := fun i h h' st k => k it (by simp) _ st
  item := by
    intro X hP hw hK hc i pins s σ H E I hf st hg
    subst hP hw hK
    obtain ⟨f0, f1, f2, f3, f4, f5⟩ := hf it (by simp)
    have W := Walks.range (prog := X.prog) (w := X.w) (I.ok.hd hc) it lo 1 n
    refine W.item i s _ _ hg st fun v h' tk hv st' kk => ?_
    obtain ⟨t, rfl⟩ := hv
    have I1 : Inv X pins σ H { s with heap := h', toks := tk } := I.turned (fun b o hb e => kk b o (by simpa using hb) e) f0 f1 f3 f4 f5
    refine ⟨_, rfl, go_of (s := { s with heap := h', toks := tk }) (n := "range_iterator") st' rfl rfl (by decide) ⟨.int (lo + i), H, I1, ⟨t, ?_⟩, ⟨rfl, rfl⟩, st', fun b hb => (hf b hb).1⟩⟩
    rw [Int.mul_one]
  done := by
    intro X hP hw hK hc i pins s σ H E I hf st hg
    subst hP hw hK
    obtain ⟨f0, f1, f2, f3, f4, f5⟩ := hf it (by simp)
    exact wpAny_pyNext_range_end (I.ok.hd hc) st (by have : n ≤ i := hg; omega) fun h' eb => ⟨rfl, I.turned (t' := s.toks) (fun b o hb e => eb b o hb e) f0 f1 f3 f4 f5⟩
  self := fun _ _ _ _ _ st h => wpAny_pyIter_rangeiter st h
end L2

namespace L2
open PySem PySem.Spec PyProof.Rows
section
variable {X : Cx} {tg : Expr}
noncomputable def iList (K : PySem.W.Frag) (tl : TE) : TI := fun σ H R => tl σ H fun x H1 => ∃ a, x = .ref a ∧ (∃ xs, SqL K H1 a xs) ∧ R (Itl K a) H1
theorem pi_list {l : Expr} {tl : TE} (hl : PE X l tl) : PI X tg l (iList X.K tl) := by
  intro pins s σ H R I h
  refine thn (hl pins s σ H _ I h) fun v s1 ⟨x, H1, I1, r1, q1⟩ => ?_
  obtain ⟨a, e, ⟨xs, hq⟩, q⟩ := q1
  subst e
  cases r1
  obtain ⟨its, rv, p, hz⟩ := I1.list hq
  refine wpAny_pyIter_list p.isList ?_
  refine ⟨s1.heap.objs.size, [s1.heap.objs.size], _, _, H1, rfl, I1.kept (t' := s1.toks) fun b o e => Heap.get?_push_of_some _ e, turn_list a _, ⟨_, Heap.get?_push_size _ rfl, rfl, rfl⟩, fun b hb => ?_, q⟩
  have e : b = s1.heap.objs.size := by simpa using hb
  subst e
  exact I1.fpOk (Nat.le_refl _) (I1.hok.fresh (Nat.le_refl _))
/-- a range object just made, walked -/
theorem range_it {pins : List (Addr × Obj)} {σ : St} {H : Hp} {s : Shared} {R : It → Hp → Prop} {E : Value → Shared → Prop} {lo hi : Int} {t u v : Tok} {tk : Nat} (I : Inv X pins σ H s) (h1 : -(2 ^ 62) ≤ lo) (h2 : lo < 2 ^ 62) (h3 : -(2 ^ 62) ≤ hi) (h4 : hi < 2 ^ 62)
    (q : R (Itr lo (hi - lo).toNat) H) : wpAny (model X.prog X.w) X.A (pyIter (.ref s.heap.objs.size)) (PIE X pins σ tg R) E { s with heap := s.heap.push { cls := .type "range", data := .fields #[.int lo t, .int hi u, .int 1 v] }, toks := tk } := by
  refine wpAny_pyIter_range (IsRange.new ..) (small_one h1 h2 h3 h4) ?_
  have I1 : Inv X pins σ H { s with heap := s.heap.push { cls := .type "range", data := .fields #[.int lo t, .int hi u, .int 1 v] }, toks := tk } := I.kept fun b o e => Heap.get?_push_of_some _ e
  refine ⟨(s.heap.push { cls := .type "range", data := .fields #[.int lo t, .int hi u, .int 1 v] }).objs.size, [(s.heap.push { cls := .type "range", data := .fields #[.int lo t, .int hi u, .int 1 v] }).objs.size], _, _, H, rfl,
    I1.kept (t' := tk) fun b o e => Heap.get?_push_of_some _ e, turn_range _ lo (hi - lo).toNat, ?_, fun b hb => ?_, q⟩
  · have e1 : lo + ((0 : Nat) : Int) * 1 = lo := by simp
    have e2 : (((hi - lo).toNat : Nat) : Int) - ((0 : Nat) : Int) = Builtin.Range.rangeSize lo hi 1 := by rw [rangeSize_one]; split <;> omega
    show IsRangeIter _ _ (lo + ((0 : Nat) : Int) * 1) ((((hi - lo).toNat : Nat) : Int) - ((0 : Nat) : Int)) 1
    rw [e1, e2]
    exact Heap.get?_push_size _ rfl
  · have e : b = (s.heap.push { cls := .type "range", data := .fields #[.int lo t, .int hi u, .int 1 v] }).objs.size := by simpa using hb
    subst e
    exact I1.fpOk (Nat.le_refl _) (I1.hok.fresh (Nat.le_refl _))
noncomputable def iRng1 (ta : TA) : TI := fun σ H R => ta σ H fun vs H1 => ∃ j : Int, vs = [.int j] ∧ -(2 ^ 62) ≤ j ∧ j < 2 ^ 62 ∧ R (Itr 0 j.toNat) H1
theorem pi_range1 {a : Expr} {ta : TA} {p pos : Pos} (hg : Gl X "range") (hm : X.mg "range" = none) (ha : PA X [a] ta) (hs : starEach [a] X.env = [(false, eval a X.env)] := by rfl) : PI X tg (.Call (.Name "range" p) [a] [] pos) (iRng1 ta) := by
  intro pins s σ H R I h
  refine Call_ (ld_blt I hg hm boot_range (PyProof.Rows.callWith_type1 (thn (ha pos pins s σ H _ I h) fun us s1 ⟨vs, H1, I1, r1, q1⟩ => ?_) hs rfl))
  obtain ⟨j, e, q1, q2, q⟩ := q1
  subst e
  cases r1 with
  | cons r rr =>
    cases rr
    obtain ⟨t, rfl⟩ := r
    exact call_range_1 (range_it I1 (by omega) (by omega) q1 q2 (by simpa using q))
/-! ### for -/
/-- W: the invariant by the turn and a measure; N: what the body is to reach -/
noncomputable def tFor (wi : TI) (g : TG) (tb : TS) : TS := fun D σ H => wi σ H fun J H1 => ∃ W : Nat → Nat → St → Hp → Prop, (∃ m, W 0 m σ H1) ∧ ∀ i m σ H, W i m σ H →
  (J.stop i H ∧ D.nx σ H) ∨ (J.go i H ∧ ∃ N : St → Hp → Prop, (∀ σ' H', N σ' H' → ∃ m', m' < m ∧ W (i + 1) m' σ' H') ∧ ∀ x H', J.yld i H x H' → g x σ H' fun σ2 H2 => tb { D with nx := N, ct := N, bk := D.nx } σ2 H2)
/-- the records at fp as they stand -/
noncomputable def pinsAt (fp : List Addr) (h : Heap) : List (Addr × Obj) := fp.filterMap fun b => (h.get? b).map fun o => (b, o)
theorem mem_pinsAt {fp : List Addr} {h : Heap} {b : Addr} {o : Obj} (hb : b ∈ fp) (e : h.get? b = some o) : (b, o) ∈ pinsAt fp h := List.mem_filterMap.mpr ⟨b, hb, by rw [e]; rfl⟩
theorem of_pinsAt {fp : List Addr} {h : Heap} {p : Addr × Obj} (hp : p ∈ pinsAt fp h) : p.1 ∈ fp ∧ h.get? p.1 = some p.2 := by
  obtain ⟨b, hb, e⟩ := List.mem_filterMap.mp hp
  cases q : h.get? b with
  | none => rw [q] at e; cases e
  | some o =>
    rw [q] at e
    have e' : (b, o) = p := Option.some.inj e
    subst e'
    exact ⟨hb, q⟩
theorem Inv.pinned {pins : List (Addr × Obj)} {σ : St} {H : Hp} {s : Shared} {fp : List Addr} (I : Inv X pins σ H s) (hf : ∀ b ∈ fp, FpOk X pins H b) (ho : ∀ b ∈ fp, ∃ o, s.heap.get? b = some o ∧ ∀ v, o.data ≠ .cell v) : Inv X (pins ++ pinsAt fp s.heap) σ H s :=
  I.pins_of fun p hp => (List.mem_append.mp hp).elim (fun z => I.pin p (List.mem_append_right _ z)) fun z => by
    obtain ⟨hb, e⟩ := of_pinsAt z
    obtain ⟨f0, f1, f2, _⟩ := hf p.1 hb
    obtain ⟨o, e', d⟩ := ho p.1 hb
    rw [e] at e'; cases e'
    exact ⟨e, f0, f1, f2, d⟩
theorem Inv.unpinned {pins pl : List (Addr × Obj)} {σ : St} {H : Hp} {s : Shared} (I : Inv X (pins ++ pl) σ H s) : Inv X pins σ H s := I.pins_of fun p hp => I.pin p (List.mem_append_right _ (List.mem_append_left _ hp))
theorem ps_for {iter : Expr} {body : List Stmt} {wi : TI} {g : TG} {tb : TS} {pos : Pos} (hp : PassesOwn (model X.prog X.w) X.A X.env X.xe) (hc : X.calm = true) (hi : PI X tg iter wi) (hg : PG X tg g) (hb : PSs X body tb)
    (hs : ∀ x, foldedSetIterable iter X.env x = pure x := by intro _; rfl) : PS X (.For tg iter body [] pos) (tFor wi g tb) := by
  intro pins s σ H D I h
  refine wpAny_For (thn (hi pins s σ H _ I h) fun v s1 h1 => thn h1 fun itv s2 h2 => ?_) hs
  obtain ⟨it, fp, tn, J, H2, e, I2, T, st2, f2, W, ⟨m0, w0⟩, turn⟩ := h2
  subst e
  -- what stays true of the iterator's objects through the loop
  have stat : ∀ {H' : Hp}, (∀ b ∈ fp, H' b = none) → ∀ b ∈ fp, FpOk X pins H' b := fun hn b hb => ⟨hn b hb, (f2 b hb).2⟩
  refine codeAny_forLoop_any (fun n s' => ∃ i σ' H', Inv X pins σ' H' s' ∧ tn i s'.heap ∧ (∀ b ∈ fp, H' b = none) ∧ W i n σ' H') ?_ m0 ⟨0, σ, H2, I2, st2, fun b hb => (f2 b hb).1, w0⟩
  rintro n s3 ⟨i, σ3, H3, I3, st3, fr3, w3⟩
  rcases turn i n σ3 H3 w3 with ⟨stop, qn⟩ | ⟨go, N, hN, step⟩
  · refine wpAny_passesOwn hp (thn (T.done X rfl rfl rfl hc i pins s3 σ3 H3 X.xe I3 (stat fr3) st3 stop) fun r s4 ⟨hr, I4⟩ => ?_)
    subst hr
    exact wpAny_execs_nil ⟨σ3, H3, I4, qn⟩
  · refine wpAny_passesOwn hp (thn (T.item X rfl rfl rfl hc i pins s3 σ3 H3 X.xe I3 (stat fr3) st3 go) fun r s4 ⟨u, hr, h4⟩ => ?_)
    subst hr
    refine wpAny_passesOwn hp (thn h4 fun _ s5 ⟨x, H5, I5, r5, y5, st5, fr5⟩ => ?_)
    have I5' := I5.pinned (stat fr5) (T.obj _ _ st5)
    refine wpAny_passesOwn hp (thn (hg _ s5 σ3 H5 x u _ I5' r5 (step x H5 y5)) fun _ s6 ⟨σ6, H6, I6, q6⟩ => ?_)
    refine wpAny_passesOwn hp (thn (hb _ s6 σ6 H6 _ I6 q6) fun f s7 q7 => ?_)
    have again : ∀ {σ7 : St} {H7 : Hp}, Inv X (pins ++ pinsAt fp s5.heap) σ7 H7 s7 → N σ7 H7 → ∃ m, m < n ∧ ∃ i σ' H', Inv X pins σ' H' s7 ∧ tn i s7.heap ∧ (∀ b ∈ fp, H' b = none) ∧ W i m σ' H' := fun {σ7 H7} I7 n7 => by
      obtain ⟨m', hm, w7⟩ := hN σ7 H7 n7
      refine ⟨m', hm, i + 1, σ7, H7, I7.unpinned, T.keep _ _ _ st5 fun b hb o e => (I7.pin (b, o) (List.mem_append_right _ (List.mem_append_right _ (mem_pinsAt hb e)))).1, fun b hb => ?_, w7⟩
      obtain ⟨o, e, d⟩ := T.obj _ _ st5 b hb
      exact (I7.pin (b, o) (List.mem_append_right _ (List.mem_append_right _ (mem_pinsAt hb e)))).2.1
    cases f with
    | next => obtain ⟨σ7, H7, I7, n7⟩ := q7; exact again I7 n7
    | cont => obtain ⟨σ7, H7, I7, n7⟩ := q7; exact again I7 n7
    | brk => obtain ⟨σ7, H7, I7, q7⟩ := q7; exact ⟨σ7, H7, I7.unpinned, q7⟩
    | ret v => obtain ⟨x7, σ7, H7, I7, r7, q7⟩ := q7; exact ⟨x7, σ7, H7, I7.unpinned, r7, q7⟩
end

/-! ### the forms one uses -/
/-- over a list that the body leaves as it is -/
theorem for_list {K : PySem.W.Frag} {a : Addr} {xs : List V} {g : TG} {tb : TS} {D : Ends} {σ : St} {H : Hp} (Pv : Nat → St → Hp → Prop) (h0 : Pv 0 σ H) (hl : ∀ i σ H, i ≤ xs.length → Pv i σ H → SqL K H a xs)
    (hs : ∀ i x σ H, xs[i]? = some x → Pv i σ H → g x σ H fun σ2 H2 => tb { D with nx := Pv (i + 1), ct := Pv (i + 1), bk := D.nx } σ2 H2) (hd : ∀ σ H, Pv xs.length σ H → D.nx σ H) :
    ∃ W : Nat → Nat → St → Hp → Prop, (∃ m, W 0 m σ H) ∧ ∀ i m σ H, W i m σ H →
      ((Itl K a).stop i H ∧ D.nx σ H) ∨ ((Itl K a).go i H ∧ ∃ N : St → Hp → Prop, (∀ σ' H', N σ' H' → ∃ m', m' < m ∧ W (i + 1) m' σ' H') ∧ ∀ x H', (Itl K a).yld i H x H' → g x σ H' fun σ2 H2 => tb { D with nx := N, ct := N, bk := D.nx } σ2 H2) := by
  refine ⟨fun i m σ H => m = xs.length - i ∧ i ≤ xs.length ∧ Pv i σ H, ⟨xs.length, by simp, Nat.zero_le _, h0⟩, ?_⟩
  rintro i m σ H ⟨rfl, hi, p⟩
  have q := hl i σ H hi p
  by_cases hlt : i < xs.length
  · refine .inr ⟨⟨xs, xs[i], q, by simp [hlt]⟩, Pv (i + 1), fun σ' H' p' => ⟨xs.length - (i + 1), by omega, rfl, hlt, p'⟩, fun x H' y => ?_⟩
    obtain ⟨e, y⟩ := y
    subst e
    exact hs i x σ _ (y xs q) p
  · have e : i = xs.length := by omega
    subst e
    exact .inl ⟨⟨xs, q, Nat.le_refl _⟩, hd σ H p⟩
theorem for_range {lo : Int} {n : Nat} {g : TG} {tb : TS} {D : Ends} {σ : St} {H : Hp} (Pv : Nat → St → Hp → Prop) (h0 : Pv 0 σ H)
    (hs : ∀ i σ H, i < n → Pv i σ H → g (.int (lo + i)) σ H fun σ2 H2 => tb { D with nx := Pv (i + 1), ct := Pv (i + 1), bk := D.nx } σ2 H2) (hd : ∀ σ H, Pv n σ H → D.nx σ H) :
    ∃ W : Nat → Nat → St → Hp → Prop, (∃ m, W 0 m σ H) ∧ ∀ i m σ H, W i m σ H →
      ((Itr lo n).stop i H ∧ D.nx σ H) ∨ ((Itr lo n).go i H ∧ ∃ N : St → Hp → Prop, (∀ σ' H', N σ' H' → ∃ m', m' < m ∧ W (i + 1) m' σ' H') ∧ ∀ x H', (Itr lo n).yld i H x H' → g x σ H' fun σ2 H2 => tb { D with nx := N, ct := N, bk := D.nx } σ2 H2) := by
  refine ⟨fun i m σ H => m = n - i ∧ i ≤ n ∧ Pv i σ H, ⟨n, by simp, Nat.zero_le _, h0⟩, ?_⟩
  rintro i m σ H ⟨rfl, hi, p⟩
  by_cases hlt : i < n
  · refine .inr ⟨hlt, Pv (i + 1), fun σ' H' p' => ⟨n - (i + 1), by omega, rfl, hlt, p'⟩, fun x H' y => ?_⟩
    obtain ⟨e, y⟩ := y
    subst e y
    exact hs i σ _ hlt p
  · have e : i = n := by omega
    subst e
    exact .inl ⟨Nat.le_refl _, hd σ H p⟩
end L2

namespace L2
open PySem PySem.Spec PyProof.Rows

noncomputable abbrev R2 := V → V → Hp → VK → Prop
/-- a two-place operation on values: f is binaryOp op, inplaceOp op or compareOp op -/
noncomputable def OpR (X : Cx) (f : Value → Value → Sem Value) (r : R2) : Prop :=
  ∀ (pins : List (Addr × Obj)) (s : Shared) (σ : St) (H : Hp) (x y : V) (v u : Value) (Q : VK), Inv X pins σ H s → RelV x v → RelV y u → r x y H Q →
    wpAny (model X.prog X.w) X.A (f v u) (EP X pins σ Q) X.xe s
/-- a one-place operation -/
noncomputable def UnR (X : Cx) (f : Value → Sem Value) (r : V → Hp → VK → Prop) : Prop :=
  ∀ (pins : List (Addr × Obj)) (s : Shared) (σ : St) (H : Hp) (x : V) (v : Value) (Q : VK), Inv X pins σ H s → RelV x v → r x H Q →
    wpAny (model X.prog X.w) X.A (f v) (EP X pins σ Q) X.xe s
/-- a call of a value that is known (a builtin, a type) with values -/
noncomputable def CallR (X : Cx) (f : Value) (r : List V → Hp → VK → Prop) : Prop :=
  ∀ (pins : List (Addr × Obj)) (s : Shared) (σ : St) (H : Hp) (xs : List V) (us : List Value) (Q : VK), Inv X pins σ H s → Vals xs us → r xs H Q →
    wpAny (model X.prog X.w) X.A (call f us) (EP X pins σ Q) X.xe s
noncomputable def tOp (r : R2) (ta tb : TE) : TE := fun σ H Q => ta σ H fun x H1 => tb σ H1 fun y H2 => r x y H2 Q
noncomputable def tUn (r : V → Hp → VK → Prop) (ta : TE) : TE := fun σ H Q => ta σ H fun x H1 => r x H1 Q
/-- ints in, under C, and a value out -/
noncomputable def rI (C : Int → Int → Prop) (g : Int → Int → V) : R2 := fun x y H Q => ∃ i j, x = .int i ∧ y = .int j ∧ C i j ∧ Q (g i j) H
noncomputable def rI0 (g : Int → Int → V) : R2 := fun x y H Q => ∃ i j, x = .int i ∧ y = .int j ∧ Q (g i j) H
noncomputable def rU (g : Int → V) : V → Hp → VK → Prop := fun x H Q => ∃ i, x = .int i ∧ Q (g i) H

section
variable {X : Cx} {a b c : Expr} {ta tb tc : TE} {pos : Pos}

theorem binT (ha : PE X a ta) (hb : PE X b tb) {pins : List (Addr × Obj)} {s : Shared} {σ : St} {H : Hp} {R : V → V → Hp → Prop} (I : Inv X pins σ H s)
    (h : ta σ H fun x H1 => tb σ H1 fun y H2 => R x y H2) {Q : Value → Shared → Prop} {f : Value → Value → Sem Value}
    (hf : ∀ v u s2 x y H2, Inv X pins σ H2 s2 → RelV x v → RelV y u → R x y H2 → wpAny (model X.prog X.w) X.A (f v u) Q X.xe s2) :
    wpAny (model X.prog X.w) X.A (eval a X.env) (fun v s₁ => wpAny (model X.prog X.w) X.A (eval b X.env) (fun u s₂ => wpAny (model X.prog X.w) X.A (f v u) Q X.xe s₂) X.xe s₁) X.xe s := by
  refine thn (ha pins s σ H _ I h) fun v s1 ⟨x, H1, I1, r1, q1⟩ => ?_
  refine thn (hb pins s1 σ H1 _ I1 q1) fun u s2 ⟨y, H2, I2, r2, q2⟩ => ?_
  exact hf v u s2 x y H2 I2 r1 r2 q2

theorem pe_op {op : Operator} {r : R2} (ho : OpR X (binaryOp op) r) (ha : PE X a ta) (hb : PE X b tb) : PE X (.BinOp a op b pos) (tOp r ta tb) := by
  intro pins s σ H Q I h
  exact wpAny_BinOp (binT ha hb I h fun v u s2 x y H2 I2 rx ry q => ho pins s2 σ H2 x y v u Q I2 rx ry q)
theorem pe_un {op : UnaryOp} {r : V → Hp → VK → Prop} (ho : UnR X (unaryOp op) r) (ha : PE X a ta) : PE X (.UnaryOp op a pos) (tUn r ta) := by
  intro pins s σ H Q I h
  exact UnaryOp_ (thn (ha pins s σ H _ I h) fun v s1 ⟨x, H1, I1, r1, q1⟩ => ho pins s1 σ H1 x v Q I1 r1 q1)
/-! ### ints -/
theorem opI {f : Value → Value → Sem Value} {C : Int → Int → Prop} {g : Int → Int → Int}
    (rule : ∀ (i j : Int) (t u : Tok) (s : Shared) (Q : Value → Shared → Prop) (E : Value → Shared → Prop), C i j → Q (.int (g i j) s.toks) { s with toks := s.toks + 1 } → wpAny (model X.prog X.w) X.A (f (.int i t) (.int j u)) Q E s) :
    OpR X f (rI C fun i j => .int (g i j)) := by
  intro pins s σ H x y v u Q I rx ry h
  obtain ⟨i, j, rfl, rfl, hc, q⟩ := h
  obtain ⟨t, rfl⟩ := rx
  obtain ⟨t', rfl⟩ := ry
  exact rule i j t t' s _ _ hc ⟨.int (g i j), H, I.tok _, ⟨_, rfl⟩, q⟩
theorem opI0 {f : Value → Value → Sem Value} {g : Int → Int → Int}
    (rule : ∀ (i j : Int) (t u : Tok) (s : Shared) (Q : Value → Shared → Prop) (E : Value → Shared → Prop), Q (.int (g i j) s.toks) { s with toks := s.toks + 1 } → wpAny (model X.prog X.w) X.A (f (.int i t) (.int j u)) Q E s) :
    OpR X f (rI0 fun i j => .int (g i j)) := by
  intro pins s σ H x y v u Q I rx ry h
  obtain ⟨i, j, rfl, rfl, q⟩ := h
  obtain ⟨t, rfl⟩ := rx
  obtain ⟨t', rfl⟩ := ry
  exact rule i j t t' s _ _ ⟨.int (g i j), H, I.tok _, ⟨_, rfl⟩, q⟩
theorem opB0 {f : Value → Value → Sem Value} {g : Int → Int → Bool}
    (rule : ∀ (i j : Int) (t u : Tok) (s : Shared) (Q : Value → Shared → Prop) (E : Value → Shared → Prop), Q (.bool (g i j)) s → wpAny (model X.prog X.w) X.A (f (.int i t) (.int j u)) Q E s) :
    OpR X f (rI0 fun i j => .bl (g i j)) := by
  intro pins s σ H x y v u Q I rx ry h
  obtain ⟨i, j, rfl, rfl, q⟩ := h
  obtain ⟨t, rfl⟩ := rx
  obtain ⟨t', rfl⟩ := ry
  exact rule i j t t' s _ _ ⟨.bl (g i j), H, I, rfl, q⟩

noncomputable def CDiv (i j : Int) : Prop := 0 < j ∧ j < 1073741824
noncomputable def CPow (i j : Int) : Prop := 0 ≤ j ∧ j ≤ 1000000 ∧ i.natAbs < 2 ^ 64
noncomputable def CMul (i j : Int) : Prop := (-(2 ^ 64) < i ∧ i < 2 ^ 64) ∨ (-(2 ^ 64) < j ∧ j < 2 ^ 64)
theorem CMul.ok {i j : Int} (h : CMul i j) : IntMulOk i j := by
  rcases h with ⟨h1, h2⟩ | ⟨h1, h2⟩
  · exact .of_left (intBits_le_64 h1 h2)
  · exact .of_right (intBits_le_64 h1 h2)
theorem two_pow_nn (k : Nat) : (0 : Int) ≤ 2 ^ k := by
  rw [two_pow_cast]
  exact Int.natCast_nonneg _

theorem op_add : OpR X (binaryOp .Add) (rI0 fun i j => .int (i + j)) := opI0 fun _ _ _ _ _ _ _ q => add_int q
theorem op_sub : OpR X (binaryOp .Sub) (rI0 fun i j => .int (i - j)) := opI0 fun _ _ _ _ _ _ _ q => sub_int q
theorem op_mul : OpR X (binaryOp .Mult) (rI CMul fun i j => .int (i * j)) := opI fun _ _ _ _ _ _ _ hc q => mul_int q hc.ok
/-- // by a positive divisor -/
theorem op_fdiv : OpR X (binaryOp .FloorDiv) (rI CDiv fun i j => .int (i / j)) := opI fun i j _ _ _ _ _ hc q => by
  have h1 : (0 : Int) < j := hc.1
  have h2 : j < 1073741824 := hc.2
  exact floordiv_int (by omega) (by rw [Int.fdiv_eq_ediv_of_nonneg i (by omega)]; exact q) (.inl (PyProof.noPylong_small (by omega)))
/-- % by a positive divisor of any size -/
theorem op_mod : OpR X (binaryOp .Mod) (rI (fun _ j => 0 < j) fun i j => .int (i % j)) := opI fun i j _ _ _ _ _ hc q => by
  have h1 : (0 : Int) < j := hc
  exact mod_int' (by omega) (by rw [Int.fmod_eq_emod_of_nonneg i (by omega)]; exact q)
theorem op_shl : OpR X (binaryOp .LShift) (rI CPow fun i j => .int (i * 2 ^ j.toNat)) := opI fun _ _ _ _ _ _ _ hc q => lshift_int_small hc.1 hc.2.1 hc.2.2 q
theorem op_shr : OpR X (binaryOp .RShift) (rI (fun _ j => 0 ≤ j) fun i j => .int (i / 2 ^ j.toNat)) := opI fun i j _ _ _ _ _ hc q =>
  rshift_int hc (by rw [Int.fdiv_eq_ediv_of_nonneg i (two_pow_nn _)]; exact q)
theorem op_and : OpR X (binaryOp .BitAnd) (rI0 fun i j => .int (Builtin.bitAnd i j)) := opI0 fun _ _ _ _ _ _ _ q => and_int q
theorem op_or : OpR X (binaryOp .BitOr) (rI0 fun i j => .int (Builtin.bitOr i j)) := opI0 fun _ _ _ _ _ _ _ q => or_int q
theorem unI {f : Value → Sem Value} {g : Int → Int}
    (rule : ∀ (i : Int) (t : Tok) (s : Shared) (Q : Value → Shared → Prop) (E : Value → Shared → Prop), Q (.int (g i) s.toks) { s with toks := s.toks + 1 } → wpAny (model X.prog X.w) X.A (f (.int i t)) Q E s) :
    UnR X f (rU fun i => .int (g i)) := by
  intro pins s σ H x v Q I rx h
  obtain ⟨i, rfl, q⟩ := h
  obtain ⟨t, rfl⟩ := rx
  exact rule i t s _ _ ⟨.int (g i), H, I.tok _, ⟨_, rfl⟩, q⟩
theorem un_neg : UnR X (unaryOp .USub) (rU fun i => .int (-i)) := unI fun _ _ _ _ _ q => neg_int q
theorem un_inv : UnR X (unaryOp .Invert) (rU fun i => .int (Builtin.bitNot i)) := unI fun _ _ _ _ _ q => invert_int q

/-! ### bools among ints: n += (a < b) -/
end

/-! ### comparisons -/
/-- the scalars that == tells apart as data does -/
noncomputable def scal : V → V → Bool
  | .non, .non => true | .non, .int _ => true | .int _, .non => true | .non, .bl _ => true | .bl _, .non => true | .non, .str _ => true | .str _, .non => true
  | .int _, .int _ => true | .bl _, .bl _ => true | .str _, .str _ => true | .byt _, .byt _ => true
  | .int _, .str _ => true | .str _, .int _ => true | .bl _, .str _ => true | .str _, .bl _ => true
  | _, _ => false
noncomputable def rEq : R2 := fun x y H Q => scal x y = true ∧ Q (.bl (decide (x = y))) H
noncomputable def rNe : R2 := fun x y H Q => scal x y = true ∧ Q (.bl (!decide (x = y))) H

theorem dec_int {i j : Int} : decide (V.int i = V.int j) = (i == j) := by
  rw [Bool.eq_iff_iff]
  simp
theorem dec_bl {i j : Bool} : decide (V.bl i = V.bl j) = (i == j) := by
  rw [Bool.eq_iff_iff]
  simp
theorem dec_str {i j : Str} : decide (V.str i = V.str j) = (i == j) := by
  rw [Bool.eq_iff_iff]
  simp
theorem dec_byt {i j : Array UInt8} : decide (V.byt i = V.byt j) = (i.toList == j.toList) := by
  rw [Bool.eq_iff_iff]
  cases i
  cases j
  simp

section
variable {X : Cx} {a b c : Expr} {ta tb tc : TE} {pos : Pos}
theorem fin_bl {pins : List (Addr × Obj)} {σ : St} {H : Hp} {s : Shared} {Q : VK} {k k' : Bool} (I : Inv X pins σ H s) (q : Q (.bl k) H) (e : k = k') : EP X pins σ Q (.bool k') s := by
  subst e
  exact ⟨.bl k, H, I, rfl, q⟩
theorem op_eq : OpR X (compareOp .Eq) rEq := by
  intro pins s σ H x y v u Q I rx ry h
  obtain ⟨hs, q⟩ := h
  cases x with
  | non =>
    cases rx
    cases y with
    | non => cases ry; exact PySem.EqNone.eq_none_none (fin_bl I q (by simp))
    | bl j => cases ry; exact PySem.EqNone.eq_none_bool (fin_bl I q (by simp))
    | int j => obtain ⟨t', rfl⟩ := ry; exact PySem.EqNone.eq_none_int (fin_bl I q (by simp))
    | str j => obtain ⟨t', rfl⟩ := ry; exact PySem.EqNone.eq_none_str (fin_bl I q (by simp))
    | _ => exact absurd (show false = true from hs) Bool.false_ne_true
  | bl i =>
    cases rx
    cases y with
    | non => cases ry; exact PySem.EqNone.eq_bool_none (fin_bl I q (by simp))
    | bl j => cases ry; exact eq_bool (fin_bl I q dec_bl)
    | str j => obtain ⟨t', rfl⟩ := ry; exact PySem.EqMixed.eq_bool_str (fin_bl I q (by simp))
    | _ => exact absurd (show false = true from hs) Bool.false_ne_true
  | int i =>
    obtain ⟨t, rfl⟩ := rx
    cases y with
    | non => cases ry; exact PySem.EqNone.eq_int_none (fin_bl I q (by simp))
    | int j => obtain ⟨t', rfl⟩ := ry; exact eq_int (fin_bl I q dec_int)
    | str j => obtain ⟨t', rfl⟩ := ry; exact PySem.EqMixed.eq_int_str (fin_bl I q (by simp))
    | _ => exact absurd (show false = true from hs) Bool.false_ne_true
  | str i =>
    obtain ⟨t, rfl⟩ := rx
    cases y with
    | non => cases ry; exact PySem.EqNone.eq_str_none (fin_bl I q (by simp))
    | bl j => cases ry; exact PySem.EqMixed.eq_str_bool (fin_bl I q (by simp))
    | int j => obtain ⟨t', rfl⟩ := ry; exact PySem.EqMixed.eq_str_int (fin_bl I q (by simp))
    | str j => obtain ⟨t', rfl⟩ := ry; exact eq_str (fin_bl I q dec_str)
    | _ => exact absurd (show false = true from hs) Bool.false_ne_true
  | byt i =>
    obtain ⟨t, rfl⟩ := rx
    cases y with
    | byt j => obtain ⟨t', rfl⟩ := ry; exact PySem.W.eq_bytes (fin_bl I q dec_byt)
    | _ => exact absurd (show false = true from hs) Bool.false_ne_true
  | _ => cases y <;> exact absurd (show false = true from hs) Bool.false_ne_true
theorem op_ne : OpR X (compareOp .NotEq) rNe := by
  intro pins s σ H x y v u Q I rx ry h
  obtain ⟨hs, q⟩ := h
  cases x with
  | non =>
    cases rx
    cases y with
    | non => cases ry; exact PySem.EqNone.ne_none_none (fin_bl I q (by simp))
    | bl j => cases ry; exact PySem.EqNone.ne_none_bool (fin_bl I q (by simp))
    | int j => obtain ⟨t', rfl⟩ := ry; exact PySem.EqNone.ne_none_int (fin_bl I q (by simp))
    | str j => obtain ⟨t', rfl⟩ := ry; exact PySem.EqNone.ne_none_str (fin_bl I q (by simp))
    | _ => exact absurd (show false = true from hs) Bool.false_ne_true
  | bl i =>
    cases rx
    cases y with
    | non => cases ry; exact PySem.EqNone.ne_bool_none (fin_bl I q (by simp))
    | bl j => cases ry; exact ne_bool (fin_bl I q (congrArg not dec_bl))
    | str j => obtain ⟨t', rfl⟩ := ry; exact PySem.EqMixed.ne_bool_str (fin_bl I q (by simp))
    | _ => exact absurd (show false = true from hs) Bool.false_ne_true
  | int i =>
    obtain ⟨t, rfl⟩ := rx
    cases y with
    | non => cases ry; exact PySem.EqNone.ne_int_none (fin_bl I q (by simp))
    | int j => obtain ⟨t', rfl⟩ := ry; exact ne_int (fin_bl I q (congrArg not dec_int))
    | str j => obtain ⟨t', rfl⟩ := ry; exact PySem.EqMixed.ne_int_str (fin_bl I q (by simp))
    | _ => exact absurd (show false = true from hs) Bool.false_ne_true
  | str i =>
    obtain ⟨t, rfl⟩ := rx
    cases y with
    | non => cases ry; exact PySem.EqNone.ne_str_none (fin_bl I q (by simp))
    | bl j => cases ry; exact PySem.EqMixed.ne_str_bool (fin_bl I q (by simp))
    | int j => obtain ⟨t', rfl⟩ := ry; exact PySem.EqMixed.ne_str_int (fin_bl I q (by simp))
    | str j => obtain ⟨t', rfl⟩ := ry; exact ne_str (fin_bl I q (congrArg not dec_str))
    | _ => exact absurd (show false = true from hs) Bool.false_ne_true
  | byt i =>
    obtain ⟨t, rfl⟩ := rx
    cases y with
    | byt j => obtain ⟨t', rfl⟩ := ry; exact PySem.W.ne_bytes (fin_bl I q (congrArg not dec_byt))
    | _ => exact absurd (show false = true from hs) Bool.false_ne_true
  | _ => cases y <;> exact absurd (show false = true from hs) Bool.false_ne_true

theorem op_lt : OpR X (compareOp .Lt) (rI0 fun i j => .bl (decide (i < j))) := opB0 fun _ _ _ _ _ _ _ q => lt_int q
theorem op_gt : OpR X (compareOp .Gt) (rI0 fun i j => .bl (decide (j < i))) := opB0 fun _ _ _ _ _ _ _ q => gt_int q
theorem op_ge : OpR X (compareOp .GtE) (rI0 fun i j => .bl (decide (j ≤ i))) := opB0 fun _ _ _ _ _ _ _ q => ge_int q
theorem op_notN : OpR X (compareOp .IsNot) (fun x y H Q => y = .non ∧ Q (.bl (!decide (x = .non))) H) := by
  intro pins s σ H x y v u Q I rx ry h
  obtain ⟨rfl, q⟩ := h
  cases ry
  refine isnot_none_gen (fin_bl I q ?_)
  cases x <;> first
    | (cases rx; rfl)
    | (obtain ⟨t, rfl⟩ := rx; rfl)

theorem nomark (b : Expr) {op : CmpOp} (h : op ≠ .In := by decide) (h2 : op ≠ .NotIn := by decide) : behindInMarks op b = false := by
  have e1 : (op == CmpOp.In) = false := by cases op <;> first | rfl | exact absurd rfl h
  have e2 : (op == CmpOp.NotIn) = false := by cases op <;> first | rfl | exact absurd rfl h2
  cases b <;> simp [behindInMarks, e1, e2]
/-- a comparison as a value; hm: nomark b, or (for in, not in) by with_unfolding_all rfl -/
theorem pe_cmpR {op : CmpOp} {r : R2} (ho : OpR X (compareOp op) r) (ha : PE X a ta) (hb : PE X b tb) (hm : behindInMarks op b = false) : PE X (.Compare a [op] [b] pos) (tOp r ta tb) := by
  intro pins s σ H Q I h
  exact wpAny_Compare1 (binT ha hb I h fun v u s2 x y H2 I2 rx ry q => ho pins s2 σ H2 x y v u Q I2 rx ry q) hm
/-- a reading of a value as a test -/
noncomputable def tTest (t : TE) : TT := fun σ H Q => t σ H fun x H' => ∃ k, x = .bl k ∧ Q k H'
theorem pt_cmpR {op : CmpOp} {r : R2} (ho : OpR X (compareOp op) r) (ha : PE X a ta) (hb : PE X b tb) (hm : behindInMarks op b = false) : PT X (.Compare a [op] [b] pos) (tTest (tOp r ta tb)) := by
  intro pins s σ H Q I h
  refine wpAny_isTrue_Compare1 (thn (ha pins s σ H _ I h) fun v s1 ⟨x, H1, I1, r1, q1⟩ => thn (hb pins s1 σ H1 _ I1 q1) fun u s2 ⟨y, H2, I2, r2, q2⟩ =>
    thn (ho pins s2 σ H2 x y v u _ I2 r1 r2 q2) fun c s3 ⟨z, H3, I3, r3, k, e, q3⟩ => ?_) hm
  subst e
  cases r3
  exact wpAny_truthy_bool ⟨H3, I3, q3⟩
/-! ### truth -/
theorem line63 : (sizeLine : Nat) < 2 ^ 63 := by rw [sizeLine_eq]; decide
/-! ### strs and bytes -/
/-! ### scalar builtins, by CallR -/
theorem vals1 {x : V} {us : List Value} (r : Vals [x] us) : ∃ u, us = [u] ∧ RelV x u := by
  cases r with
  | cons r1 r2 => cases r2; exact ⟨_, rfl, r1⟩
theorem vals2 {x y : V} {us : List Value} (r : Vals [x, y] us) : ∃ u w', us = [u, w'] ∧ RelV x u ∧ RelV y w' := by
  cases r with
  | cons r1 r2 =>
    cases r2 with
    | cons r3 r4 => cases r4; exact ⟨_, _, rfl, r1, r3⟩
theorem call_int1 : CallR X (.type "int") (fun xs H Q => (∃ i, xs = [.int i] ∧ Q (.int i) H) ∨ ∃ k, xs = [.bl k] ∧ Q (.int (if k then 1 else 0)) H) := by
  intro pins s σ H xs us Q I r h
  rcases h with ⟨i, rfl, q⟩ | ⟨k, rfl, q⟩
  · obtain ⟨u, rfl, t, rfl⟩ := vals1 r
    exact call_int_int ⟨.int i, H, I, ⟨_, rfl⟩, q⟩
  · obtain ⟨u, rfl, r1⟩ := vals1 r
    cases r1
    exact call_int_bool ⟨.int (if k then 1 else 0), H, I.tok _, ⟨_, rfl⟩, q⟩
end
end L2

namespace L2
open PySem PySem.Spec PyProof.Rows

/-! ### an instance, its attributes a map -/
section
variable {prog : Program} {w : World} {A : Around} {E : Value → Shared → Prop} {s : Shared} {K : PySem.W.Frag} {x dx C f : Addr} {mA : Str → Option Value} {name : Str} {v : Value}

end

/-! ### the attributes as a list of pairs -/
theorem RelO.some_of {v : V} {o : Option Value} (r : RelO (some v) o) : ∃ u, o = some u ∧ RelV v u := by
  cases o with
  | none => exact (show False from r).elim
  | some u => exact ⟨u, rfl, r⟩
section
variable {P : Program} {w : World} {H H' : Hp} {h h' : Heap} {a C dx : Addr} {fs fs' : List (Str × V)}
end

/-! ### what of the text a class must have -/
section
variable {X : Cx} {pins : List (Addr × Obj)} {σ : St} {H : Hp} {s : Shared} {a C dx : Addr} {fs : List (Str × V)} {f : Str} {v : V} {A : Around} {E : Value → Shared → Prop}

end

/-! ### readings and rules -/
section
variable {X : Cx} {o e value : Expr} {f : Str} {pos pos' tpos : Pos} {ta tv : TE}
end

/-! ### isinstance -/
section
variable {X : Cx} {pins : List (Addr × Obj)} {σ : St} {H : Hp} {s : Shared} {A : Around} {E : Value → Shared → Prop} {Q : Value → Shared → Prop} {c : Value} {b : Bool}
end
end L2

namespace L2
open PySem PySem.Spec PyProof.Rows

/-! ### room -/
structure Room (k : Nat) (A : Around) : Prop where
  hd : A.handled = none
  dp : A.depth + 3 * k + 5 < recursionLimit
  un : A.units + 16 * k + 200 < cLine
theorem Room.mono {j k : Nat} {A : Around} (r : Room k A) (h : j ≤ k) : Room j A := ⟨r.hd, by have := r.dp; omega, by have := r.un; omega⟩
theorem Room.deeper {k : Nat} {A : Around} (r : Room (k + 1) A) (env : Env) : Room k (A.deeper env) :=
  ⟨r.hd, by have := r.dp; show A.depth + 1 + 3 * k + 5 < _; omega, by have := r.un; show A.units + 3 + 16 * k + 200 < _; omega⟩
theorem Room.depth {k : Nat} {A : Around} (r : Room k A) : A.depth < recursionLimit := by have := r.dp; omega
theorem Room.units {k : Nat} {A : Around} (r : Room k A) : A.units + 64 < cLine := by have := r.un; omega
/-! ### argument lists and displays -/
noncomputable def tNil : TA := fun _ H Q => Q [] H
noncomputable def tCons (ta : TE) (tr : TA) : TA := fun σ H Q => ta σ H fun x H1 => tr σ H1 fun xs H2 => Q (x :: xs) H2
section
variable {X : Cx} {e : Expr} {es : List Expr} {te : TE} {t : TA} {pos : Pos}
theorem pa_nil : PA X [] tNil := fun _ _ _ _ H Q I h => Calls.spliced_nil ⟨[], H, I, .nil, h⟩
theorem pa_cons (ha : PE X e te) (hr : PA X es t) (hs : starEach (e :: es) X.env = (false, eval e X.env) :: starEach es X.env := by rfl) : PA X (e :: es) (tCons te t) := by
  intro pos pins s σ H Q I h
  rw [hs]
  show wpAny _ _ (spliced ((false, eval e X.env) :: backTo pos (starEach es X.env))) _ _ s
  refine Calls.spliced_cons (thn (ha pins s σ H _ I h) fun u s1 ⟨x, H1, I1, r1, q1⟩ => ?_)
  exact thn (hr pos pins s1 σ H1 _ I1 q1) fun us s2 ⟨xs, H2, I2, r2, q2⟩ => ⟨x :: xs, H2, I2, .cons r1 r2, q2⟩

/-- a tuple, a list of written items -/
noncomputable def tTup (t : TA) : TE := fun σ H Q => t σ H fun xs H1 => xs.length ≤ sizeLine ∧ ∀ p, H1 p = none → Q (.ref p) (upd H1 p (.tup xs))
noncomputable def tLst (t : TA) : TE := fun σ H Q => t σ H fun xs H1 => xs.length ≤ sizeLine ∧ ∀ p, H1 p = none → Q (.ref p) (upd H1 p (.lst xs))
theorem pe_tup {x1} (h : PA X es t) : PE X (.Tuple es x1 pos) (tTup t) := by
  intro pins s σ H Q I hq
  refine wpAny_Tuple_spliced (thn (h pos pins s σ H _ I hq) fun us s1 ⟨xs, H1, I1, r, z, q⟩ => ⟨by rw [← r.length]; exact z, ?_⟩)
  have hf : H1 s1.heap.objs.size = none := I1.hok.fresh (Nat.le_refl _)
  refine ⟨.ref s1.heap.objs.size, upd H1 s1.heap.objs.size (.tup xs), I1.laid (t' := s1.toks) (fun b u e => Heap.get?_push_of_some _ e) (Nat.le_refl _) ?_, rfl, q _ hf⟩
  exact ⟨z, us, r, ⟨_, Heap.get?_push_size _ rfl, rfl, _, rfl⟩⟩
theorem pe_lst (h : PA X es t) : PE X (.List es pos) (tLst t) := by
  intro pins s σ H Q I hq
  refine wpAny_List_spliced (thn (h pos pins s σ H _ I hq) fun us s1 ⟨xs, H1, I1, r, z, q⟩ => ⟨by rw [← r.length]; exact z, ?_⟩)
  have hf : H1 s1.heap.objs.size = none := I1.hok.fresh (Nat.le_refl _)
  refine ⟨.ref s1.heap.objs.size, upd H1 s1.heap.objs.size (.lst xs), I1.laid (t' := s1.toks) (fun b u e => Heap.get?_push_of_some _ e) (Nat.le_refl _) ?_, rfl, q _ hf⟩
  exact ⟨z, us, 0, r, Heap.get?_push_size _ rfl⟩
end

/-! ### what a def promises -/
/-- a def's promise: the bound arguments in the parameters' order, the heap, the wanted end, the wanted exception -/
noncomputable abbrev Sp := List V → Hp → VK → XK → Prop
/-- how an exception lies behind a call (file 08 gives it): the callers' frames, abstract heap and state ahead of the call, the wish, the exception, the state -/
noncomputable abbrev CXT := List Env → Hp → Shared → XK → Value → Shared → Prop

/-- the state at a call -/
structure Env0 (P : Program) (w : World) (K : PySem.W.Frag) (mg : Str → Option Value) (base : Heap) (A : Around) (outer : List Env) (s : Shared) (H : Hp) : Prop where
  frames : A.frames = some outer
  mod : Mod K mg base
  bs : ∀ b o, base.get? b = some o → s.heap.get? b = some o ∧ H b = none
  bsz : base.objs.size ≤ s.heap.objs.size
  funs : s.heap.FunFrames base outer
  frf : ∀ b ∈ frs outer, H b = none
  hok : HOk P w H s.heap
  bare : AllBare s.gens
/-- a call's end -/
noncomputable def CE (outer : List Env) (P : Program) (w : World) (H : Hp) (s : Shared) (Q : VK) (u : Value) (s' : Shared) : Prop :=
  ∃ v H', s'.os = s.os ∧ AllBare s'.gens ∧ Un (frs outer) [] H H' s.heap s'.heap ∧ HOk P w H' s'.heap ∧ RelV v u ∧ Q v H'
noncomputable def CR (CX : CXT) (outer : List Env) (P : Program) (w : World) (H : Hp) (s : Shared) (Q : VK) (E : XK) (r : Result) (s' : Shared) : Prop :=
  match r with
  | .ok (.ret u) => CE outer P w H s Q u s'
  | .ok _ => False
  | .error e => CX outer H s E e s'
structure FnOk (P : Program) (w : World) (K : PySem.W.Frag) (mg : Str → Option Value) (base : Heap) (CX : CXT) (k : Nat) (f : Addr) (fd : FuncData) (ps : List Str) (sp : Sp) : Prop where
  len : ∀ vs H Q E, sp vs H Q E → vs.length = ps.length
  run : ∀ (A : Around) (outer : List Env) (s : Shared) (H : Hp) (args : Args) (us : List Value) (vs : List V) (Q : VK) (E : XK), Room k A → Env0 P w K mg base A outer s H → BindsTo s fd args (ps.zip us) → Vals vs us → sp vs H Q E →
    codeAny (model P w) A (.call (.ref f) args) (CR CX outer P w H s Q E) s
section
variable {X : Cx} {pins : List (Addr × Obj)} {σ : St} {H : Hp} {s s' : Shared}
/-- from a body: what a callee wants -/
theorem Inv.env0 (I : Inv X pins σ H s) : Env0 X.prog X.w X.K X.mg X.base X.A X.stack s H :=
  ⟨I.ok.frames, I.ok.mod, I.bs, Nat.le_trans I.ok.bsz I.sz, I.stack, I.stkFree, I.hok, I.bare⟩
/-- behind a call -/
theorem Inv.after {Q : VK} {u : Value} (I : Inv X pins σ H s) (h : CE X.stack X.prog X.w H s Q u s') : EP X pins σ Q u s' := by
  obtain ⟨v, H', os, bare, un, hok, r, q⟩ := h
  obtain ⟨hh, g, d, t, os'⟩ := s'
  obtain rfl : os' = s.os := os
  exact ⟨v, H', I.call (h' := hh) (g' := g) (d' := d) (t' := t) (ch := []) un hok bare (fun b z => absurd z (by simp)), r, q⟩
end

/-! ### calls -/
/-- f(..): the written arguments, then the defaults dvs; E: what is wanted of an exception -/
noncomputable def tCall (sp : Sp) (dvs : List V) (E : XK) (t : TA) : TE := fun σ H Q => t σ H fun vs H1 => sp (vs ++ dvs) H1 Q E
/-- how the parameters are bound: us the positional arguments, kw the keywords' values by name, ds the defaults that fill up -/
noncomputable def Binds (K : PySem.W.Frag) (fd : FuncData) (ps : List Str) (ds : List Value) : Prop :=
  ∀ (s : Shared) (us : List Value), K.In s.heap → (us ++ ds).length = ps.length → BindsTo s fd ⟨us, []⟩ (ps.zip (us ++ ds))
/-- every parameter is given -/
theorem Binds.all {K : PySem.W.Frag} {fd : FuncData} {ps : List Str} (h : ∀ us : List Value, us.length = ps.length → bindArgs fd ⟨us, []⟩ = pure (ps.zip us)) : Binds K fd ps [] := fun s us _ hl => by
  rw [List.append_nil] at hl ⊢
  exact .of_eq (h us hl)

/-- an exception of a callee reaches what this body wants of exceptions -/
noncomputable def Passes (CX : CXT) (X : Cx) (E : XK) : Prop := ∀ (pins : List (Addr × Obj)) (σ : St) (H : Hp) (s : Shared) (e : Value) (s' : Shared), Inv X pins σ H s → CX X.stack H s E e s' → X.xe e s'

section
variable {X : Cx} {CX : CXT} {k : Nat} {f C : Addr} {fd : FuncData} {ps : List Str} {sp : Sp} {dvs : List V} {ds : List Value} {E : XK} {x m : Str} {p pos apos : Pos} {e o : Expr} {es : List Expr} {ta : TE} {t : TA}

/-- the callee runs -/
theorem run_fn {pins : List (Addr × Obj)} {σ : St} {H : Hp} {s : Shared} {Q : VK} {us : List Value} {vs : List V} (F : FnOk X.prog X.w X.K X.mg X.base CX k f fd ps sp) (hr : Room k X.A) (hb : Binds X.K fd ps ds) (hd : Vals dvs ds) (hx : Passes CX X E)
    (I : Inv X pins σ H s) (r : Vals vs us) (h : sp (vs ++ dvs) H Q E) : wpAny (model X.prog X.w) X.A (call (.ref f) us) (EP X pins σ Q) X.xe s := by
  have r2 : Vals (vs ++ dvs) (us ++ ds) := r.append hd
  have hl : (us ++ ds).length = ps.length := by rw [← r2.length]; exact F.len _ _ _ _ h
  refine wpAny_call (codeAny_mono (F.run X.A X.stack s H ⟨us, []⟩ (us ++ ds) (vs ++ dvs) Q E hr I.env0 (hb s us I.kIn hl) r2 h) fun r s' hq => ?_)
  cases r with
  | error e => exact hx pins σ H s e s' I hq
  | ok fl =>
    cases fl with
    | ret u => exact I.after hq
    | next => exact False.elim hq
    | brk => exact False.elim hq
    | cont => exact False.elim hq

theorem pe_call (F : FnOk X.prog X.w X.K X.mg X.base CX k f fd ps sp) (hr : Room k X.A) (hg : Gl X x) (hm : X.mg x = some (.ref f)) (hk : PySem.W.keepIn X.K (.ref f) = true) (hb : Binds X.K fd ps ds) (hd : Vals dvs ds) (hx : Passes CX X E)
    (ha : PA X (e :: es) t) (hdb : (x == ("__debug__" : Str)) = false := by decide) (he : starEach (e :: es) X.env = (false, eval e X.env) :: starEach es X.env := by rfl) (hpl : (backTo pos (starEach es X.env)).any (·.1) = false := by rfl) :
    PE X (.Call (.Name x p) (e :: es) [] pos) (tCall sp dvs E t) := by
  intro pins s σ H Q I h
  refine wpAny_Call_Name_kw (ld_glob I hg hm ?_ hdb)
  refine PySem.W.callWith_K (h₀ := X.base) I.ok.mod.kin hk (thn (ha pos pins s σ H _ I h) fun us s1 ⟨vs, H1, I1, r, q⟩ => ⟨I1.kIn, ?_⟩) he hpl
  exact run_fn F hr hb hd hx I1 r q
end

/-! ### keywords -/
section
variable {X : Cx} {CX : CXT} {k : Nat} {f C : Addr} {fd : FuncData} {ps ks : List Str} {sp : Sp} {E : XK} {x m : Str} {p pos apos kpos : Pos} {e o : Expr} {es : List Expr} {kws : List Keyword} {te ta : TE} {t tk : TA} {nm : Option Str}
variable {g : List Value → List Value → List Value} {gV : List V → List V → List V}
end

/-! ### a def's body keeps its promise -/
/-- names: the parameters first -/
structure FnScope (N P : List Str) (sc : Scope) : Prop where
  kind : sc.kind = .function
  co : sc.isCoroutine = false
  gen : sc.isGenerator = false
  nd : N.Nodup
  pre : N.take P.length = P
  par : ∀ x ∈ P, sc.names.lookup x = some .local ∨ sc.names.lookup x = some .cell
  nofree : ∀ y ∈ sc.names, y.2 ≠ .free

theorem bindL_out {kindOf : Str → Option NameKind} {x : Str} : ∀ {binds : List (Str × Value)} {m : Str → Option Value}, (∀ v, (x, v) ∉ binds) → bindL kindOf binds m x = m x
  | [], _, _ => rfl
  | (n, v) :: r, m, h => by
    unfold bindL
    rw [bindL_out fun w hw => h w (List.mem_cons_of_mem _ hw)]
    split
    · have : x ≠ n := by rintro rfl; exact h v List.mem_cons_self
      simp [this]
    · rfl
theorem bindC_out {kindOf : Str → Option NameKind} {x : Str} : ∀ {binds : List (Str × Value)} {m : Str → Option Value}, (∀ v, (x, v) ∉ binds) → bindC kindOf binds m x = m x
  | [], _, _ => rfl
  | (n, v) :: r, m, h => by
    unfold bindC
    rw [bindC_out fun w hw => h w (List.mem_cons_of_mem _ hw)]
    split
    · rfl
    · have : x ≠ n := by rintro rfl; exact h v List.mem_cons_self
      simp [this]
theorem bindL_get {kindOf : Str → Option NameKind} {x : Str} {v : Value} : ∀ {P : List Str} {vs : List Value} {i : Nat} {m : Str → Option Value}, P.Nodup → P[i]? = some x → vs[i]? = some v → kindOf x = some .local →
    bindL kindOf (P.zip vs) m x = some v
  | [], _, _, _, _, h, _, _ => by simp at h
  | _ :: _, [], _, _, _, _, h, _ => by simp at h
  | p :: P, w :: vs, 0, m, nd, h1, h2, hk => by
    simp at h1 h2; subst h1; subst h2
    show bindL kindOf ((p, w) :: P.zip vs) m p = _
    unfold bindL
    rw [bindL_out fun v hv => (List.nodup_cons.mp nd).1 (List.of_mem_zip hv).1, if_pos hk]
    simp
  | p :: P, w :: vs, i + 1, m, nd, h1, h2, hk => by
    show bindL kindOf ((p, w) :: P.zip vs) m x = _
    unfold bindL
    exact bindL_get (i := i) (List.nodup_cons.mp nd).2 (by simpa using h1) (by simpa using h2) hk
theorem bindC_get {kindOf : Str → Option NameKind} {x : Str} {v : Value} : ∀ {P : List Str} {vs : List Value} {i : Nat} {m : Str → Option Value}, P.Nodup → P[i]? = some x → vs[i]? = some v → kindOf x ≠ some .local →
    bindC kindOf (P.zip vs) m x = some v
  | [], _, _, _, _, h, _, _ => by simp at h
  | _ :: _, [], _, _, _, _, h, _ => by simp at h
  | p :: P, w :: vs, 0, m, nd, h1, h2, hk => by
    simp at h1 h2; subst h1; subst h2
    show bindC kindOf ((p, w) :: P.zip vs) m p = _
    unfold bindC
    rw [bindC_out fun v hv => (List.nodup_cons.mp nd).1 (List.of_mem_zip hv).1, if_neg hk]
    simp
  | p :: P, w :: vs, i + 1, m, nd, h1, h2, hk => by
    show bindC kindOf ((p, w) :: P.zip vs) m x = _
    unfold bindC
    exact bindC_get (i := i) (List.nodup_cons.mp nd).2 (by simpa using h1) (by simpa using h2) hk

/-- the names' values at the entry -/
noncomputable def start (N : List Str) (vs : List V) : St := vs.map some ++ List.replicate (N.length - vs.length) none

/-- the context of a def's body, at its entry; an exception leaves the frame, then lies as CX says -/
noncomputable def cxOf (CX : CXT) (P : Program) (w : World) (K : PySem.W.Frag) (mg : Str → Option Value) (base : Heap) (N : List Str) (qual : Str) (scope : Scope) (f : Addr) (cd : Value) (A : Around) (outer : List Env) (s : Shared) (H : Hp) (E : XK) : Cx where
  prog := P
  w := w
  K := K
  mg := mg
  base := base
  A := A.deeper (envOfC qual scope s.heap.objs.size f cd)
  N := N
  s₀ := s
  H₀ := H
  env := envOfC qual scope s.heap.objs.size f cd
  outer := outer
  stack := envOfC qual scope s.heap.objs.size f cd :: outer
  ex := []
  calm := true
  fn := fun _ => true
  pn := []
  xe := fun e s' => wpAny (model P w) (A.deeper (envOfC qual scope s.heap.objs.size f cd)) (leaving (envOfC qual scope s.heap.objs.size f cd) e) (fun _ s'' => CX outer H s E e s'') (fun e' s'' => CX outer H s E e' s'') s'

theorem cell_has {sc : Scope} {n : Nat} {x : Str} (h : sc.names.lookup x = some .cell) : ∃ c, (cellsFrom n sc.names []).lookup x = some c := by
  have q := PySem.W.cellsFrom_some sc.names n [] (.inl h)
  exact Option.isSome_iff_exists.mp q

theorem inv_start {CX : CXT} {P : Program} {w : World} {K : PySem.W.Frag} {mg : Str → Option Value} {base : Heap} {N ps : List Str} {qual : Str} {scope : Scope} {f : Addr} {cd : Value} {A : Around} {outer : List Env} {s s1 : Shared} {H : Hp} {E : XK} {us : List Value} {vs : List V}
    (S : FnScope N ps scope) (hd : A.handled = none) (e0 : Env0 P w K mg base A outer s H) (hl : vs.length = ps.length) (r : Vals vs us)
    (x : InCallC s s.heap.objs.size (bindL (envOfC qual scope s.heap.objs.size f cd).kindOf (ps.zip us) fun _ => none) (cellsFrom (s.heap.objs.size + 1) scope.names []) (bindC (envOfC qual scope s.heap.objs.size f cd).kindOf (ps.zip us) fun _ => none) s1) :
    Inv (cxOf CX P w K mg base N qual scope f cd A outer s H E) [] (start N vs) H s1 := by
  have hpl : ps.length ≤ N.length := by have := congrArg List.length S.pre; rw [List.length_take] at this; omega
  obtain ⟨h1, tk, rfl, hk⟩ := x.done
  have noA : ∀ b : Addr, b ∉ (cxOf CX P w K mg base N qual scope f cd A outer s H E).ex := fun b z => absurd (show b ∈ ([] : List Addr) from z) (by simp)
  refine ⟨⟨e0.mod, S.kind, rfl, rfl, Nat.le_refl _, fun y z c h1 h2 => ?_, fun y hy => ?_, fun y c _ h => ?_, fun _ => hd, Around.frames_deeper e0.frames, .inr ⟨rfl, rfl⟩, fun b z => absurd z (noA b), e0.bs, e0.bsz, fun b _ _ => noA b, fun b z => absurd z (noA b), e0.funs, e0.frf⟩,
    rfl, e0.bare, Un.kept hk, ⟨_, x.toInCall.ns, fun i y v h1 h2 h3 => ?_⟩, fun y c h => ⟨_, x.cell y c h⟩, e0.hok.fresh (Nat.le_refl _), fun y c h => ?_, fun p hp => absurd (show p ∈ ([] : List (Addr × Obj)) from hp) (by simp), e0.hok.kept hk, ?_⟩
  · exact name_of_addr x.apart (PySem.mem_of_lookup h1) (PySem.mem_of_lookup h2)
  · have hy : scope.names.lookup y = some .cell ∨ scope.names.lookup y = some .free := hy
    rcases hy with hy | hy
    · exact cell_has hy
    · exact absurd rfl (S.nofree _ (PySem.mem_of_lookup hy))
  · exact Nat.le_of_lt (x.above y c (PySem.mem_of_lookup h))
  · have hi : i < vs.length := by
      unfold start at h2
      by_cases hi : i < vs.length
      · exact hi
      · rw [List.getElem?_append_right (by simpa using hi)] at h2
        rw [List.getElem?_replicate] at h2
        split at h2 <;> cases h2
    have ha : vs[i]? = some v := by
      unfold start at h2
      rw [List.getElem?_append_left (by simpa using hi), List.getElem?_map] at h2
      cases e : vs[i]? with
      | none => rw [e] at h2; cases h2
      | some a => rw [e] at h2; cases h2; rfl
    obtain ⟨u, hu, rv⟩ := r.get ha
    have hp : ps[i]? = some y := by
      rw [← S.pre, List.getElem?_take_of_lt (by omega)]; exact h1
    have ndP : ps.Nodup := by rw [← S.pre]; exact S.nd.sublist (List.take_sublist _ _)
    refine ⟨u, rv, ?_⟩
    rcases S.par y (List.mem_of_getElem? hp) with k | k
    · exact .inl ⟨k, bindL_get ndP hp hu k⟩
    · obtain ⟨c, e⟩ := cell_has (n := s.heap.objs.size + 1) k
      refine .inr ⟨.inl k, c, e, ?_⟩
      have q := x.cell y c e
      rw [bindC_get ndP hp hu (by show scope.names.lookup y ≠ _; rw [k]; decide)] at q
      exact q
  · exact e0.hok.fresh (Nat.le_of_lt (x.above y c (PySem.mem_of_lookup h)))
  · unfold start
    show _ = N.length
    rw [List.length_append, List.length_map, List.length_replicate]
    omega

/-- THE RULE: a def (or a method) of the text, by its body. The body's reading t is chosen for each entry; it is run at the parameters' values -/
theorem fn_of {CX : CXT} {P : Program} {w : World} {K : PySem.W.Frag} {mg : Str → Option Value} {base : Heap} {k : Nat} {f : Addr} {name qual : Str} {params : Arguments} {body : List Stmt} {scope : Scope} {dV kV doc pm cdv ct oc : Value} {an od : Option Addr}
    {osl : Array (Option Value)} {N ps : List Str} {sp : Sp} (lk : K.lookup f = some ⟨oc, od, .func (PySem.W.fnOf name qual params body scope dV kV doc pm an cdv ct), osl⟩) (hcd : PySem.W.codeIn K cdv qual = true) (S : FnScope N ps scope)
    (len : ∀ vs H Q E, sp vs H Q E → vs.length = ps.length)
    (hbody : ∀ (A : Around) (outer : List Env) (s : Shared) (H : Hp) (vs : List V) (Q : VK) (E : XK), Room k (A.deeper (envOfC qual scope s.heap.objs.size f cdv)) → sp vs H Q E →
      ∃ t, PSs (cxOf CX P w K mg base N qual scope f cdv A outer s H E) body t ∧ t { nx := fun _ H' => Q .non H', rt := Q } (start N vs) H) :
    FnOk P w K mg base CX (k + 1) f (PySem.W.fnOf name qual params body scope dV kV doc pm an cdv ct) ps sp := by
  refine ⟨len, fun A outer s H args us vs Q E hr e0 hb r hsp => ?_⟩
  have hl := len _ _ _ _ hsp
  have KX : K.In s.heap := e0.mod.kin.keeps fun b o e => (e0.bs b o e).1
  have lim : s.heap.NoLimit := e0.mod.nolimit.keeps fun b o e => (e0.bs b o e).1
  have hkind : ∀ y ∈ ps.zip us, scope.names.lookup y.1 = some .local ∨ (scope.names.lookup y.1 = some .cell ∧ ((cellsFrom (s.heap.objs.size + 1) scope.names []).lookup y.1).isSome = true) := fun ⟨n, v⟩ hy => by
    rcases S.par n (List.of_mem_zip hy).1 with q | q
    · exact .inl q
    · exact .inr ⟨q, PySem.W.cellsFrom_some _ _ _ (.inl q)⟩
  refine codeAny_call_function hr.depth (KX _ _ lk) rfl S.co S.gen rfl (PySem.W.codeRec_of KX hcd) (hb _ _ _ _ ?_)
  refine wpAny_newFunctionEnv_cells S.kind hkind fun env he s1 x => ?_
  subst he
  refine ⟨lim.keeps x.toInCall.keep, codeAny_func ?_⟩
  obtain ⟨t, ht, hq⟩ := hbody A outer s H vs Q E (hr.deeper _) hsp
  have I : Inv (cxOf CX P w K mg base N qual scope f cdv A outer s H E) [] (start N vs) H s1 := inv_start S hr.hd e0 hl r x
  refine wpAny_mono (ht [] s1 (start N vs) H _ I hq) (fun fl s' hs => ?_) fun e s' hs => hs
  have fin : ∀ {σ' : St} {H' : Hp} {v : V} {u : Value}, Inv (cxOf CX P w K mg base N qual scope f cdv A outer s H E) [] σ' H' s' → RelV v u → Q v H' → CE outer P w H s Q u s' :=
    fun {σ' H' v u} J rv q => ⟨v, H', J.os, J.bare, J.base, J.hok, rv, q⟩
  cases fl with
  | ret u =>
    obtain ⟨v, σ', H', J, rv, q⟩ := hs
    exact fin J rv q
  | next =>
    obtain ⟨σ', H', J, q⟩ := hs
    exact fin (v := V.non) (u := Value.none) J rfl q
  | brk =>
    obtain ⟨_, _, _, q⟩ := hs
    exact False.elim q
  | cont =>
    obtain ⟨_, _, _, q⟩ := hs
    exact False.elim q
end L2

namespace L2
open PySem PySem.Spec PyProof.Rows
section
variable {X : Cx} {x : Str} {p pos : Pos} {e : Expr} {es : List Expr} {t : TA} {id T : String} {r : List V → Hp → VK → Prop}

noncomputable def tCB (r : List V → Hp → VK → Prop) (t : TA) : TE := fun σ H Q => t σ H fun vs H1 => r vs H1 Q
/-- f(e, ..), f a built-in function -/
theorem pe_callB (hc : CallR X (.builtin id) r) (hg : Gl X x) (hm : X.mg x = none) (hv : bootBuiltins x = some (.builtin id)) (ha : PA X (e :: es) t) (hn : x ≠ "__name__" := by decide) (hdb : (x == ("__debug__" : Str)) = false := by decide)
    (he : starEach (e :: es) X.env = (false, eval e X.env) :: starEach es X.env := by rfl) (hpl : (backTo pos (starEach es X.env)).any (·.1) = false := by rfl) : PE X (.Call (.Name x p) (e :: es) [] pos) (tCB r t) := by
  intro pins s σ H Q I h
  refine wpAny_Call_Name_kw (ld_blt I hg hm hv ?_ hn hdb)
  exact PyProof.Rows.callWith_builtin1 (thn (ha pos pins s σ H _ I h) fun us s1 ⟨vs, H1, I1, r1, q1⟩ => hc pins s1 σ H1 vs us Q I1 r1 q1) he hpl
/-- T(e, ..), T a built-in type -/
theorem pe_callTy (hc : CallR X (.type T) r) (hg : Gl X x) (hm : X.mg x = none) (hv : bootBuiltins x = some (.type T)) (ha : PA X (e :: es) t) (hn : x ≠ "__name__" := by decide) (hdb : (x == ("__debug__" : Str)) = false := by decide)
    (he : starEach (e :: es) X.env = (false, eval e X.env) :: starEach es X.env := by rfl) (hpl : (backTo pos (starEach es X.env)).any (·.1) = false := by rfl) : PE X (.Call (.Name x p) (e :: es) [] pos) (tCB r t) := by
  intro pins s σ H Q I h
  refine wpAny_Call_Name_kw (ld_blt I hg hm hv ?_ hn hdb)
  exact PyProof.Rows.callWith_type1 (thn (ha pos pins s σ H _ I h) fun us s1 ⟨vs, H1, I1, r1, q1⟩ => hc pins s1 σ H1 vs us Q I1 r1 q1) he hpl
end
end L2

namespace HT
open PySem PyProof.Rows

section
open PySem.SeqAt
open PySem.AutoSeq1 (wpAny_loadPart')
open PySem.MeetsSeq PySem.MeetsSeq2 PySem.MeetsSeq3

end

section
variable {prog : Program} {w : World} {A : Around} {E : Value → Shared → Prop} {s : Shared}

/-! ### t[a:b], not the whole -/
/-- a slice's bound as a place among n (d where it is left out) -/
noncomputable def sIx (n d : Nat) : Option Int → Nat
  | none => d
  | some v => if v < 0 then (v + (n : Int)).toNat else min v.toNat n
theorem sIx_none (n d : Nat) : sIx n d none = d := rfl
theorem sIx_nat (n d k : Nat) : sIx n d (some (k : Int)) = min k n := by
  show (if (k : Int) < 0 then ((k : Int) + (n : Int)).toNat else min (k : Int).toNat n) = min k n
  rw [if_neg (by omega), Int.toNat_natCast]
end
end HT

namespace L2
open PySem PySem.Spec PyProof.Rows

/-! ### the parts of a slice -/
noncomputable abbrev TO := St → Hp → (Option Int → Hp → Prop) → Prop
/-- a slice's part (left out, or an int) -/
noncomputable def PO (X : Cx) (e : Option Expr) (t : TO) : Prop :=
  ∀ (pins : List (Addr × Obj)) (s : Shared) (σ : St) (H : Hp) (Q : Option Int → Hp → Prop), Inv X pins σ H s → t σ H Q →
    wpAny (model X.prog X.w) X.A (evalPart e X.env) (fun u s' => ∃ o H', Inv X pins σ H' s' ∧ IsPart u o ∧ Q o H') X.xe s
noncomputable def tNoPart : TO := fun _ H Q => Q none H
noncomputable def tPart (t : TE) : TO := fun σ H Q => t σ H fun x H1 => ∃ i, x = .int i ∧ Q (some i) H1

theorem intsAre_of {ns : List Int} : ∀ {us : List Value}, Vals (ns.map V.int) us → IntsAre us ns := by
  induction ns with
  | nil => intro us r; rw [List.map_nil] at r; cases r; exact .nil
  | cons n ns ih =>
    intro us r
    rw [List.map_cons] at r
    cases r with
    | cons r1 r2 =>
      obtain ⟨t, e⟩ := r1
      subst e
      exact .cons n t (ih r2)

section
variable {X : Cx} {e : Expr} {te : TE} {lo hi : Option Expr} {tl th : TO} {pos p2 : Pos}

theorem po_none : PO X none tNoPart := by
  intro pins s σ H Q I h
  rw [evalPart_none]
  exact wpAny_pure ⟨none, H, I, .none, h⟩
theorem po_some (h : PE X e te) : PO X (some e) (tPart te) := by
  intro pins s σ H Q I hw
  rw [evalPart_some]
  refine thn (h pins s σ H _ I hw) fun u s1 ⟨x, H1, I1, r1, q1⟩ => ?_
  obtain ⟨i, rfl, q⟩ := q1
  obtain ⟨t, rfl⟩ := r1
  exact ⟨some i, H1, I1, .int i t, q⟩

/-- what a slice of a value is, by values: the slice object stands at sl -/
noncomputable def SlR (X : Cx) (r : V → Option Int → Option Int → Hp → VK → Prop) : Prop :=
  ∀ (pins : List (Addr × Obj)) (s : Shared) (σ : St) (H : Hp) (x : V) (v vl vu : Value) (lo hi : Option Int) (sl : Addr) (Q : VK), Inv X pins σ H s → RelV x v → s.heap.IsSliceOf sl vl vu .none → IsPart vl lo → IsPart vu hi → r x lo hi H Q →
    ∃ T id, typeLookup (.type T) "__getitem__" = pure (some (.builtin id)) ∧ s.TypeIs v T ∧ wpAny (model X.prog X.w) X.A (getItem v (.ref sl)) (EP X pins σ Q) X.xe s
noncomputable def tSl (r : V → Option Int → Option Int → Hp → VK → Prop) (te : TE) (tl th : TO) : TE := fun σ H Q => te σ H fun x H1 => tl σ H1 fun l H2 => th σ H2 fun u H3 => r x l u H3 Q
/-- a[lo:hi], any a -/
theorem pe_slice {r : V → Option Int → Option Int → Hp → VK → Prop} (hr : SlR X r) (he : PE X e te) (hl : PO X lo tl) (hu : PO X hi th) : PE X (.Subscript e (.Slice lo hi none p2) pos) (tSl r te tl th) := by
  intro pins s σ H Q I h
  refine Subscript_ (thn (he pins s σ H _ I h) fun v s1 ⟨x, H1, I1, r1, q1⟩ => ?_)
  refine wpAny_Slice (thn (hl pins s1 σ H1 _ I1 q1) fun vl s2 ⟨l, H2, I2, pl, q2⟩ => thn (hu pins s2 σ H2 _ I2 q2) fun vu s3 ⟨u, H3, I3, pu, q3⟩ => ?_)
  rw [evalPart_none]
  refine wpAny_pure ?_
  have I4 : Inv X pins σ H3 { s3 with heap := s3.heap.push { cls := .type "slice", data := .fields #[vl, vu, .none] } } := I3.kept (t' := s3.toks) fun b ob q => Heap.get?_push_of_some _ q
  obtain ⟨T, id, hT, ht, hg⟩ := hr pins { s3 with heap := s3.heap.push { cls := .type "slice", data := .fields #[vl, vu, .none] } } σ H3 x v vl vu l u s3.heap.objs.size Q I4 r1 (Heap.IsSliceOf.new ..) pl pu q3
  show wpAny (model X.prog X.w) X.A (subscriptTail e (.Slice lo hi none p2) v (.ref s3.heap.objs.size)) (EP X pins σ Q) X.xe { s3 with heap := s3.heap.push { cls := .type "slice", data := .fields #[vl, vu, .none] } }
  exact tail_any (ops := [.ref s3.heap.objs.size, v]) ht hT hg (by with_unfolding_all rfl)

/-- the items of xs[lo:hi] -/
noncomputable def cutV (xs : List V) (lo hi : Option Int) : List V := (xs.drop (HT.sIx xs.length 0 lo)).take (HT.sIx xs.length xs.length hi - HT.sIx xs.length 0 lo)
theorem cutV_length (xs : List V) (lo hi : Option Int) : (cutV xs lo hi).length ≤ xs.length := by
  unfold cutV
  rw [List.length_take, List.length_drop]
  omega
/-! ### t < u, t + u -/
end
end L2

namespace L2
open PySem PySem.Spec PyProof.Rows

/-! ### places -/
/-- the place that an index of any sign means -/
noncomputable def ixN (n : Nat) (i : Int) : Option Nat := if 0 ≤ i then (if i < n then some i.toNat else none) else if -(n : Int) ≤ i then some (i + n).toNat else none
noncomputable def atI {α : Type} (xs : List α) (i : Int) : Option α := (ixN xs.length i).bind fun j => xs[j]?
theorem ixN_seq {n : Nat} {i : Int} {j : Nat} (h : ixN n i = some j) : seqIndex? i n = some j ∧ j < n ∧ -(n : Int) ≤ i ∧ i < n := by
  unfold ixN at h
  by_cases h0 : 0 ≤ i
  · rw [if_pos h0] at h
    by_cases h1 : i < n
    · rw [if_pos h1] at h
      have e : i.toNat = j := Option.some.inj h
      exact ⟨by rw [seqIndex_of h0 h1, e], by omega, by omega, h1⟩
    · rw [if_neg h1] at h; cases h
  · rw [if_neg h0] at h
    by_cases h1 : -(n : Int) ≤ i
    · rw [if_pos h1] at h
      have e : (i + n).toNat = j := Option.some.inj h
      exact ⟨by rw [seqIndex_neg (by omega) h1, e], by omega, h1, by omega⟩
    · rw [if_neg h1] at h; cases h
theorem atI_get {α : Type} {xs : List α} {i : Int} {v : α} (h : atI xs i = some v) : ∃ j, seqIndex? i xs.length = some j ∧ xs[j]? = some v ∧ j < xs.length ∧ -(xs.length : Int) ≤ i ∧ i < xs.length := by
  unfold atI at h
  cases e : ixN xs.length i with
  | none => rw [e] at h; cases h
  | some j =>
    rw [e] at h
    obtain ⟨h1, h2, h3, h4⟩ := ixN_seq e
    exact ⟨j, h1, h, h2, h3, h4⟩
theorem atI_nat {α : Type} {xs : List α} {j : Nat} {v : α} (h : xs[j]? = some v) : atI xs (j : Int) = some v := by
  have hj : j < xs.length := (List.getElem?_eq_some_iff.mp h).1
  have e : ixN xs.length (j : Int) = some j := by
    unfold ixN
    rw [if_pos (by omega), if_pos (by omega)]; simp
  unfold atI; rw [e]; exact h
/-! ### what may be subscripted -/
/-- what stands as an index of a plain subscript -/
noncomputable def PlainIx (b : Expr) : Prop := ∀ o i, subscripted b false o i = operate [o, i] (getItem o i)
/-- a subscript by values -/
noncomputable def IxR (X : Cx) (r : R2) : Prop :=
  ∀ (value slice : Expr) (pins : List (Addr × Obj)) (s : Shared) (σ : St) (H : Hp) (x y : V) (v u : Value) (Q : VK), Inv X pins σ H s → RelV x v → RelV y u → r x y H Q →
    subscripted slice false v u = operate [v, u] (getItem v u) → wpAny (model X.prog X.w) X.A (subscriptTail value slice v u) (EP X pins σ Q) X.xe s
/-- a call of a builtin's method by values: the receiver, the arguments -/
noncomputable def MtR (X : Cx) (id : String) (r : V → List V → Hp → VK → Prop) : Prop :=
  ∀ (pins : List (Addr × Obj)) (s : Shared) (σ : St) (H : Hp) (x : V) (xs : List V) (v : Value) (us : List Value) (Q : VK), Inv X pins σ H s → RelV x v → Vals xs us → r x xs H Q →
    wpAny (model X.prog X.w) X.A (call (.builtin id) (v :: us)) (EP X pins σ Q) X.xe s
section
variable {X : Cx} {a b : Expr} {ta tb : TE} {pos : Pos}
/-- a[b] -/
theorem pe_ix {r : R2} (hr : IxR X r) (ha : PE X a ta) (hb : PE X b tb) (hs : PlainIx b) : PE X (.Subscript a b pos) (tOp r ta tb) := by
  intro pins s σ H Q I h
  exact Subscript_ (binT ha hb I h fun v u s2 x y H2 I2 rx ry q => hr a b pins s2 σ H2 x y v u Q I2 rx ry q (hs _ _))

noncomputable def rIxL (K : PySem.W.Frag) : R2 := fun x y H Q => ∃ p xs i v, x = .ref p ∧ y = .int i ∧ SqL K H p xs ∧ atI xs i = some v ∧ Q v H
noncomputable def rIxT (K : PySem.W.Frag) : R2 := fun x y H Q => ∃ p xs i v, x = .ref p ∧ y = .int i ∧ SqT K H p xs ∧ atI xs i = some v ∧ Q v H
theorem ix_list : IxR X (rIxL X.K) := by
  intro value slice pins s σ H x y v u Q I rx ry h hs
  obtain ⟨p, xs, i, z, rfl, rfl, hq, he, q⟩ := h
  cases rx
  obtain ⟨t, rfl⟩ := ry
  obtain ⟨its, r, pl, hz⟩ := I.list hq
  obtain ⟨j, h1, h2, h3, h4, h5⟩ := atI_get he
  obtain ⟨w, ew, rw'⟩ := r.get h2
  have hl := r.length
  have hn := line63
  have fin : EP X pins σ Q w s := ⟨z, H, I, rw', q⟩
  by_cases h0 : 0 ≤ i
  · have hj : i.toNat = j := by
      rw [seqIndex_of h0 h5] at h1
      exact Option.some.inj h1
    exact item_listR pl.isList h0 (by omega) (by rw [hj]; simpa using ew) fin hs
  · have hj : (i + (its.toArray.size : Int)).toNat = j := by
      rw [seqIndex_neg (by omega) h4] at h1
      rw [List.size_toArray, ← hl]
      exact Option.some.inj h1
    exact subscriptTail_builtinR (x := w) pl.isList.typeIs slot_list_getitem.lookup
      (wpAny_getItem_list_neg (Q := fun r s' => r = w ∧ EP X pins σ Q r s') pl.isList (by omega) (by rw [List.size_toArray] <;> omega) (by omega) (by rw [hj]; simpa using ew) ⟨rfl, fin⟩) hs
theorem ix_tup : IxR X (rIxT X.K) := by
  intro value slice pins s σ H x y v u Q I rx ry h hs
  obtain ⟨p, xs, i, z, rfl, rfl, hq, he, q⟩ := h
  cases rx
  obtain ⟨t, rfl⟩ := ry
  obtain ⟨its, r, pl, hz⟩ := I.tuple hq
  obtain ⟨j, h1, h2, h3, h4, h5⟩ := atI_get he
  obtain ⟨w, ew, rw'⟩ := r.get h2
  have hl := r.length
  have hn := line63
  have fin : EP X pins σ Q w s := ⟨z, H, I, rw', q⟩
  exact subscriptTail_builtinR (x := w) pl.typeIs slot_tuple_getitem.lookup
    (getItem_tuple (j := j) (Q := fun r s' => r = w ∧ EP X pins σ Q r s') pl (by omega) (by omega) (by rw [List.size_toArray, ← hl]; exact h1) (by simpa using ew) ⟨rfl, fin⟩) hs
/-! ### xs[i] = v, any sign -/
/-- the list's object behind a store -/
theorem mapSeq_set (its : List Value) (n j : Nat) (u : Value) : Obj.mapSeq (·.setIfInBounds j u) { cls := .type "list", data := .seq its.toArray n } = { cls := .type "list", data := .seq (its.set j u).toArray n } := by
  simp [Obj.mapSeq]
theorem Inv.lst {pins : List (Addr × Obj)} {σ : St} {H : Hp} {s : Shared} {p : Addr} {xs : List V} (I : Inv X pins σ H s) (h : H p = some (.lst xs)) :
    ∃ (its : List Value) (n : Nat), Vals xs its ∧ s.heap.get? p = some { cls := .type "list", data := .seq its.toArray n } ∧ xs.length ≤ sizeLine := by
  obtain ⟨z, its, n, r, e⟩ := I.hok p _ h
  exact ⟨its, n, r, e, z⟩
/-- the list at p is written by an update of its object -/
theorem Inv.lstUpd {pins : List (Addr × Obj)} {σ : St} {H : Hp} {s : Shared} {p : Addr} {xs ys : List V} {its its' : List Value} {n n' : Nat} {f : Obj → Obj} (I : Inv X pins σ H s) (h : H p = some (.lst xs))
    (ho : s.heap.get? p = some { cls := .type "list", data := .seq its.toArray n }) (hf : f { cls := .type "list", data := .seq its.toArray n } = { cls := .type "list", data := .seq its'.toArray n' }) (r : Vals ys its') (hz : ys.length ≤ sizeLine) (t : Nat) :
    Inv X pins σ (upd H p (.lst ys)) { s with heap := s.heap.update p f, toks := t } := by
  have e : (s.heap.update p f).get? p = some { cls := .type "list", data := .seq its'.toArray n' } := by
    rw [Heap.get?_update_self f ho (by rw [hf] <;> rfl), hf]
  refine I.write (x := p) (e := p) (by rw [h]; trivial) (.inl rfl) (fun b u hb q => (Heap.get?_update_other _ _ (Ne.symm hb)).trans q) ⟨_, e⟩ ?_
  exact ⟨hz, its', n', r, e⟩
noncomputable def rSetL : V → V → V → Hp → (Hp → Prop) → Prop := fun o i v H Q => ∃ p xs k j, o = .ref p ∧ i = .int k ∧ H p = some (.lst xs) ∧ ixN xs.length k = some j ∧ Q (upd H p (.lst (xs.set j v)))
theorem set_list : PSet X rSetL := by
  intro pins s σ H o i v ov iv u Q I ro ri rv h
  obtain ⟨p, xs, k, j, rfl, rfl, hp, hj, q⟩ := h
  cases ro
  obtain ⟨t, rfl⟩ := ri
  obtain ⟨its, n, r, ho, hz⟩ := I.lst hp
  obtain ⟨h1, h2, h3, h4⟩ := ixN_seq hj
  have hl := r.length
  have hn := line63
  have I' : Inv X pins σ (upd H p (.lst (xs.set j v))) { s with heap := s.heap.update p (Obj.mapSeq (·.setIfInBounds j u)) } :=
    I.lstUpd hp ho (mapSeq_set its n j u) (r.set rv j) (by rw [List.length_set]; exact hz) s.toks
  by_cases h0 : 0 ≤ k
  · have hk : k.toNat = j := by
      rw [seqIndex_of h0 h4] at h1
      exact Option.some.inj h1
    exact PySem.W.ki_setAt ho h0 (by omega) (by rw [List.size_toArray, ← hl]; exact h4) (by rw [hk]; exact ⟨_, I', q⟩)
  · have hk : (k + (its.toArray.size : Int)).toNat = j := by
      rw [seqIndex_neg (by omega) h3] at h1
      rw [List.size_toArray, ← hl]
      exact Option.some.inj h1
    exact PySem.W.ki_setBack ho (by omega) (by rw [List.size_toArray, ← hl]; exact h3) (by omega) (by rw [hk]; exact ⟨_, I', q⟩)

/-! ### slices -/
theorem slice_bounds (lo hi : Option Int) (n : Nat) : (sliceBounds lo hi none n).1 = ((HT.sIx n 0 lo : Nat) : Int) ∧ (sliceBounds lo hi none n).2.1 = ((HT.sIx n n hi : Nat) : Int) ∧ (sliceBounds lo hi none n).2.2 = 1 := by
  refine ⟨?_, ?_, rfl⟩
  · cases lo with
    | none => simp [sliceBounds, HT.sIx]
    | some i =>
      simp only [sliceBounds, HT.sIx, Option.getD_none, show (1 : Int) > 0 by decide, if_true]
      by_cases h : i < 0
      · simp only [h, if_true] <;> omega
      · simp only [h, if_false] <;> omega
  · cases hi with
    | none => simp [sliceBounds, HT.sIx]
    | some i =>
      simp only [sliceBounds, HT.sIx, Option.getD_none, show (1 : Int) > 0 by decide, if_true]
      by_cases h : i < 0
      · simp only [h, if_true] <;> omega
      · simp only [h, if_false] <;> omega
theorem slicePick_cut (its : List Value) (lo hi : Option Int) : slicePick its.toArray lo hi none = ((its.drop (HT.sIx its.length 0 lo)).take (HT.sIx its.length its.length hi - HT.sIx its.length 0 lo)).toArray := by
  obtain ⟨h1, h2, h3⟩ := slice_bounds lo hi its.toArray.size
  unfold slicePick
  rw [h1, h2, h3]
  simp only [sliceRange_one, pick_run, List.size_toArray] <;> rfl
/-- xs[lo:hi] of a list: a new list -/
noncomputable def rSlL (K : PySem.W.Frag) : V → Option Int → Option Int → Hp → VK → Prop := fun x lo hi H Q => ∃ a xs, x = .ref a ∧ SqL K H a xs ∧ ∀ p, H p = none → Q (.ref p) (upd H p (.lst (cutV xs lo hi)))
theorem sl_list : SlR X (rSlL X.K) := by
  intro pins s σ H x v vl vu lo hi sl Q I rx hs pl pu h
  obtain ⟨a, xs, rfl, hx, q⟩ := h
  cases rx
  obtain ⟨its, r, ht, hz⟩ := I.list hx
  have hlen := r.length
  refine ⟨"list", _, slot_list_getitem.lookup, ht.isList.typeIs, ?_⟩
  refine wpAny_getItem_list_slice ht.isList hs pl pu .none (by simp) ?_ (by rw [List.size_toArray] <;> omega)
  rw [slicePick_cut, ← hlen]
  refine ⟨.ref s.heap.objs.size, _, I.laid (t' := s.toks) (o := .lst (cutV xs lo hi)) (fun b ob q => Heap.get?_push_of_some _ q) (Nat.le_refl _) ?_, rfl, q _ (I.hok.fresh (Nat.le_refl _))⟩
  exact ⟨Nat.le_trans (cutV_length xs lo hi) hz, _, 0, (r.drop (HT.sIx xs.length 0 lo)).take (HT.sIx xs.length xs.length hi - HT.sIx xs.length 0 lo), Heap.get?_push_size _ rfl⟩

/-! ### in, not in: flat items -/
/-! ### len, list(x), tuple(x) of any list or tuple that is read -/
theorem call_len_seq : CallR X (.builtin "len") (fun xs H Q => ∃ p ys, xs = [.ref p] ∧ (SqL X.K H p ys ∨ SqT X.K H p ys) ∧ Q (.int ys.length) H) := by
  intro pins s σ H xs us Q I r h
  obtain ⟨p, ys, rfl, hq, q⟩ := h
  obtain ⟨u, rfl, rx⟩ := vals1 r
  cases rx
  have hn := line63
  rcases hq with hq | hq
  · obtain ⟨its, r', pl, hz⟩ := I.list hq
    have hlen := r'.length
    exact Calls.call_len_list pl.isList (by simp only [List.size_toArray] <;> omega) ⟨.int ys.length, H, I.tok _, ⟨s.toks + 1, by rw [List.size_toArray, hlen]⟩, q⟩
  · obtain ⟨its, r', pl, hz⟩ := I.tuple hq
    have hlen := r'.length
    exact len_tuple pl (by simp only [List.size_toArray] <;> omega) ⟨.int ys.length, H, I.tok _, ⟨s.toks + 1, by rw [List.size_toArray, hlen]⟩, q⟩
/-! ### the call of a builtin's method: o.m(..) -/
/-- the value is of that builtin type -/
noncomputable def tyV (K : PySem.W.Frag) (T : String) (x : V) (H : Hp) : Prop := match x with
  | .str _ => T = "str"
  | .int _ => T = "int"
  | .ref p => (T = "list" ∧ ∃ xs, SqL K H p xs) ∨ (T = "tuple" ∧ ∃ o, K.lookup p = some o ∧ o.cls = .type "tuple" ∧ o.dict = none) ∨
      (T = "dict" ∧ ((∃ kvs, H p = some (.dK kvs)) ∨ ∃ kvs, H p = some (.dT kvs))) ∨ (T = "set" ∧ ∃ S n, H p = some (.set S n))
  | _ => False
theorem tyV_is {pins : List (Addr × Obj)} {σ : St} {H : Hp} {s : Shared} {T : String} {x : V} {v : Value} (I : Inv X pins σ H s) (r : RelV x v) (ty : tyV X.K T x H) :
    s.TypeIs v T ∧ ∀ a, v = .ref a → ∃ ob, s.heap.get? a = some ob ∧ ob.dict = none := by
  cases x with
  | str z =>
    obtain ⟨t, rfl⟩ := r
    cases (show T = "str" from ty)
    exact ⟨typeIs_str s z t, fun _ e => nomatch e⟩
  | int i =>
    obtain ⟨t, rfl⟩ := r
    cases (show T = "int" from ty)
    exact ⟨typeIs_int s i t, fun _ e => nomatch e⟩
  | ref p =>
    cases r
    rcases ty with ⟨rfl, xs, hq⟩ | ⟨rfl, o, hk, hc, hd⟩ | ⟨rfl, hk⟩ | ⟨rfl, S, n, hk⟩
    · obtain ⟨its, _, pl, _⟩ := I.list hq
      refine ⟨pl.isList.typeIs, fun a e => ?_⟩
      cases e
      obtain ⟨o, n, e, c, hd, _⟩ := pl
      exact ⟨o, e, hd⟩
    · refine ⟨⟨o, I.kIn p o hk, hc⟩, fun a e => ?_⟩
      cases e
      exact ⟨o, I.kIn _ o hk, hd⟩
    · have z : ∃ o, s.heap.get? p = some o ∧ o.ExactDict := by
        rcases hk with ⟨kvs, hk⟩ | ⟨kvs, hk⟩
        · obtain ⟨_, _, _, _, o, _, _, e, ex, _⟩ := I.hok p _ hk
          exact ⟨o, e, ex⟩
        · obtain ⟨_, _, _, _, o, _, _, e, ex, _⟩ := I.hok p _ hk
          exact ⟨o, e, ex⟩
      obtain ⟨o, e, ex⟩ := z
      refine ⟨⟨o, e, ex.1⟩, fun a e2 => ?_⟩
      cases e2
      exact ⟨o, e, ex.2.1⟩
    · obtain ⟨o, _, _, _, e, ex, _⟩ := I.hok p _ hk
      refine ⟨⟨o, e, ex.1⟩, fun a e2 => ?_⟩
      cases e2
      exact ⟨o, e, ex.2.1⟩
  | _ => exact False.elim ty
noncomputable def tBM0 (K : PySem.W.Frag) (T : String) (r : V → List V → Hp → VK → Prop) (to : TE) : TE := fun σ H Q => to σ H fun x H1 => tyV K T x H1 ∧ r x [] H1 Q
noncomputable def tBM (K : PySem.W.Frag) (T : String) (r : V → List V → Hp → VK → Prop) (to : TE) (t : TA) : TE := fun σ H Q => to σ H fun x H1 => tyV K T x H1 ∧ t σ H1 fun xs H2 => r x xs H2 Q
variable {o e : Expr} {es : List Expr} {to : TE} {t : TA} {name : Str} {apos cpos : Pos} {T id : String} {r : V → List V → Hp → VK → Prop}
theorem pe_bm0 (pa : PlainAttrs T) (slot : Slot T name id) (hty : typeOf (.builtin id) = pure (.type "method_descriptor")) (hm : MtR X id r) (ho : PE X o to)
    (hbase : attributeBase o name X.env (eval o X.env) = eval o X.env := by rfl) (hline : (apos.endLine == cpos.line) = true := by rfl) : PE X (.Call (.Attribute o name apos) [] [] cpos) (tBM0 X.K T r to) := by
  intro pins s σ H Q I h
  refine wpAny_Call_method0_late hbase hline (thn (ho pins s σ H _ I h) fun v s1 ⟨x, H1, I1, r1, ty, q1⟩ => ?_)
  obtain ⟨h1, h2⟩ := tyV_is I1 r1 ty
  exact ⟨T, id, pa, slot, hty, h1, h2, Calls.callWith_builtin rfl (PySem.evalArgs_none (hm pins s1 σ H1 x [] v [] Q I1 r1 .nil q1))⟩
theorem pe_bm (pa : PlainAttrs T) (slot : Slot T name id) (hty : typeOf (.builtin id) = pure (.type "method_descriptor")) (hm : MtR X id r) (ho : PE X o to) (ha : PA X (e :: es) t)
    (hbase : attributeBase o name X.env (eval o X.env) = eval o X.env := by rfl)
    (hfew : ((backTo cpos (starEach (e :: es) X.env)).all (fun x => !x.1) && (backToKw cpos (keywordEach [] X.env)).all (fun x => x.1.isSome)
      && decide ((e :: es).length + ([] : List Keyword).length + (if ([] : List Keyword).isEmpty then 0 else 1) < 30)) = true := by rfl)
    (hline : (apos.endLine == cpos.line) = true := by rfl) (hs : starEach (e :: es) X.env = (false, eval e X.env) :: starEach es X.env := by rfl) (hplain : (backTo cpos (starEach es X.env)).any (·.1) = false := by rfl) :
    PE X (.Call (.Attribute o name apos) (e :: es) [] cpos) (tBM X.K T r to t) := by
  intro pins s σ H Q I h
  refine wpAny_Call_method_late hbase hfew hline rfl (thn (ho pins s σ H _ I h) fun v s1 ⟨x, H1, I1, r1, ty, q1⟩ => ?_)
  obtain ⟨h1, h2⟩ := tyV_is I1 r1 ty
  refine ⟨T, id, pa, slot, hty, h1, h2, ?_⟩
  have hA := ha cpos pins s1 σ H1 _ I1 q1
  rw [hs] at hA ⊢
  refine Calls.callWith_builtin (by show (false || (backTo cpos (starEach es X.env)).any (·.1)) = false; rw [hplain] <;> rfl) (Calls.evalArgs_plain ?_)
  exact thn hA fun us s2 ⟨vs, H2, I2, r2, q2⟩ => hm pins s2 σ H2 x vs v us Q I2 r1 r2 q2
/- xs.append(e), list.index on a module's tuple .. are MtR facts of 06m -/
end
end L2

namespace L2
open PySem PySem.Spec PyProof.Rows

noncomputable def MtM (X : Cx) (id : String) (r : V → List V → Hp → VK → Prop) : Prop :=
  ∀ (pins : List (Addr × Obj)) (s : Shared) (σ : St) (H : Hp) (x : V) (xs : List V) (v : Value) (us : List Value) (Q : VK), Inv X pins σ H s → RelV x v → Vals xs us → r x xs H Q →
    wpAny (model X.prog X.w) X.A (call (.builtin id) (v :: us)) (EP X pins σ Q) X.xe s

/-! ### lists of values -/
theorem Vals.one : ∀ {x : V} {us : List Value}, Vals [x] us → ∃ u, us = [u] ∧ RelV x u
  | _, _, .cons r .nil => ⟨_, rfl, r⟩
theorem Vals.two : ∀ {x y : V} {us : List Value}, Vals [x, y] us → ∃ u v, us = [u, v] ∧ RelV x u ∧ RelV y v
  | _, _, _, .cons r (.cons q .nil) => ⟨_, _, rfl, r, q⟩
theorem Vals.reverse {xs : List V} {us : List Value} (h : Vals xs us) : Vals xs.reverse us.reverse := by
  induction h with
  | nil => exact .nil
  | cons r t ih => rw [List.reverse_cons, List.reverse_cons]; exact Vals.append ih (.cons r .nil)
section
variable {X : Cx} {pins : List (Addr × Obj)} {σ : St} {H : Hp} {s : Shared} {l b : Addr} {xs ys zs : List V}

/-! ### the two steps: a tracked list is rewritten, a new list is laid -/
theorem Inv.lset {its its' : List Value} {n : Nat} {f : Array Value → Array Value} {t' : Nat} (I : Inv X pins σ H s) (hH : H l = some (.lst xs))
    (e : s.heap.get? l = some { cls := .type "list", data := .seq its.toArray n }) (hf : f its.toArray = its'.toArray) (hv : Vals ys its') (hz : ys.length ≤ sizeLine) :
    Inv X pins σ (upd H l (.lst ys)) { s with heap := s.heap.update l (Obj.mapSeq f), toks := t' } := by
  have q := PySem.IsL.update e f
  rw [hf] at q
  refine I.write (x := l) (e := l) (by rw [hH]; exact trivial) (.inl rfl) (fun b' u hb hu => (Heap.get?_update_other s.heap (Obj.mapSeq f) (Ne.symm hb)).trans hu) ⟨_, q⟩ ?_
  exact ⟨hz, its', _, hv, q⟩
theorem Inv.lnew {its : List Value} {t' : Nat} (I : Inv X pins σ H s) (hv : Vals ys its) (hz : ys.length ≤ sizeLine) :
    Inv X pins σ (upd H s.heap.objs.size (.lst ys)) { s with heap := s.heap.push { cls := .type "list", data := .seq its.toArray }, toks := t' } :=
  I.laid (fun _ _ q => Heap.get?_push_of_some _ q) (Nat.le_refl _) ⟨hz, its, 0, hv, Heap.get?_push_size _ rfl⟩
theorem Inv.fresh (I : Inv X pins σ H s) : H s.heap.objs.size = none := I.hok.fresh (Nat.le_refl _)
theorem Inv.lstM (I : Inv X pins σ H s) (hH : H l = some (.lst xs)) : xs.length ≤ sizeLine ∧ ∃ (its : List Value) (n : Nat), Vals xs its ∧ xs.length = its.length ∧ s.heap.get? l = some { cls := .type "list", data := .seq its.toArray n } := by
  obtain ⟨z, its, n, r, e⟩ := I.hok l _ hH
  exact ⟨z, its, n, r, r.length, e⟩

theorem notLongL {n : Nat} (h : n ≤ sizeLine) : Builtin.List.listTooLong n = false := by
  unfold Builtin.List.listTooLong
  exact decide_eq_false (by omega)
end

section
variable {X : Cx}

/-! ### methods -/
noncomputable def rAppend : V → List V → Hp → VK → Prop := fun x vs H Q => ∃ l xs y, x = .ref l ∧ vs = [y] ∧ H l = some (.lst xs) ∧ xs.length < sizeLine ∧ Q .non (upd H l (.lst (xs ++ [y])))
theorem mt_append : MtM X "list.append" rAppend := by
  intro pins s σ H x vs v us Q I rx rv h
  obtain ⟨l, xs, y, rfl, rfl, hH, hz, q⟩ := h
  cases rx
  obtain ⟨u, rfl, ru⟩ := rv.one
  obtain ⟨z, its, n, r, hl, e⟩ := I.lstM hH
  refine call_meets F.slot_list_append ⟨_, e, rfl⟩ F.entry_list_append (F.args_list_append_2 _ _) (PySem.list_append l its.toArray n u (by rw [List.size_toArray]; omega)) ⟨e, ?_⟩
  refine ⟨.non, _, I.lset (its' := its ++ [u]) hH e (by simp) (r.append (.cons ru .nil)) ?_, rfl, q⟩
  rw [List.length_append, List.length_singleton]
  omega

noncomputable def rExtend : V → List V → Hp → VK → Prop := fun x vs H Q => ∃ l b xs zs, x = .ref l ∧ vs = [.ref b] ∧ H l = some (.lst xs) ∧ H b = some (.lst zs) ∧ xs.length + zs.length ≤ sizeLine ∧ Q .non (upd H l (.lst (xs ++ zs)))
theorem mt_extend : MtM X "list.extend" rExtend := by
  intro pins s σ H x vs v us Q I rx rv h
  obtain ⟨l, b, xs, zs, rfl, rfl, hH, hB, hz, q⟩ := h
  cases rx
  obtain ⟨u, rfl, ru⟩ := rv.one
  cases ru
  obtain ⟨z, its, n, r, hl, e⟩ := I.lstM hH
  obtain ⟨z2, its2, n2, r2, hl2, e2⟩ := I.lstM hB
  have hsz : its.toArray.size + its2.toArray.size ≤ sizeLine := by rw [List.size_toArray, List.size_toArray]; omega
  have hlong : ¬ (!its.toArray.isEmpty && Builtin.List.listTooLong (its.toArray.size + its2.toArray.size)) = true := by
    rw [notLongL hsz, Bool.and_false]
    exact Bool.false_ne_true
  refine call_meets F.slot_list_extend ⟨_, e, rfl⟩ F.entry_list_extend (F.args_list_extend_2 _ _)
    (AutoSeq1.list_extend_list_list_0 l its.toArray n b its2.toArray n2 hlong (by rw [List.size_toArray]; omega) (by omega)) ⟨e, e2, ?_⟩
  refine ⟨.non, _, I.lset (its' := its ++ its2) hH e (by simp) (r.append r2) ?_, rfl, q⟩
  rw [List.length_append]
  omega

/-! ### list + list, list += list, list * int -/
noncomputable def rCat : R2 := fun x y H Q => ∃ l b xs zs, x = .ref l ∧ y = .ref b ∧ H l = some (.lst xs) ∧ H b = some (.lst zs) ∧ xs.length + zs.length ≤ sizeLine ∧ ∀ p, H p = none → Q (.ref p) (upd H p (.lst (xs ++ zs)))
theorem op_cat : OpR X (binaryOp .Add) rCat := by
  intro pins s σ H x y v u Q I rx ry h
  obtain ⟨l, b, xs, zs, rfl, rfl, hH, hB, hz, q⟩ := h
  cases rx
  cases ry
  obtain ⟨z, its, n, r, hl, e⟩ := I.lstM hH
  obtain ⟨z2, its2, n2, r2, hl2, e2⟩ := I.lstM hB
  refine PySem.P.add_list e e2 ?_ (by rw [List.size_toArray, List.size_toArray]; omega)
  have ea : its.toArray ++ its2.toArray = (its ++ its2).toArray := by simp
  rw [ea]
  exact ⟨.ref _, _, I.lnew (t' := s.toks) (r.append r2) (by rw [List.length_append]; omega), rfl, q _ I.fresh⟩
/-! ### del xs[i] -/
end

/-! ### xs[a:b] = ys -/
section
variable {prog : Program} {w : World} {A : Around} {E : Value → Shared → Prop} {s : Shared}
theorem splice_eq (its its2 : List Value) (a c : Nat) : its.toArray.extract 0 a ++ its2.toArray ++ its.toArray.extract c its.toArray.size = (its.take a ++ its2 ++ its.drop c).toArray := by
  apply Array.toList_inj.mp
  first
    | (simp
       exact List.take_of_length_le (by simp))
    | simp [List.take_of_length_le]
    | simp
end

section
variable {X : Cx}
end
end L2

namespace Att
open PySem PySem.W PySem.Calls PyProof.Rows

/-! ### the script -/
theorem ints_of_wellAll {P : Params} {h : Heap} : ∀ (ns : List Int) (vs : List Value), WellAll P h vs (ns.map WData.int) → IntsAre vs ns := by
  intro ns
  induction ns with
  | nil =>
    intro vs w
    rw [List.map_nil] at w
    cases w
    exact .nil
  | cons n ns ih =>
    intro vs w
    rw [List.map_cons] at w
    cases w with
    | cons a b =>
      cases a
      exact .cons _ _ (ih _ b)

theorem script_of {l : OpenLaw} {n : Nat} (hn : l.most = some n) {P : Params} {h : Heap} {args : List WData} {vals : List Value}
    (hpre : l.row.toRowW.claim.pre args = true) (hwl : WellAll P h vals args) :
    ∃ a vs ns, vals = [Value.ref a] ∧ args = [WData.list (ns.map WData.int)] ∧ h.get? a = some { cls := .type "list", data := .seq vs.toArray } ∧ IntsAre vs ns ∧ ns.length ≤ n := by
  have hsh : WShape.hasAll [] args [.list .int] = true := (pre_splitW hpre).1
  have hc : l.pre.holds [] { args := args } = true := (pre_splitW hpre).2
  obtain ⟨d, r, rfl, h1, h2⟩ := hasAllW_cons hsh
  obtain rfl := hasAllW_nil h2
  obtain ⟨xs, rfl, h3⟩ := hasW_list h1
  obtain ⟨ns, rfl⟩ := items_int h3
  have hlen : ns.length ≤ n := by
    unfold OpenLaw.pre at hc
    have h4 : (WTm.not (.lt (.lit (.int (n : Int))) (.len (.arg 0)))).holds [] { args := [.list (ns.map .int)] } = true := by
      have h4 := (holds_andW hc).1
      rw [hn] at h4
      exact h4
    have h5 := condW_of h4 (w_not (w_lt w_lit (w_len_list (w_arg rfl))))
    rw [List.length_map] at h5
    refine Nat.le_of_not_lt fun q => ?_
    have q' : (n : Int) < ((ns.length : Nat) : Int) := by omega
    first
      | (rw [decide_eq_true q'] at h5; exact absurd h5 (by decide))
      | (simp at h5; omega)
  cases hwl with
  | cons w1 w2 =>
    cases w2
    cases w1 with
    | list ho hall => exact ⟨_, _, ns, rfl, rfl, ho, ints_of_wellAll ns _ hall, hlen⟩

theorem post_true (l : OpenLaw) (args : List WData) : l.row.toRowW.claim.post args (.bool true) args = true :=
  postW_of (r := l.row.toRowW) (X := (true == true))
    (show WShape.has [] (.bool true) .bool = true by first | rfl | decide | simp [WShape.has, WShape.arms, WShape.armsAll])
    (show (WTm.eq .res (.lit (.bool true))).value [] { args := args, res := some (.bool true), after := args } = some (.bool (true == true)) from w_eq_bool (w_res rfl) w_lit) rfl

/-! ### the attachment: holds_open's last premise (the goal 'hc' behind k_head) from a wpAny of the law's body -/
/-- the same from a codeAny of the CALL (for a layer whose function contracts speak of calls) -/
theorem attach_call {l : OpenLaw} {n : Nat} {q : Program} {loose : List Str} {XP : (Str → Option Value) → Heap → Prop} {YP : World → Heap → Prop} {d : DefRec}
    (hn : l.most = some n) (hdf : d.params.defaults = [])
    (call : ∀ (w : World) (s₀ s₁ : Shared) (mg mb : Str → Option Value) (fa : Addr) (o : Obj) (pm cd doc : Value) (a : Addr) (vs : List Value) (ns : List Int),
      Ground q loose [] XP w s₀ mg mb s₁.heap → YP w s₁.heap →
      s₁.heap.get? fa = some o → o.data = .func (docDef d.name d.params d.body d.scope pm cd doc) → s₁.heap.CodeRec cd d.name → mg d.name = some (.ref fa) →
      s₁.heap.get? a = some { cls := .type "list", data := .seq vs.toArray } → IntsAre vs ns → ns.length ≤ n → s₁.gens = #[] →
      codeAny (model l.prog w) callerA (.call (.ref fa) ⟨[.ref a], []⟩) (fun r s' => r = .ok (.ret (.bool true)) ∧ OldK s₁.heap s'.heap ∧ s'.os = s₁.os ∧ AllBare s'.gens) s₁) :
    WalkO q loose XP YP l.row.toRowW d [] (fun f vs => PySem.call f vs) := by
  intro w s₀ s₁ mg mb G Y fa o pm cd doc dV kV ho hd hcd hD hmg hg args vals as hpre hlay hrd hwl hlo
  obtain rfl : dV = .none := Dflts.none hD hdf
  obtain rfl : kV = .none := Dflts.noKw hD
  obtain ⟨a, vs, ns, rfl, rfl, hobj, hints, hlen⟩ := script_of hn hpre hwl
  refine enter_call (codeAny_mono (call w s₀ s₁ mg mb fa o pm cd doc a vs ns G Y ho (fd_plain hd) hcd hmg hobj hints hlen hg) fun r s' hq => ?_)
  obtain ⟨rfl, h2, h3, h4⟩ := hq
  exact ⟨.inl ⟨.bool true, .bool true, [], rfl, fun _ => rfl, .bool true, post_true l _, fun _ => ⟨List.Pairwise.nil, fun _ hm => (nomatch hm)⟩⟩, h2, h3, h4⟩

/-! ### rules over ANY heap (no ledger) from facts about the written part K: the library's own take a ledger (News) for what they write -/
section
variable {prog : Program} {w : World} {A : Around} {E : Value → Shared → Prop} {s : Shared} {K : Frag}

/-! the whole heap as the ledger: makes every rule that writes through a ledger a rule over any heap -/
end
end Att

namespace L2
open PySem PySem.Spec PyProof.Rows

theorem vals_ints : ∀ {vs : List Value} {ns : List Int}, IntsAre vs ns → Vals (ns.map V.int) vs
  | _, _, .nil => .nil
  | _, _, .cons n t h => .cons ⟨t, rfl⟩ (vals_ints h)

/-- nothing is tracked but the script, known to the object (or it is an object of the module) -/
noncomputable def Only (H : Hp) : Prop := ∀ b, H b = none ∨ ∃ o xs, H b = some (.frz o (.lst xs))

/-- THE HEAD: the law's promise, at the heap behind the top. F, the promise of the law's def, may use that base is part of the heap (so K.In base, base.Ns mainGlobals mg stand in Mod) -/
theorem law_call {P : Program} {w : World} {K : PySem.W.Frag} {mg mb : Str → Option Value} {CX : CXT} {k : Nat} {fa a : Addr} {fd : FuncData} {x : Str} {sp : Sp} {s₁ : Shared} {vs : List Value} {ns : List Int}
    (KX : K.In s₁.heap) (hns : s₁.heap.Ns mainGlobals mg) (hb : s₁.heap.Ns builtinsNs mb) (hbb : ∀ x : Str, x ≠ "__name__" → mb x = bootBuiltins x) (hlim : s₁.heap.NoLimit) (hg : s₁.gens = #[])
    (ha : s₁.heap.get? a = some { cls := .type "list", data := .seq vs.toArray }) (hi : IntsAre vs ns) (hl : ns.length ≤ sizeLine) (hr : Room k callerA)
    (F : ∀ base : Heap, K.In base → base.Ns mainGlobals mg → FnOk P w K mg base CX k fa fd [x] sp) (hbind : ∀ (s : Shared) (u : Value), BindsTo s fd ⟨[u], []⟩ [(x, u)])
    (hsp : ∀ H : Hp, Only H → SqL K H a (ns.map V.int) → sp [.ref a] H (fun v _ => v = .bl true) fun _ _ _ => False)
    (hCX : ∀ H e s', CX [] H s₁ (fun _ _ _ => False) e s' → False) :
    codeAny (model P w) callerA (.call (.ref fa) ⟨[.ref a], []⟩) (fun r s' => r = .ok (.ret (.bool true)) ∧ OldK s₁.heap s'.heap ∧ s'.os = s₁.os ∧ AllBare s'.gens) s₁ := by
  have rv := vals_ints hi
  have lenV := hi.length
  -- from an abstract heap in which nothing but the script may be tracked
  have core : ∀ H : Hp, Only H → SqL K H a (ns.map V.int) → HOk P w H s₁.heap → (∀ b, H b ≠ none → b = a) → (H a ≠ none → K.lookup a = none) →
      codeAny (model P w) callerA (.call (.ref fa) ⟨[.ref a], []⟩) (fun r s' => r = .ok (.ret (.bool true)) ∧ OldK s₁.heap s'.heap ∧ s'.os = s₁.os ∧ AllBare s'.gens) s₁ := by
    intro H hO hS hok hA hK
    have base_of : ∀ {b : Addr} {o : Obj}, s₁.heap.get? b = some o → H b = none → (hidT s₁.heap H).get? b = some o := fun e n => hidT_get e n
    have noA : ∀ {b : Addr} {o : Obj} {es : Array DictEntry} {ep : Nat}, s₁.heap.get? b = some o → o.data = .dict es ep → H b = none := fun {b o es ep} e d => by
      cases q : H b with
      | none => rfl
      | some u =>
        have e' : b = a := hA b (by rw [q]; simp)
        subst e'
        rw [ha] at e; cases e
        have d' : Data.seq vs.toArray _ = Data.dict es ep := d
        cases d'
    have nsK : ∀ {b : Addr} {m : Str → Option Value}, s₁.heap.Ns b m → (hidT s₁.heap H).Ns b m := fun {b m} ⟨o, es, ep, e, d, r⟩ => ⟨o, es, ep, base_of e (noA e d), d, r⟩
    have hKb : K.In (hidT s₁.heap H) := fun b o e => base_of (KX b o e) (by
      cases q : H b with
      | none => rfl
      | some u =>
        have e' : b = a := hA b (by rw [q]; simp)
        subst e'
        rw [hK (by rw [q]; simp)] at e; cases e)
    have hM : Mod K mg (hidT s₁.heap H) := ⟨hKb, nsK hns, ⟨mb, nsK hb, hbb⟩, let ⟨mc, h1, h2⟩ := hlim; ⟨mc, nsK h1, h2⟩⟩
    have e0 : Env0 P w K mg (hidT s₁.heap H) callerA [] s₁ H := ⟨rfl, hM, fun b o e => of_hidT e, Nat.le_of_eq (hidT_size _ _), trivial, fun b hb => absurd (show b ∈ ([] : List Addr) from hb) (by simp), hok, .of_eq hg⟩
    refine codeAny_mono ((F _ hKb (nsK hns)).run callerA [] s₁ H ⟨[.ref a], []⟩ [.ref a] [.ref a] _ _ hr e0 (hbind s₁ (.ref a)) (.cons rfl .nil) (hsp H hO hS)) fun r s' h => ?_
    cases r with
    | error e => exact (hCX H e s' h).elim
    | ok fl =>
      cases fl with
      | next => exact False.elim h
      | brk => exact False.elim h
      | cont => exact False.elim h
      | ret u =>
        obtain ⟨v, H', os, bare, un, hok', r', q⟩ := h
        have q' : v = .bl true := q
        subst q'
        obtain rfl : u = Value.bool true := r'
        refine ⟨rfl, OldK.of_keep fun b o e => ?_, os, bare⟩
        cases q : H b with
        | none => exact un.keep b o e q (by intro z; exact absurd (show b ∈ ([] : List Addr) from z) (by simp)) (by simp)
        | some u =>
          rcases hO b with z | ⟨ob, xs, z⟩
          · rw [q] at z; cases z
          · have z2 := un.frzs b ob _ z
            obtain ⟨e1, _⟩ := hok b _ z
            obtain ⟨e2, _⟩ := hok' b _ z2
            rw [e] at e1; cases e1
            exact e2
  cases hk : K.lookup a with
  | some o =>
    -- the script is one of the module's own objects
    have e := KX a o hk
    rw [ha] at e
    cases e
    refine core (fun _ => none) (fun _ => .inl rfl) (.inr ⟨_, vs.toArray, _, hk, rfl, rfl, rfl, by rw [List.size_toArray, lenV]; exact hl, by simpa using rv⟩) (fun b u z => by have z' : (none : Option HO) = some u := z; cases z') (fun b z => absurd rfl z) fun z => absurd rfl z
  | none =>
    refine core (fun b => if b = a then some (.frz { cls := .type "list", data := .seq vs.toArray } (.lst (ns.map V.int))) else none) (fun b => ?_) (.inl (.inr ⟨{ cls := .type "list", data := .seq vs.toArray }, if_pos rfl⟩)) (fun b u z => ?_) (fun b z => ?_) fun _ => hk
    · by_cases hb : b = a
      · exact .inr ⟨_, _, if_pos hb⟩
      · exact .inl (if_neg hb)
    · by_cases hb : b = a
      · have z' := (if_pos hb).symm.trans z
        cases z'
        subst hb
        exact ⟨ha, by rw [List.length_map]; exact hl, vs, _, rv, ha⟩
      · have z' := (if_neg hb).symm.trans z
        cases z'
    · by_cases hb : b = a
      · exact hb
      · exact absurd (if_neg hb) z
end L2

namespace L2
open PySem PySem.Spec PyProof.Rows

/-- the goal that k_head leaves (case hc), from the law's promise. F gives the function object fd (K's own) once, then the promise over every base -/
theorem walk_of {l : PySem.W.OpenLaw} {n k : Nat} {q : Program} {loose : List Str} {XP : (Str → Option Value) → Heap → Prop} {YP : World → Heap → Prop} {d : DefRec} {K : Params → PySem.W.Frag} {CX : World → CXT} {sp : World → Sp} {x : Str}
    (hn : l.most = some n) (hn2 : n ≤ sizeLine) (hdf : d.params.defaults = []) (hr : Room k callerA)
    (hY : ∀ (w : World) (h : Heap), YP w h → (K w.params).In h)
    (F : ∀ (w : World) (mg : Str → Option Value) (fa : Addr) (h : Heap), (K w.params).In h → h.Ns mainGlobals mg → mg d.name = some (.ref fa) →
      ∃ fd : FuncData, (∀ (s : Shared) (u : Value), BindsTo s fd ⟨[u], []⟩ [(x, u)]) ∧
        ∀ base : Heap, (K w.params).In base → base.Ns mainGlobals mg → FnOk l.prog w (K w.params) mg base (CX w) k fa fd [x] (sp w))
    (hsp : ∀ (w : World) (H : Hp) (a : Addr) (ns : List Int), ns.length ≤ n → Only H → SqL (K w.params) H a (ns.map V.int) → sp w [.ref a] H (fun v _ => v = .bl true) fun _ _ _ => False)
    (hCX : ∀ (w : World) (H : Hp) (s : Shared) (e : Value) (s' : Shared), CX w [] H s (fun _ _ _ => False) e s' → False) :
    PySem.W.WalkO q loose XP YP l.row.toRowW d [] (fun f vs => PySem.call f vs) := by
  refine Att.attach_call hn hdf fun w s₀ s₁ mg mb fa o pm cd doc a vs ns G Y ho hd hcd hmg hobj hints hlen hg => ?_
  have KX := hY w _ Y
  obtain ⟨fd, hb, hF⟩ := F w mg fa _ KX G.T.g hmg
  exact law_call KX G.T.g G.T.b G.T.builtins G.T.nolimit hg hobj hints (Nat.le_trans hlen hn2) hr hF hb (fun H hO hS => hsp w H a ns hlen hO hS) fun H e s' => hCX w H s₁ e s'
end L2

/- THE LAST THEOREM (shape; LID, My.* are yours):
   My.Adr: a structure of the addresses that your layer names (classes, functions); My.Txt K t: a structure (Prop) of the equations over K;
   My.txt_mk : {K} {implicit addresses ..} (e1 : nsIn K mainGlobals "law" = some (some (.ref f))) (e2 : K.lookup f = some ⟨oc, od, .func (fnOf "law" "law" params body scope dV kV doc pm an cdv ct), sl⟩) (e3 : codeIn K cdv "law" = true) .. : ∃ t, My.Txt K t

set_option maxRecDepth 100000 in
set_option maxHeartbeats 0 in
theorem PySem.Challenge.cw_LID_holds : PySem.Challenge.rw_LID.Holds := by
  w_on; o_law; k_head; (case hw => w_witness2)
  k_fill
  refine L2.walk_of (l := PySem.Challenge.rw_LID) (n := 63) (k := 40) (x := "script") (CX := fun w => ..) (sp := fun _ => My.sp_law) rfl (by decide) rfl ⟨rfl, by decide, by decide⟩ (fun w h Y => PySem.W.kIn_of Y) ?F ?S ?C
  case F =>
    intro w mg fa h KX G hmg
    have T : ∃ t, My.Txt (L2.KOf KX) t := by
      dsimp only [L2.KOf]                          -- K must stand as «<heap const> w.params» for k_is
      refine' My.txt_mk ?e1 ?e2 ?e3 ..
      (case e1 => PySem.W.k_is)                    -- in the order: a name -> its address -> its object -> its parts
      (case e2 => PySem.W.k_is)
      ..
    obtain ⟨t, T⟩ := T
    have e0 := hmg.symm.trans (PySem.W.mg_of KX G T.law)
    cases e0                                       -- fa is the law's own address
    exact ⟨_, fun s u => .of_eq rfl, fun base kb nb => My.law_fn T kb nb⟩     -- if «.of_eq rfl» comes too early: refine' ⟨_, ?b, fun base kb nb => My.law_fn T kb nb⟩; exact fun s u => .of_eq rfl
  case S => exact fun w H a ns hl hO hS => ..
  case C => exact ..
(the tactic k_is has no namespace: write k_is) -/

/-! SHORT WORDS over the layer: a def of the text, its body, what a loop and a test want. -/
namespace L2
open PySem PySem.Spec PyProof.Rows

/-! ### the text by places -/
noncomputable def defArgs (s : Stmt) : Arguments := match s with
  | .FunctionDef _ a _ _ _ _ _ _ _ _ => a
  | _ => { posonlyargs := [], args := [], vararg := none, kwonlyargs := [], kw_defaults := [], kwarg := none, defaults := [] }
noncomputable def defBody (s : Stmt) : List Stmt := match s with
  | .FunctionDef _ _ b _ _ _ _ _ _ _ => b
  | _ => []
noncomputable def defScope (s : Stmt) : Scope := match s with
  | .FunctionDef _ _ _ _ _ _ sc _ _ _ => sc
  | _ => { kind := .function, names := [], isGenerator := false, isCoroutine := false }

/-! ### no exception leaves a def -/
noncomputable abbrev CX0 : CXT := fun _ _ _ _ _ _ => False
noncomputable abbrev E0 : XK := fun _ _ _ => False
theorem pass0 {X : Cx} : Passes CX0 X E0 := fun _ _ _ _ _ _ _ h => h.elim

/-! ### a def (or method) of the text as it stands behind the top -/
structure Fun (K : PySem.W.Frag) (x qual : Str) (st : Stmt) (f : Addr) (fd : FuncData) : Prop where
  ex : ∃ (oc : Value) (od : Option Addr) (kV doc pm : Value) (an : Option Addr) (cdv ct : Value) (osl : Array (Option Value)),
    fd = PySem.W.fnOf x qual (defArgs st) (defBody st) (defScope st) .none kV doc pm an cdv ct ∧ K.lookup f = some ⟨oc, od, .func fd, osl⟩ ∧ PySem.W.codeIn K cdv qual = true
  kp : PySem.W.keepIn K (.ref f) = true
section
variable {P : Program} {w : World} {K : PySem.W.Frag} {mg : Str → Option Value} {base : Heap}
/-- THE RULE for a def: its body as a term of rules, and the reading of that term -/
theorem Fun.ok {x qual : Str} {st : Stmt} {f : Addr} {fd : FuncData} {N ps : List Str} {k : Nat} {sp : Sp} (F : Fun K x qual st f fd) (S : FnScope N ps (defScope st)) (len : ∀ vs H Q E, sp vs H Q E → vs.length = ps.length)
    (hbody : ∀ (cdv : Value) (A : Around) (outer : List Env) (s : Shared) (H : Hp) (vs : List V) (Q : VK) (E : XK), Room k (A.deeper (envOfC qual (defScope st) s.heap.objs.size f cdv)) → sp vs H Q E →
      ∃ t, PSs (cxOf CX0 P w K mg base N qual (defScope st) f cdv A outer s H E).nox (defBody st) t ∧ t { nx := fun _ H' => Q .non H', rt := Q } (start N vs) H) : FnOk P w K mg base CX0 (k + 1) f fd ps sp := by
  obtain ⟨oc, od, kV, doc, pm, an, cdv, ct, osl, rfl, lk, hcd⟩ := F.ex
  refine fn_of lk hcd S len fun A outer s H vs Q E hr hsp => ?_
  obtain ⟨t, h, q⟩ := hbody cdv A outer s H vs Q E hr hsp
  exact ⟨t, h.nox, q⟩
/-- how its arguments bind (no defaults): h is «fun _ _ _ _ _ _ us hl => match us, hl with | [_, _], _ => rfl», one _ a parameter -/
theorem Fun.binds {x qual : Str} {st : Stmt} {f : Addr} {fd : FuncData} {ps : List Str} (F : Fun K x qual st f fd)
    (h : ∀ (kV doc pm : Value) (an : Option Addr) (cdv ct : Value) (us : List Value), us.length = ps.length → bindArgs (PySem.W.fnOf x qual (defArgs st) (defBody st) (defScope st) .none kV doc pm an cdv ct) ⟨us, []⟩ = pure (ps.zip us)) : Binds K fd ps [] := by
  obtain ⟨oc, od, kV, doc, pm, an, cdv, ct, osl, rfl, lk, hcd⟩ := F.ex
  exact .all (h kV doc pm an cdv ct)
theorem fun_mk {x qual : Str} {st : Stmt} {f : Addr} {oc : Value} {od an : Option Addr} {osl : Array (Option Value)} {kV doc pm cdv ct : Value} (l : K.lookup f = some ⟨oc, od, .func (PySem.W.fnOf x qual (defArgs st) (defBody st) (defScope st) .none kV doc pm an cdv ct), osl⟩)
    (c : PySem.W.codeIn K cdv qual = true) (k : PySem.W.keepIn K (.ref f) = true) : Fun K x qual st f (PySem.W.fnOf x qual (defArgs st) (defBody st) (defScope st) .none kV doc pm an cdv ct) := ⟨⟨oc, od, kV, doc, pm, an, cdv, ct, osl, rfl, l, c⟩, k⟩
end
theorem hu_of {A : Around} {k : Nat} (hr : Room k A) : A.units + 1 < cLine := Nat.lt_of_le_of_lt (Nat.add_le_add_left (by decide : 1 ≤ 64) _) hr.units
theorem small1000 {n : Nat} (h : n ≤ 1000) : n < sizeLine := Nat.lt_of_le_of_lt h (by decide)

/-! ### expressions in short: the name that stands in the i-th slot -/
section
variable {X : Cx}
theorem pv (i : Nat) {x : Str} {pos : Pos} (hN : X.N[i]? = some x := by rfl) (hv : Vis X.env.scope x := by first | exact Or.inl rfl | exact Or.inr (Or.inl rfl) | exact Or.inr (Or.inr rfl)) (hd : (x == ("__debug__" : Str)) = false := by decide)
    (hcd : (x == ("__classdict__" : Str)) = false := by decide) : PE X (.Name x pos) (tVar i) := pe_var hN hv hd hcd
end

/-! ### tests -/
theorem iteF {A B : Prop} (h : B) : if false = true then A else B := by
  rw [if_neg Bool.false_ne_true]
  exact h
theorem iteT {A B : Prop} (h : A) : if true = true then A else B := by
  rw [if_pos rfl]
  exact h
theorem ite2 {c A B : Prop} [Decidable c] (h1 : c → A) (h2 : ¬ c → B) : if c then A else B := by
  by_cases h : c
  · rw [if_pos h]
    exact h1 h
  · rw [if_neg h]
    exact h2 h
/-! ### heaps -/
/-- all that was tracked is as it was -/
noncomputable def Same (H H' : Hp) : Prop := ∀ b o, H b = some o → H' b = some o
theorem Same.refl (H : Hp) : Same H H := fun _ _ h => h
theorem Same.trans {H H1 H2 : Hp} (a : Same H H1) (b : Same H1 H2) : Same H H2 := fun c o h => b c o (a c o h)
theorem Same.free {H H' : Hp} (e : Same H H') {l : Addr} (h : H' l = Option.none) : H l = Option.none := by
  cases q : H l with
  | none => rfl
  | some o =>
    rw [e l o q] at h
    cases h
theorem Same.seq {K : PySem.W.Frag} {H H' : Hp} {a : Addr} {xs : List V} (e : Same H H') (h : SqL K H a xs) : SqL K H' a xs := by
  rcases h with (h | ⟨o, h⟩) | h
  · exact .inl (.inl (e _ _ h))
  · exact .inl (.inr ⟨o, e _ _ h⟩)
  · exact .inr h

end L2

set_option maxHeartbeats 4000000
namespace L2
open PySem PySem.Spec PyProof.Rows

/-! ### the cells that a comprehension's block is handed -/
noncomputable def clF (cells : List (Str × Addr)) : List (Str × NameKind) → List (Str × Addr) → List (Str × Addr)
  | [], cs => cs
  | (n, k) :: r, cs => clF cells r (if k == .free then (match cells.lookup n with | some c => (n, c) :: cs | none => cs) else cs)

theorem clF_mem {cells : List (Str × Addr)} : ∀ (names : List (Str × NameKind)) (cs : List (Str × Addr)) (n : Str) (c : Addr), (n, c) ∈ clF cells names cs → (n, c) ∈ cs ∨ (cells.lookup n = some c ∧ (n, NameKind.free) ∈ names)
  | [], cs, n, c, h => .inl h
  | (m, k) :: r, cs, n, c, h => by
    rcases clF_mem r _ n c h with q | ⟨q, z⟩
    · by_cases hk : (k == NameKind.free) = true
      · rw [if_pos hk] at q
        have hk' : k = .free := by simpa using hk
        cases e : cells.lookup m with
        | none => rw [e] at q; exact .inl q
        | some d =>
          rw [e] at q
          rcases List.mem_cons.mp q with z | z
          · cases z; exact .inr ⟨e, by rw [hk']; exact List.mem_cons_self⟩
          · exact .inl z
      · rw [if_neg hk] at q; exact .inl q
    · exact .inr ⟨q, List.mem_cons_of_mem _ z⟩
theorem clF_sub {cells : List (Str × Addr)} : ∀ (names : List (Str × NameKind)) (cs : List (Str × Addr)), ∀ p ∈ cs, p ∈ clF cells names cs
  | [], cs, p, h => h
  | (m, k) :: r, cs, p, h => by
    refine clF_sub r _ p ?_
    by_cases hk : (k == NameKind.free) = true
    · rw [if_pos hk]
      cases cells.lookup m with
      | none => exact h
      | some d => exact List.mem_cons_of_mem _ h
    · rw [if_neg hk]; exact h
theorem clF_has {cells : List (Str × Addr)} : ∀ (names : List (Str × NameKind)) (cs : List (Str × Addr)) (n : Str) (c : Addr), (n, NameKind.free) ∈ names → cells.lookup n = some c → (n, c) ∈ clF cells names cs
  | [], _, _, _, h, _ => nomatch h
  | (m, k) :: r, cs, n, c, h, e => by
    rcases List.mem_cons.mp h with z | z
    · cases z
      refine clF_sub r _ _ ?_
      rw [if_pos (by rfl), e]
      exact List.mem_cons_self
    · exact clF_has r _ n c z e
theorem lookup_isSome_of_mem {β : Type} : ∀ {l : List (Str × β)} {n : Str} {c : β}, (n, c) ∈ l → ∃ d, l.lookup n = some d
  | (m, d) :: r, n, c, h => by
    cases e : n == m with
    | true => exact ⟨d, by simp [List.lookup_cons, e]⟩
    | false =>
      have e' : n ≠ m := by simpa using e
      rcases List.mem_cons.mp h with z | z
      · cases z; exact absurd rfl e'
      · obtain ⟨q, hq⟩ := lookup_isSome_of_mem z
        exact ⟨q, by simp [List.lookup_cons, e, hq]⟩
theorem clF_lookup {cells : List (Str × Addr)} {names : List (Str × NameKind)} {n : Str} {c : Addr} (h : (clF cells names []).lookup n = some c) : cells.lookup n = some c ∧ (n, NameKind.free) ∈ names := by
  rcases clF_mem names [] n c (PySem.mem_of_lookup h) with z | z
  · cases z
  · exact z
theorem closure_eq {env : Env} {scope : Scope} (hf : ∀ n, (n, NameKind.free) ∈ scope.names → ∃ c, env.cells.lookup n = some c) : closureFor scope env = pure (clF env.cells scope.names []) := by
  have go : ∀ (l : List (Str × NameKind)) (cs : List (Str × Addr)), (∀ n, (n, NameKind.free) ∈ l → ∃ c, env.cells.lookup n = some c) →
      (forIn l cs (fun x r => match x with | (name, kind) => if (kind == NameKind.free) = true then do
        let y ← cellOf env name
        pure (ForInStep.yield ((name, y) :: r)) else pure (ForInStep.yield r)) : Sem (List (Str × Addr))) = pure (clF env.cells l cs) := by
    intro l
    induction l with
    | nil => intro cs _; rfl
    | cons x r ih =>
      intro cs h
      obtain ⟨n, k⟩ := x
      rw [List.forIn_cons]
      by_cases hk : (k == NameKind.free) = true
      · have hk' : k = .free := by simpa using hk
        obtain ⟨c, e⟩ := h n (by rw [hk']; exact List.mem_cons_self)
        have ec : cellOf env n = pure c := by unfold cellOf; rw [e]
        simp only [hk, if_true, ec, pure_bind]
        rw [ih _ fun m hm => h m (List.mem_cons_of_mem _ hm)]
        show _ = pure (clF env.cells r _)
        rw [if_pos hk, e]
      · have hk' : (k == NameKind.free) = false := by simpa using hk
        have e1 := ih cs fun m hm => h m (List.mem_cons_of_mem _ hm)
        show (((if (k == NameKind.free) = true then _ else pure (ForInStep.yield cs)) : Sem _) >>= _) = _
        rw [if_neg hk, pure_bind]
        refine Eq.trans e1 ?_
        show _ = pure (clF env.cells r _)
        rw [if_neg hk]
  unfold closureFor
  have := go scope.names [] hf
  rw [bind_pure]
  exact this
end L2

namespace L2
open PySem PySem.Spec PyProof.Rows

/-- a comprehension's own scope against the block around it -/
structure CScope (X : Cx) (xs : List Str) (sc : Scope) : Prop where
  kind : sc.kind = .function
  nocell : ∀ y ∈ sc.names, y.2 ≠ .cell
  names : ∀ y ∈ sc.names, y.2 = .local → sc.names.lookup y.1 = some .local
  own : ∀ x ∈ xs, sc.names.lookup x = some .local
  sep : ∀ y ∈ X.N, sc.names.lookup y ≠ some .local
  frees : ∀ y ∈ sc.names, y.2 = .free → X.env.kindOf y.1 = some .cell ∨ X.env.kindOf y.1 = some .free
  nd : (xs ++ X.N).Nodup

/-- the context of a comprehension's block -/
noncomputable def cxC (X : Cx) (xs : List Str) (sc : Scope) (ex : List Addr) (s : Shared) (H : Hp) : Cx where
  prog := X.prog
  w := X.w
  K := X.K
  mg := X.mg
  base := X.base
  A := X.A
  N := xs ++ X.N
  s₀ := s
  H₀ := H
  env := compEnvC sc (clF X.env.cells sc.names []) s.heap.objs.size X.env
  outer := X.stack
  stack := X.stack
  ex := ex
  fn := fun _ => false
  calm := X.calm
  pn := []
  xe := fun _ _ => False

theorem lookup_relabel (env : Env) (x : Str) : ∀ names : List (Str × NameKind),
    (names.map fun (n, k) => if (k == NameKind.free && env.scope.kind == .function && env.kindOf n == some .cell) then (n, NameKind.cell) else (n, k)).lookup x =
      (names.lookup x).map fun k => if (k == NameKind.free && env.scope.kind == .function && env.kindOf x == some .cell) then NameKind.cell else k
  | [] => rfl
  | (n, k) :: r => by
    have ih := lookup_relabel env x r
    show List.lookup x ((if (k == NameKind.free && env.scope.kind == .function && env.kindOf n == some .cell) = true then (n, NameKind.cell) else (n, k)) :: _) = _
    cases hx : x == n with
    | true =>
      have e : x = n := by simpa using hx
      subst e
      by_cases hc : (k == NameKind.free && env.scope.kind == .function && env.kindOf x == some .cell) = true
      · rw [if_pos hc]
        simp only [List.lookup_cons, hx, Option.map_some]
        rw [if_pos hc]
      · rw [if_neg hc]
        simp only [List.lookup_cons, hx, Option.map_some]
        rw [if_neg hc]
    | false =>
      by_cases hc : (k == NameKind.free && env.scope.kind == .function && env.kindOf n == some .cell) = true
      · rw [if_pos hc]; simp only [List.lookup_cons, hx]; exact ih
      · rw [if_neg hc]; simp only [List.lookup_cons, hx]; exact ih

/-- a name of the block around, seen in the comprehension, is a free one -/
theorem vis_relabel {sc : Scope} {env : Env} {x : Str} (h : Vis (relabel sc env) x) (hl : sc.names.lookup x ≠ some .local) (hc : ∀ y ∈ sc.names, y.2 ≠ .cell) :
    (x, NameKind.free) ∈ sc.names ∧ ((relabel sc env).names.lookup x = some .cell ∨ (relabel sc env).names.lookup x = some .free) := by
  have e : (relabel sc env).names.lookup x = _ := lookup_relabel env x sc.names
  unfold Vis at h
  rw [e] at h
  cases k : sc.names.lookup x with
  | none => rw [k] at h; simp at h
  | some v =>
    have mem := PySem.mem_of_lookup k
    have nl : v ≠ .local := fun z => hl (by rw [k, z])
    have ncl : v ≠ .cell := fun z => hc _ mem z
    rw [k] at h
    rw [e, k]
    simp only [Option.map_some] at h ⊢
    by_cases hv : v = .free
    · subst hv
      refine ⟨mem, ?_⟩
      split
      · exact .inl rfl
      · exact .inr rfl
    · have : (v == NameKind.free) = false := by simpa using hv
      simp only [this, Bool.false_and] at h
      rcases h with h | h | h
      · exact absurd (Option.some.inj h) nl
      · exact absurd (Option.some.inj h) ncl
      · exact absurd (Option.some.inj h) hv

section
variable {X : Cx} {pins : List (Addr × Obj)} {σ : St} {H : Hp} {s : Shared} {xs : List Str} {sc : Scope} {ex : List Addr}
theorem CScope.cells (S : CScope X xs sc) (ok : X.Ok) : ∀ n, (n, NameKind.free) ∈ sc.names → ∃ c, X.env.cells.lookup n = some c := fun n h => ok.has n (S.frees _ h rfl)
theorem cxC_ok (S : CScope X xs sc) (I : Inv X pins σ H s) (he : ∀ b ∈ ex, b < s.heap.objs.size ∧ b ∉ frs X.stack ∧ (∀ x c, X.env.cells.lookup x = some c → c ≠ b) ∧ X.base.get? b = none) : (cxC X xs sc ex s H).Ok := by
  refine ⟨I.ok.mod, S.kind, I.ok.glob, I.ok.blt, Nat.le_refl _, fun x y c h1 h2 => ?_, fun x hx => ?_, fun _ _ h => (by cases h), I.ok.hd, I.ok.frames, .inl rfl, fun b hb => ⟨Nat.ne_of_lt (he b hb).1, fun x c h => (he b hb).2.2.1 x c (clF_lookup h).1⟩, fun b o e => ?_, ?_, fun b o e hb => ?_, fun b hb => (he b hb).2.1, I.stack, I.stkFree⟩
  · exact I.ok.inj x y c (clF_lookup h1).1 (clF_lookup h2).1
  · have hv : (relabel sc X.env).names.lookup x = some .cell ∨ (relabel sc X.env).names.lookup x = some .free := hx
    have q : (x, NameKind.free) ∈ sc.names := by
      have e : (relabel sc X.env).names.lookup x = _ := lookup_relabel X.env x sc.names
      rw [e] at hv
      cases k : sc.names.lookup x with
      | none => rw [k] at hv; simp at hv
      | some v =>
        have mem := PySem.mem_of_lookup k
        rw [k] at hv
        simp only [Option.map_some] at hv
        by_cases hvf : v = .free
        · rw [hvf] at mem; exact mem
        · have : (v == NameKind.free) = false := by simpa using hvf
          simp only [this, Bool.false_and] at hv
          rcases hv with h | h
          · exact absurd (Option.some.inj h) (S.nocell _ mem)
          · exact absurd (Option.some.inj h) hvf
    obtain ⟨c, e⟩ := S.cells I.ok x q
    exact lookup_isSome_of_mem (clF_has sc.names [] x c q e)
  · exact I.bs b o e
  · exact Nat.le_trans I.ok.bsz I.sz
  · have q : X.base.get? b = none := (he b hb).2.2.2
    have e' : X.base.get? b = some o := e
    rw [q] at e'; cases e'

/-- the block's first state -/
theorem inv_comp {h₁ : Heap} {tk : Nat} (S : CScope X xs sc) (I : Inv X pins σ H s) (he : ∀ b ∈ ex, b < s.heap.objs.size ∧ b ∉ frs X.stack ∧ (∀ x c, X.env.cells.lookup x = some c → c ≠ b) ∧ X.base.get? b = none)
    (hn : h₁.Ns s.heap.objs.size (fun _ => none)) (hk : ∀ b o, s.heap.get? b = some o → h₁.get? b = some o) :
    Inv (cxC X xs sc ex s H) [] (List.replicate xs.length none ++ σ) H { s with heap := h₁, toks := tk } := by
  have I1 : Inv X pins σ H { s with heap := h₁, toks := tk } := I.kept hk
  refine ⟨cxC_ok S I he, rfl, I.bare, Un.kept hk, ⟨_, hn, fun i x v h1 h2 h3 => ?_⟩, fun x c h => I1.cell x c (clF_lookup h).1, I.hok.fresh (Nat.le_refl _), fun x c h => I.freeC x c (clF_lookup h).1, fun p hp => absurd (show p ∈ ([] : List (Addr × Obj)) from hp) (by simp), I.hok.kept hk, ?_⟩
  · have h1' : (xs ++ X.N)[i]? = some x := h1
    by_cases hi : i < xs.length
    · rw [List.getElem?_append_left (by simpa using hi), List.getElem?_replicate, if_pos hi] at h2
      cases h2
    · have hi' : xs.length ≤ i := Nat.le_of_not_lt hi
      rw [List.getElem?_append_right (by simpa using hi')] at h2
      rw [List.getElem?_append_right hi'] at h1'
      rw [List.length_replicate] at h2
      have hm : x ∈ X.N := List.mem_of_getElem? h1'
      obtain ⟨hf, hkd⟩ := vis_relabel h3 (S.sep x hm) S.nocell
      have hko := S.frees _ hf rfl
      obtain ⟨m, _, hl⟩ := I1.loc
      obtain ⟨u, r, l⟩ := hl (i - xs.length) x v h1' h2 (by
        rcases hko with z | z
        · exact .inr (.inl z)
        · exact .inr (.inr z))
      refine ⟨u, r, .inr ⟨hkd, ?_⟩⟩
      rcases l with ⟨z, _⟩ | ⟨_, c, ec, hc⟩
      · rcases hko with q | q <;> (rw [q] at z; cases z)
      · obtain ⟨d, ed⟩ := lookup_isSome_of_mem (clF_has sc.names [] x c hf ec)
        have : c = d := by
          have := (clF_lookup ed).1
          rw [ec] at this
          exact Option.some.inj this
        subst this
        exact ⟨c, ed, hc⟩
  · show (List.replicate xs.length none ++ σ).length = (xs ++ X.N).length
    rw [List.length_append, List.length_append, List.length_replicate, I.len]
end
end L2

namespace L2
open PySem PySem.Spec PyProof.Rows

section
variable {prog : Program} {w : World} {A : Around} {R : Result → Shared → Prop} {s : Shared}
/-- a comprehension's loop, no exception leaving it -/
theorem compLoop_of {elt target iter : Expr} {ifs : List Expr} {scope : Scope} {pos : Pos} {it acc : Value} {env : Env} (I : Nat → Shared → Prop)
    (turn : ∀ n s, I n s → wpAny (model prog w) A (pyNext it) (fun r s₁ => match r with
      | none => R (.ok .next) s₁
      | some v => wpAny (model prog w) A (letOwnedTupleGo target it v) (fun _ s₁' => wpAny (model prog w) A (assign target env v) (fun _ s₂ =>
          wpAny (model prog w) A (forIn ifs true fun c r => if r = true then do let ok ← isTrue c env (eval c env); pure (ForInStep.yield ok) else pure (ForInStep.yield r)) (fun ok s₃ =>
            if ok = true then wpAny (model prog w) A (eval elt env) (fun x s₄ =>
              wpAny (model prog w) A (call (.builtin "list.append") [acc, x]) (fun _ s₅ => ∃ m, m < n ∧ I m s₅) (fun _ _ => False) s₄) (fun _ _ => False) s₃
            else ∃ m, m < n ∧ I m s₃) (fun _ _ => False) s₂) (fun _ _ => False) s₁') (fun _ _ => False) s₁) (fun _ _ => False) s)
    (n : Nat) (h : I n s) :
    codeAny (model prog w) A (.compLoop (.ListComp elt [⟨target, iter, ifs, 0⟩] scope pos) 0 it acc env) R s := by
  refine codeAny_loop rfl I (fun n s hI => ?_) n h
  show wpAny _ A ((compTurn (.ListComp elt [⟨target, iter, ifs, 0⟩] scope pos) 0 it acc env).onRaise (fun x => do noteFrame x env; theTreesLotGoes x)) _ _ s
  refine wpAny_noted ?_
  rw [compTurn_list]
  refine wpAny_bind (wpAny_standAt (wpAny_bind (wpAny_mono (turn n s hI) (fun r s₁ h₁ => ?_) fun _ _ h' => h'.elim)))
  cases r with
  | none => exact wpAny_pure h₁
  | some v =>
    refine wpAny_bind (wpAny_mono h₁ (fun _ s₁' h₁' => ?_) fun _ _ h' => h'.elim)
    refine wpAny_bind (wpAny_mono h₁' (fun _ s₂ h₂ => wpAny_bind (wpAny_mono h₂ (fun ok s₃ h₃ => ?_) fun _ _ h' => h'.elim)) fun _ _ h' => h'.elim)
    cases ok with
    | false => exact wpAny_pure ⟨rfl, h₃⟩
    | true =>
      exact wpAny_bind (wpAny_bind (wpAny_mono h₃ (fun x s₄ h₄ => wpAny_bind (wpAny_mono h₄ (fun _ s₅ h₅ => wpAny_pure (wpAny_pure ⟨rfl, h₅⟩)) fun _ _ h' => h'.elim)) fun _ _ h' => h'.elim))
end

/-- the tests of a clause -/
noncomputable def PTs (X : Cx) (ifs : List Expr) (t : TT) : Prop :=
  ∀ (pins : List (Addr × Obj)) (s : Shared) (σ : St) (H : Hp) (Q : Bool → Hp → Prop), Inv X pins σ H s → t σ H Q →
    wpAny (model X.prog X.w) X.A (forIn ifs true fun c r => if r = true then do let ok ← isTrue c X.env (eval c X.env); pure (ForInStep.yield ok) else pure (ForInStep.yield r)) (TP X pins σ Q) X.xe s
noncomputable def tYes : TT := fun _ H Q => Q true H
theorem pts_nil {X : Cx} : PTs X [] tYes := fun _ _ _ H _ I h => wpAny_tests_nil ⟨H, I, h⟩
theorem pts_one {X : Cx} {c : Expr} {t : TT} (h : PT X c t) : PTs X [c] t := fun pins s σ H Q I q => wpAny_tests_one (h pins s σ H Q I q)

section
variable {X : Cx} {pins : List (Addr × Obj)} {σ : St} {H : Hp} {s2 : Shared} {tg iter elt : Expr} {ifs : List Expr} {sc : Scope} {pos : Pos} {xs : List Str} {g : TG} {tc : TT} {te : TE} {J : It} {fp : List Addr} {it : Addr} {tn : Nat → Heap → Prop}
/-- a list object that stands untracked is taken into the tracked ones -/
theorem HOk.adopt {P : Program} {w : World} {H : Hp} {h : Heap} {a : Addr} {xs : List V} {its : List Value} {n : Nat} (x : HOk P w H h) (hn : H a = none) (hz : xs.length ≤ sizeLine) (r : Vals xs its) (e : h.get? a = some { cls := .type "list", data := .seq its.toArray n }) :
    HOk P w (upd H a (.lst xs)) h := fun b u q => by
  by_cases hb : b = a
  · subst hb; rw [upd_same] at q; cases q; exact ⟨hz, its, n, r, e⟩
  · rw [upd_ne hb] at q
    exact (x b u q).stay (fun c v _ q => q) (fun c q => by rw [upd_ne (ne_of_none q hn)]; exact q) fun c xs q => by rw [upd_ne (ne_of_none q hn)]; exact q

theorem comp_core {E : Value → Shared → Prop} {RR : Value → Addr → Result → Shared → Prop} (S : CScope X xs sc) (hcalm : X.calm = true)
    (hg : ∀ ex s3 H3, PG (cxC X xs sc ex s3 H3) tg g) (ht : ∀ ex s3 H3, PTs (cxC X xs sc ex s3 H3) ifs tc) (he : ∀ ex s3 H3, PE (cxC X xs sc ex s3 H3) elt te)
    (I : Inv X pins σ H s2) (T : Turn X.prog X.w X.K tg J fp it tn) (st : tn 0 s2.heap) (f2 : ∀ b ∈ fp, FpOk X pins H b)
    (W : Nat → Nat → List V → Hp → Prop) (w0 : ∃ m, W 0 m [] H) (F : List V → Hp → Prop)
    (turn : ∀ i m acc H, W i m acc H → (J.stop i H ∧ acc.length ≤ sizeLine ∧ F acc H) ∨
      (J.go i H ∧ acc.length < sizeLine ∧ ∃ N : List V → Hp → Prop, (∀ acc' H', N acc' H' → ∃ m', m' < m ∧ W (i + 1) m' acc' H') ∧ ∀ x H', J.yld i H x H' → g x (List.replicate xs.length none ++ σ) H' fun σ2 H2 => σ2.drop xs.length = σ ∧ tc σ2 H2 fun c H3 =>
        if c = true then te σ2 H3 fun y H4 => N (acc ++ [y]) H4 else N acc H3))
    (fin : ∀ D C s' acc H', (∃ m, s'.heap.Ns C m) → FpOk X pins (upd H' D (.lst acc)) C → F acc H' → H' D = none → Inv X pins σ (upd H' D (.lst acc)) s' → RR (.ref D) C (.ok .next) s') :
    wpAny (model X.prog X.w) X.A (newList []) (fun acc s3 => wpAny (model X.prog X.w) X.A (newFunctionEnv sc X.env.globals (clF X.env.cells sc.names []) [] X.env.qual none .none (some X.env)) (fun cenv s4 =>
      codeAny (model X.prog X.w) X.A (.compStart (.ListComp elt [⟨tg, iter, ifs, 0⟩] sc pos) 0 (.ref it) acc { cenv with scope := relabel sc X.env }) (RR acc cenv.locals) s4) E s3) E s2 := by
  refine wpAny_newObj_type (wpAny_newFunctionEnv S.nocell (by intro y hy; simp at hy) (fun h₁ hns₁ hsb₁ => ?_) S.kind)
  dsimp only at hns₁ hsb₁ ⊢
  generalize hH3 : s2.heap.push { cls := .type "list", dict := none, data := .seq ([] : List Value).toArray } = H3 at hns₁ hsb₁ ⊢
  have hC : H3.objs.size = s2.heap.objs.size + 1 := by rw [← hH3, Heap.size_push]
  have hDC : s2.heap.objs.size ≠ H3.objs.size := by rw [hC]; exact Nat.ne_of_lt (Nat.lt_succ_self _)
  have old3 : ∀ b o, s2.heap.get? b = some o → H3.get? b = some o := fun b o e => hH3 ▸ Heap.get?_push_of_some _ e
  have k1 : ∀ b o, H3.get? b = some o → h₁.get? b = some o := fun b o e => hsb₁.extBut b o (Nat.ne_of_lt (Heap.lt_size e)) (Heap.get?_push_of_some _ e)
  have I3 : Inv X pins σ H { s2 with heap := H3 } := I.kept old3
  have fpLt : ∀ b ∈ fp, b < s2.heap.objs.size := fun b hb => by
    obtain ⟨o, e, _⟩ := T.obj _ _ st b hb
    exact Heap.lt_size e
  have hnofr : ∀ b, s2.heap.objs.size ≤ b → b ∉ frs X.stack := fun b hb z => by
    rcases List.mem_cons.mp (I.stkSub b z) with q | q
    · exact absurd (Nat.lt_of_lt_of_le I.lt hb) (by rw [q]; exact Nat.lt_irrefl _)
    · exact I.nofs hb q
  have hnocell : ∀ b, s2.heap.objs.size ≤ b → ∀ x c, X.env.cells.lookup x = some c → c ≠ b := fun b hb x c e z => by
    obtain ⟨v, q⟩ := I.cell x c e
    exact absurd (Nat.lt_of_lt_of_le q.lt (by rw [z]; exact hb)) (Nat.lt_irrefl _)
  have hnobase : ∀ b, s2.heap.objs.size ≤ b → X.base.get? b = none := fun b hb => Heap.get?_none_of_le (Nat.le_trans (Nat.le_trans I.ok.bsz I.sz) hb)
  have fpfr : ∀ b ∈ fp, b ∉ frs X.stack := fun b hb z => by
    rcases List.mem_cons.mp (I.stkSub b z) with q | q
    · exact (f2 b hb).2.1 q
    · exact (f2 b hb).2.2.1 q
  have fpbase : ∀ b ∈ fp, X.base.get? b = none := fun b hb => by
    rcases (f2 b hb).2.2.2.1 with z | z
    · cases e : X.base.get? b with
      | none => rfl
      | some o => exact absurd z (I.ok.noex b o e)
    · exact Heap.get?_none_of_le (Nat.le_trans I.ok.bsz z)
  have hex : ∀ b ∈ (s2.heap.objs.size :: fp), b < H3.objs.size ∧ b ∉ frs X.stack ∧ (∀ x c, X.env.cells.lookup x = some c → c ≠ b) ∧ X.base.get? b = none := fun b hb => by
    rcases List.mem_cons.mp hb with z | z
    · subst z
      exact ⟨by rw [hC]; exact Nat.lt_succ_self _, hnofr _ (Nat.le_refl _), hnocell _ (Nat.le_refl _), hnobase _ (Nat.le_refl _)⟩
    · exact ⟨by rw [hC]; exact Nat.lt_succ_of_lt (fpLt b z), fpfr b z, (f2 b z).2.2.2.2.1, fpbase b z⟩
  have I4 := inv_comp (ex := s2.heap.objs.size :: fp) (tk := s2.toks + ([] : List (Str × Value)).length) S I3 hex hns₁ k1
  generalize hX' : cxC X xs sc (s2.heap.objs.size :: fp) { s2 with heap := H3 } H = X' at I4
  have hDn : H s2.heap.objs.size = none := I.hok.fresh (Nat.le_refl _)
  have hDobj : h₁.get? s2.heap.objs.size = some { cls := .type "list", data := .seq (([] : List Value)).toArray 0 } := k1 _ _ (hH3 ▸ Heap.get?_push_size _ rfl)
  have st1 : tn 0 h₁ := T.keep _ _ _ st fun b _ o e => k1 b o (old3 b o e)
  obtain ⟨m0, w0⟩ := w0
  -- the block's facts about D and the iterator, whatever the state
  have eXex : X'.ex = s2.heap.objs.size :: fp := by rw [← hX']; rfl
  have eXloc : X'.env.locals = H3.objs.size := by rw [← hX']; rfl
  have eXfs : X'.fs = frs X.stack := by rw [← hX']; rfl
  have eXcl : X'.env.cells = clF X.env.cells sc.names [] := by rw [← hX']; rfl
  have eXpn : X'.pn = [] := by rw [← hX']; rfl
  have eXm : X'.prog = X.prog ∧ X'.w = X.w ∧ X'.K = X.K ∧ X'.calm = true ∧ X'.A = X.A ∧ X'.xe = fun _ _ => False := by rw [← hX']; exact ⟨rfl, rfl, rfl, hcalm, rfl, rfl⟩
  obtain ⟨eP, ew, eK, ec, eA, exe⟩ := eXm
  have envE : X'.env = { newEnv sc H3.objs.size X.env.globals (clF X.env.cells sc.names []) X.env.qual none .none (some X.env) builtinsNs with scope := relabel sc X.env } := by rw [← hX']; rfl
  have hg' : PG X' tg g := hX' ▸ hg _ _ _
  have ht' : PTs X' ifs tc := hX' ▸ ht _ _ _
  have he' : PE X' elt te := hX' ▸ he _ _ _
  have hs0 : X'.s₀.heap = H3 := by rw [← hX']; rfl
  have hH0 : X'.H₀ = H := by rw [← hX']; rfl
  have hos : X'.s₀.os = s2.os := by rw [← hX']; rfl
  have loop : ∀ s₃ : Shared, s₃ = { s2 with heap := h₁, toks := s2.toks + ([] : List (Str × Value)).length } →
      codeAny (model X.prog X.w) X.A (.compLoop (.ListComp elt [⟨tg, iter, ifs, 0⟩] sc pos) 0 (.ref it) (.ref s2.heap.objs.size) X'.env) (RR (.ref s2.heap.objs.size) H3.objs.size) s₃ := by
    rintro s₃ rfl
    refine compLoop_of (fun n s' => ∃ i acc its k H', Inv X' [] (List.replicate xs.length none ++ σ) H' s' ∧ tn i s'.heap ∧ (∀ b ∈ fp, H' b = none) ∧ H' s2.heap.objs.size = none ∧ Vals acc its ∧
      s'.heap.get? s2.heap.objs.size = some { cls := .type "list", data := .seq its.toArray k } ∧ W i n acc H') ?_ m0
      ⟨0, [], [], 0, H, I4, st1, fun b hb => (f2 b hb).1, hDn, .nil, hDobj, w0⟩
    rintro n s' ⟨i, acc, its, k, H', I', st', fr', hD', rv, hobj, w'⟩
    have fpok : ∀ {o : Obj} {H'' : Hp}, (∀ b ∈ fp, H'' b = none) → ∀ b ∈ fp, FpOk X' [(s2.heap.objs.size, o)] H'' b := fun {o H''} hn b hb => by
      refine ⟨hn b hb, by rw [eXloc, hC]; exact Nat.ne_of_lt (Nat.lt_succ_of_lt (fpLt b hb)), by rw [eXfs]; exact fpfr b hb, .inl (by rw [eXex]; exact List.mem_cons_of_mem _ hb), fun x c e => ?_, fun p hp => ?_⟩
      · rw [eXcl] at e
        exact (f2 b hb).2.2.2.2.1 x c (clF_lookup e).1
      · rw [eXpn] at hp
        have : p = (s2.heap.objs.size, o) := by simpa using hp
        rw [this]
        exact Nat.ne_of_gt (fpLt b hb)
    have pinD : ∀ {H'' : Hp} {s'' : Shared} {σ'' : St} {o : Obj}, Inv X' [] σ'' H'' s'' → s''.heap.get? s2.heap.objs.size = some o → (∀ v, o.data ≠ .cell v) → H'' s2.heap.objs.size = none → Inv X' [(s2.heap.objs.size, o)] σ'' H'' s'' := fun {H'' s'' σ'' o} J e d hn =>
      J.pins_of fun p hp => by
        have : p = (s2.heap.objs.size, o) := by simpa using hp
        rw [this]
        exact ⟨e, hn, by rw [eXloc]; exact hDC, by rw [eXfs]; exact hnofr _ (Nat.le_refl _), d⟩
    have J := pinD I' hobj (fun v => by intro z; cases z) hD'
    rw [← eP, ← ew, ← eA]
    rcases turn i n acc H' w' with ⟨stop, hz, hF⟩ | ⟨go, hz, N, hN, step⟩
    · have q1 : wpAny (model X'.prog X'.w) X'.A (pyNext (.ref it)) (fun r s1 => r = none ∧ Inv X' [(s2.heap.objs.size, { cls := .type "list", data := .seq its.toArray k })] (List.replicate xs.length none ++ σ) H' s1) (fun _ _ => False) s' := by
        have := T.done X' eP ew eK ec i _ s' _ H' (fun _ _ => False) J (fpok fr') st' stop
        rw [eP, ew]; exact this
      refine thn q1 fun r s1 h1 => ?_
      obtain ⟨hr, J1⟩ := h1
      subst hr
      have e1 := J1.pin (s2.heap.objs.size, { cls := .type "list", data := .seq its.toArray k }) (List.mem_append_right _ List.mem_cons_self)
      -- back to the block around
      have un : Un (frs X.stack) (s2.heap.objs.size :: fp) H H' H3 s1.heap := by
        have := J1.base
        rw [eXfs, eXex, hH0, hs0] at this
        exact this
      have hok1 : HOk X.prog X.w H' s1.heap := by have := J1.hok; rw [eP, ew] at this; exact this
      obtain ⟨mC, hmC, _⟩ := J1.loc
      have hmC' : s1.heap.Ns H3.objs.size mC := by rw [eXloc] at hmC; exact hmC
      have hCfree : H' H3.objs.size = none := by have := J1.free; rw [eXloc] at this; exact this
      refine fin _ _ s1 acc H' ⟨mC, hmC'⟩ ?_ hF e1.2.1 ?_
      · refine I.fpOk (by rw [hC]; exact Nat.le_succ _) ?_
        rw [upd_ne (Ne.symm hDC)]
        exact hCfree
      · refine I.call' (ch := fp) (J1.os.trans hos) ?_ (hok1.adopt e1.2.1 hz rv e1.1) J1.bare fun b hb => ⟨(f2 b hb).2.2.2.1, (f2 b hb).2.1, (f2 b hb).2.2.2.2.1, (f2 b hb).2.2.2.2.2⟩
        have below : ∀ b o, s2.heap.get? b = some o → b ≠ s2.heap.objs.size := fun b o e => Nat.ne_of_lt (Heap.lt_size e)
        have nin : ∀ b o, s2.heap.get? b = some o → b ∉ fp → b ∉ s2.heap.objs.size :: fp := fun b o e hb z => (List.mem_cons.mp z).elim (below b o e) hb
        have trkne : ∀ b u, H b = some u → b ≠ s2.heap.objs.size := fun b u e z => by rw [z, hDn] at e; cases e
        refine ⟨fun b o e n hf hb => un.keep b o (old3 b o e) n hf (nin b o e hb), fun b o e n hf hb => un.slot b o (old3 b o e) n hf (nin b o e hb), fun b o e n hb => ?_, fun b o e hb => un.there b o (old3 b o e) (nin b o e hb), fun b ys e => ?_, fun b o u e => ?_, fun b ps e => ?_⟩
        · rw [upd_ne (below b o e)]; exact un.free b o (old3 b o e) n (nin b o e hb)
        · rw [upd_ne (trkne b _ e)]; exact un.tups b ys e
        · rw [upd_ne (trkne b _ e)]; exact un.frzs b o u e
        · rw [upd_ne (trkne b _ e)]; exact un.tbls b ps e
    · have q1 := T.item X' eP ew eK ec i _ s' _ H' (fun _ _ => False) J (fpok fr') st' go
      rw [← eP, ← ew] at q1
      have q2 := q1
      refine thn q2 fun r s1 h1 => ?_
      obtain ⟨u, hr, h4⟩ := h1
      subst hr
      dsimp only
      refine thn h4 fun _ s5 ⟨x, H5, J5, r5, y5, st5, fr5⟩ => ?_
      have J5' := J5.pinned (fpok fr5) (T.obj _ _ st5)
      have q5 := hg' _ s5 _ H5 x u _ J5' r5 (step x H5 y5)
      rw [exe] at q5
      refine thn q5 fun _ s6 ⟨σ6, H6, J6, hσ, q6⟩ => ?_
      have q7 := ht' _ s6 σ6 H6 _ J6 q6
      rw [exe] at q7
      refine thn q7 fun ok s7 ⟨H7, J7, q7⟩ => ?_
      -- the state behind a turn
      have lenσ : ∀ {H8 : Hp} {s8 : Shared} {pl : List (Addr × Obj)}, Inv X' pl σ6 H8 s8 → (List.replicate xs.length none ++ σ).length = σ6.length := fun {H8 s8 pl} J8 => J6.len.symm ▸ I4.len
      have weak : ∀ {H8 : Hp} {s8 : Shared} {pl : List (Addr × Obj)}, Inv X' pl σ6 H8 s8 → Inv X' pl (List.replicate xs.length none ++ σ) H8 s8 := fun {H8 s8 pl} J8 => by
        refine J8.weak (lenσ J8) fun j v e => ?_
        by_cases hj : j < xs.length
        · rw [List.getElem?_append_left (by simpa using hj), List.getElem?_replicate, if_pos hj] at e
          cases e
        · have hj' : xs.length ≤ j := Nat.le_of_not_lt hj
          rw [List.getElem?_append_right (by simpa using hj'), List.length_replicate, ← hσ, List.getElem?_drop] at e
          rw [← e]
          congr 1
          omega
      have back : ∀ {H8 : Hp} {s8 : Shared}, Inv X' ([(s2.heap.objs.size, { cls := .type "list", data := .seq its.toArray k })] ++ pinsAt fp s5.heap) σ6 H8 s8 →
          Inv X' [] (List.replicate xs.length none ++ σ) H8 s8 ∧ tn (i + 1) s8.heap ∧ (∀ b ∈ fp, H8 b = none) ∧ H8 s2.heap.objs.size = none ∧ s8.heap.get? s2.heap.objs.size = some { cls := .type "list", data := .seq its.toArray k } := fun {H8 s8} J8 => by
        have eD := J8.pin (s2.heap.objs.size, { cls := .type "list", data := .seq its.toArray k }) (List.mem_append_right _ (List.mem_append_left _ List.mem_cons_self))
        refine ⟨(weak J8).pins_of fun p hp => absurd hp (by simp), T.keep _ _ _ st5 fun b hb o e => (J8.pin (b, o) (List.mem_append_right _ (List.mem_append_right _ (mem_pinsAt hb e)))).1, fun b hb => ?_, eD.2.1, eD.1⟩
        obtain ⟨o, e, d⟩ := T.obj _ _ st5 b hb
        exact (J8.pin (b, o) (List.mem_append_right _ (List.mem_append_right _ (mem_pinsAt hb e)))).2.1
      cases ok with
      | false =>
        simp only [Bool.false_eq_true, if_false] at q7 ⊢
        obtain ⟨m', hm, w7⟩ := hN _ _ q7
        obtain ⟨a1, a2, a3, a4, a5⟩ := back J7
        exact ⟨m', hm, i + 1, acc, its, k, H7, a1, a2, a3, a4, rv, a5, w7⟩
      | true =>
        simp only [if_true] at q7 ⊢
        have q8 := he' _ s7 σ6 H7 _ J7 q7
        rw [exe] at q8
        refine thn q8 fun u8 s8 ⟨y, H8, J8, r8, q9⟩ => ?_
        obtain ⟨m', hm, w8⟩ := hN _ _ q9
        obtain ⟨a1, a2, a3, a4, a5⟩ := back J8
        have hits : its.length = acc.length := rv.length.symm
        refine wpAny_list_append_plain (hsz := by show its.toArray.size ≤ sizeLine; rw [List.size_toArray, hits]; exact Nat.le_of_lt hz) ⟨k, a5⟩ fun h9 hl9 hs9 => ?_
        obtain ⟨k9, e9⟩ := hl9
        refine ⟨m', hm, i + 1, acc ++ [y], its ++ [u8], k9, H8, ?_, ?_, a3, a4, rv.append (.cons r8 .nil), ?_, w8⟩
        · exact a1.turned (t' := s8.toks) (fun b o hb e => hs9.extBut b o hb e) a4 (by rw [eXloc]; exact hDC) (.inl (by rw [eXex]; exact List.mem_cons_self)) (fun x c e => by rw [eXcl] at e; exact hnocell _ (Nat.le_refl _) x c (clF_lookup e).1) (fun p hp => by rw [eXpn] at hp; simp at hp)
        · exact T.keep _ _ _ a2 fun b hb o e => hs9.extBut b o (Nat.ne_of_lt (fpLt b hb)) e
        · rw [e9]
          congr 2
          simp
  rw [show { newEnv sc H3.objs.size X.env.globals (clF X.env.cells sc.names []) X.env.qual none .none (some X.env) builtinsNs with scope := relabel sc X.env } = X'.env from envE.symm]
  exact codeAny_compStart_list (loop _ rfl) (T.self X.A 0 _ _ _ st1 (loop _ rfl))
end
end L2

namespace L2
open PySem PySem.Spec PyProof.Rows

/-- [elt for tg in iter if ..]: W the word by the turn, a measure, and what is gathered -/
noncomputable def LCW (n : Nat) (J : It) (g : TG) (tc : TT) (te : TE) (σ : St) (H1 : Hp) (F : List V → Hp → Prop) : Prop :=
  ∃ W : Nat → Nat → List V → Hp → Prop, (∃ m, W 0 m [] H1) ∧ ∀ i m acc H, W i m acc H → (J.stop i H ∧ acc.length ≤ sizeLine ∧ F acc H) ∨
    (J.go i H ∧ acc.length < sizeLine ∧ ∃ N : List V → Hp → Prop, (∀ acc' H', N acc' H' → ∃ m', m' < m ∧ W (i + 1) m' acc' H') ∧ ∀ x H', J.yld i H x H' → g x (List.replicate n none ++ σ) H' fun σ2 H2 => σ2.drop n = σ ∧ tc σ2 H2 fun c H3 =>
      if c = true then te σ2 H3 fun y H4 => N (acc ++ [y]) H4 else N acc H3)
noncomputable def tLC (n : Nat) (wi : TI) (g : TG) (tc : TT) (te : TE) : TE := fun σ H Q => wi σ H fun J H1 => LCW n J g tc te σ H1 fun acc H => ∀ p, H p = none → Q (.ref p) (upd H p (.lst acc))

section
variable {X : Cx} {tg iter elt : Expr} {ifs : List Expr} {sc : Scope} {pos : Pos} {xs : List Str} {wi : TI} {g : TG} {tc : TT} {te : TE}
theorem FpOk.turn {pins : List (Addr × Obj)} {σ : St} {H : Hp} {s : Shared} {C : Addr} {h' : Heap} (f : FpOk X pins H C) (I : Inv X pins σ H s) (hs : Heap.SameBut C s.heap h') : Inv X pins σ H { s with heap := h' } :=
  I.turned (t' := s.toks) (fun b o hb e => hs.extBut b o hb e) f.1 f.2.1 f.2.2.2.1 f.2.2.2.2.1 f.2.2.2.2.2
theorem pe_comp (S : CScope X xs sc) (hc : X.calm = true) (hi : PI X tg iter wi) (hg : ∀ ex s3 H3, PG (cxC X xs sc ex s3 H3) tg g) (ht : ∀ ex s3 H3, PTs (cxC X xs sc ex s3 H3) ifs tc) (he : ∀ ex s3 H3, PE (cxC X xs sc ex s3 H3) elt te)
    (hs : ∀ x, foldedSetIterable iter X.env x = pure x := by intro _; rfl) : PE X (.ListComp elt [⟨tg, iter, ifs, 0⟩] sc pos) (tLC xs.length wi g tc te) := by
  intro pins s σ H Q I h
  rw [eval_ListComp]
  refine wpAny_comprehension_free (use := none) rfl hs (closure_eq (S.cells I.ok)) S.kind S.names (thn (hi pins s σ H _ I h) fun v s1 h1 => thn h1 fun itv s2 h2 => ?_)
  obtain ⟨it, fp, tn, J, H2, e, I2, T, st2, f2, W, w0, turn⟩ := h2
  subst e
  refine comp_core (RR := fun acc C => compPost (model X.prog X.w) X.A X.xe none (EP X pins σ Q) acc C) S hc hg ht he I2 T st2 f2 W w0 _ turn fun D C s' acc H' hns fC hF hD IF => ?_
  obtain ⟨m, hm⟩ := hns
  exact ⟨m, hm, fun h' hs' => ⟨.ref D, _, fC.turn IF hs', rfl, hF D hD⟩⟩
/-- x = [..], the name stored ahead of the block's own names let go -/
theorem ps_comp {i : Nat} {y : Str} {pos' spos : Pos} (S : CScope X xs sc) (hc : X.calm = true) (hN : X.N.Nodup) (hy : X.N[i]? = some y) (hk : X.env.scope.names.lookup y = some .local)
    (hi : PI X tg iter wi) (hg : ∀ ex s3 H3, PG (cxC X xs sc ex s3 H3) tg g) (ht : ∀ ex s3 H3, PTs (cxC X xs sc ex s3 H3) ifs tc) (he : ∀ ex s3 H3, PE (cxC X xs sc ex s3 H3) elt te)
    (hsw : swapsWith (.ListComp elt [⟨tg, iter, ifs, 0⟩] sc pos) (some (.Name y pos')) spos.line X.env = pure true := by rfl)
    (hs : ∀ x, foldedSetIterable iter X.env x = pure x := by intro _; rfl) : PS X (.Assign [.Name y pos'] (.ListComp elt [⟨tg, iter, ifs, 0⟩] sc pos) spos) (tAsg (tLC xs.length wi g tc te) (gName i)) := by
  intro pins s σ H D I h
  rw [exec_Assign_Name_used _ _ _ _ hsw]
  refine wpAny_bind (wpAny_standAt (wpAny_bind ?_))
  show wpAny _ X.A (do let _ ← comprehension (.ListComp elt [⟨tg, iter, ifs, 0⟩] sc pos) sc X.env _ (newList []) false (eval iter X.env) (some (assign (.Name y pos') X.env))) _ _ s
  refine wpAny_bind (wpAny_mono (wpAny_comprehension_free (use := some (assign (.Name y pos') X.env)) (Q := fun _ s' => SP X pins D .next s') rfl hs (closure_eq (S.cells I.ok)) S.kind S.names
    (thn (hi pins s σ H _ I h) fun v s1 h1 => thn h1 fun itv s2 h2 => ?_)) (fun _ s' hq => wpAny_pure (wpAny_pure hq)) fun _ _ e => e)
  obtain ⟨it, fp, tn, J, H2, e, I2, T, st2, f2, W, w0, turn⟩ := h2
  subst e
  refine comp_core (RR := fun acc C => compPost (model X.prog X.w) X.A X.xe (some (assign (.Name y pos') X.env)) (fun _ s' => SP X pins D .next s') acc C) S hc hg ht he I2 T st2 f2 W w0 _ turn fun D' C s' acc H' hns fC hF hD IF => ?_
  obtain ⟨m, hm⟩ := hns
  refine wpAny_assign_Name (store_ok2 (v := .ref D') IF hN hy (.inl hk) rfl (fun s'' I'' hsb => ?_) (.inr hk))
  obtain ⟨a, hsb, ha⟩ := hsb
  have hne : C ≠ a := by
    rcases ha with z | z
    · rw [z]; exact fC.2.1
    · exact fun q => fC.2.2.2.2.1 y a z q.symm
  refine ⟨m, hm.sameBut hsb hne, fun h' hs' => ⟨_, _, fC.turn I'' hs', hF D' hD⟩⟩
end

/-! ### the forms one uses -/
theorem lc_list {K : PySem.W.Frag} {a : Addr} {xs : List V} {n : Nat} {g : TG} {tc : TT} {te : TE} {σ : St} {H : Hp} {F : List V → Hp → Prop} (Pv : Nat → List V → Hp → Prop) (hn : xs.length ≤ 1000000) (h0 : Pv 0 [] H)
    (hl : ∀ i acc H, i ≤ xs.length → Pv i acc H → SqL K H a xs ∧ acc.length ≤ i)
    (hs : ∀ i x acc H, xs[i]? = some x → Pv i acc H → g x (List.replicate n none ++ σ) H fun σ2 H2 => σ2.drop n = σ ∧ tc σ2 H2 fun c H3 => if c = true then te σ2 H3 fun y H4 => Pv (i + 1) (acc ++ [y]) H4 else Pv (i + 1) acc H3)
    (hd : ∀ acc H, Pv xs.length acc H → F acc H) : LCW n (Itl K a) g tc te σ H F := by
  have sz : (1000000 : Nat) < sizeLine := by rw [sizeLine_eq]; decide
  refine ⟨fun i m acc H => m = xs.length - i ∧ i ≤ xs.length ∧ Pv i acc H, ⟨xs.length, by simp, Nat.zero_le _, h0⟩, ?_⟩
  rintro i m acc H ⟨rfl, hi, p⟩
  have q := hl i acc H hi p
  by_cases hlt : i < xs.length
  · refine .inr ⟨⟨xs, xs[i], q.1, by simp [hlt]⟩, by omega, Pv (i + 1), fun acc' H' p' => ⟨xs.length - (i + 1), by omega, rfl, hlt, p'⟩, fun x H' y => ?_⟩
    obtain ⟨e, y⟩ := y
    subst e
    exact hs i x acc _ (y xs q.1) p
  · have e : i = xs.length := by omega
    subst e
    exact .inl ⟨⟨xs, q.1, Nat.le_refl _⟩, by omega, hd acc H p⟩
theorem lc_range {lo : Int} {k : Nat} {n : Nat} {g : TG} {tc : TT} {te : TE} {σ : St} {H : Hp} {F : List V → Hp → Prop} (Pv : Nat → List V → Hp → Prop) (hn : k ≤ 1000000) (h0 : Pv 0 [] H)
    (hl : ∀ i acc H, i ≤ k → Pv i acc H → acc.length ≤ i)
    (hs : ∀ i acc H, i < k → Pv i acc H → g (.int (lo + i)) (List.replicate n none ++ σ) H fun σ2 H2 => σ2.drop n = σ ∧ tc σ2 H2 fun c H3 => if c = true then te σ2 H3 fun y H4 => Pv (i + 1) (acc ++ [y]) H4 else Pv (i + 1) acc H3)
    (hd : ∀ acc H, Pv k acc H → F acc H) : LCW n (Itr lo k) g tc te σ H F := by
  have sz : (1000000 : Nat) < sizeLine := by rw [sizeLine_eq]; decide
  refine ⟨fun i m acc H => m = k - i ∧ i ≤ k ∧ Pv i acc H, ⟨k, by simp, Nat.zero_le _, h0⟩, ?_⟩
  rintro i m acc H ⟨rfl, hi, p⟩
  have q := hl i acc H hi p
  by_cases hlt : i < k
  · refine .inr ⟨hlt, by omega, Pv (i + 1), fun acc' H' p' => ⟨k - (i + 1), by omega, rfl, hlt, p'⟩, fun x H' y => ?_⟩
    obtain ⟨e, y⟩ := y
    subst e y
    exact hs i acc _ hlt p
  · have e : i = k := by omega
    subst e
    exact .inl ⟨Nat.le_refl _, by omega, hd acc H p⟩
end L2

namespace L2
open PySem PySem.Spec PyProof.Rows

section
variable {prog : Program} {w : World} {A : Around} {E : Value → Shared → Prop} {s : Shared}
end

section
variable {X : Cx} {pos : Pos}
/-- n.bit_length() -/
theorem mt_bitlen : MtR X "int.bit_length" (fun x xs H Q => ∃ i, x = .int i ∧ xs = [] ∧ Q (.int ((Builtin.Int.intBits i : Nat) : Int)) H) := by
  intro pins s σ H x xs v us Q I rx rs h
  obtain ⟨i, rfl, rfl, q⟩ := h
  obtain ⟨t, rfl⟩ := rx
  cases rs
  exact call_int_bit_length ⟨.int _, H, I.tok _, ⟨_, rfl⟩, q⟩
/-- sum of a list of ints -/
theorem call_sum (hc : X.calm = true) : CallR X (.builtin "sum") (fun xs H Q => ∃ (p : Addr) (ns : List Int), xs = [.ref p] ∧ SqL X.K H p (ns.map V.int) ∧ Q (.int ns.sum) H) := by
  intro pins s σ H xs us Q I r h
  obtain ⟨p, ns, rfl, hq, q⟩ := h
  obtain ⟨u, rfl, rx⟩ := vals1 r
  cases rx
  obtain ⟨its, rv, pl, hz⟩ := I.list hq
  obtain ⟨xs, e⟩ := (intsAre_of rv).allInts.items
  have hnum := (intsAre_of rv).numsOf
  have e' : its.toArray = intItems xs := e
  refine sum_intListG (I.ok.hd hc) (e' ▸ pl.isList) fun h' tk t' hk => ⟨.int ns.sum, H, I.kept hk, ⟨t', ?_⟩, q⟩
  have e2 : numsOf (intItems xs).toList = ns := by rw [← e']; simpa using hnum
  rw [nums_intItems] at e2
  rw [preSum_eq, List.take_of_length_le (by simp), e2]
/-- two lists of ints compared -/
noncomputable def rEqL (K : PySem.W.Frag) (neg : Bool) : R2 := fun x y H Q => ∃ (a b : Addr) (ns ms : List Int), x = .ref a ∧ y = .ref b ∧ SqL K H a (ns.map V.int) ∧ SqL K H b (ms.map V.int) ∧ Q (.bl (if neg then !decide (ns = ms) else decide (ns = ms))) H
theorem op_neL (hu : X.A.units + 64 < cLine) : OpR X (compareOp .NotEq) (rEqL X.K true) := by
  intro pins s σ H x y v u Q I rx ry h
  obtain ⟨a, b, ns, ms, rfl, rfl, h1, h2, q⟩ := h
  cases rx; cases ry
  obtain ⟨its, rv, pl, _⟩ := I.list h1
  obtain ⟨its', rv', pl', _⟩ := I.list h2
  exact PySem.W.ne_intsK pl.isList (intsAre_of rv) pl'.isList (intsAre_of rv') hu ⟨.bl _, H, I, rfl, q⟩
end
end L2

namespace L2
open PySem PySem.Spec PyProof.Rows

/-! ### small words -/
/-- all but what stands at st is as it was -/
noncomputable def But (st : Addr) (H H' : Hp) : Prop := ∀ b o, H b = some o → b ≠ st → H' b = some o
theorem But.refl (st : Addr) (H : Hp) : But st H H := fun _ _ h _ => h
theorem But.trans {st : Addr} {H H1 H2 : Hp} (a : But st H H1) (b : But st H1 H2) : But st H H2 := fun c o h n => b c o (a c o h n) n
theorem But.put (st : Addr) (H : Hp) (o : HO) : But st H (upd H st o) := fun b u e n => by rw [upd_ne n]; exact e
theorem Same.but {st : Addr} {H H' : Hp} (e : Same H H') : But st H H' := fun b o h _ => e b o h
theorem Same.new {H : Hp} {p : Addr} {o : HO} (h : H p = none) : Same H (upd H p o) := fun b u e => by rw [upd_ne (ne_of_none e h)]; exact e
theorem But.new {st : Addr} {H : Hp} {p : Addr} {o : HO} (h : H p = none) : But st H (upd H p o) := (Same.new h).but

theorem nat_of {x : Int} {n : Nat} (h0 : 0 ≤ x) (h1 : x < (n : Int)) : ∃ r : Nat, x = (r : Int) ∧ r < n := ⟨x.toNat, by omega, by omega⟩
theorem shl1 (m : Nat) : (1 : Int) * 2 ^ (m : Int).toNat = ((2 ^ m : Nat) : Int) := by simp
theorem cpow1 {m : Nat} (h : m ≤ 1000) : CPow 1 (m : Int) := ⟨by omega, by omega, by decide⟩
theorem and_lt {a b n : Nat} (h : a < n) : a &&& b < n := Nat.lt_of_le_of_lt Nat.and_le_left h
/-! ### sets as naturals -/
theorem bitAnd_nat (a b : Nat) : Builtin.bitAnd (a : Int) (b : Int) = ((a &&& b : Nat) : Int) := by
  simp [Builtin.bitAnd]
theorem bitNot_not (x : Int) : Builtin.bitNot (Builtin.bitNot x) = x := by unfold Builtin.bitNot; omega
theorem bitOr_nat (a b : Nat) : Builtin.bitOr (a : Int) (b : Int) = ((a ||| b : Nat) : Int) := by
  have ha : ¬ 0 ≤ Builtin.bitNot (a : Int) := by unfold Builtin.bitNot; omega
  have hb : ¬ 0 ≤ Builtin.bitNot (b : Int) := by unfold Builtin.bitNot; omega
  unfold Builtin.bitOr
  simp only [Builtin.bitAnd, ha, hb, decide_false, bitNot_not, Int.toNat_natCast]
theorem two_pow_int (k : Nat) : ((2 : Int) ^ k) = ((2 ^ k : Nat) : Int) := by simp
end L2

namespace L2
open PySem PySem.Spec PyProof.Rows
/-- what is asked of a comprehension's scope, reckoned -/
noncomputable def cscB (N xs : List Str) (osc sc : Scope) : Bool :=
  decide (sc.kind = .function) && sc.names.all (fun y => decide (y.2 ≠ .cell)) && sc.names.all (fun y => decide (y.2 ≠ .local) || decide (sc.names.lookup y.1 = some .local)) && xs.all (fun x => decide (sc.names.lookup x = some .local)) &&
    N.all (fun y => decide (sc.names.lookup y ≠ some .local)) && sc.names.all (fun y => decide (y.2 ≠ .free) || (decide (osc.names.lookup y.1 = some .cell) || decide (osc.names.lookup y.1 = some .free))) && decide ((xs ++ N).Nodup)
theorem cs {X : Cx} {xs : List Str} {sc : Scope} (N : List Str) (osc : Scope) (hN : X.N = N) (ho : X.env.scope = osc) (h : cscB N xs osc sc = true) : CScope X xs sc := by
  unfold cscB at h
  simp only [Bool.and_eq_true, List.all_eq_true, decide_eq_true_eq, Bool.or_eq_true] at h
  obtain ⟨⟨⟨⟨⟨⟨h1, h2⟩, h3⟩, h4⟩, h5⟩, h6⟩, h7⟩ := h
  refine ⟨h1, h2, fun y hy e => ?_, h4, by rw [hN]; exact h5, fun y hy e => ?_, by rw [hN]; exact h7⟩
  · rcases h3 y hy with z | z
    · exact absurd e z
    · exact z
  · rcases h6 y hy with z | z
    · exact absurd e z
    · show X.env.scope.names.lookup y.1 = _ ∨ X.env.scope.names.lookup y.1 = _
      rw [ho]; exact z
end L2

namespace L2
open PySem PySem.Spec PyProof.Rows
theorem mod_lo (x : Int) {m : Int} (h : 0 < m) : 0 ≤ x % m := Int.emod_nonneg _ (by omega)
theorem mod_hi (x : Int) {m : Int} (h : 0 < m) : x % m < m := Int.emod_lt_of_pos _ h
/-! ### columns of a set, as naturals -/
noncomputable def vN (k : Nat) : V := V.int (k : Int)
noncomputable def hasB (a k : Nat) : Bool := decide (a / 2 ^ k % 2 = 1)
noncomputable def bitsN (a : Nat) : Nat := Builtin.Int.intBits (a : Int)
noncomputable def colsN (a : Nat) : List Nat := (List.range (bitsN a)).filter (hasB a)
theorem map_int (l : List Nat) : (l.map fun (k : Nat) => (k : Int)).map V.int = l.map vN := by rw [List.map_map]; rfl
theorem bitsN_le {a : Nat} (h : a < 2 ^ 20) : bitsN a ≤ 20 := by
  unfold bitsN Builtin.Int.intBits
  split
  · omega
  · rename_i z
    have h0 : a ≠ 0 := by intro e; subst e; exact z rfl
    have : a.log2 < 20 := (Nat.log2_lt h0).mpr h
    show (a : Int).natAbs.log2 + 1 ≤ 20
    rw [Int.natAbs_natCast]
    omega
theorem dec_nat (a b : Nat) : decide (V.int (a : Int) = V.int (b : Int)) = decide (a = b) := by
  rw [dec_int, Bool.eq_iff_iff, beq_iff_eq, decide_eq_true_iff]
  exact Int.ofNat_inj
noncomputable def spHas : Sp := fun vs H Q _ => ∃ a k : Nat, vs = [vN a, vN k] ∧ Q (.bl (hasB a k)) H
noncomputable def spCols : Sp := fun vs H Q _ => ∃ a : Nat, vs = [vN a] ∧ a < 2 ^ 20 ∧ ∀ p, H p = none → Q (.ref p) (upd H p (.lst ((colsN a).map vN)))
noncomputable def spAllOf : Sp := fun vs H Q _ => ∃ m : Nat, vs = [vN m] ∧ m ≤ 1000 ∧ Q (vN (2 ^ m - 1)) H
theorem has_eq (a k : Nat) : decide (V.int (Builtin.bitAnd ((a : Int) / 2 ^ (k : Int).toNat) 1) = V.int 1) = hasB a k := by
  have e : ((a : Int) / 2 ^ (k : Int).toNat) = ((a / 2 ^ k : Nat) : Int) := by
    rw [Int.toNat_natCast, two_pow_int]; omega
  rw [e, show (1 : Int) = ((1 : Nat) : Int) from rfl, bitAnd_nat, dec_nat, Nat.and_one_is_mod]
  rfl
theorem filt_succ (p : Nat → Bool) (i : Nat) : (List.range (i + 1)).filter p = (List.range i).filter p ++ (if p i = true then [i] else []) := by
  rw [List.range_succ, List.filter_append]
  congr 1
  cases h : p i <;> simp [h]
end L2

namespace L2
open PySem PySem.Spec PyProof.Rows
/-! ### the rules that speak of the written part, with it told (in a comprehension's block it stands under a binder) -/
section
variable {X : Cx} {K : PySem.W.Frag}
theorem ix_listK (h : X.K = K) : IxR X (rIxL K) := h ▸ ix_list
theorem ix_tupK (h : X.K = K) : IxR X (rIxT K) := h ▸ ix_tup
theorem call_lenK (h : X.K = K) : CallR X (.builtin "len") (fun xs H Q => ∃ p ys, xs = [.ref p] ∧ (SqL K H p ys ∨ SqT K H p ys) ∧ Q (.int ys.length) H) := h ▸ call_len_seq
theorem op_neLK (h : X.K = K) (hu : X.A.units + 64 < cLine) : OpR X (compareOp .NotEq) (rEqL K true) := h ▸ op_neL hu
theorem pi_listK {tg l : Expr} {tl : TE} (h : X.K = K) (hl : PE X l tl) : PI X tg l (iList K tl) := h ▸ pi_list hl
theorem call_sumK (h : X.K = K) (hc : X.calm = true) : CallR X (.builtin "sum") (fun xs H Q => ∃ (p : Addr) (ns : List Int), xs = [.ref p] ∧ SqL K H p (ns.map V.int) ∧ Q (.int ns.sum) H) := h ▸ call_sum hc
end
end L2

namespace L2
open PySem PySem.Spec PyProof.Rows
/-! ### arithmetic of naturals -/
noncomputable def rN (C : Nat → Nat → Prop) (g : Nat → Nat → V) : R2 := fun x y H Q => ∃ i j : Nat, x = vN i ∧ y = vN j ∧ C i j ∧ Q (g i j) H
noncomputable def rN0 (g : Nat → Nat → V) : R2 := fun x y H Q => ∃ i j : Nat, x = vN i ∧ y = vN j ∧ Q (g i j) H
section
variable {X : Cx}
theorem OpR.mono {f : Value → Value → Sem Value} {r r' : R2} (h : OpR X f r) (k : ∀ x y H Q, r' x y H Q → r x y H Q) : OpR X f r' := fun pins s σ H x y v u Q I rx ry q => h pins s σ H x y v u Q I rx ry (k x y H Q q)
theorem op_addN : OpR X (binaryOp .Add) (rN0 fun i j => vN (i + j)) := op_add.mono fun x y H Q ⟨i, j, h1, h2, q⟩ => ⟨i, j, h1, h2, by show Q (V.int ((i : Int) + j)) H; rw [← Int.natCast_add]; exact q⟩
theorem op_subN : OpR X (binaryOp .Sub) (rN (fun i j => j ≤ i) fun i j => vN (i - j)) := op_sub.mono fun x y H Q ⟨i, j, h1, h2, h, q⟩ => ⟨i, j, h1, h2, by show Q (V.int ((i : Int) - j)) H; rw [← Int.ofNat_sub h]; exact q⟩
theorem op_mulN : OpR X (binaryOp .Mult) (rN (fun i _ => i < 2 ^ 64) fun i j => vN (i * j)) := op_mul.mono fun x y H Q ⟨i, j, h1, h2, h, q⟩ => ⟨i, j, h1, h2, .inl ⟨by omega, by omega⟩, by show Q (V.int ((i : Int) * j)) H; rw [← Int.natCast_mul]; exact q⟩
theorem op_modN' : OpR X (binaryOp .Mod) (rN (fun _ j => 0 < j) fun i j => vN (i % j)) := op_mod.mono fun x y H Q ⟨i, j, h1, h2, h, q⟩ => ⟨i, j, h1, h2, by omega, by show Q (V.int ((i : Int) % j)) H; rw [← Int.natCast_emod]; exact q⟩
theorem op_fdivN' : OpR X (binaryOp .FloorDiv) (rN (fun _ j => 0 < j ∧ j < 1073741824) fun i j => vN (i / j)) := op_fdiv.mono fun x y H Q ⟨i, j, h1, h2, h, q⟩ => ⟨i, j, h1, h2, ⟨by omega, by omega⟩, by show Q (V.int ((i : Int) / j)) H; rw [← Int.natCast_ediv]; exact q⟩
theorem op_shlN : OpR X (binaryOp .LShift) (rN (fun i j => j ≤ 1000 ∧ i < 2 ^ 64) fun i j => vN (i * 2 ^ j)) := op_shl.mono fun x y H Q ⟨i, j, h1, h2, h, q⟩ => ⟨i, j, h1, h2, ⟨by omega, by omega, by rw [Int.natAbs_natCast]; exact h.2⟩, by
  show Q (V.int ((i : Int) * 2 ^ (j : Int).toNat)) H
  rw [Int.toNat_natCast, two_pow_int, ← Int.natCast_mul]; exact q⟩
/-- 1 << j -/
theorem op_shl1 : OpR X (binaryOp .LShift) (fun x y H Q => ∃ j : Nat, x = .int 1 ∧ y = vN j ∧ j ≤ 1000 ∧ Q (vN (2 ^ j)) H) := op_shlN.mono fun x y H Q ⟨j, h1, h2, h, q⟩ => ⟨1, j, h1, h2, ⟨h, by decide⟩, by show Q (vN (1 * 2 ^ j)) H; rw [Nat.one_mul]; exact q⟩
theorem op_shrN : OpR X (binaryOp .RShift) (rN0 fun i j => vN (i / 2 ^ j)) := op_shr.mono fun x y H Q ⟨i, j, h1, h2, q⟩ => ⟨i, j, h1, h2, by omega, by
  show Q (V.int ((i : Int) / 2 ^ (j : Int).toNat)) H
  rw [Int.toNat_natCast, two_pow_int, ← Int.natCast_ediv]; exact q⟩
theorem op_andN : OpR X (binaryOp .BitAnd) (rN0 fun i j => vN (i &&& j)) := op_and.mono fun x y H Q ⟨i, j, h1, h2, q⟩ => ⟨i, j, h1, h2, by show Q (V.int (Builtin.bitAnd (i : Int) j)) H; rw [bitAnd_nat]; exact q⟩
theorem op_orN : OpR X (binaryOp .BitOr) (rN0 fun i j => vN (i ||| j)) := op_or.mono fun x y H Q ⟨i, j, h1, h2, q⟩ => ⟨i, j, h1, h2, by show Q (V.int (Builtin.bitOr (i : Int) j)) H; rw [bitOr_nat]; exact q⟩
theorem op_eqN : OpR X (compareOp .Eq) (rN0 fun i j => .bl (decide (i = j))) := op_eq.mono fun x y H Q ⟨i, j, h1, h2, q⟩ => by
  subst h1 h2
  refine ⟨rfl, ?_⟩
  show Q (V.bl (decide (V.int (i : Int) = V.int (j : Int)))) H
  rw [dec_nat]; exact q
theorem op_neN : OpR X (compareOp .NotEq) (rN0 fun i j => .bl (!decide (i = j))) := op_ne.mono fun x y H Q ⟨i, j, h1, h2, q⟩ => by
  subst h1 h2
  refine ⟨rfl, ?_⟩
  show Q (V.bl (!decide (V.int (i : Int) = V.int (j : Int)))) H
  rw [dec_nat]; exact q
theorem dlt (i j : Nat) : decide ((i : Int) < (j : Int)) = decide (i < j) := by rw [decide_eq_decide]; omega
theorem dle (i j : Nat) : decide ((i : Int) ≤ (j : Int)) = decide (i ≤ j) := by rw [decide_eq_decide]; omega
theorem op_ltN : OpR X (compareOp .Lt) (rN0 fun i j => .bl (decide (i < j))) := op_lt.mono fun x y H Q ⟨i, j, h1, h2, q⟩ => ⟨i, j, h1, h2, by show Q (V.bl (decide ((i : Int) < j))) H; rw [dlt]; exact q⟩
theorem op_gtN : OpR X (compareOp .Gt) (rN0 fun i j => .bl (decide (j < i))) := op_gt.mono fun x y H Q ⟨i, j, h1, h2, q⟩ => ⟨i, j, h1, h2, by show Q (V.bl (decide ((j : Int) < i))) H; rw [dlt]; exact q⟩
theorem op_geN : OpR X (compareOp .GtE) (rN0 fun i j => .bl (decide (j ≤ i))) := op_ge.mono fun x y H Q ⟨i, j, h1, h2, q⟩ => ⟨i, j, h1, h2, by show Q (V.bl (decide ((j : Int) ≤ i))) H; rw [dle]; exact q⟩
end
/-- a range from nought, its numbers as naturals -/
theorem lc_rangeN {k : Nat} {n : Nat} {g : TG} {tc : TT} {te : TE} {σ : St} {H : Hp} {F : List V → Hp → Prop} (Pv : Nat → List V → Hp → Prop) (hn : k ≤ 1000000) (h0 : Pv 0 [] H)
    (hl : ∀ i acc H, i ≤ k → Pv i acc H → acc.length ≤ i)
    (hs : ∀ i acc H, i < k → Pv i acc H → g (vN i) (List.replicate n none ++ σ) H fun σ2 H2 => σ2.drop n = σ ∧ tc σ2 H2 fun c H3 => if c = true then te σ2 H3 fun y H4 => Pv (i + 1) (acc ++ [y]) H4 else Pv (i + 1) acc H3)
    (hd : ∀ acc H, Pv k acc H → F acc H) : LCW n (Itr 0 k) g tc te σ H F :=
  lc_range Pv hn h0 hl (fun i acc H hi p => by rw [Int.zero_add]; exact hs i acc H hi p) hd
theorem for_rangeN {n : Nat} {g : TG} {tb : TS} {D : Ends} {σ : St} {H : Hp} (Pv : Nat → St → Hp → Prop) (h0 : Pv 0 σ H)
    (hs : ∀ i σ H, i < n → Pv i σ H → g (vN i) σ H fun σ2 H2 => tb { D with nx := Pv (i + 1), ct := Pv (i + 1), bk := D.nx } σ2 H2) (hd : ∀ σ H, Pv n σ H → D.nx σ H) :
    ∃ W : Nat → Nat → St → Hp → Prop, (∃ m, W 0 m σ H) ∧ ∀ i m σ H, W i m σ H →
      ((Itr 0 n).stop i H ∧ D.nx σ H) ∨ ((Itr 0 n).go i H ∧ ∃ N : St → Hp → Prop, (∀ σ' H', N σ' H' → ∃ m', m' < m ∧ W (i + 1) m' σ' H') ∧ ∀ x H', (Itr 0 n).yld i H x H' → g x σ H' fun σ2 H2 => tb { D with nx := N, ct := N, bk := D.nx } σ2 H2) :=
  for_range (lo := 0) Pv h0 (fun i σ H hi p => by rw [Int.zero_add]; exact hs i σ H hi p) hd
end L2

namespace L2
open PySem PySem.Spec PyProof.Rows
/-! ### insert, index, sorted; a name let go -/
section
variable {X : Cx} {K : PySem.W.Frag}
theorem i63 {i : Nat} (h : i < 2 ^ 63) : (i : Int) < 2 ^ 63 := by omega
noncomputable def rInsI : V → List V → Hp → VK → Prop := fun x vs H Q => ∃ (l : Addr) (xs : List V) (i : Int) (y : V), x = .ref l ∧ vs = [.int i, y] ∧ H l = some (.lst xs) ∧ xs.length < sizeLine ∧ 0 ≤ i ∧ i ≤ (xs.length : Int) ∧ Q .non (upd H l (.lst (xs.take i.toNat ++ [y] ++ xs.drop i.toNat)))
theorem mt_insI : MtM X "list.insert" rInsI := by
  intro pins s σ H x vs v us Q I rx rv h
  obtain ⟨l, xs, i, y, rfl, rfl, hH, hz, h0, hi, q⟩ := h
  cases rx
  obtain ⟨u, w, rfl, ru, rw'⟩ := rv.two
  obtain ⟨t, rfl⟩ := ru
  obtain ⟨z, its, n, r, hl, e⟩ := I.lstM hH
  have hi' : i.toNat ≤ xs.length := by omega
  have h63 : i < 2 ^ 63 := by
    have := i63 (Nat.lt_of_le_of_lt hi' (Nat.lt_trans hz line63))
    omega
  have hf : Builtin.List.listFitsIndex i = true := fitsIndex_both (by omega) h63
  have hs1 : its.toArray.size ≤ sizeLine := by rw [List.size_toArray, ← hl]; exact z
  have hc0 : ¬(!Builtin.List.listFitsIndex i) = true := by rw [hf]; exact Bool.false_ne_true
  refine call_meets F.slot_list_insert ⟨_, e, rfl⟩ F.entry_list_insert (F.args_list_insert_3 _ _ _) (AutoSeq1.list_insert_list_int_val_1 l its.toArray n i t w hc0 hs1) ⟨e, ?_⟩
  refine ⟨.non, _, I.lset (its' := its.take i.toNat ++ [w] ++ its.drop i.toNat) hH e ?_ ((Vals.append (r.take i.toNat) (.cons rw' .nil)).append (r.drop i.toNat)) ?_, rfl, q⟩
  · have hk : (if i < 0 then (i + ((its.toArray.size : Nat) : Int)).toNat else min i.toNat its.toArray.size) = i.toNat := by
      rw [if_neg (by omega), List.size_toArray]; omega
    show (its.toArray.extract 0 (if i < 0 then (i + ((its.toArray.size : Nat) : Int)).toNat else min i.toNat its.toArray.size)).push w ++ its.toArray.extract (if i < 0 then (i + ((its.toArray.size : Nat) : Int)).toNat else min i.toNat its.toArray.size) = _
    rw [hk]
    have := splice_eq its [w] i.toNat i.toNat
    rw [← this]
    simp
  · rw [List.length_append, List.length_append, List.length_take, List.length_drop, List.length_singleton]
    omega
noncomputable def rInsert : V → List V → Hp → VK → Prop := fun x vs H Q => ∃ (l : Addr) (xs : List V) (i : Nat) (y : V), x = .ref l ∧ vs = [vN i, y] ∧ H l = some (.lst xs) ∧ xs.length < sizeLine ∧ i ≤ xs.length ∧ Q .non (upd H l (.lst (xs.take i ++ [y] ++ xs.drop i)))
theorem mt_insert : MtM X "list.insert" rInsert := fun pins s σ H x vs v us Q I rx rv ⟨l, xs, i, y, h1, h2, h3, h4, h5, q⟩ =>
  mt_insI pins s σ H x vs v us Q I rx rv ⟨l, xs, (i : Int), y, h1, h2, h3, h4, by omega, by omega, by rw [Int.toNat_natCast]; exact q⟩
theorem call_sortedK (h : X.K = K) : CallR X (.builtin "sorted") (fun xs H Q => ∃ (p : Addr) (ns : List Int), xs = [.ref p] ∧ SqL K H p (ns.map V.int) ∧ ns.length < 64 ∧ ∀ (l : Addr) (ns' : List Int), H l = none → ns'.Perm ns → ns'.Pairwise (· ≤ ·) → Q (.ref l) (upd H l (.lst (ns'.map V.int)))) := by
  subst h
  intro pins s σ H xs us Q I r h
  obtain ⟨p, ns, rfl, hq, h64, q⟩ := h
  obtain ⟨u, rfl, rx⟩ := vals1 r
  cases rx
  obtain ⟨its, rv, pl, hz⟩ := I.list hq
  refine sorted_ints pl.isList (intsAre_of rv) (by rw [← rv.length, List.length_map]; exact h64) fun out ns' a1 a2 a3 => ?_
  obtain ⟨e, he⟩ := sortedAll_at s.heap its out
  refine ⟨.ref (s.heap.objs.size + 1), _, I.laid (t' := s.toks) (fun b o => sortedAll_old) (Nat.le_succ _) (show ObjOk X.prog X.w _ _ _ (.lst (ns'.map V.int)) from ⟨?_, out.toList, e, vals_ints a1, by simpa using he⟩), rfl, q _ ns' (I.hok.fresh (Nat.le_succ _)) a2 a3⟩
  rw [List.length_map, a2.length_eq]
  exact Nat.le_of_lt (small1000 (by omega))
/-- a block whose own name is called like one that is let go around it -/
noncomputable abbrev Cx.withN (X : Cx) (N' : List Str) : Cx := { X with N := N' }
theorem Cx.Ok.withN {X : Cx} (ok : X.Ok) (N' : List Str) : (X.withN N').Ok :=
  ⟨ok.mod, ok.kind, ok.glob, ok.blt, ok.above, ok.inj, ok.has, ok.cab, ok.hd, ok.frames, ok.stk, ok.exf, ok.bs, ok.bsz, ok.noex, ok.exfs, ok.funs, ok.frf⟩
theorem Cx.Ok.ofN {X : Cx} {N' : List Str} (ok : (X.withN N').Ok) : X.Ok :=
  ⟨ok.mod, ok.kind, ok.glob, ok.blt, ok.above, ok.inj, ok.has, ok.cab, ok.hd, ok.frames, ok.stk, ok.exf, ok.bs, ok.bsz, ok.noex, ok.exfs, ok.funs, ok.frf⟩
theorem pe_hide {e : Expr} {t : TE} (j : Nat) (hv : ¬ Vis X.env.scope "") (h : PE (X.withN (X.N.set j "")) e t) : PE X e (fun σ H Q => (∀ v, σ[j]? ≠ some (some v)) ∧ t σ H Q) := by
  intro pins s σ H Q I ⟨hd, hw⟩
  have I' : Inv (X.withN (X.N.set j "")) pins σ H s := by
    refine ⟨I.ok.withN _, I.os, I.bare, I.base, ?_, I.cell, I.free, I.freeC, I.pin, I.hok, by rw [I.len]; simp⟩
    obtain ⟨m, h1, h2⟩ := I.loc
    refine ⟨m, h1, fun i x v e1 e2 e3 => ?_⟩
    by_cases hj : j = i
    · subst hj; exact absurd e2 (hd v)
    · exact h2 i x v (by rwa [show (X.withN (X.N.set j "")).N = X.N.set j "" from rfl, List.getElem?_set_ne hj] at e1) e2 e3
  refine thn (h pins s σ H Q I' hw) fun u s' ⟨v, H', J, r, q⟩ => ⟨v, H', ?_, r, q⟩
  refine ⟨J.ok.ofN, J.os, J.bare, J.base, ?_, J.cell, J.free, J.freeC, J.pin, J.hok, I.len⟩
  obtain ⟨m, h1, h2⟩ := J.loc
  refine ⟨m, h1, fun i x v e1 e2 e3 => ?_⟩
  by_cases hj : j = i
  · subst hj; exact absurd e2 (hd v)
  · exact h2 i x v (by rwa [show (X.withN (X.N.set j "")).N = X.N.set j "" from rfl, List.getElem?_set_ne hj]) e2 e3
end
/-! ### the law's script and its place, the script frozen: lists of one's own stand apart from it -/
noncomputable def SqF (K : PySem.W.Frag) (H : Hp) (a : Addr) (ns : List Int) : Prop := (∃ o, H a = some (.frz o (.lst (ns.map V.int)))) ∨
  ∃ (o : Obj) (its : Array Value) (n : Nat), K.lookup a = some o ∧ o.cls = .type "list" ∧ o.dict = none ∧ o.data = .seq its n ∧ its.size ≤ sizeLine ∧ Vals (ns.map V.int) its.toList
theorem SqF.sq {K : PySem.W.Frag} {H : Hp} {a : Addr} {ns : List Int} (h : SqF K H a ns) : SqL K H a (ns.map V.int) := by
  rcases h with ⟨o, h⟩ | h
  · exact .inl (.inr ⟨o, h⟩)
  · exact .inr h
theorem SqF.of {K : PySem.W.Frag} {H : Hp} {a : Addr} {ns : List Int} (hO : Only H) (h : SqL K H a (ns.map V.int)) : SqF K H a ns := by
  rcases h with (h | ⟨o, h⟩) | h
  · rcases hO a with z | ⟨o, xs, z⟩
    · rw [h] at z; cases z
    · rw [h] at z; cases z
  · exact .inl ⟨o, h⟩
  · exact .inr h
theorem SqF.imp {K : PySem.W.Frag} {H H' : Hp} {a : Addr} {ns : List Int} (h : SqF K H a ns) (e : ∀ o, H a = some (.frz o (.lst (ns.map V.int))) → H' a = some (.frz o (.lst (ns.map V.int)))) : SqF K H' a ns := by
  rcases h with ⟨o, h⟩ | h
  · exact .inl ⟨o, e o h⟩
  · exact .inr h
noncomputable def STF (K : PySem.W.Frag) (H : Hp) (st : Addr) (ns : List Int) (k : Nat) : Prop := ∃ sc, H st = some (.lst [.ref sc, .int (k : Int)]) ∧ SqF K H sc ns
theorem STF.seq {K : PySem.W.Frag} {H H' : Hp} {st sc : Addr} {ns : List Int} {v : V} (h : H st = some (.lst [.ref sc, v])) (hs : SqF K H sc ns) (b : But st H H') : SqF K H' sc ns :=
  hs.imp fun o z => b _ _ z fun e => by
    subst e
    rw [h] at z
    cases z
theorem STF.same {K : PySem.W.Frag} {H H' : Hp} {st : Addr} {ns : List Int} {k : Nat} (h : STF K H st ns k) (e : Same H H') : STF K H' st ns k := by
  obtain ⟨sc, h1, h2⟩ := h
  exact ⟨sc, e _ _ h1, h2.imp fun o z => e _ _ z⟩
theorem STF.new {K : PySem.W.Frag} {H : Hp} {st p : Addr} {ns : List Int} {k : Nat} {o : HO} (h : STF K H st ns k) (hp : H p = none) : STF K (upd H p o) st ns k := h.same (Same.new hp)
theorem STF.start {K : PySem.W.Frag} {H : Hp} {a p : Addr} {ns : List Int} (h : SqF K H a ns) (hp : H p = none) : STF K (upd H p (.lst [.ref a, .int 0])) p ns 0 :=
  ⟨a, upd_same, h.imp fun o z => (Same.new hp) _ _ z⟩
/-- a list of one's own is written -/
theorem STF.put {K : PySem.W.Frag} {H : Hp} {st p : Addr} {ns : List Int} {k : Nat} {xs ys : List V} (h : STF K H st ns k) (hp : H p = some (.lst xs)) (hn : p ≠ st) : STF K (upd H p (.lst ys)) st ns k := by
  obtain ⟨sc, h1, h2⟩ := h
  refine ⟨sc, by rw [upd_ne (Ne.symm hn)]; exact h1, h2.imp fun o z => ?_⟩
  rw [upd_ne]
  · exact z
  · intro e
    subst e
    rw [hp] at z
    cases z
theorem STF.some {K : PySem.W.Frag} {H : Hp} {st : Addr} {ns : List Int} {k : Nat} (h : STF K H st ns k) : ∃ o, H st = some o := by
  obtain ⟨sc, h1, _⟩ := h
  exact ⟨_, h1⟩
theorem But.own {st p : Addr} {H H' : Hp} {o : HO} (b : But st H H') (hp : H p = none) : But st H (upd H' p o) := fun c u e n => by
  rw [upd_ne (ne_of_none e hp)]
  exact b c u e n
noncomputable def spTakeF (K : PySem.W.Frag) : Sp := fun vs H Q _ => ∃ (st : Addr) (ns : List Int) (k : Nat) (most : Int), vs = [.ref st, .int most] ∧ STF K H st ns k ∧ k ≤ 1000000 ∧ ns.length ≤ 63 ∧ 0 < most ∧
  ∀ (r : Int) (H' : Hp), 0 ≤ r → r < most → STF K H' st ns (k + 1) → But st H H' → Q (.int r) H'
noncomputable def spSetF (K : PySem.W.Frag) : Sp := fun vs H Q _ => ∃ (st : Addr) (ns : List Int) (k m : Nat), vs = [.ref st, .int (m : Int)] ∧ STF K H st ns k ∧ k ≤ 900000 ∧ ns.length ≤ 63 ∧ 1 ≤ m ∧ m ≤ 7 ∧
  ∀ (r k' : Nat) (H' : Hp), r < 2 ^ m → k' ≤ k + 3 → STF K H' st ns k' → But st H H' → Q (.int (r : Int)) H'
end L2

namespace L2
open PySem PySem.Spec PyProof.Rows
/-! ### ints compared, truths compared, tuples compared, all -/
section
variable {X : Cx} {K : PySem.W.Frag}
end
end L2

namespace L2
open PySem PySem.Spec PyProof.Rows
/-! ### two tuples walked side by side -/
section
variable {prog : Program} {w : World} {A : Around} {E : Value → Shared → Prop} {s : Shared}
end
/-! ### .. as the layer walks it -/
section
variable {X : Cx} {pins : List (Addr × Obj)} {σ : St} {H : Hp} {s : Shared}
theorem Inv.turnedL {t' : Nat} {h' : Heap} {ch : List Addr} (I : Inv X pins σ H s) (k : ∀ b o, b ∉ ch → s.heap.get? b = some o → h'.get? b = some o) (hf : ∀ b ∈ ch, FpOk X pins H b) : Inv X pins σ H { s with heap := h', toks := t' } := by
  have nit : ∀ b u, H b = some u → b ∉ ch := fun b u e z => by rw [(hf b z).1] at e; cases e
  refine I.step (g' := s.gens) (d' := s.drawn) (ch := ch) (fun b hb => ?_) (fun b o _ _ hc e _ => k b o hc e) (fun b o _ _ hc e _ => ⟨o.slots, k b o hc e⟩) (fun _ _ _ _ n => n) (fun b o hc e => ⟨o, k b o hc e⟩) (fun _ _ e => e) (fun _ _ _ e => e) (fun b ps e => ⟨#[], by rw [e]; simp⟩) (fun m hm => ?_) (fun b u e => ?_) I.bare
  · obtain ⟨f0, f1, f2, f3, f4, f5⟩ := hf b hb
    exact ⟨f3, f1, f4, f5⟩
  · obtain ⟨o, es, ep, ho, r⟩ := hm
    exact ⟨o, es, ep, k _ o (fun z => (hf _ z).2.1 rfl) ho, r⟩
  · refine (I.hok b u e).stay (fun c v hc q => k c v ?_ q) (fun _ q => q) fun _ _ q => q
    rcases hc with z | z
    · rw [z]; exact nit b u e
    · exact nit c _ z
end
end L2

namespace L2
open PySem PySem.Spec PyProof.Rows
/-! ### rows of a book in the heap -/
theorem stf_fresh {K : PySem.W.Frag} {H H1 : Hp} {st p : Addr} {ns : List Int} {k : Nat} (S : STF K H1 st ns k) (B : But st H H1) (hp : H1 p = none) : H p = none ∧ p ≠ st := by
  have hn : p ≠ st := fun e => by
    obtain ⟨o, z⟩ := S.some
    rw [← e, hp] at z; cases z
  refine ⟨?_, hn⟩
  cases e : H p with
  | none => rfl
  | some o => rw [B p o e hn] at hp; cases hp
theorem stf_tup {K : PySem.W.Frag} {H H1 : Hp} {st t : Addr} {ns : List Int} {k : Nat} {xs : List V} (S : STF K H st ns k) (B : But st H H1) (h : H t = some (.tup xs)) : H1 t = some (.tup xs) :=
  B _ _ h fun e => by
    obtain ⟨sc, h1, _⟩ := S
    rw [← e, h] at h1; cases h1
/-- a list is written: tuples stay -/
theorem tup_put {H : Hp} {p : Addr} {xs ys : List V} (hp : H p = some (.lst xs)) : ∀ t zs, H t = some (.tup zs) → (upd H p (.lst ys)) t = some (.tup zs) := fun t zs e => by
  rw [upd_ne]
  · exact e
  · intro z
    rw [z, hp] at e; cases e
/-! ### what the program says of rows -/
end L2

namespace L2
open PySem PySem.Spec PyProof.Rows

/-! ### lists of pairs as tables -/
section
variable {κ : Type} [DecidableEq κ]
noncomputable def valV (kvs : List (κ × V)) (k : κ) : Option V := (kvs.find? fun kv => decide (kv.1 = k)).map (·.2)
/-- in its place, or at the end -/
noncomputable def putK (kvs : List (κ × V)) (k : κ) (v : V) : List (κ × V) :=
  if (kvs.any fun kv => decide (kv.1 = k)) = true then kvs.map (fun kv => if kv.1 = k then (kv.1, v) else kv) else kvs ++ [(k, v)]
theorem valV_pos {p : κ × V} {r : List (κ × V)} {k : κ} (e : p.1 = k) : valV (p :: r) k = some p.2 := by simp [valV, List.find?_cons, e]
theorem valV_neg {p : κ × V} {r : List (κ × V)} {k : κ} (e : ¬ p.1 = k) : valV (p :: r) k = valV r k := by simp [valV, List.find?_cons, e]
theorem valV_any (k : κ) : ∀ kvs : List (κ × V), (kvs.any fun kv => decide (kv.1 = k)) = (valV kvs k).isSome
  | [] => rfl
  | p :: r => by
    rw [List.any_cons]
    by_cases e : p.1 = k
    · simp only [valV_pos e, decide_eq_true e, Bool.true_or, Option.isSome_some]
    · rw [valV_neg e, decide_eq_false e, Bool.false_or]; exact valV_any k r
theorem valV_map (k j : κ) (y : V) : ∀ kvs : List (κ × V), valV (kvs.map fun kv => if kv.1 = k then (kv.1, y) else kv) j = (valV kvs j).map fun x => if j = k then y else x
  | [] => rfl
  | p :: r => by
    have ih := valV_map k j y r
    rw [List.map_cons]
    by_cases h : p.1 = k
    · rw [if_pos h]
      by_cases e : p.1 = j
      · rw [valV_pos (p := (p.1, y)) e, valV_pos e, Option.map_some, if_pos (e.symm.trans h)]
      · rw [valV_neg (p := (p.1, y)) e, valV_neg e, ih]
    · rw [if_neg h]
      by_cases e : p.1 = j
      · rw [valV_pos (p := p) e, valV_pos e, Option.map_some, if_neg (fun z => h (e.trans z))]
      · rw [valV_neg (p := p) e, valV_neg e, ih]
theorem valV_snoc (k j : κ) (y : V) : ∀ kvs : List (κ × V), valV kvs k = none → valV (kvs ++ [(k, y)]) j = if j = k then some y else valV kvs j
  | [], _ => by
    by_cases e : k = j
    · rw [if_pos e.symm]; exact valV_pos (p := (k, y)) e
    · rw [if_neg (fun z => e z.symm)]; exact valV_neg (p := (k, y)) e
  | p :: r, hn => by
    rw [List.cons_append]
    have hk : ¬ p.1 = k := fun z => by rw [valV_pos z] at hn; cases hn
    rw [valV_neg hk] at hn
    have ih := valV_snoc k j y r hn
    by_cases e : p.1 = j
    · rw [valV_pos e, valV_pos e, if_neg (fun z => hk (e.trans z))]
    · rw [valV_neg e, valV_neg e, ih]
theorem valV_put (kvs : List (κ × V)) (k j : κ) (y : V) : valV (putK kvs k y) j = if j = k then some y else valV kvs j := by
  unfold putK
  by_cases a : (kvs.any fun kv => decide (kv.1 = k)) = true
  · rw [if_pos a, valV_map]
    rw [valV_any] at a
    by_cases e : j = k
    · obtain ⟨x, hx⟩ := Option.isSome_iff_exists.mp a
      rw [if_pos e, e, hx, Option.map_some, if_pos rfl]
    · rw [if_neg e]
      cases valV kvs j with
      | none => rfl
      | some x => rw [Option.map_some, if_neg e]
  · rw [if_neg a]
    refine valV_snoc k j y kvs ?_
    rw [valV_any] at a
    cases q : valV kvs k with
    | none => rfl
    | some x => rw [q] at a; exact (a rfl).elim
theorem length_putK (kvs : List (κ × V)) (k : κ) (v : V) : (putK kvs k v).length ≤ kvs.length + 1 := by
  unfold putK
  split
  · rw [List.length_map]; omega
  · rw [List.length_append, List.length_cons, List.length_nil]; omega
/-- raw tables of the same keys -/
theorem KV.val {kvs : List (κ × V)} {vs : List (κ × Value)} (r : KV kvs vs) (k : κ) : RelO (valV kvs k) (valueAt vs k) := by
  unfold KV at r
  induction r with
  | nil => exact True.intro
  | @cons p q ps qs h t ih =>
    obtain ⟨h1, h2⟩ := h
    by_cases e : p.1 = k
    · have e' : q.1 = k := h1.symm.trans e
      have b : valueAt (q :: qs) k = some q.2 := by simp [valueAt, List.find?_cons, e']
      rw [valV_pos e, b]; exact h2
    · have e' : ¬ q.1 = k := fun z => e (h1.trans z)
      have b : valueAt (q :: qs) k = valueAt qs k := by simp [valueAt, List.find?_cons, e']
      rw [valV_neg e, b]; exact ih
theorem KV.any {kvs : List (κ × V)} {vs : List (κ × Value)} (r : KV kvs vs) (k : κ) : (kvs.any fun kv => decide (kv.1 = k)) = vs.any fun kv => decide (kv.1 = k) := by
  unfold KV at r
  induction r with
  | nil => rfl
  | cons h t ih => rw [List.any_cons, List.any_cons, ih, h.1]
theorem KV.repl {kvs : List (κ × V)} {vs : List (κ × Value)} (r : KV kvs vs) (k : κ) {y : V} {u : Value} (ry : RelV y u) :
    KV (kvs.map fun kv => if kv.1 = k then (kv.1, y) else kv) (vs.map fun kv => if kv.1 = k then (kv.1, u) else kv) := by
  unfold KV at r ⊢
  induction r with
  | nil => exact .nil
  | @cons p q ps qs h t ih =>
    rw [List.map_cons, List.map_cons]
    refine .cons ?_ ih
    obtain ⟨h1, h2⟩ := h
    by_cases e : p.1 = k
    · rw [if_pos e, if_pos (h1.symm.trans e)]; exact ⟨h1, ry⟩
    · rw [if_neg e, if_neg (fun z => e (h1.trans z))]; exact ⟨h1, h2⟩
theorem KV.put {kvs : List (κ × V)} {vs : List (κ × Value)} (r : KV kvs vs) (k : κ) {y : V} {u : Value} (ry : RelV y u) : KV (putK kvs k y) (stored vs k u) := by
  unfold putK stored
  rw [r.any k]
  by_cases e : (vs.any fun kv => decide (kv.1 = k)) = true
  · rw [if_pos e, if_pos e]; exact r.repl k ry
  · rw [if_neg e, if_neg e]; exact Paired.snoc r ⟨rfl, ry⟩
theorem KV.length {kvs : List (κ × V)} {vs : List (κ × Value)} (r : KV kvs vs) : kvs.length = vs.length := Paired.length r
end


/-! ### a tracked dict, its keys ints and texts or tuples of these -/
theorem kV_is {P : Program} {w : World} {k : Key} {u : Value} (r : RelV (kV k) u) : (mixKind P w).is k u = true := by
  cases k with
  | inl i => obtain ⟨t, e⟩ := (show ∃ t, u = Value.int i t from r); subst e; exact mixKind_int P w i t
  | inr x => obtain ⟨t, e⟩ := (show ∃ t, u = Value.str x t from r); subst e; exact mixKind_str P w x t
theorem items_are {P : Program} {w : World} : ∀ {ks : List Key} {us : List Value}, Vals (ks.map kV) us → ItemsAre (mixKind P w) ks us
  | [], _, r => by rw [List.map_nil] at r; cases r; exact .nil
  | k :: ks, _, r => by
    rw [List.map_cons] at r
    cases r with
    | cons h t => exact .cons (kV_is h) (items_are t)

/-- raw entries of a dict with tuple keys -/
noncomputable abbrev KT (H : Hp) : List (List Key × V) → List (List Key × Addr × Value) → Prop := Paired fun p q => p.1 = q.1 ∧ H q.2.1 = some (.tup (p.1.map kV)) ∧ RelV p.2 q.2.2
theorem KT.val {H : Hp} {kvs : List (List Key × V)} {xs : List (List Key × Addr × Value)} (r : KT H kvs xs) (k : List Key) : RelO (valV kvs k) ((atKey xs k).map (·.2)) := by
  induction r with
  | nil => exact True.intro
  | @cons p q ps qs h t ih =>
    obtain ⟨h1, _, h2⟩ := h
    by_cases e : p.1 = k
    · have e' : q.1 = k := h1.symm.trans e
      have b : atKey (q :: qs) k = some q.2 := by simp [atKey, List.find?_cons, e']
      rw [valV_pos e, b]; exact h2
    · have e' : ¬ q.1 = k := fun z => e (h1.trans z)
      have b : atKey (q :: qs) k = atKey qs k := by simp [atKey, List.find?_cons, e']
      rw [valV_neg e, b]; exact ih
section
variable {P : Program} {w : World} {H : Hp} {h : Heap} {a : Addr}
theorem rd_of {u : HO} (ok : HOk P w H h) (e : Rd H a u) : ObjOk P w H h a u := e.ok ok
theorem dk_rd {kvs : List (Key × V)} (ok : HOk P w H h) (e : Rd H a (.dK kvs)) : kvs.length ≤ sizeLine ∧ (a == sysModules) = false ∧ ∃ vs, KV kvs vs ∧ h.DictOf (mixKind P w) a vs :=
  show ObjOk P w H h a (.dK kvs) from rd_of ok e
theorem dk_of {kvs : List (Key × V)} (ok : HOk P w H h) (e : H a = some (.dK kvs)) : kvs.length ≤ sizeLine ∧ (a == sysModules) = false ∧ ∃ vs, KV kvs vs ∧ h.DictOf (mixKind P w) a vs := dk_rd ok (.inl e)
/-- a tracked tuple of ints and texts is a key -/
theorem key_of {ks : List Key} (ok : HOk P w H h) (e : H a = some (.tup (ks.map kV))) : (tupleKind (mixKind P w)).is h ks a := by
  obtain ⟨_, its, r, o, h1, h2, n, h3⟩ := (show ObjOk P w H h a (.tup (ks.map kV)) from ok a _ e)
  exact ⟨o, its.toArray, n, h1, h2, h3, by simpa using items_are r⟩
theorem dt_rd {kvs : List (List Key × V)} (ok : HOk P w H h) (e : Rd H a (.dT kvs)) : kvs.length ≤ sizeLine ∧ (a == sysModules) = false ∧
    ∃ xs, KT H kvs xs ∧ h.DictOfH (tupleKind (mixKind P w)) a xs := by
  obtain ⟨z, y, xs, r, o, es, ep, h1, h2, h3, h4, h5⟩ := (show ObjOk P w H h a (.dT kvs) from rd_of ok e)
  refine ⟨z, y, xs, r, o, es, ep, h1, h2, h3, h4, fun x hx => ?_, h5⟩
  have all : ∀ {l : List (List Key × V)} {m : List (List Key × Addr × Value)}, KT H l m → ∀ x ∈ m, (tupleKind (mixKind P w)).is h x.1 x.2.1 := by
    intro l m q
    induction q with
    | nil => intro x hx; exact nomatch hx
    | @cons p q ps qs hq t ih =>
      intro x hx
      rcases List.mem_cons.mp hx with e | hx
      · subst e
        exact key_of ok (by rw [← hq.1]; exact hq.2.1)
      · exact ih x hx
  exact all r x hx
end

/-- what the dict at a holds at the key y -/
noncomputable def DGet (H : Hp) (a : Addr) (y : V) (r : Option V) : Prop :=
  (∃ kvs k, Rd H a (.dK kvs) ∧ y = kV k ∧ r = valV kvs k) ∨ ∃ kvs k b, Rd H a (.dT kvs) ∧ y = .ref b ∧ H b = some (.tup (k.map kV)) ∧ r = valV kvs k
theorem DGet.k {H : Hp} {a : Addr} {kvs : List (Key × V)} {k : Key} (e : H a = some (.dK kvs)) : DGet H a (kV k) (valV kvs k) := .inl ⟨kvs, k, .inl e, rfl, rfl⟩
section
variable {X : Cx} {pins : List (Addr × Obj)} {σ : St} {H : Hp} {s : Shared} {a : Addr} {y v : V} {u r : Value} {o : Option V} {A : Around} {E : Value → Shared → Prop}

theorem Inv.big (I : Inv X pins σ H s) : sysModules < s.heap.objs.size := by
  have h : mainGlobals < s.heap.objs.size := (I.mod.glob.keeps I.bk).lt
  exact Nat.lt_trans (by decide) h

/-- d[y], there -/
theorem d_getItem {Q : Value → Shared → Prop} (hu : A.units + 1 < cLine) (I : Inv X pins σ H s) (g : DGet H a y (some v)) (ry : RelV y u) (h : ∀ w' s', Inv X pins σ H s' → RelV v w' → Q w' s') :
    wpAny (model X.prog X.w) A (getItem (.ref a) u) Q E s := by
  rcases g with ⟨kvs, k, e, ey, l⟩ | ⟨kvs, k, b, e, ey, eb, l⟩
  · subst ey
    obtain ⟨z, hd, vs, rel, dd⟩ := dk_rd I.hok e
    obtain ⟨w', hw, rw'⟩ := RelO.some_of (v := v) (o := valueAt vs k) (by rw [l]; exact rel.val k)
    exact wpAny_getItem_of (kV_is ry) dd.mapOf hw (h w' _ (I.tok _) rw')
  · subst ey
    cases (show u = Value.ref b from ry)
    obtain ⟨z, hd, xs, rel, dd⟩ := dt_rd I.hok e
    obtain ⟨w', hw, rw'⟩ := RelO.some_of (v := v) (o := (atKey xs k).map (·.2)) (by rw [l]; exact rel.val k)
    obtain ⟨p, hp, hp2⟩ := Option.map_eq_some_iff.mp hw
    refine wpAny_getItem_heap (tupleKind_room_in1 hu) (key_of I.hok eb) dd hp ?_
    rw [hp2]
    exact h w' _ (I.tok _) rw'
/-- a dict's object is replaced -/
theorem d_write {h' : Heap} {t' : Nat} {ob : HO} (I : Inv X pins σ H s) (mu : Mut (H a)) (hs : Heap.SameBut a s.heap h') (he : ∃ q, h'.get? a = some q) (new : ObjOk X.prog X.w (upd H a ob) h' a ob) :
    Inv X pins σ (upd H a ob) { s with heap := h', toks := t' } :=
  I.write (x := a) (e := a) mu (.inl rfl) (fun b q hb z => (hs.2 b hb).trans z) he new
theorem dk_new {P : Program} {w : World} {H' : Hp} {h' : Heap} {kvs : List (Key × V)} {vs : List (Key × Value)} (z : kvs.length ≤ sizeLine) (hd : (a == sysModules) = false) (rel : KV kvs vs) (dd : h'.DictOf (mixKind P w) a vs) :
    ObjOk P w H' h' a (.dK kvs) := ⟨z, hd, vs, rel, dd⟩
end

section
variable {X : Cx} {pins : List (Addr × Obj)} {σ : St} {H : Hp} {s : Shared} {a : Addr} {kvs : List (Key × V)} {k : Key} {u : Value} {A : Around} {E : Value → Shared → Prop}
end


/-! ### readings and rules -/
/-- the element of a subscription, not a slice -/
noncomputable def NoSl (i : Expr) : Prop := ∀ ov iv, subscripted i false ov iv = operate [ov, iv] (getItem ov iv)
theorem subD_of {prog : Program} {w : World} {A : Around} {E : Value → Shared → Prop} {s : Shared} {env : Env} {value slice : Expr} {pos : Pos} {T id : String} {Q : Value → Shared → Prop}
    (hl : typeLookup (.type T) "__getitem__" = pure (some (.builtin id))) (hs : NoSl slice)
    (h : wpAny (model prog w) A (eval value env) (fun o s₁ => wpAny (model prog w) A (eval slice env) (fun i s₂ => s₂.TypeIs o T ∧ wpAny (model prog w) A (getItem o i) Q E s₂) E s₁) E s) :
    wpAny (model prog w) A (eval (.Subscript value slice pos) env) Q E s := by
  refine Subscript_ (wpAny_mono h (fun o s₁ h₁ => wpAny_mono h₁ (fun i s₂ h₂ => ?_) fun _ _ x => x) fun _ _ x => x)
  obtain ⟨hT, h₂⟩ := h₂
  unfold subscriptTail
  refine wpAny_bind ?_
  rw [getitemInPython_of_ne hT.not_modules]
  refine wpAny_bind (wpAny_specialOf hT hl ?_)
  have fin : wpAny (model prog w) A (subscripted slice false o i) (fun r s₃ => wpAny (model prog w) A (letTemporaryGo value o r >>= fun _ => pure r) Q E s₃) E s₂ := by
    rw [hs o i]
    exact wpAny_operating (wpAny_mono h₂ (fun r s₃ h₃ => wpAny_bind (wpAny_letTemporaryGo (wpAny_pure h₃))) fun _ _ x => x)
  first
    | exact wpAny_pure (wpAny_bind fin)
    | exact wpAny_bind (wpAny_pure (wpAny_bind fin))
    | exact wpAny_bind fin

theorem dict_typeIs {X : Cx} {pins : List (Addr × Obj)} {σ : St} {H : Hp} {s : Shared} {a : Addr} {y : V} {o : Option V} (I : Inv X pins σ H s) (g : DGet H a y o) : s.TypeIs (.ref a) "dict" := by
  rcases g with ⟨kvs, k, e, _, _⟩ | ⟨kvs, k, b, e, _, _, _⟩
  · obtain ⟨_, _, vs, _, dd⟩ := dk_rd I.hok e
    exact dd.typeIs
  · obtain ⟨_, _, xs, _, dd⟩ := dt_rd I.hok e
    exact dd.typeIs
/-- d[y] -/
noncomputable def tDGet (td ty : TE) : TE := fun σ H Q => td σ H fun x H1 => ty σ H1 fun y H2 => ∃ a v, x = .ref a ∧ DGet H2 a y (some v) ∧ Q v H2
section
variable {X : Cx} {o i e value : Expr} {pos pos' tpos : Pos} {td ty tv : TE}
theorem pe_dget (hu : X.A.units + 1 < cLine) (ho : PE X o td) (hi : PE X i ty) (hs : NoSl i) : PE X (.Subscript o i pos) (tDGet td ty) := by
  intro pins s σ H Q I h
  refine subD_of PySem.F.slot_dict_getitem.lookup hs (thn (ho pins s σ H _ I h) fun u s1 ⟨x, H1, I1, rx, q1⟩ => thn (hi pins s1 σ H1 _ I1 q1) fun iv s2 ⟨y, H2, I2, ry, a, v, ex, g, q2⟩ => ?_)
  subst ex
  obtain rfl : u = Value.ref a := rx
  exact ⟨dict_typeIs I2 g, d_getItem hu I2 g ry fun w' s3 I3 rw' => ⟨v, H2, I3, rw', q2⟩⟩
end


/-! ### displays -/
theorem dk_empty {P : Program} {w : World} {H : Hp} (h : Heap) (hb : sysModules < h.objs.size) : ObjOk P w H (h.push { cls := .type "dict", data := .dict #[] }) h.objs.size (.dK []) :=
  ⟨Nat.zero_le _, beq_eq_false_iff_ne.mpr (Ne.symm (Nat.ne_of_lt hb)), [], .nil, Heap.DictOf.new h⟩
section
variable {X : Cx} {pos : Pos}
end

/-! ### methods -/
section
variable {X : Cx} {pins : List (Addr × Obj)} {σ : St} {H : Hp} {s : Shared} {a : Addr} {y d : V} {u r : Value} {o : Option V} {A : Around} {E : Value → Shared → Prop}
end

section
variable {X : Cx} {o e f : Expr} {apos cpos : Pos} {td ty tx : TE}
end

/-! ### dict(d): a copy -/
section
variable {X : Cx} {pins : List (Addr × Obj)} {σ : St} {H : Hp} {s : Shared} {a : Addr} {kvs : List (Key × V)} {A : Around} {E : Value → Shared → Prop}
end


section
variable {X : Cx} {pins : List (Addr × Obj)} {σ : St} {H : Hp} {s : Shared} {a : Addr} {y : V} {u : Value} {A : Around} {E : Value → Shared → Prop}
end
end L2

namespace L2
open PySem PySem.Spec PyProof.Rows
/-! ### d.setdefault(k, x), the keys tuples -/
section
variable {prog : Program} {w : World} {A : Around} {E : Value → Shared → Prop} {s : Shared} {κ : Type} [DecidableEq κ] {kd : HeapKind prog w κ}
end
section
variable {X : Cx} {o e f : Expr} {apos cpos : Pos} {td ty tx : TE}
end
end L2

namespace L2
open PySem PySem.Spec PyProof.Rows
/-! ### for v in d.values(), whatever the keys -/
section
variable {prog : Program} {w : World} {A : Around} {E : Value → Shared → Prop} {s : Shared}
end
section
variable {X : Cx} {pins : List (Addr × Obj)} {σ : St} {H : Hp} {s : Shared}
/-! ### the forms one uses -/
end
end L2

namespace L2
open PySem PySem.Spec PyProof.Rows
/-! ### dict of a list of pairs, the keys tuples -/
section
variable {prog : Program} {w : World} {A : Around} {E : Value → Shared → Prop} {s : Shared}
theorem noKeys : typeLookup (.type "list") "keys" = pure none := by rw [typeLookup_type, builtinLookup_eq_fast]; kernel_rfl
theorem noGetattr : typeLookup (.type "list") "__getattr__" = pure none := by rw [typeLookup_type, builtinLookup_eq_fast]; kernel_rfl
theorem lacksKeys (a : Addr) (u : Tok) (its : Array Value) (n : Nat) (sl : Array (Option Value)) :
    Meets (Builtin.«object.__getattribute__» ⟨[.ref a, .str "keys" u], []⟩) (fun A R s => s.heap.get? a = some { cls := .type "list", dict := none, data := .seq its n, slots := sl } ∧ raisesAttr (.ref a) "keys" A R s) :=
  Meets.of_wp fun prog w A R s hs => by
    obtain ⟨hp, g, d, tk, os⟩ := s
    obtain ⟨hx, hs⟩ := hs
    have hT : (⟨hp, g, d, tk, os⟩ : Shared).TypeIs (.ref a) "list" := ⟨_, hx, rfl⟩
    have f1 := noKeys
    unfold Builtin.«object.__getattribute__»
    repeat (any_goals (first | assumption | wp_step))
    exact wpAny_raiseAttrError hs.1 hs.2 (attrMsg_fits (by decide +kernel) (by size_fits))
theorem keysNone {a : Addr} {its : Array Value} {n : Nat} {sl : Array (Option Value)} {Q : Option Value → Shared → Prop} (hA : A.handled = none) (hx : s.heap.get? a = some { cls := .type "list", dict := none, data := .seq its n, slots := sl })
    (k : ∀ g tk, (∀ b ob, s.heap.get? b = some ob → g.get? b = some ob) → Q none { s with heap := g, toks := tk }) : wpAny (model prog w) A (getAttr? (.ref a) "keys") Q E s := by
  obtain ⟨hp, g, d, tk, os⟩ := s
  have hT : (⟨hp, g, d, tk, os⟩ : Shared).TypeIs (.ref a) "list" := ⟨_, hx, rfl⟩
  have hT' : ∀ t' : Nat, (⟨hp, g, d, t', os⟩ : Shared).TypeIs (.ref a) "list" := fun _ => ⟨_, hx, rfl⟩
  have f1 := sub_AttributeError
  have f3 := F.slot_list_getattribute.lookup
  have f4 := F.slot_list_getattribute.bind (.ref a)
  have f5 := noGetattr
  unfold getAttr? getAttrBy? getAttrBy
  repeat (any_goals (first | assumption | ((with_reducible show wpAny _ _ (call (Value.builtin "list.__getattribute__") _ _) _ _ _); refine call_meets F.slot_list_getattribute (hT' _) F.entry_list_ga (F.args_list_getattribute_2 _ _) (lacksKeys a _ its n sl) ⟨hx, hA, fun h' tk' e he => ?_⟩) | wp_step))
  obtain ⟨t', u', ee⟩ := he.there
  refine (show wpAny _ _ (getattributeRaised _ _ _ _ _ _ _) _ _ _ from ?_)
  unfold getattributeRaised
  repeat (any_goals (first | assumption | wp_step))
  exact k _ _ he.keeps
end
end L2

namespace L2
open PySem PySem.Spec PyProof.Rows
/-! ### dict of a list of pairs: the loop, the call -/
theorem entry_updLoop : entryFor table "dict.update.loop" = some Builtin.«dict.update.loop» := entryFor_of_fast (by kernel_rfl)
theorem plain_updLoop : plainId "dict.update.loop" = true := by decide +kernel
section
variable {X : Cx} {pins : List (Addr × Obj)} {σ : St} {H : Hp}
end
end L2

namespace L2
open PySem PySem.Spec PyProof.Rows
/-! ### (x,) * n -/
end L2

namespace L2
open PySem PySem.Spec PyProof.Rows
/-! ### books: rows with their places, groups of rows -/
/-! ### what a group is -/
end L2

namespace L2
open PySem PySem.Spec PyProof.Rows
/-! ### the promises of the program's own defs about books -/
end L2

namespace L2
open PySem PySem.Spec PyProof.Rows
/-! ### rows alike and mixed: the mathematics -/
/-! ### the promises -/
/-- a rule in the heap: its word (settle or not), its sets -/
noncomputable def wordS (st : Bool) : Str := if st = true then "settle" else "deal"
noncomputable def RuleAt (H : Hp) (r : Addr) (st : Bool) (x y : Nat) : Prop := H r = some (.tup [.str (wordS st), vN x, vN y])
structure Rl where
  r : Addr
  st : Bool
  x : Nat
  y : Nat
end L2

namespace L2
open PySem PySem.Spec PyProof.Rows
/-! ### the book of a set -/
theorem hasB_tb (x k : Nat) : hasB x k = x.testBit k := by
  unfold hasB
  rw [Nat.testBit_eq_decide_div_mod_eq]
end L2

namespace L2
open PySem PySem.Spec PyProof.Rows
/-! ### tuples in lists, lists of lists compared -/
section
variable {X : Cx} {K : PySem.W.Frag} {pins : List (Addr × Obj)} {σ : St} {H : Hp} {s : Shared}
end
end L2

namespace L2
open PySem PySem.Spec PyProof.Rows
/-! ### k11: what two rows show -/
end L2

namespace L2
open PySem PySem.Spec PyProof.Rows
/-! ### paths joined -/
section
variable {X : Cx} {st : Stmt} {rest : List Stmt} {t u : TS}
theorem pss_cut (P : St → Hp → Prop) (h1 : PS X st t) (h2 : PSs X rest u) : PSs X (st :: rest) (fun D σ H => t { D with nx := P } σ H ∧ ∀ σ' H', P σ' H' → u D σ' H') := by
  intro pins s σ H D I h
  refine wpAny_execs_cons (thn (h1 pins s σ H { D with nx := P } I h.1) fun f s1 q => ?_)
  cases f with
  | next =>
    obtain ⟨σ', H', I', q⟩ := q
    exact h2 pins s1 σ' H' D I' (h.2 σ' H' q)
  | ret v => exact q
  | brk => exact q
  | cont => exact q
end
/-! ### truths told one by one -/
end L2

namespace L2
open PySem PySem.Spec PyProof.Rows
/-! ### for i, x in enumerate(a list) -/
section
variable {X : Cx} {pins : List (Addr × Obj)} {σ : St} {H : Hp} {s : Shared}
noncomputable def Itn (K : PySem.W.Frag) (l : Addr) : It :=
  ⟨fun i H => ∃ xs x, SqL K H l xs ∧ xs[i]? = some x,
   fun i H v H' => ∃ t x, v = .ref t ∧ H t = none ∧ (∀ xs, SqL K H l xs → xs[i]? = some x) ∧ H' = upd H t (.tup [.int (i : Int), x]),
   fun i H => ∃ xs, SqL K H l xs ∧ xs.length ≤ i⟩
noncomputable def tnN (e it l : Addr) (i : Nat) (h : Heap) : Prop := (∃ old, IsEnum h e it (i : Int) old) ∧ h.IsListIter it l i
theorem turn_enum {P : Program} {w : World} {K : PySem.W.Frag} {es : List Expr} {n : Nat} {tp : Pos} {e it l : Addr} (hne : e ≠ it) : Turn P w K (.Tuple es n tp) (Itn K l) [e, it] e (tnN e it l) where
  mem := by simp
  obj := fun i h st c hc => by
    obtain ⟨⟨old, hE⟩, ⟨oa, ea, _, da⟩⟩ := st
    simp only [List.mem_cons, List.not_mem_nil, or_false] at hc
    rcases hc with rfl | rfl
    · exact ⟨_, hE, fun v r => by cases r⟩
    · exact ⟨_, ea, fun v r => by rw [da] at r; cases r⟩
  keep := fun i h h' st k => by
    obtain ⟨⟨old, hE⟩, ha⟩ := st
    exact ⟨⟨old, k e (by simp) _ hE⟩, ha.at fun o z => k it (by simp) o z⟩
  item := by
    intro X hP hw hK hc i pins s σ H E I hf st hg
    subst hP hw hK
    obtain ⟨xs, x, hx, ex⟩ := hg
    obtain ⟨⟨old, hE⟩, ha⟩ := st
    obtain ⟨i1, r1, t1, _⟩ := I.list hx
    obtain ⟨x', ex', rx⟩ := r1.get ex
    refine wpAny_pyNext_enum_item hE ha t1.isList (x := x') (by simpa using ex') hne fun g c1 c2 c3 c4 c5 => ⟨_, rfl, ?_⟩
    refine wpAny_letOwnedTupleGo_enum c1 fun g' z' k' => ?_
    have nT : H s.heap.objs.size = none := I.fresh
    have lz : s.heap.objs.size ≠ e := Nat.ne_of_gt (Heap.lt_size hE)
    have IA : Inv X pins σ (upd H s.heap.objs.size (.tup [.int (i : Int), x])) { s with heap := s.heap.push { cls := .type "tuple", data := .seq #[.int (i : Int) s.toks, x'] }, toks := s.toks + 1 } :=
      I.laid (t' := s.toks + 1) (fun c o z => Heap.get?_push_of_some _ z) (Nat.le_refl _) (show ObjOk X.prog X.w _ _ _ (.tup [.int (i : Int), x]) from ⟨by show 2 ≤ sizeLine; decide, [.int (i : Int) s.toks, x'], .cons ⟨_, rfl⟩ (.cons rx .nil), ⟨_, Heap.get?_push_size _ rfl, rfl, _, rfl⟩⟩)
    have fp : ∀ c ∈ [e, it], FpOk X pins (upd H s.heap.objs.size (.tup [.int (i : Int), x])) c := fun c hc' => by
      obtain ⟨f0, f1, f2, f3, f4, f5⟩ := hf c hc'
      refine ⟨?_, f1, f2, f3, f4, f5⟩
      rw [upd_ne]
      · exact f0
      · have lt : c < s.heap.objs.size := by
          simp only [List.mem_cons, List.not_mem_nil, or_false] at hc'
          rcases hc' with rfl | rfl
          · exact Heap.lt_size hE
          · obtain ⟨_, z, _⟩ := ha; exact Heap.lt_size z
        exact Nat.ne_of_lt lt
    have IB : Inv X pins σ (upd H s.heap.objs.size (.tup [.int (i : Int), x])) { s with heap := g', toks := s.toks + 1 } := by
      refine IA.turnedL (t' := s.toks + 1) (h' := g') (fun c o hc' z => ?_) fp
      simp only [List.mem_cons, List.not_mem_nil, or_false, not_or] at hc'
      refine k'.extBut _ _ hc'.1 ?_
      by_cases hcT : c = s.heap.objs.size
      · subst hcT
        have e1 : (s.heap.push { cls := .type "tuple", data := .seq #[.int (i : Int) s.toks, x'] }).get? s.heap.objs.size = some { cls := .type "tuple", data := .seq #[.int (i : Int) s.toks, x'] } := Heap.get?_push_size _ rfl
        have e2 := e1.symm.trans z
        rw [← Option.some.inj e2]
        exact c3
      · exact c5 c o hc'.1 hc'.2 (by
          have e1 : (s.heap.push { cls := .type "tuple", data := .seq #[.int (i : Int) s.toks, x'] }).get? c = s.heap.get? c := Heap.get?_push_ne _ _ _ hcT
          rw [← e1]; exact z)
    refine ⟨.ref s.heap.objs.size, _, IB, rfl, ⟨_, x, rfl, nT, fun zs hz => by rw [I.list_inj hz hx]; exact ex, rfl⟩, ⟨⟨x', ?_⟩, c2.extBut k'.extBut hne.symm⟩, fun c hc' => (fp c hc').1⟩
    have ei : ((i + 1 : Nat) : Int) = (i : Int) + 1 := Int.natCast_succ i
    rw [ei]
    exact z'
  done := by
    intro X hP hw hK hc i pins s σ H E I hf st hg
    subst hP hw hK
    obtain ⟨xs, hx, hl⟩ := hg
    obtain ⟨⟨old, hE⟩, ha⟩ := st
    obtain ⟨i1, r1, t1, _⟩ := I.list hx
    have len := r1.length
    refine wpAny_pyNext_enum_end (I.ok.hd hc) hE ha t1.isList (by simp; omega) fun g hk => ⟨rfl, ?_⟩
    refine I.turnedL (t' := s.toks) (h' := g) (ch := [e, it]) (fun c o hc' z => ?_) hf
    simp only [List.mem_cons, List.not_mem_nil, or_false, not_or] at hc'
    exact hk c o hc'.2 z
  self := fun _ _ _ _ _ st h => by
    obtain ⟨⟨old, hE⟩, _⟩ := st
    exact wpAny_pyIter_enum hE h
noncomputable def iEnum (K : PySem.W.Frag) (ta : TA) : TI := fun σ H R => ta σ H fun vs H1 => ∃ (l : Addr) (xs : List V), vs = [.ref l] ∧ SqL K H1 l xs ∧ R (Itn K l) H1
theorem pi_enum {K : PySem.W.Frag} {es : List Expr} {n : Nat} {tp : Pos} {e1 : Expr} {ta : TA} {np pos : Pos} (hK : X.K = K) (hg : Gl X "enumerate") (hm : X.mg "enumerate" = none) (ha : PA X [e1] ta)
    (hs : starEach [e1] X.env = [(false, eval e1 X.env)] := by rfl) :
    PI X (.Tuple es n tp) (.Call (.Name "enumerate" np) [e1] [] pos) (iEnum K ta) := by
  subst hK
  intro pins s σ H R I h
  refine Call_ (ld_blt I hg hm boot_enumerate (PyProof.Rows.callWith_type1 (thn (ha pos pins s σ H _ I h) fun us s1 ⟨vs, H1, I1, r1, q1⟩ => ?_) (by rw [hs]; rfl) (by rfl)))
  obtain ⟨l, xs, rfl, hl, r⟩ := q1
  obtain ⟨u1, rfl, ru1⟩ := r1.one
  cases ru1
  obtain ⟨i1, v1, t1, _⟩ := I1.list hl
  refine call_enumerate_list t1.isList fun g hE hi hz hk => ?_
  refine wpAny_pyIter_enum hE ⟨s1.heap.objs.size + 1, [s1.heap.objs.size + 1, s1.heap.objs.size], tnN (s1.heap.objs.size + 1) s1.heap.objs.size l, Itn X.K l, H1, rfl, I1.kept (t' := s1.toks) hk, turn_enum (Nat.succ_ne_self _), ⟨⟨_, hE⟩, hi⟩, fun c hc => ?_, r⟩
  have lc : s1.heap.objs.size ≤ c := by
    simp only [List.mem_cons, List.not_mem_nil, or_false] at hc
    rcases hc with rfl | rfl <;> omega
  exact I1.fpOk lc (I1.hok.fresh lc)
theorem for_enum {K : PySem.W.Frag} {l : Addr} {xs : List V} {g : TG} {tb : TS} {D : Ends} {σ : St} {H : Hp} (Pv : Nat → St → Hp → Prop) (h0 : Pv 0 σ H) (hl : ∀ i σ H, i ≤ xs.length → Pv i σ H → SqL K H l xs)
    (hs : ∀ i x σ H t, xs[i]? = some x → Pv i σ H → H t = none → g (.ref t) σ (upd H t (.tup [.int (i : Int), x])) fun σ2 H2 => tb { D with nx := Pv (i + 1), ct := Pv (i + 1), bk := D.nx } σ2 H2) (hd : ∀ σ H, Pv xs.length σ H → D.nx σ H) :
    ∃ W : Nat → Nat → St → Hp → Prop, (∃ m, W 0 m σ H) ∧ ∀ i m σ H, W i m σ H →
      ((Itn K l).stop i H ∧ D.nx σ H) ∨ ((Itn K l).go i H ∧ ∃ N : St → Hp → Prop, (∀ σ' H', N σ' H' → ∃ m', m' < m ∧ W (i + 1) m' σ' H') ∧ ∀ x H', (Itn K l).yld i H x H' → g x σ H' fun σ2 H2 => tb { D with nx := N, ct := N, bk := D.nx } σ2 H2) := by
  refine ⟨fun i m σ H => m = xs.length - i ∧ i ≤ xs.length ∧ Pv i σ H, ⟨xs.length, by simp, Nat.zero_le _, h0⟩, ?_⟩
  rintro i m σ H ⟨rfl, hi, pv⟩
  have h1 := hl i σ H hi pv
  by_cases lt : i < xs.length
  · refine .inr ⟨⟨xs, xs[i], h1, by simp [lt]⟩, Pv (i + 1), fun σ' H' p' => ⟨xs.length - (i + 1), by omega, rfl, lt, p'⟩, fun v H' yv => ?_⟩
    obtain ⟨t, x, rfl, nt, a3, rfl⟩ := yv
    exact hs i x σ H t (a3 xs h1) pv nt
  · obtain rfl : i = xs.length := by omega
    exact .inl ⟨⟨xs, h1, Nat.le_refl _⟩, hd σ H pv⟩
end
end L2

namespace L2
open PySem PySem.Spec PyProof.Rows
/-! ### == and != of values told as data -/
mutual
inductive DV (K : PySem.W.Frag) (H : Hp) : V → PyData → Prop
  | non : DV K H .non .none
  | bl (b : Bool) : DV K H (.bl b) (.bool b)
  | int (i : Int) : DV K H (.int i) (.int i)
  | str (x : Str) : DV K H (.str x) (.str x)
  | lst {a : Addr} {xs : List V} {ds : List PyData} : SqL K H a xs → DVs K H xs ds → DV K H (.ref a) (.list ds)
  | tup {a : Addr} {xs : List V} {ds : List PyData} : SqT K H a xs → DVs K H xs ds → DV K H (.ref a) (.tuple ds)
inductive DVs (K : PySem.W.Frag) (H : Hp) : List V → List PyData → Prop
  | nil : DVs K H [] []
  | cons {x : V} {xs : List V} {d : PyData} {ds : List PyData} : DV K H x d → DVs K H xs ds → DVs K H (x :: xs) (d :: ds)
end
section
variable {X : Cx} {K : PySem.W.Frag} {pins : List (Addr × Obj)} {σ : St} {H : Hp} {s : Shared}
mutual
theorem DV.reads (I : Inv X pins σ H s) : ∀ {v : V} {d : PyData} {u : Value}, DV X.K H v d → RelV v u → ∃ as, Reads s.heap u d as
  | _, _, _, .non, r => by obtain rfl := (show _ = Value.none from r); exact ⟨_, Reads.none⟩
  | _, _, _, .bl b, r => by obtain rfl := (show _ = Value.bool b from r); exact ⟨_, Reads.bool b⟩
  | _, _, _, .int i, r => by obtain ⟨t, rfl⟩ := r; exact ⟨_, .int i t⟩
  | _, _, _, .str x, r => by obtain ⟨t, rfl⟩ := r; exact ⟨_, .str x t⟩
  | _, _, _, .lst (a := a) hx hs, r => by
    obtain rfl := (show _ = Value.ref a from r)
    obtain ⟨its, rv, pl, _⟩ := I.list hx
    obtain ⟨as, ra⟩ := DVs.reads I hs rv
    obtain ⟨o, ho, hc, n, hd⟩ := pl.isList
    exact ⟨_, .list ho hc hd ra⟩
  | _, _, _, .tup (a := a) hx hs, r => by
    obtain rfl := (show _ = Value.ref a from r)
    obtain ⟨its, rv, pl, _⟩ := I.tuple hx
    obtain ⟨as, ra⟩ := DVs.reads I hs rv
    obtain ⟨o, ho, hc, n, hd⟩ := pl
    exact ⟨_, .tuple ho hc hd ra⟩
theorem DVs.reads (I : Inv X pins σ H s) : ∀ {vs : List V} {ds : List PyData} {us : List Value}, DVs X.K H vs ds → Vals vs us → ∃ as, ReadsAll s.heap us ds as
  | _, _, _, .nil, .nil => ⟨_, .nil⟩
  | _, _, _, .cons h hs, .cons r rs => by
    obtain ⟨as, ra⟩ := DV.reads I h r
    obtain ⟨bs, rb⟩ := DVs.reads I hs rs
    exact ⟨_, .cons ra rb⟩
end
noncomputable def rEqD (K : PySem.W.Frag) (neg : Bool) : R2 := fun x y H Q => ∃ d1 d2 : PyData, DV K H x d1 ∧ DV K H y d2 ∧ SeqAt.shaped d1 = true ∧ SeqAt.shaped d2 = true ∧ SeqAt.noMix d1 d2 = true ∧ Q (.bl (if neg then !same d1 d2 else same d1 d2)) H
theorem op_eqD (h : X.K = K) (hu : X.A.units + 64 < cLine) : OpR X (compareOp .Eq) (rEqD K false) := by
  subst h
  intro pins s σ H x y v u Q I rx ry h
  obtain ⟨d1, d2, h1, h2, s1, s2, nm, q⟩ := h
  obtain ⟨as, ra⟩ := h1.reads I rx
  obtain ⟨bs, rb⟩ := h2.reads I ry
  exact eq_dataH_same ra rb s1 s2 hu nm ⟨.bl _, H, I, rfl, q⟩
theorem op_neD (h : X.K = K) (hu : X.A.units + 64 < cLine) : OpR X (compareOp .NotEq) (rEqD K true) := by
  subst h
  intro pins s σ H x y v u Q I rx ry h
  obtain ⟨d1, d2, h1, h2, s1, s2, nm, q⟩ := h
  obtain ⟨as, ra⟩ := h1.reads I rx
  obtain ⟨bs, rb⟩ := h2.reads I ry
  exact ne_dataH_same ra rb s1 s2 hu nm ⟨.bl _, H, I, rfl, q⟩
end
/-! lists of data of one form -/
section
variable {α : Type} {f : α → PyData}
theorem sameAll_map [DecidableEq α] (h : ∀ a b, same (f a) (f b) = decide (a = b)) : ∀ xs ys : List α, sameAll (xs.map f) (ys.map f) = decide (xs = ys)
  | [], [] => by simp [sameAll]
  | [], _ :: _ => by simp [sameAll]
  | _ :: _, [] => by simp [sameAll]
  | x :: xs, y :: ys => by
    simp only [List.map_cons, sameAll, h, sameAll_map h xs ys]
    by_cases e : x = y <;> simp [e]
theorem noMixAll_map (h : ∀ a b, SeqAt.noMix (f a) (f b) = true) : ∀ xs ys : List α, SeqAt.noMixAll (xs.map f) (ys.map f) = true
  | [], [] => by simp [SeqAt.noMixAll]
  | [], _ :: _ => by simp [SeqAt.noMixAll]
  | _ :: _, [] => by simp [SeqAt.noMixAll]
  | x :: xs, y :: ys => by simp [SeqAt.noMixAll, h, noMixAll_map h xs ys]
theorem canLayAll_map (h : ∀ a, PyData.canLay0 (f a) = true) : ∀ xs : List α, PyData.canLayAll0 (xs.map f) = true
  | [] => by simp [PyData.canLayAll0]
  | x :: xs => by simp [PyData.canLayAll0, h, canLayAll_map h xs]
theorem depthAll_map {n : Nat} (h : ∀ a, PyData.depth (f a) ≤ n) : ∀ xs : List α, PyData.depthAll (xs.map f) ≤ n
  | [] => by simp [PyData.depthAll]
  | x :: xs => by
    have h1 := h x
    have h2 := depthAll_map h xs
    simp only [List.map_cons, PyData.depthAll]
    omega
theorem shaped_map (h : ∀ a, PyData.canLay0 (f a) = true) (hd : ∀ a, PyData.depth (f a) ≤ 10) (xs : List α) : SeqAt.shaped (.list (xs.map f)) = true := by
  have h2 : PyData.depth (.list (xs.map f)) ≤ 64 := by
    have := depthAll_map hd xs
    simp only [PyData.depth]
    omega
  show (PyData.canLay0 (.list (xs.map f)) && decide (PyData.depth (.list (xs.map f)) ≤ 64)) = true
  rw [Bool.and_eq_true]
  exact ⟨by simp only [PyData.canLay0]; exact canLayAll_map h xs, decide_eq_true h2⟩
end
/-- rules -/
noncomputable def dR (r : Bool × Nat × Nat) : PyData := .tuple [.str (wordS r.1), .int (r.2.1 : Int), .int (r.2.2 : Int)]
theorem noMix_dR (a b : Bool × Nat × Nat) : SeqAt.noMix (dR a) (dR b) = true := by unfold dR; simp [SeqAt.noMix, SeqAt.noMixAll]
theorem canLay_dR (a : Bool × Nat × Nat) : PyData.canLay0 (dR a) = true := by
  unfold dR
  obtain ⟨b, x, y⟩ := a
  have h1 : PyData.strOk (wordS true) = true := by decide +kernel
  have h2 : PyData.strOk (wordS false) = true := by decide +kernel
  cases b <;> simp only [PyData.canLay0, PyData.canLayAll0, h1, h2, Bool.and_true]
theorem depth_dR (a : Bool × Nat × Nat) : PyData.depth (dR a) ≤ 10 := by unfold dR; simp [PyData.depth, PyData.depthAll]
/-! xs[::-1] -/
section
variable {X : Cx} {K : PySem.W.Frag} {e : Expr} {te : TE} {ste : Expr} {tst : TO} {pos p2 : Pos}
noncomputable def tRev (K : PySem.W.Frag) (te : TE) (tst : TO) : TE := fun σ H Q => te σ H fun x H1 => tst σ H1 fun k H2 => ∃ a xs, k = some (-1) ∧ x = .ref a ∧ SqL K H2 a xs ∧ ∀ p, H2 p = none → Q (.ref p) (upd H2 p (.lst xs.reverse))
theorem pe_rev (hK : X.K = K) (he : PE X e te) (hst : PO X (some ste) tst) : PE X (.Subscript e (.Slice none none (some ste) p2) pos) (tRev K te tst) := by
  subst hK
  intro pins s σ H Q I h
  refine Subscript_ (thn (he pins s σ H _ I h) fun v s1 ⟨x, H1, I1, r1, q1⟩ => ?_)
  refine wpAny_Slice ?_
  rw [evalPart_none]
  refine wpAny_pure ?_
  refine wpAny_pure ?_
  refine thn (hst pins s1 σ H1 _ I1 q1) fun vk s3 ⟨k, H3, I3, pk, q3⟩ => ?_
  obtain ⟨a, xs, rfl, rfl, hx, q⟩ := q3
  cases r1
  have I4 : Inv X pins σ H3 { s3 with heap := s3.heap.push { cls := .type "slice", data := .fields #[.none, .none, vk] } } := I3.kept (t' := s3.toks) fun b ob q => Heap.get?_push_of_some _ q
  obtain ⟨its, r, ht, hz⟩ := I4.list hx
  have hlen := r.length
  show wpAny (model X.prog X.w) X.A (subscriptTail e (.Slice none none (some ste) p2) (.ref a) (.ref s3.heap.objs.size)) (EP X pins σ Q) X.xe { s3 with heap := s3.heap.push { cls := .type "slice", data := .fields #[.none, .none, vk] } }
  refine tail_any (ops := [.ref a, .ref s3.heap.objs.size]) ht.isList.typeIs slot_list_getitem.lookup ?_ (by with_unfolding_all rfl)
  refine wpAny_getItem_list_slice ht.isList (Heap.IsSliceOf.new ..) .none .none pk (by decide) ?_ (by rw [List.size_toArray] <;> omega)
  rw [PySem.W.krv_pick]
  refine ⟨.ref (s3.heap.push { cls := .type "slice", data := .fields #[.none, .none, vk] }).objs.size, _, I4.laid (t' := s3.toks) (o := .lst xs.reverse) (fun b ob q => Heap.get?_push_of_some _ q) (Nat.le_refl _) ?_, rfl, q _ (I4.hok.fresh (Nat.le_refl _))⟩
  exact ⟨by rw [List.length_reverse]; exact hz, _, 0, r.reverse, Heap.get?_push_size _ rfl⟩
end
/-! slices told in naturals -/
theorem cut_take (xs : List V) (k : Nat) : cutV xs none (some (k : Int)) = xs.take k := by
  unfold cutV
  show (xs.drop 0).take (HT.sIx xs.length xs.length (some ((k : Nat) : Int)) - 0) = _
  rw [HT.sIx_nat, List.drop_zero, Nat.sub_zero, List.take_eq_take_iff]
  omega
theorem cut_drop (xs : List V) (k : Nat) : cutV xs (some (k : Int)) none = xs.drop k := by
  unfold cutV
  rw [HT.sIx_nat, HT.sIx_none]
  by_cases h : k ≤ xs.length
  · rw [Nat.min_eq_left h, List.take_of_length_le (by rw [List.length_drop]; exact Nat.le_refl _)]
  · rw [Nat.min_eq_right (by omega), List.drop_eq_nil_of_le (Nat.le_refl _), List.drop_eq_nil_of_le (by omega), List.take_nil]
end L2

namespace L2
open PySem PySem.Spec PyProof.Rows
theorem Same.none {H H' : Hp} {p : Addr} (e : Same H H') (h : H' p = none) : H p = none := by
  cases z : H p with
  | none => rfl
  | some o => rw [e _ _ z] at h; cases h
/-! ### stage 2's laws: what their shared defs promise -/
noncomputable def usableB (st : Bool) (x y b : Nat) : Bool := decide (x &&& b = 0) && !decide (y &&& b = 0) && (st || !decide (y &&& b = b))
noncomputable def spUsable : Sp := fun vs H Q _ => ∃ (r : Addr) (st : Bool) (x y b : Nat), vs = [.ref r, vN b] ∧ RuleAt H r st x y ∧ Q (.bl (usableB st x y b)) H
noncomputable def inN (y : Nat) (bs : List Nat) (at_ : Nat) : Nat := bs.getD at_ 0 &&& y
noncomputable def outN (y : Nat) (bs : List Nat) (at_ : Nat) : Nat := bs.getD at_ 0 - inN y bs at_
noncomputable def behindFx (st : Bool) (y fx : Nat) (bs : List Nat) (at_ : Nat) : Nat := if st = true then fx + inN y bs at_ else fx
noncomputable def behindBs (st : Bool) (y : Nat) (bs : List Nat) (at_ : Nat) : List Nat :=
  bs.take at_ ++ (if st = true then (if 0 < outN y bs at_ then [outN y bs at_] else []) else [inN y bs at_, outN y bs at_]) ++ bs.drop (at_ + 1)
end L2

namespace L2
/-! ### why a draw by 48271 comes to a multiple of four -/
end L2

namespace L2
/-! ### the mathematics of unfolding -/
theorem or_add : ∀ (a b : Nat), a &&& b = 0 → a ||| b = a + b := by
  intro a
  induction a using Nat.strongRecOn with
  | _ a ih =>
    intro b h
    by_cases a0 : a = 0
    · subst a0; simp
    have i := ih (a / 2) (by omega) (b / 2) (by rw [← Nat.and_div_two, h])
    rw [← Nat.or_div_two] at i
    have m1 := Nat.and_mod_two_eq_one (a := a) (b := b)
    have m2 := Nat.or_mod_two_eq_one (a := a) (b := b)
    rw [h] at m1
    omega
theorem dis_iff {a b : Nat} : a &&& b = 0 ↔ ∀ k, a.testBit k = true → b.testBit k = false := by
  constructor
  · intro h k ha
    have e : (a &&& b).testBit k = (0 : Nat).testBit k := by rw [h]
    rw [Nat.testBit_and, Nat.zero_testBit, ha, Bool.true_and] at e
    exact e
  · intro h
    refine Nat.eq_of_testBit_eq fun k => ?_
    rw [Nat.testBit_and, Nat.zero_testBit]
    cases ha : a.testBit k with
    | false => rfl
    | true => rw [h k ha]; rfl
theorem dis_comm {a b : Nat} (h : a &&& b = 0) : b &&& a = 0 := by rw [Nat.and_comm]; exact h
noncomputable def SubN (c b : Nat) : Prop := ∀ k, c.testBit k = true → b.testBit k = true
theorem dis_sub {a b c : Nat} (h : a &&& b = 0) (s : SubN c b) : a &&& c = 0 := dis_iff.mpr fun k ha => by
  cases hc : c.testBit k with
  | false => rfl
  | true => have := dis_iff.mp h k ha; rw [s k hc] at this; exact this
theorem dis_sub' {a b c : Nat} (h : b &&& a = 0) (s : SubN c b) : c &&& a = 0 := dis_comm (dis_sub (dis_comm h) s)
theorem sub_xor (b y : Nat) : b - (b &&& y) = b ^^^ (b &&& y) := by
  have h0 : (b ^^^ (b &&& y)) &&& (b &&& y) = 0 := dis_iff.mpr fun k h => by
    rw [Nat.testBit_xor, Nat.testBit_and] at h
    rw [Nat.testBit_and]
    cases hb : b.testBit k <;> cases hy : y.testBit k <;> rw [hb, hy] at h <;> first | rfl | (simp at h)
  have h1 : (b ^^^ (b &&& y)) ||| (b &&& y) = b := by
    refine Nat.eq_of_testBit_eq fun k => ?_
    rw [Nat.testBit_or, Nat.testBit_xor, Nat.testBit_and]
    cases hb : b.testBit k <;> cases hy : y.testBit k <;> rfl
  have h2 := or_add _ _ h0
  omega
theorem tb_out (b y k : Nat) : (b - (b &&& y)).testBit k = (b.testBit k && !y.testBit k) := by
  rw [sub_xor, Nat.testBit_xor, Nat.testBit_and]
  cases b.testBit k <;> cases y.testBit k <;> rfl
theorem sub_in (b y : Nat) : SubN (b &&& y) b := fun k h => by
  rw [Nat.testBit_and, Bool.and_eq_true] at h
  exact h.1
theorem sub_out (b y : Nat) : SubN (b - (b &&& y)) b := fun k h => by
  rw [tb_out, Bool.and_eq_true] at h
  exact h.1
theorem dis_in_out (b y : Nat) : (b &&& y) &&& (b - (b &&& y)) = 0 := dis_iff.mpr fun k h => by
  rw [Nat.testBit_and, Bool.and_eq_true] at h
  rw [tb_out, h.1, h.2]; rfl
theorem full_dis {m x : Nat} (h : x < 2 ^ m) : x &&& (2 ^ m - 1 - x) = 0 := dis_iff.mpr fun k hk => by
  have e : 2 ^ m - 1 - x = 2 ^ m - (x + 1) := by omega
  rw [e, Nat.testBit_two_pow_sub_succ h, hk]
  simp
structure Good (m fx : Nat) (bs : List Nat) : Prop where
  sum : fx + bs.sum = 2 ^ m - 1
  pos : ∀ b ∈ bs, 0 < b
  dis : ∀ b ∈ bs, fx &&& b = 0
  pw : bs.Pairwise fun a b => a &&& b = 0
theorem len_sum : ∀ {bs : List Nat}, (∀ b ∈ bs, 0 < b) → bs.length ≤ bs.sum
  | [], _ => Nat.le_refl _
  | b :: bs, h => by
    have h1 := h b (List.mem_cons_self ..)
    have h2 := len_sum (bs := bs) fun c hc => h c (List.mem_cons_of_mem _ hc)
    rw [List.length_cons, List.sum_cons]
    omega
theorem mem_sum : ∀ {bs : List Nat} {b : Nat}, b ∈ bs → b ≤ bs.sum
  | c :: bs, b, h => by
    rw [List.sum_cons]
    rcases List.mem_cons.mp h with rfl | h
    · omega
    · have := mem_sum h
      omega
theorem pow7 {m : Nat} (h : m ≤ 7) : 2 ^ m ≤ 128 := Nat.pow_le_pow_right (by decide) h
theorem Good.len {m fx : Nat} {bs : List Nat} (g : Good m fx bs) (h : m ≤ 7) : bs.length ≤ 127 := by
  have h1 := len_sum g.pos
  have h2 := g.sum
  have h3 := pow7 h
  omega
theorem Good.lt {m fx : Nat} {bs : List Nat} (g : Good m fx bs) {b : Nat} (hb : b ∈ bs) : b < 2 ^ m := by
  have h1 := mem_sum hb
  have h2 := g.sum
  have h3 := Nat.two_pow_pos m
  omega
theorem split_at {bs : List Nat} {i : Nat} (h : i < bs.length) : bs = bs.take i ++ bs.getD i 0 :: bs.drop (i + 1) := by
  have e : bs.getD i 0 = bs[i] := by rw [List.getD_eq_getElem?_getD, List.getElem?_eq_getElem h]; rfl
  rw [e, ← List.drop_eq_getElem_cons h, List.take_append_drop]
theorem usable_in {st : Bool} {x y b : Nat} (h : usableB st x y b = true) : x &&& b = 0 ∧ 0 < b &&& y ∧ (st = true ∨ b &&& y < b) := by
  unfold usableB at h
  rw [Bool.and_eq_true, Bool.and_eq_true] at h
  obtain ⟨⟨h1, h2⟩, h3⟩ := h
  have e1 := of_decide_eq_true h1
  have e2 : ¬ (y &&& b = 0) := by
    intro z; rw [decide_eq_true z] at h2; cases h2
  rw [Nat.and_comm] at e2
  refine ⟨e1, by omega, ?_⟩
  rw [Bool.or_eq_true] at h3
  rcases h3 with h3 | h3
  · exact .inl h3
  · right
    have e3 : ¬ (y &&& b = b) := by
      intro z; rw [decide_eq_true z] at h3; cases h3
    rw [Nat.and_comm] at e3
    have := Nat.and_le_left (n := b) (m := y)
    omega
theorem Good.use {m fx : Nat} {bs : List Nat} (g : Good m fx bs) {st : Bool} {x y i : Nat} (hi : i < bs.length) (hu : usableB st x y (bs.getD i 0) = true) :
    Good m (behindFx st y fx bs i) (behindBs st y bs i) ∧ 2 * (behindBs st y bs i).sum - (behindBs st y bs i).length < 2 * bs.sum - bs.length := by
  obtain ⟨_, hin, hout⟩ := usable_in hu
  have e := split_at hi
  have ls := len_sum g.pos
  unfold behindFx behindBs outN inN
  generalize bs.getD i 0 = b at e hin hout
  generalize bs.take i = p at e
  generalize bs.drop (i + 1) = q at e
  subst e
  have le : b &&& y ≤ b := Nat.and_le_left
  obtain ⟨sm, ps, ds, pw⟩ := g
  have hb : b ∈ p ++ b :: q := List.mem_append_right _ (List.mem_cons_self ..)
  have hp : ∀ c ∈ p, c ∈ p ++ b :: q := fun c hc => List.mem_append_left _ hc
  have hq : ∀ c ∈ q, c ∈ p ++ b :: q := fun c hc => List.mem_append_right _ (List.mem_cons_of_mem _ hc)
  have db := ds b hb
  rw [List.pairwise_append, List.pairwise_cons] at pw
  obtain ⟨pp, ⟨bq, qq⟩, pq⟩ := pw
  have pb : ∀ c ∈ p, c &&& b = 0 := fun c hc => pq c hc b (List.mem_cons_self ..)
  have pq' : ∀ c ∈ p, ∀ d ∈ q, c &&& d = 0 := fun c hc d hd => pq c hc d (List.mem_cons_of_mem _ hd)
  have sm' : (p ++ b :: q).sum = p.sum + (b + q.sum) := by rw [List.sum_append, List.sum_cons]
  have ln' : (p ++ b :: q).length = p.length + (q.length + 1) := by rw [List.length_append, List.length_cons]
  rw [sm'] at sm ls
  rw [sm', ln']
  rw [ln'] at ls
  have lp : p.length ≤ p.sum := len_sum fun c hc => ps c (hp c hc)
  have lq : q.length ≤ q.sum := len_sum fun c hc => ps c (hq c hc)
  have orfx : ∀ c, fx &&& c = 0 → (b &&& y) &&& c = 0 → (fx + (b &&& y)) &&& c = 0 := fun c h1 h2 => by
    rw [← or_add _ _ (dis_sub db (sub_in b y))]
    refine dis_iff.mpr fun k hk => ?_
    rw [Nat.testBit_or, Bool.or_eq_true] at hk
    rcases hk with hk | hk
    · exact dis_iff.mp h1 k hk
    · exact dis_iff.mp h2 k hk
  have inp : ∀ c ∈ p, (b &&& y) &&& c = 0 := fun c hc => dis_comm (dis_sub (pb c hc) (sub_in b y))
  have inq : ∀ c ∈ q, (b &&& y) &&& c = 0 := fun c hc => dis_sub' (bq c hc) (sub_in b y)
  have outp : ∀ c ∈ p, c &&& (b - (b &&& y)) = 0 := fun c hc => dis_sub (pb c hc) (sub_out b y)
  have outq : ∀ c ∈ q, (b - (b &&& y)) &&& c = 0 := fun c hc => dis_sub' (bq c hc) (sub_out b y)
  cases st with
  | true =>
    simp only [if_true]
    by_cases ho : 0 < b - (b &&& y)
    · rw [if_pos ho]
      refine ⟨⟨?_, ?_, ?_, ?_⟩, ?_⟩
      · rw [List.append_assoc, List.sum_append, List.singleton_append, List.sum_cons]; omega
      · intro c hc
        rcases List.mem_append.mp hc with hc | hc
        · rcases List.mem_append.mp hc with hc | hc
          · exact ps c (hp c hc)
          · rw [List.mem_singleton.mp hc]; exact ho
        · exact ps c (hq c hc)
      · intro c hc
        rcases List.mem_append.mp hc with hc | hc
        · rcases List.mem_append.mp hc with hc | hc
          · exact orfx c (ds c (hp c hc)) (inp c hc)
          · rw [List.mem_singleton.mp hc]; exact orfx _ (dis_sub db (sub_out b y)) (dis_in_out b y)
        · exact orfx c (ds c (hq c hc)) (inq c hc)
      · rw [List.append_assoc, List.singleton_append, List.pairwise_append, List.pairwise_cons]
        refine ⟨pp, ⟨outq, qq⟩, fun c hc d hd => ?_⟩
        rcases List.mem_cons.mp hd with rfl | hd
        · exact outp c hc
        · exact pq' c hc d hd
      · rw [List.append_assoc, List.sum_append, List.singleton_append, List.sum_cons, List.length_append, List.length_cons]; omega
    · rw [if_neg ho, List.append_nil]
      refine ⟨⟨?_, ?_, ?_, ?_⟩, ?_⟩
      · rw [List.sum_append]; omega
      · intro c hc
        rcases List.mem_append.mp hc with hc | hc
        · exact ps c (hp c hc)
        · exact ps c (hq c hc)
      · intro c hc
        rcases List.mem_append.mp hc with hc | hc
        · exact orfx c (ds c (hp c hc)) (inp c hc)
        · exact orfx c (ds c (hq c hc)) (inq c hc)
      · rw [List.pairwise_append]
        exact ⟨pp, qq, pq'⟩
      · rw [List.sum_append, List.length_append]; omega
  | false =>
    have ho : 0 < b - (b &&& y) := by
      rcases hout with h | h
      · cases h
      · omega
    simp only [Bool.false_eq_true, if_false]
    rw [List.append_assoc, List.cons_append, List.cons_append, List.nil_append]
    refine ⟨⟨?_, ?_, ?_, ?_⟩, ?_⟩
    · rw [List.sum_append, List.sum_cons, List.sum_cons]; omega
    · intro c hc
      rcases List.mem_append.mp hc with hc | hc
      · exact ps c (hp c hc)
      · rcases List.mem_cons.mp hc with rfl | hc
        · exact hin
        · rcases List.mem_cons.mp hc with rfl | hc
          · exact ho
          · exact ps c (hq c hc)
    · intro c hc
      rcases List.mem_append.mp hc with hc | hc
      · exact ds c (hp c hc)
      · rcases List.mem_cons.mp hc with rfl | hc
        · exact dis_sub db (sub_in b y)
        · rcases List.mem_cons.mp hc with rfl | hc
          · exact dis_sub db (sub_out b y)
          · exact ds c (hq c hc)
    · rw [List.pairwise_append, List.pairwise_cons, List.pairwise_cons]
      refine ⟨pp, ⟨fun d hd => ?_, outq, qq⟩, fun c hc d hd => ?_⟩
      · rcases List.mem_cons.mp hd with rfl | hd
        · exact dis_in_out b y
        · exact inq d hd
      · rcases List.mem_cons.mp hd with rfl | hd
        · exact dis_comm (inp c hc)
        · rcases List.mem_cons.mp hd with rfl | hd
          · exact outp c hc
          · exact pq' c hc d hd
    · rw [List.sum_append, List.sum_cons, List.sum_cons, List.length_append, List.length_cons, List.length_cons]; omega
/-- the blocks at the beginning -/
noncomputable def beginBs (m x : Nat) : List Nat := if x < 2 ^ m - 1 then [2 ^ m - 1 - x] else []
theorem Good.begin {m x : Nat} (h : x < 2 ^ m) : Good m x (beginBs m x) := by
  unfold beginBs
  split
  · refine ⟨by simp; omega, fun b hb => ?_, fun b hb => ?_, List.pairwise_singleton _ _⟩
    · rw [List.mem_singleton.mp hb]; omega
    · rw [List.mem_singleton.mp hb]; exact full_dis h
  · exact ⟨by simp; omega, fun b hb => absurd hb List.not_mem_nil, fun b hb => absurd hb List.not_mem_nil, List.Pairwise.nil⟩
/-! uses, in their order -/
noncomputable abbrev RD := Bool × Nat × Nat
noncomputable def usB (r : RD) (b : Nat) : Bool := usableB r.1 r.2.1 r.2.2 b
noncomputable def usesR (r : RD) (k : Nat) (bs : List Nat) (n : Nat) : List (Nat × Nat) := ((List.range n).filter fun a => usB r (bs.getD a 0)).map fun a => (k, a)
noncomputable def rdAt (rs : List RD) (k : Nat) : RD := rs.getD k (false, 0, 0)
noncomputable def usesN (rs : List RD) (bs : List Nat) (i : Nat) : List (Nat × Nat) := (List.range i).flatMap fun k => usesR (rdAt rs k) k bs bs.length
theorem usesR_succ (r : RD) (k : Nat) (bs : List Nat) (n : Nat) : usesR r k bs (n + 1) = usesR r k bs n ++ (if usB r (bs.getD n 0) = true then [(k, n)] else []) := by
  unfold usesR
  rw [List.range_succ, List.filter_append, List.map_append]
  congr 1
  cases h : usB r (bs.getD n 0) <;> simp only [List.filter_cons, List.filter_nil, h] <;> rfl
theorem usesN_succ (rs : List RD) (bs : List Nat) (i : Nat) : usesN rs bs (i + 1) = usesN rs bs i ++ usesR (rdAt rs i) i bs bs.length := by
  unfold usesN
  rw [List.range_succ, List.flatMap_append, List.flatMap_cons, List.flatMap_nil, List.append_nil]
theorem mem_usesR {r : RD} {k n : Nat} {bs : List Nat} {u : Nat × Nat} (h : u ∈ usesR r k bs n) : u.1 = k ∧ u.2 < n ∧ usB r (bs.getD u.2 0) = true := by
  unfold usesR at h
  obtain ⟨a, ha, rfl⟩ := List.mem_map.mp h
  obtain ⟨h1, h2⟩ := List.mem_filter.mp ha
  exact ⟨rfl, List.mem_range.mp h1, h2⟩
theorem mem_usesN {rs : List RD} {bs : List Nat} {i : Nat} {u : Nat × Nat} (h : u ∈ usesN rs bs i) : u.1 < i ∧ u.2 < bs.length ∧ usB (rdAt rs u.1) (bs.getD u.2 0) = true := by
  unfold usesN at h
  obtain ⟨k, hk, hu⟩ := List.mem_flatMap.mp h
  obtain ⟨rfl, h2, h3⟩ := mem_usesR hu
  exact ⟨List.mem_range.mp hk, h2, h3⟩
theorem uses_nil {rs : List RD} {bs : List Nat} (h : usesN rs bs rs.length = []) {r : RD} (hr : r ∈ rs) {b : Nat} (hb : b ∈ bs) : usB r b = false := by
  cases e : usB r b with
  | false => rfl
  | true =>
    exfalso
    obtain ⟨k, hk, rfl⟩ := List.getElem_of_mem hr
    obtain ⟨a, ha, rfl⟩ := List.getElem_of_mem hb
    have e1 : rdAt rs k = rs[k] := by unfold rdAt; rw [List.getD_eq_getElem?_getD, List.getElem?_eq_getElem hk]; rfl
    have e2 : bs.getD a 0 = bs[a] := by rw [List.getD_eq_getElem?_getD, List.getElem?_eq_getElem ha]; rfl
    have : (k, a) ∈ usesN rs bs rs.length := by
      unfold usesN
      refine List.mem_flatMap.mpr ⟨k, List.mem_range.mpr hk, ?_⟩
      unfold usesR
      refine List.mem_map.mpr ⟨a, List.mem_filter.mpr ⟨List.mem_range.mpr ha, ?_⟩, rfl⟩
      rw [e1, e2]; exact e
    rw [h] at this
    exact absurd this List.not_mem_nil
/-! a run -/
structure US where
  fx : Nat
  bs : List Nat
  st : List (Nat × Nat)
noncomputable def stepS (rs : List RD) (s : US) (u : Nat × Nat) : US :=
  ⟨behindFx (rdAt rs u.1).1 (rdAt rs u.1).2.2 s.fx s.bs u.2, behindBs (rdAt rs u.1).1 (rdAt rs u.1).2.2 s.bs u.2, s.st ++ [(u.1, s.bs.getD u.2 0)]⟩
inductive Run (rs : List RD) : US → US → Prop
  | done {s : US} : usesN rs s.bs rs.length = [] → Run rs s s
  | step {s t : US} {u : Nat × Nat} {us : List (Nat × Nat)} : usesN rs s.bs rs.length = u :: us → Run rs (stepS rs s u) t → Run rs s t
noncomputable def muS (bs : List Nat) : Nat := 2 * bs.sum - bs.length
theorem step_good {rs : List RD} {s : US} {u : Nat × Nat} {m : Nat} (g : Good m s.fx s.bs) (h : u ∈ usesN rs s.bs rs.length) : Good m (stepS rs s u).fx (stepS rs s u).bs ∧ muS (stepS rs s u).bs < muS s.bs := by
  obtain ⟨_, h2, h3⟩ := mem_usesN h
  exact g.use h2 h3
theorem step_st (rs : List RD) (s : US) (u : Nat × Nat) : (stepS rs s u).st.length = s.st.length + 1 := by
  unfold stepS
  rw [List.length_append]; rfl
theorem usesR_pre (r : RD) (k : Nat) (bs : List Nat) (j : Nat) : ∀ d, ∃ z, usesR r k bs (j + d) = usesR r k bs j ++ z
  | 0 => ⟨[], by rw [List.append_nil]; rfl⟩
  | d + 1 => by
    obtain ⟨z, e⟩ := usesR_pre r k bs j d
    exact ⟨_, by rw [← Nat.add_assoc, usesR_succ, e, List.append_assoc]⟩
theorem usesN_pre (rs : List RD) (bs : List Nat) (i : Nat) : ∀ d, ∃ z, usesN rs bs (i + d) = usesN rs bs i ++ z
  | 0 => ⟨[], by rw [List.append_nil]; rfl⟩
  | d + 1 => by
    obtain ⟨z, e⟩ := usesN_pre rs bs i d
    exact ⟨_, by rw [← Nat.add_assoc, usesN_succ, e, List.append_assoc]⟩
theorem uses_first {rs : List RD} {bs : List Nat} {i j n : Nat} (h0 : usesN rs bs i = []) (h1 : usesR (rdAt rs i) i bs j = []) (hi : i < n) (hj : j < bs.length) (hu : usB (rdAt rs i) (bs.getD j 0) = true) : ∃ us, usesN rs bs n = (i, j) :: us := by
  obtain ⟨z, e⟩ := usesN_pre rs bs (i + 1) (n - (i + 1))
  obtain ⟨z', e'⟩ := usesR_pre (rdAt rs i) i bs (j + 1) (bs.length - (j + 1))
  rw [show i + 1 + (n - (i + 1)) = n by omega] at e
  rw [show j + 1 + (bs.length - (j + 1)) = bs.length by omega, usesR_succ, h1, if_pos hu] at e'
  rw [e, usesN_succ, h0, e']
  exact ⟨_, rfl⟩
/-! the parts drawn by k20's law -/
/-! every column is fixed or in a block -/
noncomputable def orL (bs : List Nat) : Nat := bs.foldr (· ||| ·) 0
theorem orL_dis {c : Nat} : ∀ {bs : List Nat}, (∀ b ∈ bs, c &&& b = 0) → c &&& orL bs = 0
  | [], _ => by simp [orL]
  | b :: bs, h => by
    show c &&& (b ||| orL bs) = 0
    have h1 := h b (List.mem_cons_self ..)
    have h2 := orL_dis (bs := bs) fun d hd => h d (List.mem_cons_of_mem _ hd)
    refine dis_iff.mpr fun k hk => ?_
    rw [Nat.testBit_or, dis_iff.mp h1 k hk, dis_iff.mp h2 k hk]; rfl
theorem orL_sum : ∀ {bs : List Nat}, (bs.Pairwise fun a b => a &&& b = 0) → orL bs = bs.sum
  | [], _ => rfl
  | b :: bs, h => by
    rw [List.pairwise_cons] at h
    show b ||| orL bs = _
    rw [or_add _ _ (orL_dis h.1), orL_sum h.2, List.sum_cons]
theorem tb_orL {k : Nat} : ∀ {bs : List Nat}, (orL bs).testBit k = true ↔ ∃ b ∈ bs, b.testBit k = true
  | [] => by simp [orL]
  | b :: bs => by
    show (b ||| orL bs).testBit k = true ↔ _
    rw [Nat.testBit_or, Bool.or_eq_true, tb_orL (bs := bs)]
    constructor
    · rintro (h | ⟨c, hc, h⟩)
      · exact ⟨b, List.mem_cons_self .., h⟩
      · exact ⟨c, List.mem_cons_of_mem _ hc, h⟩
    · rintro ⟨c, hc, h⟩
      rcases List.mem_cons.mp hc with rfl | hc
      · exact .inl h
      · exact .inr ⟨c, hc, h⟩
theorem Good.col {m fx : Nat} {bs : List Nat} (g : Good m fx bs) {k : Nat} : fx.testBit k = true ↔ k < m ∧ ∀ b ∈ bs, b.testBit k = false := by
  have e : fx ||| orL bs = 2 ^ m - 1 := by rw [or_add _ _ (orL_dis g.dis), orL_sum g.pw, g.sum]
  have t : (fx ||| orL bs).testBit k = decide (k < m) := by rw [e, Nat.testBit_two_pow_sub_one]
  rw [Nat.testBit_or] at t
  constructor
  · intro h
    rw [h, Bool.true_or] at t
    exact ⟨of_decide_eq_true t.symm, fun b hb => dis_iff.mp (g.dis b hb) k h⟩
  · rintro ⟨hk, h⟩
    rw [decide_eq_true hk, Bool.or_eq_true] at t
    rcases t with t | t
    · exact t
    · obtain ⟨b, hb, hbk⟩ := tb_orL.mp t
      rw [h b hb] at hbk; cases hbk
/-! a set whose book keeps the rules stays within one block -/
theorem usable_sub {st : Bool} {x y b d : Nat} (hu : usableB st x y b = true) (hd : usableB st x y d = false) (s : SubN d b) : y &&& d = 0 ∨ (st = false ∧ y &&& d = d) := by
  obtain ⟨h1, _, _⟩ := usable_in hu
  have h2 : x &&& d = 0 := dis_sub h1 s
  unfold usableB at hd
  rw [decide_eq_true h2, Bool.true_and] at hd
  by_cases h3 : y &&& d = 0
  · exact .inl h3
  · right
    rw [decide_eq_false h3, Bool.not_false, Bool.true_and, Bool.or_eq_false_iff] at hd
    refine ⟨hd.1, ?_⟩
    by_cases h4 : y &&& d = d
    · exact h4
    · rw [decide_eq_false h4] at hd; cases hd.2
theorem keep_in {st : Bool} {x y d i : Nat} {bs : List Nat} (hi : i < bs.length) (hu : usableB st x y (bs.getD i 0) = true) (hd : usableB st x y d = false) (d0 : d ≠ 0) (h : ∃ b ∈ bs, SubN d b) : ∃ b ∈ behindBs st y bs i, SubN d b := by
  obtain ⟨b, hb, hs⟩ := h
  have e := split_at hi
  unfold behindBs outN inN
  generalize bs.getD i 0 = c at e hu
  generalize bs.take i = p at e
  generalize bs.drop (i + 1) = q at e
  subst e
  rcases List.mem_append.mp hb with hb | hb
  · exact ⟨b, List.mem_append_left _ (List.mem_append_left _ hb), hs⟩
  rcases List.mem_cons.mp hb with rfl | hb
  · have so : y &&& d = 0 → SubN d (b - (b &&& y)) := fun z k hk => by
      rw [tb_out, hs k hk, dis_iff.mp (dis_comm z) k hk]; rfl
    have si : y &&& d = d → SubN d (b &&& y) := fun z k hk => by
      have : (y &&& d).testBit k = true := by rw [z]; exact hk
      rw [Nat.testBit_and, Bool.and_eq_true] at this
      rw [Nat.testBit_and, hs k hk, this.1]; rfl
    have ne : SubN d (b - (b &&& y)) → 0 < b - (b &&& y) := fun z => by
      apply Nat.pos_of_ne_zero
      intro e0
      apply d0
      refine Nat.eq_of_testBit_eq fun k => ?_
      rw [Nat.zero_testBit]
      cases hk : d.testBit k with
      | false => rfl
      | true => have := z k hk; rw [e0, Nat.zero_testBit] at this; cases this
    rcases usable_sub hu hd hs with z | ⟨rfl, z⟩
    · refine ⟨b - (b &&& y), List.mem_append_left _ (List.mem_append_right _ ?_), so z⟩
      cases st with
      | true => rw [if_pos rfl, if_pos (ne (so z))]; exact List.mem_singleton.mpr rfl
      | false => rw [if_neg Bool.false_ne_true]; exact List.mem_cons_of_mem _ (List.mem_singleton.mpr rfl)
    · exact ⟨b &&& y, List.mem_append_left _ (List.mem_append_right _ (List.mem_cons_self ..)), si z⟩
  · exact ⟨b, List.mem_append_right _ hb, hs⟩
theorem rd_mem {rs : List RD} {k : Nat} (h : k < rs.length) : rdAt rs k ∈ rs := by
  unfold rdAt
  rw [List.getD_eq_getElem?_getD, List.getElem?_eq_getElem h]
  exact List.getElem_mem h
/-- what a run comes to -/
theorem Run.good {rs : List RD} {s t : US} {m : Nat} (h : Run rs s t) : Good m s.fx s.bs → Good m t.fx t.bs ∧ usesN rs t.bs rs.length = [] := by
  induction h with
  | done h => exact fun g => ⟨g, h⟩
  | step e _ ih => exact fun g => ih (step_good g (by rw [e]; exact List.mem_cons_self ..)).1
theorem Run.keep {rs : List RD} {s t : US} {d : Nat} (h : Run rs s t) (d0 : d ≠ 0) (hd : ∀ r ∈ rs, usB r d = false) : (∃ b ∈ s.bs, SubN d b) → ∃ b ∈ t.bs, SubN d b := by
  induction h with
  | done h => exact id
  | step e _ ih =>
    intro z
    obtain ⟨h1, h2, h3⟩ := mem_usesN (rs := rs) (by rw [e]; exact List.mem_cons_self ..)
    exact ih (keep_in h2 h3 (hd _ (rd_mem h1)) d0 z)
theorem begin_sub {m x d : Nat} (hx : x < 2 ^ m) (hd : d < 2 ^ m) (d0 : d ≠ 0) (z : d &&& x = 0) : ∃ b ∈ beginBs m x, SubN d b := by
  have s : SubN d (2 ^ m - 1 - x) := fun k hk => by
    have e : 2 ^ m - 1 - x = 2 ^ m - (x + 1) := by omega
    rw [e, Nat.testBit_two_pow_sub_succ hx, dis_iff.mp z k hk]
    have : k < m := by
      apply Nat.lt_of_not_le
      intro le
      have : d.testBit k = false := Nat.testBit_lt_two_pow (Nat.lt_of_lt_of_le hd (Nat.pow_le_pow_right (by decide) le))
      rw [this] at hk; cases hk
    rw [decide_eq_true this]; rfl
  have lt : x < 2 ^ m - 1 := by
    apply Nat.lt_of_not_le
    intro le
    apply d0
    have e : 2 ^ m - 1 - x = 0 := by omega
    refine Nat.eq_of_testBit_eq fun k => ?_
    rw [Nat.zero_testBit]
    cases hk : d.testBit k with
    | false => rfl
    | true => have := s k hk; rw [e, Nat.zero_testBit] at this; cases this
  unfold beginBs
  rw [if_pos lt]
  exact ⟨_, List.mem_singleton.mpr rfl, s⟩
theorem behind_sub {st : Bool} {y i k : Nat} {bs : List Nat} (hi : i < bs.length) (h : ∃ b ∈ behindBs st y bs i, b.testBit k = true) : ∃ b ∈ bs, b.testBit k = true := by
  obtain ⟨b, hb, hk⟩ := h
  have e := split_at hi
  unfold behindBs outN inN at hb
  generalize bs.getD i 0 = c at e hb
  generalize bs.take i = p at e hb
  generalize bs.drop (i + 1) = q at e hb
  subst e
  rcases List.mem_append.mp hb with hb | hb
  · rcases List.mem_append.mp hb with hb | hb
    · exact ⟨b, List.mem_append_left _ hb, hk⟩
    · refine ⟨c, List.mem_append_right _ (List.mem_cons_self ..), ?_⟩
      cases st with
      | true =>
        rw [if_pos rfl] at hb
        split at hb
        · rw [List.mem_singleton.mp hb] at hk; exact sub_out c y k hk
        · exact absurd hb List.not_mem_nil
      | false =>
        rw [if_neg Bool.false_ne_true] at hb
        rcases List.mem_cons.mp hb with rfl | hb
        · exact sub_in c y k hk
        · rw [List.mem_singleton.mp hb] at hk; exact sub_out c y k hk
  · exact ⟨b, List.mem_append_right _ (List.mem_cons_of_mem _ hb), hk⟩
/-- no block at the end has a column that no block had -/
theorem Run.sub {rs : List RD} {s t : US} {k : Nat} (h : Run rs s t) : (∃ b ∈ t.bs, b.testBit k = true) → ∃ b ∈ s.bs, b.testBit k = true := by
  induction h with
  | done h => exact id
  | step e _ ih =>
    intro z
    obtain ⟨_, h2, _⟩ := mem_usesN (rs := rs) (by rw [e]; exact List.mem_cons_self ..)
    exact behind_sub h2 (ih z)
end L2

namespace L2
open PySem PySem.Spec PyProof.Rows
/-! ### what is not in a set, min, an object of one's own written -/
theorem Same.own {H H' : Hp} {p : Addr} {o : HO} (e : Same H H') (h : H p = Option.none) : Same H (upd H' p o) := fun c u z => by
  rw [upd_ne (ne_of_none z h)]
  exact e c u z
theorem and_not (b y : Nat) : Builtin.bitAnd (b : Int) (Builtin.bitNot (y : Int)) = ((b - (b &&& y) : Nat) : Int) := by
  have hy : ¬ 0 ≤ Builtin.bitNot (y : Int) := by unfold Builtin.bitNot; omega
  have hb : 0 ≤ (b : Int) := by omega
  have le := Nat.and_le_left (n := b) (m := y)
  simp only [Builtin.bitAnd, hy, hb, decide_false, decide_true, bitNot_not, Int.toNat_natCast]
  omega
section
variable {X : Cx} {K : PySem.W.Frag}
theorem op_andInv : OpR X (binaryOp .BitAnd) (fun x y H Q => ∃ a b : Nat, x = vN a ∧ y = .int (Builtin.bitNot (b : Int)) ∧ Q (vN (a - (a &&& b))) H) := op_and.mono fun x y H Q ⟨a, b, h1, h2, q⟩ => ⟨a, _, h1, h2, by
  show Q (V.int (Builtin.bitAnd (a : Int) (Builtin.bitNot (b : Int)))) H
  rw [and_not]; exact q⟩
theorem pg_tupK {es : List Expr} {k : Nat} {pos : Pos} {t : TGs} {n : Nat} (hK : X.K = K) (hc : X.calm = true) (h : PGs X es t) (hn : (assignEach es X.env).length = n) (hst : (assignEach es X.env).findIdx? (·.1) = none) : PG X (.Tuple es k pos) (gTup K n t) := hK ▸ pg_tup hc h hn hst
/-- an item that is written out (the rest of the list stays shut) -/
theorem pa_consC {c : Const} {k : Nat} {pos : Pos} {es : List Expr} {te : TE} {t : TA} (ha : PE X (.Constant c k pos) te) (hr : PA X es t) : PA X (.Constant c k pos :: es) (tCons te t) := pa_cons ha hr rfl
end
/-! ### what the unfolding's defs promise -/
noncomputable def spListed : Sp := fun vs H Q _ => ∃ b : Nat, vs = [vN b] ∧ ∀ p, H p = none → Q (.ref p) (upd H p (.lst ((if 0 < b then [b] else []).map vN)))
noncomputable def spUsed (K : PySem.W.Frag) : Sp := fun vs H Q _ => ∃ (r l : Addr) (st : Bool) (x y fx at_ : Nat) (bs : List Nat), vs = [.ref r, vN fx, .ref l, vN at_] ∧ RuleAt H r st x y ∧ SqL K H l (bs.map vN) ∧ at_ < bs.length ∧ bs.length ≤ 200 ∧ fx &&& bs.getD at_ 0 = 0 ∧
  ∀ (t p : Addr) (H' : Hp), Same H H' → H t = none → H' t = some (.tup [vN (behindFx st y fx bs at_), .ref p]) → H p = none → H' p = some (.lst ((behindBs st y bs at_).map vN)) → Q (.ref t) H'
noncomputable def spBegun (K : PySem.W.Frag) : Sp := fun vs H Q _ => ∃ m x : Nat, vs = [vN m, vN x] ∧ m ≤ 7 ∧ x < 2 ^ m ∧
  ∀ (t p : Addr) (H' : Hp), Same H H' → H t = none → H' t = some (.tup [vN x, .ref p]) → H p = none → H' p = some (.lst ((beginBs m x).map vN)) → Q (.ref t) H'
noncomputable def Rl.d (r : Rl) : RD := (r.st, r.x, r.y)
theorem rd_at {rs : List Rl} {k : Nat} {r : Rl} (h : rs[k]? = some r) : rdAt (rs.map Rl.d) k = r.d := by
  unfold rdAt
  rw [List.getD_eq_getElem?_getD, List.getElem?_map, h]; rfl
noncomputable def RulesAt (H : Hp) (m : Nat) (rs : List Rl) : Prop := ∀ r ∈ rs, RuleAt H r.r r.st r.x r.y ∧ r.x < 2 ^ m ∧ r.y < 2 ^ m
theorem RulesAt.same {H H' : Hp} {m : Nat} {rs : List Rl} (h : RulesAt H m rs) (e : Same H H') : RulesAt H' m rs := fun r hr => ⟨e _ _ (h r hr).1, (h r hr).2⟩
noncomputable def spFirstUse (K : PySem.W.Frag) : Sp := fun vs H Q _ => ∃ (rl bl : Addr) (rs : List Rl) (bs : List Nat) (m : Nat), vs = [.ref rl, .ref bl] ∧ SqL K H rl (rs.map fun r => V.ref r.r) ∧ RulesAt H m rs ∧ SqL K H bl (bs.map vN) ∧ rs.length ≤ 200 ∧ bs.length ≤ 200 ∧
  (∀ H', Same H H' → usesN (rs.map Rl.d) bs rs.length = [] → Q .non H') ∧
  ∀ (u : Nat × Nat) (us : List (Nat × Nat)) (t : Addr) (H' : Hp), Same H H' → usesN (rs.map Rl.d) bs rs.length = u :: us → H t = none → H' t = some (.tup [vN u.1, vN u.2]) → Q (.ref t) H'
/-- tuples of two numbers in the heap -/
noncomputable abbrev SW := Addr × (Nat × Nat)
noncomputable def StepsAt (H : Hp) (sw : List SW) : Prop := ∀ w ∈ sw, H w.1 = some (.tup [vN w.2.1, vN w.2.2])
theorem StepsAt.same {H H' : Hp} {sw : List SW} (h : StepsAt H sw) (e : Same H H') : StepsAt H' sw := fun w hw => e _ _ (h w hw)
theorem StepsAt.put {H : Hp} {sw : List SW} {q : Addr} {xs ys : List V} (h : StepsAt H sw) (hq : H q = some (.lst xs)) : StepsAt (upd H q (.lst ys)) sw := fun w hw => by
  rw [upd_ne (ne_of (h w hw) hq (by intro z; cases z))]
  exact h w hw
theorem StepsAt.snoc {H : Hp} {sw : List SW} {w : SW} (h : StepsAt H sw) (hw : H w.1 = some (.tup [vN w.2.1, vN w.2.2])) : StepsAt H (sw ++ [w]) := fun v hv => by
  rcases List.mem_append.mp hv with hv | hv
  · exact h v hv
  · rw [List.mem_singleton.mp hv]; exact hw
theorem rd_len (rs : List Rl) : (rs.map Rl.d).length = rs.length := List.length_map ..
noncomputable def spUnfolded (K : PySem.W.Frag) : Sp := fun vs H Q _ => ∃ (m x : Nat) (rl : Addr) (rs : List Rl), vs = [vN m, .ref rl, vN x] ∧ m ≤ 7 ∧ x < 2 ^ m ∧ SqL K H rl (rs.map fun r => V.ref r.r) ∧ RulesAt H m rs ∧ rs.length ≤ 200 ∧
  ∀ (t p q : Addr) (s : US) (sw : List SW) (H' : Hp), Run (rs.map Rl.d) ⟨x, beginBs m x, []⟩ s → Same H H' → H t = none → H' t = some (.tup [vN s.fx, .ref p, .ref q]) → H p = none → H' p = some (.lst (s.bs.map vN)) → H q = none → H' q = some (.lst (sw.map fun w => V.ref w.1)) → StepsAt H' sw → sw.map (·.2) = s.st → sw.length ≤ 300 → p ≠ q → Q (.ref t) H'
/-! data -/
theorem same_list {α : Type} [DecidableEq α] {f : α → PyData} (h : ∀ a b, same (f a) (f b) = decide (a = b)) (xs ys : List α) : same (.list (xs.map f)) (.list (ys.map f)) = decide (xs = ys) := by
  simp only [same]
  exact sameAll_map h xs ys
theorem noMix_list {α : Type} {f : α → PyData} (h : ∀ a b, SeqAt.noMix (f a) (f b) = true) (xs ys : List α) : SeqAt.noMix (.list (xs.map f)) (.list (ys.map f)) = true := by
  simp only [SeqAt.noMix]
  exact noMixAll_map h xs ys
theorem same_dR (a b : RD) : same (dR a) (dR b) = decide (a = b) := by
  unfold dR
  obtain ⟨a1, a2, a3⟩ := a
  obtain ⟨b1, b2, b3⟩ := b
  have hw : (wordS a1 = wordS b1) ↔ a1 = b1 := by
    constructor
    · intro h
      cases a1 <;> cases b1 <;> first | rfl | (exact absurd h (by decide))
    · rintro rfl; rfl
  by_cases h1 : a1 = b1 <;> by_cases h2 : a2 = b2 <;> by_cases h3 : a3 = b3 <;> simp [same, sameAll, hw, h1, h2, h3, Int.ofNat_inj]
theorem rules_dv {K : PySem.W.Frag} {H : Hp} {m : Nat} : ∀ {rs : List Rl}, RulesAt H m rs → DVs K H (rs.map fun r => V.ref r.r) ((rs.map Rl.d).map dR)
  | [], _ => .nil
  | r :: rs, h => .cons (.tup (SqT.of (h r (List.mem_cons_self ..)).1) (.cons (.str _) (.cons (.int _) (.cons (.int _) .nil)))) (rules_dv fun v hv => h v (List.mem_cons_of_mem _ hv))
end L2

namespace L2
open PySem PySem.Spec PyProof.Rows
/-! ### an unfolding under way, in the heap -/
structure UCore (H : Hp) (m x : Nat) (rs : List Rl) (s : US) (p qa : Addr) (sw : List SW) (H' : Hp) : Prop where
  same : Same H H'
  hp0 : H p = none
  hp : H' p = some (.lst (s.bs.map vN))
  npq : p ≠ qa
  hq0 : H qa = none
  hq : H' qa = some (.lst (sw.map fun w => V.ref w.1))
  st : StepsAt H' sw
  est : sw.map (·.2) = s.st
  good : Good m s.fx s.bs
  run : ∀ z, Run (rs.map Rl.d) s z → Run (rs.map Rl.d) ⟨x, beginBs m x, []⟩ z
  len : s.st.length + muS s.bs ≤ 254
theorem UCore.mono {H : Hp} {m x : Nat} {rs : List Rl} {s : US} {p qa : Addr} {sw : List SW} {H' H'' : Hp} (c : UCore H m x rs s p qa sw H') (e : Same H' H'') : UCore H m x rs s p qa sw H'' :=
  ⟨c.same.trans e, c.hp0, e _ _ c.hp, c.npq, c.hq0, e _ _ c.hq, c.st.same e, c.est, c.good, c.run, c.len⟩
theorem UCore.begin {H H' : Hp} {m x : Nat} {rs : List Rl} {p qa : Addr} (m7 : m ≤ 7) (hx : x < 2 ^ m) (e : Same H H') (hp0 : H p = none) (hp : H' p = some (.lst ((beginBs m x).map vN))) (hq : H' qa = none) : UCore H m x rs ⟨x, beginBs m x, []⟩ p qa [] (upd H' qa (.lst [])) := by
  have g := Good.begin hx
  refine ⟨e.trans (Same.new hq), hp0, Same.new hq _ _ hp, ne_of_none hp hq, e.none hq, upd_same, fun w h => absurd h List.not_mem_nil, rfl, g, fun z h => h, ?_⟩
  have e := g.sum
  have p7 := pow7 m7
  show 0 + muS (beginBs m x) ≤ 254
  unfold muS
  omega
theorem UCore.slen {H : Hp} {m x : Nat} {rs : List Rl} {s : US} {p qa : Addr} {sw : List SW} {H' : Hp} (c : UCore H m x rs s p qa sw H') : sw.length ≤ 254 := by
  have := c.len
  have e := congrArg List.length c.est
  rw [List.length_map] at e
  omega
theorem UCore.next {H : Hp} {m x : Nat} {rs : List Rl} {s : US} {p p' qa : Addr} {sw : List SW} {w : SW} {H1 H3 : Hp} {u : Nat × Nat} {us : List (Nat × Nat)} (c : UCore H m x rs s p qa sw H1) (hu : usesN (rs.map Rl.d) s.bs rs.length = u :: us) (ew : w.2 = (u.1, s.bs.getD u.2 0)) (hw : H1 w.1 = some (.tup [vN w.2.1, vN w.2.2]))
    (s3 : Same (upd H1 qa (.lst ((sw.map fun w => V.ref w.1) ++ [V.ref w.1]))) H3) (hp' : (upd H1 qa (.lst ((sw.map fun w => V.ref w.1) ++ [V.ref w.1]))) p' = none) (hp3 : H3 p' = some (.lst ((stepS (rs.map Rl.d) s u).bs.map vN))) :
    UCore H m x rs (stepS (rs.map Rl.d) s u) p' qa (sw ++ [w]) H3 ∧ muS (stepS (rs.map Rl.d) s u).bs < muS s.bs := by
  rw [← rd_len] at hu
  obtain ⟨g, mu⟩ := step_good (m := m) (rs := rs.map Rl.d) (s := s) (u := u) c.good (by rw [hu]; exact List.mem_cons_self ..)
  have sH : Same H (upd H1 qa (.lst ((sw.map fun w => V.ref w.1) ++ [V.ref w.1]))) := c.same.own c.hq0
  refine ⟨⟨sH.trans s3, sH.none hp', hp3, Ne.symm (ne_of_none upd_same hp'), c.hq0, ?_, ?_, ?_, g, fun z h => c.run z (Run.step hu h), ?_⟩, mu⟩
  · rw [s3 _ _ upd_same, List.map_append]; rfl
  · refine ((c.st.put c.hq).snoc ?_).same s3
    rw [upd_ne (ne_of hw c.hq (by intro z; cases z))]
    exact hw
  · rw [List.map_append, c.est]
    show s.st ++ [w.2] = s.st ++ [(u.1, s.bs.getD u.2 0)]
    rw [ew]
  · rw [step_st]
    have := c.len
    omega
noncomputable def UInv (H : Hp) (m x : Nat) (rl : Addr) (rs : List Rl) (n : Nat) (σ : St) (H' : Hp) : Prop :=
  ∃ (s : US) (t p qa : Addr) (sw : List SW) (v : V), σ = [some (vN m), some (.ref rl), some (vN x), some (.ref t), some (.ref qa), some v] ∧ n = muS s.bs ∧ H' t = some (.tup [vN s.fx, .ref p]) ∧ UCore H m x rs s p qa sw H' ∧
    ((usesN (rs.map Rl.d) s.bs rs.length = [] ∧ v = .non) ∨ ∃ u us t5, usesN (rs.map Rl.d) s.bs rs.length = u :: us ∧ v = .ref t5 ∧ H' t5 = some (.tup [vN u.1, vN u.2]))
/-- what a use of the law's list gives -/
theorem uses_at {rs : List Rl} {bs : List Nat} {u : Nat × Nat} {m : Nat} {H : Hp} (hu : u ∈ usesN (rs.map Rl.d) bs rs.length) (hR : RulesAt H m rs) : ∃ r : Rl, rs[u.1]? = some r ∧ rdAt (rs.map Rl.d) u.1 = r.d ∧ u.2 < bs.length ∧ bs[u.2]? = some (bs.getD u.2 0) ∧ (RuleAt H r.r r.st r.x r.y ∧ r.x < 2 ^ m ∧ r.y < 2 ^ m) := by
  obtain ⟨h1, h2, _⟩ := mem_usesN hu
  have e : rs[u.1]? = some rs[u.1] := List.getElem?_eq_getElem h1
  exact ⟨rs[u.1], e, rd_at e, h2, by rw [List.getD_eq_getElem?_getD, List.getElem?_eq_getElem h2]; rfl, hR _ (List.getElem_mem h1)⟩
end L2

namespace L2
open PySem PySem.Spec PyProof.Rows
/-! ### what follows -/
theorem find_hit {f : Nat → Bool} {bs : List Nat} {i b : Nat} (h0 : (bs.take i).find? f = none) (e : bs[i]? = some b) (h : f b = true) : bs.find? f = some b := by
  have hi : i < bs.length := (List.getElem?_eq_some_iff.mp e).1
  have s := split_at hi
  have ebd : bs.getD i 0 = b := by rw [List.getD_eq_getElem?_getD, e]; rfl
  rw [s, List.find?_append, h0, ebd, List.find?_cons, h]
  rfl
theorem find_miss {f : Nat → Bool} {bs : List Nat} {i b : Nat} (h0 : (bs.take i).find? f = none) (e : bs[i]? = some b) (h : f b ≠ true) : (bs.take (i + 1)).find? f = none := by
  rw [List.take_succ, e, List.find?_append, h0]
  show (none : Option Nat).or ([b].find? f) = none
  rw [List.find?_cons]
  cases z : f b with
  | true => exact absurd z h
  | false => rfl
theorem sum_int : ∀ l : List Nat, (l.map fun (k : Nat) => (k : Int)).sum = ((l.sum : Nat) : Int)
  | [] => rfl
  | a :: l => by rw [List.map_cons, List.sum_cons, List.sum_cons, sum_int l]; omega
section
variable {X : Cx} {K : PySem.W.Frag}
theorem call_sumN (h : X.K = K) (hc : X.calm = true) : CallR X (.builtin "sum") (fun xs H Q => ∃ (p : Addr) (l : List Nat), xs = [.ref p] ∧ SqL K H p (l.map vN) ∧ Q (vN l.sum) H) := fun pins s σ H xs us Q I r z => call_sumK h hc pins s σ H xs us Q I r (by
  obtain ⟨p, l, rfl, hp, q⟩ := z
  refine ⟨p, l.map fun (k : Nat) => (k : Int), rfl, by rw [map_int]; exact hp, ?_⟩
  rw [sum_int]
  exact q)
end
end L2

namespace L2
/-! ### the settled columns, found by books of two rows -/
open PySem PySem.Spec PyProof.Rows
noncomputable def spSettled (K : PySem.W.Frag) : Sp := fun vs H Q _ => ∃ (m x : Nat) (rl : Addr) (rs : List Rl), vs = [vN m, .ref rl, vN x] ∧ m ≤ 7 ∧ x < 2 ^ m ∧ SqL K H rl (rs.map fun r => V.ref r.r) ∧ RulesAt H m rs ∧ rs.length ≤ 200 ∧
  ∀ (s : US) (H' : Hp), Run (rs.map Rl.d) ⟨x, beginBs m x, []⟩ s → Same H H' → Q (vN s.fx) H'
end L2

namespace L2
/-! ### what follows, told by the sets whose books keep the rules -/
theorem Run.apart0 {rs : List RD} {m x : Nat} {s : US} (hx : x < 2 ^ m) (h : Run rs ⟨x, beginBs m x, []⟩ s) {b : Nat} (hb : b ∈ s.bs) : x &&& b = 0 := by
  refine dis_iff.mpr fun k hk => ?_
  cases hbk : b.testBit k with
  | false => rfl
  | true =>
    obtain ⟨c, hc, hck⟩ := h.sub ⟨b, hb, hbk⟩
    have := (Good.begin hx).dis c hc
    rw [dis_iff.mp this k hk] at hck
    cases hck
noncomputable def KeptS (m : Nat) (rs : List RD) (d : Nat) : Prop := 1 ≤ d ∧ d < 2 ^ m ∧ ∀ r ∈ rs, usB r d = false
noncomputable def HasB (a k : Nat) : Prop := a.testBit k = true
theorem bit_of_ne {a : Nat} (h : a ≠ 0) : ∃ k, HasB a k := by
  by_cases z : ∃ k, HasB a k
  · exact z
  · exfalso
    apply h
    refine Nat.eq_of_testBit_eq fun k => ?_
    rw [Nat.zero_testBit]
    cases e : a.testBit k with
    | false => rfl
    | true => exact absurd ⟨k, e⟩ z
theorem hasb_and (a b k : Nat) : HasB (a &&& b) k ↔ HasB a k ∧ HasB b k := by unfold HasB; rw [Nat.testBit_and, Bool.and_eq_true]
theorem hasb_or (a b k : Nat) : HasB (a ||| b) k ↔ HasB a k ∨ HasB b k := by unfold HasB; rw [Nat.testBit_or, Bool.or_eq_true]
theorem hasb_out (b y k : Nat) : HasB (b - (b &&& y)) k ↔ HasB b k ∧ ¬ HasB y k := by
  unfold HasB
  rw [tb_out, Bool.and_eq_true]
  cases y.testBit k <;> simp
theorem hasb_lt {m a k : Nat} (ha : a < 2 ^ m) (h : HasB a k) : k < m := by
  apply Nat.lt_of_not_le
  intro le
  have : a.testBit k = false := Nat.testBit_lt_two_pow (Nat.lt_of_lt_of_le ha (Nat.pow_le_pow_right (by decide) le))
  unfold HasB at h
  rw [this] at h; cases h
theorem and_ne {a b : Nat} : a &&& b ≠ 0 ↔ ∃ k, HasB a k ∧ HasB b k := by
  constructor
  · intro h
    obtain ⟨k, hk⟩ := bit_of_ne h
    exact ⟨k, (hasb_and a b k).mp hk⟩
  · rintro ⟨k, h1, h2⟩ e
    have := (hasb_and a b k).mpr ⟨h1, h2⟩
    unfold HasB at this
    rw [e, Nat.zero_testBit] at this
    cases this
theorem Run.kept {rs : List RD} {m x : Nat} {s : US} (hx : x < 2 ^ m) (R : Run rs ⟨x, beginBs m x, []⟩ s) {b : Nat} (hb : b ∈ s.bs) : KeptS m rs b := by
  obtain ⟨g, un⟩ := R.good (m := m) (Good.begin hx)
  exact ⟨g.pos b hb, g.lt hb, fun r hr => uses_nil un hr hb⟩
theorem Run.holds {rs : List RD} {m x d : Nat} {s : US} (hx : x < 2 ^ m) (R : Run rs ⟨x, beginBs m x, []⟩ s) (hd : KeptS m rs d) (ha : ∀ k, HasB d k → ¬ HasB x k) : ∃ b ∈ s.bs, SubN d b := by
  have h0 := hd.1
  refine R.keep (by omega) hd.2.2 (begin_sub hx hd.2.1 (by omega) ?_)
  by_cases z : d &&& x = 0
  · exact z
  · obtain ⟨k, a, b⟩ := and_ne.mp z
    exact absurd b (ha k a)
end L2
namespace L2
/-! ### the rules of following -/
section
variable {m : Nat} {rs : List RD} {x y z v : Nat}
end
open PySem PySem.Spec PyProof.Rows
theorem RulesAt.put {H : Hp} {m : Nat} {rs : List Rl} {q : Addr} {xs ys : List V} (h : RulesAt H m rs) (hq : H q = some (.lst xs)) : RulesAt (upd H q (.lst ys)) m rs := fun r hr => by
  refine ⟨?_, (h r hr).2⟩
  have h1 := (h r hr).1
  unfold RuleAt at h1 ⊢
  rw [upd_ne (ne_of h1 hq (by intro z; cases z))]
  exact h1
end L2

namespace L2
/-! ### which sets are blocks; more rules -/
noncomputable def Apart (x d : Nat) : Prop := ∀ k, HasB d k → ¬ HasB x k
theorem apart_of {x b : Nat} (h : x &&& b = 0) : Apart x b := fun k h1 h2 => by
  have := dis_iff.mp h k h2
  unfold HasB at h1
  rw [this] at h1; cases h1
theorem sub_eq {a b : Nat} (h1 : SubN a b) (h2 : SubN b a) : a = b := Nat.eq_of_testBit_eq fun k => by
  rw [Bool.eq_iff_iff]
  exact ⟨h1 k, h2 k⟩
theorem pw_ne : ∀ {bs : List Nat}, (bs.Pairwise fun a b => a &&& b = 0) → ∀ {a b}, a ∈ bs → b ∈ bs → a ≠ b → a &&& b = 0
  | c :: bs, h, a, b, ha, hb, hn => by
    rw [List.pairwise_cons] at h
    rcases List.mem_cons.mp ha with rfl | ha'
    · rcases List.mem_cons.mp hb with rfl | hb'
      · exact absurd rfl hn
      · exact h.1 b hb'
    · rcases List.mem_cons.mp hb with rfl | hb'
      · exact dis_comm (h.1 a ha')
      · exact pw_ne h.2 ha' hb' hn
theorem Good.nodup {m fx : Nat} {bs : List Nat} (g : Good m fx bs) : bs.Nodup := by
  refine g.pw.imp_of_mem fun {a b} ha hb h e => ?_
  subst e
  rw [Nat.and_self] at h
  have := g.pos a ha
  omega
structure Blocks (m : Nat) (rs : List RD) (x fx : Nat) (bs : List Nat) : Prop where
  good : Good m fx bs
  kept : ∀ b ∈ bs, KeptS m rs b
  apart : ∀ b ∈ bs, Apart x b
  holds : ∀ d, KeptS m rs d → Apart x d → ∃ b ∈ bs, SubN d b
theorem Run.blocks {rs : List RD} {m x : Nat} {s : US} (hx : x < 2 ^ m) (R : Run rs ⟨x, beginBs m x, []⟩ s) : Blocks m rs x s.fx s.bs :=
  ⟨(R.good (m := m) (Good.begin hx)).1, fun b hb => R.kept hx hb, fun b hb => apart_of (R.apart0 hx hb), fun d hd ha => R.holds hx hd ha⟩
theorem Blocks.one {m x fx : Nat} {rs : List RD} {bs : List Nat} (B : Blocks m rs x fx bs) {b c : Nat} (hb : b ∈ bs) (hc : c ∈ bs) (h : SubN b c) : b = c := by
  by_cases e : b = c
  · exact e
  · exfalso
    have := pw_ne B.good.pw hb hc e
    obtain ⟨k, hk⟩ := bit_of_ne (a := b) (by have := B.good.pos b hb; omega)
    have h2 := dis_iff.mp this k hk
    rw [h k hk] at h2; cases h2
theorem Blocks.mem {m x fx : Nat} {rs : List RD} {bs : List Nat} (B : Blocks m rs x fx bs) {b : Nat} : b ∈ bs ↔ KeptS m rs b ∧ Apart x b ∧ ∀ d, KeptS m rs d → Apart x d → SubN b d → SubN d b := by
  constructor
  · intro hb
    refine ⟨B.kept b hb, B.apart b hb, fun d hd ha hs => ?_⟩
    obtain ⟨c, hc, hs2⟩ := B.holds d hd ha
    have e := B.one hb hc fun k hk => hs2 k (hs k hk)
    rw [e]; exact hs2
  · rintro ⟨hk, ha, hm⟩
    obtain ⟨c, hc, hs⟩ := B.holds b hk ha
    have := hm c (B.kept c hc) (B.apart c hc) hs
    rw [sub_eq hs this]; exact hc
theorem Blocks.fix {m x fx : Nat} {rs : List RD} {bs : List Nat} (B : Blocks m rs x fx bs) {k : Nat} : HasB fx k ↔ k < m ∧ ∀ d, KeptS m rs d → Apart x d → ¬ HasB d k := by
  unfold HasB
  rw [B.good.col]
  constructor
  · rintro ⟨h1, h2⟩
    refine ⟨h1, fun d hd ha hk => ?_⟩
    obtain ⟨b, hb, hs⟩ := B.holds d hd ha
    have := hs k hk
    rw [h2 b hb] at this; cases this
  · rintro ⟨h1, h2⟩
    refine ⟨h1, fun b hb => ?_⟩
    cases e : b.testBit k with
    | false => rfl
    | true => exact absurd e (h2 b (B.kept b hb) (B.apart b hb))
theorem Blocks.same {m x fx fx' : Nat} {rs rs' : List RD} {bs bs' : List Nat} (B : Blocks m rs x fx bs) (B' : Blocks m rs' x fx' bs') (h : ∀ d, KeptS m rs d ↔ KeptS m rs' d) : fx = fx' ∧ bs.Perm bs' := by
  constructor
  · refine Nat.eq_of_testBit_eq fun k => ?_
    rw [Bool.eq_iff_iff]
    show HasB fx k ↔ HasB fx' k
    rw [B.fix, B'.fix]
    exact ⟨fun ⟨a, b⟩ => ⟨a, fun d hd => b d ((h d).mpr hd)⟩, fun ⟨a, b⟩ => ⟨a, fun d hd => b d ((h d).mp hd)⟩⟩
  · rw [List.perm_ext_iff_of_nodup B.good.nodup B'.good.nodup]
    intro b
    rw [B.mem, B'.mem, h b]
    exact ⟨fun ⟨a, c, e⟩ => ⟨a, c, fun d hd => e d ((h d).mpr hd)⟩, fun ⟨a, c, e⟩ => ⟨a, c, fun d hd => e d ((h d).mp hd)⟩⟩
end L2
namespace L2
open PySem PySem.Spec PyProof.Rows
end L2

namespace L2
/-! ### covers -/
open PySem PySem.Spec PyProof.Rows
theorem cols_has : ∀ a, a < 128 → ∀ k, k < 8 → (k ∈ colsN a ↔ a.testBit k = true) := by decide +kernel
theorem cols_mem {a : Nat} (ha : a < 128) (k : Nat) : k ∈ colsN a ↔ HasB a k := by
  by_cases hk : k < 8
  · exact cols_has a ha k hk
  · constructor
    · intro h
      have h1 := List.mem_range.mp (List.mem_filter.mp h).1
      have h2 : bitsN a ≤ 7 := by
        unfold bitsN Builtin.Int.intBits
        split
        · omega
        · rename_i z
          have h0 : a ≠ 0 := by intro e; subst e; exact z rfl
          have : a.log2 < 7 := (Nat.log2_lt h0).mpr ha
          show (a : Int).natAbs.log2 + 1 ≤ 7
          rw [Int.natAbs_natCast]
          omega
      omega
    · intro h
      have := hasb_lt (m := 7) ha h
      omega
noncomputable def spPCell (K : PySem.W.Frag) : Sp := fun vs H Q _ => ∃ (sc : Addr) (ns : List Int) (k : Nat), vs = [.ref sc, vN k] ∧ SqL K H sc (ns.map V.int) ∧ k ≤ 1000000 ∧ ∀ v : Int, Q (.int v) H
end L2

namespace L2
open PySem PySem.Spec PyProof.Rows
structure PR (K : PySem.W.Frag) (H : Hp) (st : Addr) (ns : List Int) (m : Nat) (g : Addr) (rs : List Rl) (k : Nat) (H' : Hp) : Prop where
  at_ : RulesAt H' m rs
  hg : H' g = some (.lst (rs.map fun r => V.ref r.r))
  S : STF K H' st ns k
  B : But st H H'
  hg0 : H g = none
  hgs : g ≠ st
noncomputable def spPRules (K : PySem.W.Frag) : Sp := fun vs H Q _ => ∃ (st : Addr) (ns : List Int) (k m mo : Nat), vs = [.ref st, vN m, vN mo] ∧ STF K H st ns k ∧ k ≤ 1000 ∧ ns.length ≤ 63 ∧ 1 ≤ m ∧ m ≤ 7 ∧ mo ≤ 4 ∧
  ∀ (rs : List Rl) (p : Addr) (k' : Nat) (H' : Hp), PR K H st ns m p rs k' H' → rs.length ≤ 20 → k' ≤ k + 200 → Q (.ref p) H'
end L2

namespace L2
open PySem PySem.Spec PyProof.Rows
/-! ### sorted(.., reverse=True) of what stands so already: one run, of any length -/
section
variable {prog : Program} {w : World} {A : Around} {E : Value → Shared → Prop} {s : Shared} {a₀ : Array Keyed} {κ : KeyKind}
end
section
variable {X : Cx} {K : PySem.W.Frag}
end
end L2

namespace L2
open PySem PySem.Spec PyProof.Rows
/-! ### a rule in a list of rules; covers say the same (k42) -/
section
variable {X : Cx} {K : PySem.W.Frag}
end
end L2

namespace L2
/-! ### any steps lead to the same blocks -/
open PySem PySem.Spec PyProof.Rows
end L2

namespace L2
open PySem PySem.Spec PyProof.Rows
/-! ### all blocks at once -/
/-! ### covers, rule by rule -/
end L2

namespace L2
open PySem PySem.Spec PyProof.Rows
/-! ### two lists walked side by side -/
section
variable {X : Cx} {pins : List (Addr × Obj)} {σ : St} {H : Hp} {s : Shared}
end
end L2

namespace L2
open PySem PySem.Spec PyProof.Rows
/-! ### covers told exactly -/
end L2

namespace L2
open PySem PySem.Spec PyProof.Rows
end L2

namespace L2
open PySem PySem.Spec PyProof.Rows PySem.W
/-! ### all sets within a set, size by size -/
noncomputable def manyN (a : Nat) : Nat := ((List.range 7).filter (hasB a)).length
noncomputable def rowN (a m : Nat) : List Nat := (List.range (a + 1)).filter fun x => decide (x &&& a = x) && decide (manyN x = m)
noncomputable def dueM (a m : Nat) : List Nat := (List.range m).flatMap (rowN a)
noncomputable def dueN (a : Nat) : List Nat := dueM a 8
/-- one column more for one set -/
noncomputable def upOf (a x : Nat) : List Nat := ((colsN a).filter fun c => decide (x < 2 ^ c)).map fun c => x ||| 2 ^ c
noncomputable def moreN (a : Nat) (l : List Nat) : List Nat := l.flatMap (upOf a)
theorem more_perm : ∀ a, a < 128 → ∀ i, i < 8 → (moreN a (rowN a i)).isPerm (rowN a (i + 1)) = true := by decide +kernel
theorem row_len : ∀ a, a < 128 → ∀ i, i < 9 → (rowN a i).length ≤ 35 := by decide +kernel
theorem row_zero : ∀ a, a < 128 → rowN a 0 = [0] := by decide +kernel
theorem row_last : ∀ a, a < 128 → rowN a 8 = [] := by decide +kernel
theorem row_due : ∀ a, a < 128 → ∀ i, i < 9 → rowN a i = [] → dueM a i = dueN a := by decide +kernel
theorem due_len : ∀ a, a < 128 → 1 ≤ (dueN a).length ∧ (dueN a).length ≤ 128 := by decide +kernel
theorem cols7 : ∀ a, a < 128 → (colsN a).length ≤ 7 ∧ (colsN a).all (fun c => decide (c < 7)) = true := by decide +kernel
theorem row_up (a m : Nat) : (rowN a m).Pairwise (· ≤ ·) := by
  have h : ∀ n, (List.range n).Pairwise (· ≤ ·) := fun n => List.Pairwise.imp Nat.le_of_lt List.pairwise_lt_range
  exact (h _).filter _
theorem row_is {a i : Nat} (ha : a < 128) (hi : i < 8) {ns : List Int} (p : ns.Perm ((moreN a (rowN a i)).map fun (k : Nat) => (k : Int))) (s : ns.Pairwise (· ≤ ·)) : ns = (rowN a (i + 1)).map fun (k : Nat) => (k : Int) := by
  have p2 := p.trans ((List.isPerm_iff.mp (more_perm a ha i hi)).map fun (k : Nat) => (k : Int))
  refine List.Perm.eq_of_pairwise (le := fun (x y : Int) => x ≤ y) (fun x y _ _ h1 h2 => Int.le_antisymm h1 h2) s ?_ p2
  rw [List.pairwise_map]
  exact (row_up a (i + 1)).imp fun h => Int.ofNat_le.mpr h
theorem dueM_succ (a m : Nat) : dueM a (m + 1) = dueM a m ++ rowN a m := by
  unfold dueM
  rw [List.range_succ, List.flatMap_append]
  simp
theorem dueM_len (a m : Nat) (ha : a < 128) (hm : m < 9) : (dueM a m).length ≤ 35 * m := by
  induction m with
  | zero => exact Nat.zero_le _
  | succ m ih =>
    rw [dueM_succ, List.length_append]
    have h1 := row_len a ha m (by omega)
    have h2 := ih (by omega)
    omega
theorem upOf_len (a x : Nat) (ha : a < 128) : (upOf a x).length ≤ 7 := by
  unfold upOf
  rw [List.length_map]
  exact Nat.le_trans (List.length_filter_le _ _) (cols7 a ha).1
theorem moreN_len (a : Nat) (ha : a < 128) : ∀ l : List Nat, (moreN a l).length ≤ 7 * l.length
  | [] => Nat.zero_le _
  | x :: l => by
    have h1 := moreN_len a ha l
    have h2 := upOf_len a x ha
    show (upOf a x ++ moreN a l).length ≤ _
    rw [List.length_append, List.length_cons]
    omega
theorem moreN_succ {a i x : Nat} {l : List Nat} (h : l[i]? = some x) : moreN a (l.take (i + 1)) = moreN a (l.take i) ++ upOf a x := by
  unfold moreN
  rw [List.take_succ, h, List.flatMap_append]
  simp
theorem Same.own3 {H H' : Hp} {p : Addr} {o : HO} (e : Same H H') (h : H p = Option.none) : Same H (upd H' p o) := fun c u z => by
  rw [upd_ne (ne_of_none z h)]; exact e _ _ z
noncomputable def spOneUp : Sp := fun vs H Q _ => ∃ (p : Addr) (a i : Nat), vs = [.ref p, vN a] ∧ a < 128 ∧ i < 8 ∧ H p = some (.lst ((rowN a i).map vN)) ∧ ∀ (l : Addr) (H' : Hp), Same H H' → H l = none → H' l = some (.lst ((rowN a (i + 1)).map vN)) → Q (.ref l) H'
noncomputable def spSetsW : Sp := fun vs H Q _ => ∃ a : Nat, vs = [vN a] ∧ a < 128 ∧ ∀ (l : Addr) (H' : Hp), Same H H' → H l = none → H' l = some (.lst ((dueN a).map vN)) → Q (.ref l) H'
end L2

namespace L2
open PySem PySem.Spec PyProof.Rows
section
variable {X : Cx} {K : PySem.W.Frag}
theorem any_range (bs : List Bool) : ((List.range bs.length).any fun i => bs.getD i true) = bs.any id := by
  rw [Bool.eq_iff_iff, List.any_eq_true, List.any_eq_true]
  constructor
  · rintro ⟨i, hi, h⟩
    have hi' := List.mem_range.mp hi
    rw [List.getD_eq_getElem?_getD, List.getElem?_eq_getElem hi'] at h
    exact ⟨_, List.getElem_mem hi', h⟩
  · rintro ⟨b, hb, h⟩
    obtain ⟨i, hi, rfl⟩ := List.getElem_of_mem hb
    refine ⟨i, List.mem_range.mpr hi, ?_⟩
    rw [List.getD_eq_getElem?_getD, List.getElem?_eq_getElem hi]
    exact h
theorem call_anyK (h : X.K = K) (hc : X.calm = true) : CallR X (.builtin "any") (fun xs H Q => ∃ (p : Addr) (bs : List Bool), xs = [.ref p] ∧ SqL K H p (bs.map V.bl) ∧ Q (.bl (bs.any id)) H) := by
  subst h
  intro pins s σ H xs us Q I r h
  obtain ⟨p, bs, rfl, hq, q⟩ := h
  obtain ⟨u, rfl, rx⟩ := vals1 r
  cases rx
  obtain ⟨its, rv, pl, hz⟩ := I.list hq
  have len : its.length = bs.length := by rw [← rv.length, List.length_map]
  refine call_any_walk (wpAny_pyIter_list pl.isList ⟨s.heap.objs.size, [s.heap.objs.size, p], [s.heap.objs.size], its.toArray.size, _, _, fun i => bs.getD i true, rfl, Walks.list (A := X.A.in1) (I.ok.hd hc) _ p (Nat.ne_of_lt pl.lt) its.toArray, ⟨⟨_, Heap.get?_push_size _ rfl, rfl, rfl⟩, pl.isList.push _⟩, fun i v s' Q' E' hP hQ => ?_, fun h' tk hk => ?_⟩)
  · have hP' : its[i]? = some v := by simpa using hP
    have hi : i < bs.length := by rw [← len]; exact (List.getElem?_eq_some_iff.mp hP').1
    obtain ⟨c, e1, r1⟩ := rv.get (i := i) (x := V.bl bs[i]) (by rw [List.getElem?_map, List.getElem?_eq_getElem hi]; rfl)
    rw [hP'] at e1
    obtain rfl := Option.some.inj e1
    obtain rfl : v = Value.bool bs[i] := r1
    refine wpAny_truthy_bool ?_
    have hQ' : Q' (bs.getD i true) s' := hQ
    rwa [List.getD_eq_getElem?_getD, List.getElem?_eq_getElem hi] at hQ'
  · refine ⟨.bl (bs.any id), H, I.kept fun b o e => hk b o (fun hm => ?_) (Heap.get?_push_of_some _ e), ?_, q⟩
    · rw [List.mem_singleton.mp hm] at e
      exact Nat.lt_irrefl _ (Heap.lt_size e)
    · show _ = Value.bool _
      rw [List.size_toArray, len, any_range]
end
/-! ### what a set settles, told by the sets that keep the rules; keys -/
theorem hasb_pos {a k : Nat} (h : HasB a k) : a ≠ 0 := fun e => by
  rw [e] at h
  unfold HasB at h
  rw [Nat.zero_testBit] at h
  cases h
/-! keys -/
noncomputable def wiB (x : Nat) (f : List Nat) : Bool := f.any fun y => decide (y &&& x = y)
theorem wiB_map (x : Nat) (f : List Nat) : (f.map fun y => decide (y &&& x = y)).any id = wiB x f := by
  unfold wiB
  rw [List.any_map]; rfl
/-- all sets, by how many columns they have -/
noncomputable def sumB (m x : Nat) : Nat := ((List.range m).map fun k => x / 2 ^ k &&& 1).sum
noncomputable def setsM (m s : Nat) : List Nat := (List.range s).flatMap fun n => (List.range (2 ^ m)).filter fun x => decide (sumB m x = n)
noncomputable def setsN (m : Nat) : List Nat := setsM m (m + 1)
end L2

namespace L2
open PySem PySem.Spec PyProof.Rows
/-! ### what a set settles, as a number; gains part by part -/
open Classical in
noncomputable def fixF (m : Nat) (rs : List RD) (x : Nat) : Nat := if h : ∃ fx bs, Blocks m rs x fx bs then h.choose else 0
theorem Blocks.fixF {m x fx : Nat} {rs : List RD} {bs : List Nat} (B : Blocks m rs x fx bs) : L2.fixF m rs x = fx := by
  have h : ∃ fx bs, Blocks m rs x fx bs := ⟨fx, bs, B⟩
  obtain ⟨bs', B'⟩ := h.choose_spec
  unfold L2.fixF
  rw [dif_pos h]
  exact (B'.same B fun d => Iff.rfl).1
theorem fixF_lt (m : Nat) (rs : List RD) (x : Nat) : fixF m rs x < 2 ^ m := by
  have pw : 0 < 2 ^ m := Nat.two_pow_pos m
  unfold fixF
  by_cases h : ∃ fx bs, Blocks m rs x fx bs
  · rw [dif_pos h]
    obtain ⟨bs', B'⟩ := h.choose_spec
    have := B'.good.sum
    omega
  · rw [dif_neg h]; exact pw
noncomputable def gainN (m : Nat) (rs : List RD) (z p : Nat) : Nat := (fixF m rs (z &&& p) &&& p) - ((fixF m rs (z &&& p) &&& p) &&& z)
theorem gain_bits {m z p : Nat} {rs : List RD} (k : Nat) : HasB (gainN m rs z p) k ↔ HasB (fixF m rs (z &&& p)) k ∧ HasB p k ∧ ¬ HasB z k := by
  unfold gainN
  rw [hasb_out, hasb_and, and_assoc]
theorem gain_lt (m : Nat) (rs : List RD) (z p : Nat) : gainN m rs z p < 2 ^ m := by
  have h1 := fixF_lt m rs (z &&& p)
  have h2 : fixF m rs (z &&& p) &&& p ≤ fixF m rs (z &&& p) := Nat.and_le_left
  unfold gainN
  omega
noncomputable def gB (m : Nat) (rs : List RD) (z : Nat) (ps : List Nat) (i : Nat) : Bool := !decide (gainN m rs z (ps.getD i 0) = 0)
noncomputable def stepG (m : Nat) (rs : List RD) (ps : List Nat) (z : Nat) : Option (Nat × Nat) := ((List.range ps.length).find? (gB m rs z ps)).map fun i => (i, gainN m rs z (ps.getD i 0))
theorem stepG_some {m z : Nat} {rs : List RD} {ps : List Nat} {u : Nat × Nat} (h : stepG m rs ps z = some u) : ∃ p, ps[u.1]? = some p ∧ u.2 = gainN m rs z p ∧ u.2 ≠ 0 := by
  unfold stepG at h
  rw [Option.map_eq_some_iff] at h
  obtain ⟨i, hi, rfl⟩ := h
  have h1 := List.find?_some hi
  have h2 := List.mem_range.mp (List.mem_of_find?_eq_some hi)
  have e : ps[i]? = some ps[i] := List.getElem?_eq_getElem h2
  have ed : ps.getD i 0 = ps[i] := by rw [List.getD_eq_getElem?_getD, e]; rfl
  refine ⟨ps[i], e, by show gainN m rs z (ps.getD i 0) = _; rw [ed], ?_⟩
  unfold gB at h1
  rw [Bool.not_eq_true', decide_eq_false_iff_not] at h1
  exact h1
theorem range_get {n i : Nat} (h : i < n) : (List.range n)[i]? = some i := by
  rw [List.getElem?_eq_getElem (by rw [List.length_range]; exact h), List.getElem_range]
theorem stepG_hit {m z i p : Nat} {rs : List RD} {ps : List Nat} (h0 : ((List.range ps.length).take i).find? (gB m rs z ps) = none) (e : ps[i]? = some p) (h : gainN m rs z p ≠ 0) : stepG m rs ps z = some (i, gainN m rs z p) := by
  have hi : i < ps.length := (List.getElem?_eq_some_iff.mp e).1
  have ed : ps.getD i 0 = p := by rw [List.getD_eq_getElem?_getD, e]; rfl
  unfold stepG
  rw [find_hit h0 (range_get hi) (by unfold gB; rw [ed, decide_eq_false h]; rfl)]
  show some (i, gainN m rs z (ps.getD i 0)) = _
  rw [ed]
theorem stepG_miss {m z i p : Nat} {rs : List RD} {ps : List Nat} (h0 : ((List.range ps.length).take i).find? (gB m rs z ps) = none) (e : ps[i]? = some p) (h : gainN m rs z p = 0) : ((List.range ps.length).take (i + 1)).find? (gB m rs z ps) = none := by
  have hi : i < ps.length := (List.getElem?_eq_some_iff.mp e).1
  have ed : ps.getD i 0 = p := by rw [List.getD_eq_getElem?_getD, e]; rfl
  exact find_miss h0 (range_get hi) (by unfold gB; rw [ed, decide_eq_true h]; exact Bool.false_ne_true)
theorem stepG_none {m z i : Nat} {rs : List RD} {ps : List Nat} (h0 : ((List.range ps.length).take i).find? (gB m rs z ps) = none) (h : ps.length ≤ i) : stepG m rs ps z = none := by
  rw [List.take_of_length_le (by rw [List.length_range]; exact h)] at h0
  unfold stepG
  rw [h0]; rfl
theorem stepG_off {m z : Nat} {rs : List RD} {ps : List Nat} (h : stepG m rs ps z = none) : ∀ p ∈ ps, gainN m rs z p = 0 := fun p hp => by
  unfold stepG at h
  rw [Option.map_eq_none_iff, List.find?_eq_none] at h
  obtain ⟨i, hi, rfl⟩ := List.getElem_of_mem hp
  have h1 := h i (List.mem_range.mpr hi)
  have ed : ps.getD i 0 = ps[i] := by rw [List.getD_eq_getElem?_getD, List.getElem?_eq_getElem hi]; rfl
  unfold gB at h1
  rw [ed] at h1
  refine Classical.byContradiction fun z => h1 ?_
  rw [decide_eq_false z]; rfl
noncomputable def runG (m : Nat) (rs : List RD) (ps : List Nat) : Nat → Nat → List (Nat × Nat) × Nat
  | 0, z => ([], z)
  | n + 1, z => match stepG m rs ps z with
    | none => ([], z)
    | some u => (u :: (runG m rs ps n (z ||| u.2)).1, (runG m rs ps n (z ||| u.2)).2)
/-- gains under way: gs told so far, z come to, n steps left at most -/
structure GAt (m : Nat) (rs : List RD) (ps : List Nat) (z0 : Nat) (gs : List (Nat × Nat)) (z n : Nat) : Prop where
  lt : z < 2 ^ m
  fuel : 2 ^ m - 1 - z ≤ n
  egs : gs ++ (runG m rs ps n z).1 = (runG m rs ps 128 z0).1
  ez : (runG m rs ps n z).2 = (runG m rs ps 128 z0).2
  len : gs.length + n ≤ 128
  sub : z0 &&& z = z0
theorem GAt.begin {m z0 : Nat} {rs : List RD} {ps : List Nat} (m7 : m ≤ 7) (hz : z0 < 2 ^ m) : GAt m rs ps z0 [] z0 128 :=
  ⟨hz, by have := pow7 m7; omega, rfl, rfl, Nat.le_refl _, Nat.and_self _⟩
theorem GAt.next {m z0 z n : Nat} {rs : List RD} {ps : List Nat} {gs : List (Nat × Nat)} {u : Nat × Nat} (G : GAt m rs ps z0 gs z n) (h : stepG m rs ps z = some u) : ∃ n', n = n' + 1 ∧ GAt m rs ps z0 (gs ++ [u]) (z ||| u.2) n' := by
  obtain ⟨p, hp, e, ne⟩ := stepG_some h
  have hlt : z ||| u.2 < 2 ^ m := Nat.or_lt_two_pow G.lt (by rw [e]; exact gain_lt _ _ _ _)
  have hle : z ≤ z ||| u.2 := Nat.left_le_or
  have hne : z ||| u.2 ≠ z := fun w => by
    obtain ⟨k, hk⟩ : ∃ k, HasB u.2 k := Nat.exists_testBit_of_ne_zero ne
    have h1 : HasB (z ||| u.2) k := (hasb_or _ _ _).mpr (.inr hk)
    rw [w] at h1
    rw [e] at hk
    exact ((gain_bits k).mp hk).2.2 h1
  have hf := G.fuel
  cases n with
  | zero => exact absurd hlt (by omega)
  | succ n =>
    have hg := G.egs
    have hz := G.ez
    unfold runG at hg hz
    rw [h] at hg hz
    have hl := G.len
    refine ⟨n, rfl, hlt, by omega, ?_, ?_, by rw [List.length_append]; show gs.length + 1 + n ≤ 128; omega, ?_⟩
    · rw [List.append_assoc]; exact hg
    · exact hz
    · refine Nat.eq_of_testBit_eq fun k => ?_
      have hs := G.sub
      rw [Bool.eq_iff_iff]
      show HasB (z0 &&& (z ||| u.2)) k ↔ HasB z0 k
      rw [hasb_and, hasb_or]
      refine ⟨fun w => w.1, fun w => ⟨w, .inl ?_⟩⟩
      rw [← hs] at w
      exact ((hasb_and _ _ _).mp w).2
theorem GAt.done {m z0 z n : Nat} {rs : List RD} {ps : List Nat} {gs : List (Nat × Nat)} (G : GAt m rs ps z0 gs z n) (h : stepG m rs ps z = none) : gs = (runG m rs ps 128 z0).1 ∧ z = (runG m rs ps 128 z0).2 := by
  have hg := G.egs
  have hz := G.ez
  cases n with
  | zero =>
    unfold runG at hg hz
    rw [List.append_nil] at hg
    exact ⟨hg, hz⟩
  | succ n =>
    unfold runG at hg hz
    rw [h] at hg hz
    rw [List.append_nil] at hg
    exact ⟨hg, hz⟩
/-- what is told of a rule part by part -/
noncomputable def GainV (H : Hp) (y : Nat) (R : List (Nat × Nat) × Nat) (t : Addr) : Prop :=
  (y &&& R.2 = y ∧ ∃ (q : Addr) (sw : List SW), H q = some (.lst (sw.map fun w => V.ref w.1)) ∧ StepsAt H sw ∧ sw.map (·.2) = R.1 ∧ sw.length ≤ 300 ∧ H t = some (.tup [.str "yes", .ref q])) ∨
  (y &&& R.2 ≠ y ∧ H t = some (.tup [.str "no", vN R.2]))
noncomputable def InM (m : Nat) (ps : List Nat) : Prop := ∀ p ∈ ps, p < 2 ^ m
noncomputable def spFirstGain (K : PySem.W.Frag) : Sp := fun vs H Q _ => ∃ (m z : Nat) (rl pl : Addr) (rs : List Rl) (ps : List Nat), vs = [vN m, .ref rl, .ref pl, vN z] ∧ m ≤ 7 ∧ z < 2 ^ m ∧ SqL K H rl (rs.map fun r => V.ref r.r) ∧ RulesAt H m rs ∧ rs.length ≤ 200 ∧ SqL K H pl (ps.map vN) ∧ InM m ps ∧
  (∀ H', Same H H' → stepG m (rs.map Rl.d) ps z = none → Q .non H') ∧ ∀ (u : Nat × Nat) (t : Addr) (H' : Hp), Same H H' → stepG m (rs.map Rl.d) ps z = some u → H t = none → H' t = some (.tup [vN u.1, vN u.2]) → Q (.ref t) H'
noncomputable def spPartBy (K : PySem.W.Frag) : Sp := fun vs H Q _ => ∃ (m x y : Nat) (rl pl r : Addr) (rs : List Rl) (ps : List Nat), vs = [vN m, .ref rl, .ref pl, .ref r] ∧ m ≤ 7 ∧ x < 2 ^ m ∧ SqL K H rl (rs.map fun r => V.ref r.r) ∧ RulesAt H m rs ∧ rs.length ≤ 200 ∧ SqL K H pl (ps.map vN) ∧ InM m ps ∧ 1 ≤ ps.length ∧ ps.length ≤ 10 ∧ RuleAt H r true x y ∧
  ∀ (t : Addr) (H' : Hp), Same H H' → GainV H' y (runG m (rs.map Rl.d) ps 128 x) t → (∀ q, H' t = some (.tup [.str "yes", .ref q]) → H q = none) → Q (.ref t) H'
/-- the program's loop under way -/
noncomputable def PInv (H : Hp) (m x : Nat) (rl pl r : Addr) (rs : List Rl) (ps : List Nat) (n : Nat) (σ : St) (H' : Hp) : Prop :=
  ∃ (z : Nat) (gl : Addr) (sw : List SW) (v : V), σ = [some (vN m), some (.ref rl), some (.ref pl), some (.ref r), some (vN z), some (.ref gl), some v] ∧ GAt m (rs.map Rl.d) ps x (sw.map (·.2)) z n ∧ Same H H' ∧ H gl = none ∧ H' gl = some (.lst (sw.map fun w => V.ref w.1)) ∧ StepsAt H' sw ∧
    ((stepG m (rs.map Rl.d) ps z = none ∧ v = .non) ∨ ∃ u t, stepG m (rs.map Rl.d) ps z = some u ∧ v = .ref t ∧ H' t = some (.tup [vN u.1, vN u.2]))
noncomputable def spLParts (K : PySem.W.Frag) : Sp := fun vs H Q _ => ∃ (st : Addr) (ns : List Int) (k m : Nat), vs = [.ref st, vN m] ∧ STF K H st ns k ∧ k ≤ 1000 ∧ ns.length ≤ 63 ∧ 1 ≤ m ∧ m ≤ 7 ∧
  ∀ (ps : List Nat) (p : Addr) (k' : Nat) (H' : Hp), InM m ps → 1 ≤ ps.length → ps.length ≤ 10 → k' ≤ k + 100 → STF K H' st ns k' → But st H H' → H p = none → p ≠ st → H' p = some (.lst (ps.map vN)) → Q (.ref p) H'
end L2

namespace L2
open PySem PySem.Spec PyProof.Rows
/-! ### the laws of cuts: their rules and parts; a cut in two -/
section
variable {K : PySem.W.Frag} {H H1 H2 : Hp} {st g p : Addr} {ns : List Int} {m k k' : Nat} {rs rs' : List Rl} {o : HO} {ys : List V}
theorem PR.take (R : PR K H st ns m g rs k H1) (S : STF K H2 st ns k') (B : But st H1 H2) : PR K H st ns m g rs k' H2 :=
  ⟨fun r hr => ⟨stf_tup R.S B (R.at_ r hr).1, (R.at_ r hr).2⟩, B _ _ R.hg R.hgs, S, R.B.trans B, R.hg0, R.hgs⟩
end
theorem bits_eq {a b : Nat} (h : ∀ k, HasB a k ↔ HasB b k) : a = b := Nat.eq_of_testBit_eq fun k => by
  rw [Bool.eq_iff_iff]; exact h k
end L2

namespace L2
open PySem PySem.Spec PyProof.Rows
end L2

namespace L2
open PySem PySem.Spec PyProof.Rows
section
variable {X : Cx} {K : PySem.W.Frag}
end
/-! ### keys told by the sets that keep the rules -/
theorem sets_all : ∀ m, m < 8 → ∀ x, x < 2 ^ m → (setsN m).contains x = true := by decide +kernel
theorem apart_iff {x d : Nat} : Apart x d ↔ d &&& x = 0 := by
  constructor
  · intro h
    refine Nat.eq_of_testBit_eq fun k => ?_
    rw [Nat.zero_testBit]
    cases z : (d &&& x).testBit k with
    | false => rfl
    | true =>
      obtain ⟨h1, h2⟩ := (hasb_and d x k).mp z
      exact absurd h2 (h k h1)
  · intro h k h1 h2
    have := (hasb_and d x k).mpr ⟨h1, h2⟩
    rw [h] at this
    exact hasb_pos this rfl
theorem hasb_pow (j k : Nat) : HasB (2 ^ j) k ↔ j = k := by
  unfold HasB
  rw [Nat.testBit_two_pow, decide_eq_true_iff]
end L2

namespace L2
open PySem PySem.Spec PyProof.Rows
/-! ### every set is unfolded; gains told by the sets that keep the rules -/
theorem run_ex {rs : List RD} {m : Nat} : ∀ (n : Nat) (s : US), muS s.bs ≤ n → Good m s.fx s.bs → ∃ t, Run rs s t
  | 0, s, hn, g => by
    cases e : usesN rs s.bs rs.length with
    | nil => exact ⟨s, .done e⟩
    | cons u us =>
      have := (step_good (m := m) (rs := rs) (s := s) (u := u) g (by rw [e]; exact List.mem_cons_self ..)).2
      omega
  | n + 1, s, hn, g => by
    cases e : usesN rs s.bs rs.length with
    | nil => exact ⟨s, .done e⟩
    | cons u us =>
      obtain ⟨g', mu⟩ := step_good (m := m) (rs := rs) (s := s) (u := u) g (by rw [e]; exact List.mem_cons_self ..)
      obtain ⟨t, R⟩ := run_ex n (stepS rs s u) (by omega) g'
      exact ⟨t, .step e R⟩
theorem fix_iff {m x : Nat} {rs : List RD} (hx : x < 2 ^ m) (k : Nat) : HasB (fixF m rs x) k ↔ k < m ∧ ∀ d, KeptS m rs d → Apart x d → ¬ HasB d k := by
  obtain ⟨t, R⟩ := run_ex (rs := rs) (m := m) _ ⟨x, beginBs m x, []⟩ (Nat.le_refl _) (Good.begin hx)
  have B := R.blocks hx
  rw [B.fixF]
  exact B.fix
noncomputable def Kept0 (m : Nat) (rs : List RD) (ks : List Nat) : Prop := ∀ d, d ∈ ks ↔ d < 2 ^ m ∧ ∀ r ∈ rs, usB r d = false
theorem hasb_zero {k : Nat} (h : HasB 0 k) : False := by
  unfold HasB at h
  rw [Nat.zero_testBit] at h
  cases h
theorem zero_of {a : Nat} (h : ∀ k, ¬ HasB a k) : a = 0 := Classical.byContradiction fun ne => by
  obtain ⟨k, hk⟩ : ∃ k, HasB a k := Nat.exists_testBit_of_ne_zero ne
  exact h k hk
theorem step_up {m z : Nat} {rs : List RD} {ps : List Nat} {u : Nat × Nat} (hz : z < 2 ^ m) (h : stepG m rs ps z = some u) : z < z ||| u.2 ∧ z ||| u.2 < 2 ^ m := by
  obtain ⟨p, hp, e, ne⟩ := stepG_some h
  have hlt : z ||| u.2 < 2 ^ m := Nat.or_lt_two_pow hz (by rw [e]; exact gain_lt _ _ _ _)
  have hle : z ≤ z ||| u.2 := Nat.left_le_or
  have hne : z ||| u.2 ≠ z := fun w => by
    obtain ⟨k, hk⟩ : ∃ k, HasB u.2 k := Nat.exists_testBit_of_ne_zero ne
    have h1 : HasB (z ||| u.2) k := (hasb_or _ _ _).mpr (.inr hk)
    rw [w] at h1
    rw [e] at hk
    exact ((gain_bits k).mp hk).2.2 h1
  exact ⟨by omega, hlt⟩
/-- gains one behind the other -/
inductive GL (m : Nat) (rs : List RD) (ps : List Nat) : Nat → List (Nat × Nat) → Nat → Prop
  | nil {z : Nat} : GL m rs ps z [] z
  | cons {z z' : Nat} {u : Nat × Nat} {l : List (Nat × Nat)} : stepG m rs ps z = some u → GL m rs ps (z ||| u.2) l z' → GL m rs ps z (u :: l) z'
theorem runG_gl {m : Nat} {rs : List RD} {ps : List Nat} : ∀ (n z : Nat), GL m rs ps z (runG m rs ps n z).1 (runG m rs ps n z).2
  | 0, z => .nil
  | n + 1, z => by
    unfold runG
    cases e : stepG m rs ps z with
    | none => exact .nil
    | some u => exact .cons e (runG_gl n _)
theorem runG_end {m : Nat} {rs : List RD} {ps : List Nat} : ∀ (n z : Nat), z < 2 ^ m → 2 ^ m - 1 - z ≤ n → (runG m rs ps n z).2 < 2 ^ m ∧ stepG m rs ps (runG m rs ps n z).2 = none
  | 0, z, hz, hn => by
    refine ⟨hz, ?_⟩
    show stepG m rs ps z = none
    cases e : stepG m rs ps z with
    | none => rfl
    | some u =>
      have := step_up hz e
      omega
  | n + 1, z, hz, hn => by
    unfold runG
    cases e : stepG m rs ps z with
    | none => exact ⟨hz, e⟩
    | some u =>
      have := step_up hz e
      exact runG_end n _ this.2 (by omega)
theorem GL.sub {m z z' : Nat} {rs : List RD} {ps : List Nat} {l : List (Nat × Nat)} (h : GL m rs ps z l z') : ∀ k, HasB z k → HasB z' k := by
  induction h with
  | nil => exact fun k hk => hk
  | cons _ _ ih => exact fun k hk => ih k ((hasb_or _ _ _).mpr (.inl hk))
theorem sub_and {a b : Nat} (h : ∀ k, HasB a k → HasB b k) : a &&& b = a := bits_eq fun k => by
  rw [hasb_and]
  exact ⟨fun z => z.1, fun z => ⟨z, h k z⟩⟩
end L2

namespace L2
open PySem PySem.Spec PyProof.Rows
/-! ### dict of a list of pairs whose keys are whole numbers or texts -/
/-- a pair in the list: its tuple, its key, its value -/
structure Pk where
  t : Addr
  k : Key
  v : V
noncomputable def Pk.At (H : Hp) (p : Pk) : Prop := H p.t = some (.tup [kV p.k, p.v])
noncomputable def putAllK (kvs : List (Key × V)) (ps : List Pk) : List (Key × V) := ps.foldl (fun acc p => putK acc p.k p.v) kvs
section
variable {X : Cx} {pins : List (Addr × Obj)} {σ : St} {H : Hp}
theorem updLoopK {A : Around} {E : Value → Shared → Prop} {R : Result → Shared → Prop} {d it l : Addr} {ps : List Pk} (hh : A.handled = none) (hu : A.units + 1 < cLine) (hl : H l = some (.lst (ps.map fun p => V.ref p.t))) (hp : ∀ p ∈ ps, p.At H) (hd : H d = none) (hit : H it = none) (hdi : d ≠ it) :
    ∀ (n i : Nat) (s : Shared) (kvs : List (Key × V)), ps.length - i = n → i ≤ ps.length → kvs.length + n ≤ sizeLine → Inv X pins σ (upd H d (.dK kvs)) s → FpOk X pins (upd H d (.dK kvs)) it → s.heap.IsListIter it l i →
      (∀ s', Inv X pins σ (upd H d (.dK (putAllK kvs (ps.drop i)))) s' → R (.ok (.ret .none)) s') →
      codeAny (model X.prog X.w) A (.builtin "dict.update.loop" ⟨[.ref d, .ref it, rawInt i, .none], []⟩) R s := by
  intro n
  induction n with
  | zero =>
    intro i s kvs hn hi hz I fp st k
    have e : i = ps.length := by omega
    refine codeAny_builtin entry_updLoop ?_
    rw [Around.under_plainId plain_updLoop _]
    have hl' : (upd H d (.dK kvs)) l = some (.lst (ps.map fun p => V.ref p.t)) := (Same.new hd) _ _ hl
    obtain ⟨z, its, m, r, len, el⟩ := I.lstM hl'
    refine (show wpAny _ A.in1 (pyNext (.ref it) >>= _) _ _ s from wpAny_bind (wpAny_pyNext_list_end (show A.in1.handled = none from hh) st ⟨_, el, rfl, _, rfl⟩ (by rw [List.length_map] at len; simp; omega) fun g eb => ?_))
    have I1 := I.turned (t' := s.toks) (h' := g) (fun b o hb e => eb b o hb e) fp.1 fp.2.1 fp.2.2.2.1 fp.2.2.2.2.1 fp.2.2.2.2.2
    rw [e, List.drop_length] at k
    exact wpAny_bind (wpAny_pure (wpAny_pure (k _ I1)))
  | succ n ih =>
    intro i s kvs hn hi hz I fp st k
    have lt : i < ps.length := by omega
    have ei : ps[i]? = some ps[i] := List.getElem?_eq_getElem lt
    have ht : H ps[i].t = some (.tup [kV ps[i].k, ps[i].v]) := hp ps[i] (List.getElem_mem lt)
    refine codeAny_builtin entry_updLoop ?_
    rw [Around.under_plainId plain_updLoop _]
    have hl' : (upd H d (.dK kvs)) l = some (.lst (ps.map fun p => V.ref p.t)) := (Same.new hd) _ _ hl
    have ht' : (upd H d (.dK kvs)) ps[i].t = some (.tup [kV ps[i].k, ps[i].v]) := (Same.new hd) _ _ ht
    obtain ⟨z, its, m, r, len, el⟩ := I.lstM hl'
    obtain ⟨u, eu, ru⟩ := r.get (i := i) (x := V.ref ps[i].t) (by rw [List.getElem?_map, ei]; rfl)
    obtain rfl : u = Value.ref ps[i].t := ru
    refine (show wpAny _ A.in1 (pyNext (.ref it) >>= _) _ _ s from wpAny_bind (wpAny_pyNext_list_item st ⟨_, el, rfl, _, rfl⟩ (x := Value.ref ps[i].t) (by simpa using eu) fun g st' sb => ?_))
    have I1 : Inv X pins σ (upd H d (.dK kvs)) { s with heap := g } := I.turned (t' := s.toks) (fun b o hb e => sb.extBut b o hb e) fp.1 fp.2.1 fp.2.2.2.1 fp.2.2.2.2.1 fp.2.2.2.2.2
    obtain ⟨_, prs, rp, ot, eo, co, nt, dt⟩ := (show ObjOk X.prog X.w _ g ps[i].t (.tup [kV ps[i].k, ps[i].v]) from I1.hok _ _ ht')
    obtain ⟨u1, u2, rfl, r1, r2⟩ := vals2 rp
    refine wpAny_bind (wpAny_holding (wpAny_bind (wpAny_tryCatch ?_)))
    unfold Builtin.Dict.pairItems
    refine wpAny_bind (wpAny_typeOf (T := "tuple") ⟨ot, eo, co⟩ ?_)
    rw [if_pos (by decide)]
    refine wpAny_bind (wpAny_seqItems eo dt (wpAny_pure ?_))
    obtain ⟨zz, hd2, vs, rel, dd⟩ := dk_of I1.hok (show (upd H d (.dK kvs)) d = some (.dK kvs) from upd_same)
    have xl : vs.length = kvs.length := rel.length.symm
    refine wpAny_holding (wpAny_dictSet_pairs (knd := mixKind X.prog X.w) (hsz := by rw [xl]; omega) (kV_is r1) dd fun g2 dd2 sb2 => ?_)
    have hl2 : (putK kvs ps[i].k ps[i].v).length ≤ sizeLine := by have := length_putK kvs ps[i].k ps[i].v; omega
    have he2 : ∃ q, g2.get? d = some q := let ⟨q, _, _, hq, _⟩ := dd2; ⟨q, hq⟩
    have I2 := d_write (ob := .dK (putK kvs ps[i].k ps[i].v)) (t' := s.toks + 1) I1 (by rw [upd_same]; exact True.intro) sb2 he2 (dk_new hl2 hd2 (rel.put ps[i].k r2) dd2)
    rw [upd_upd] at I2
    have fp2 : FpOk X pins (upd H d (.dK (putK kvs ps[i].k ps[i].v))) it := ⟨by rw [upd_ne (Ne.symm hdi)]; exact hit, fp.2⟩
    refine wpAny_pure ⟨plainId_quiet plain_updLoop _, ?_⟩
    have st2 : g2.IsListIter it l (i + 1) := st'.extBut sb2.extBut (Ne.symm hdi)
    refine ih (i + 1) _ (putK kvs ps[i].k ps[i].v) (by omega) lt ?_ I2 fp2 st2 fun s' I' => k s' ?_
    · have := length_putK kvs ps[i].k ps[i].v; omega
    · rw [List.drop_eq_getElem_cons lt]
      exact I'
theorem call_dictPks (hc : X.calm = true) (hu : X.A.units + 64 < cLine) : CallR X (.type "dict") (fun xs H Q => ∃ (l : Addr) (ps : List Pk), xs = [.ref l] ∧ H l = some (.lst (ps.map fun p => V.ref p.t)) ∧ (∀ p ∈ ps, p.At H) ∧ ps.length ≤ 1000 ∧ ∀ d, H d = none → Q (.ref d) (upd H d (.dK (putAllK [] ps)))) := by
  intro pins s σ H xs us Q I r h
  obtain ⟨l, ps, rfl, hl, hp, hz, q⟩ := h
  obtain ⟨u, rfl, rx⟩ := vals1 r
  cases rx
  have nd : H s.heap.objs.size = none := I.fresh
  have I1 : Inv X pins σ (upd H s.heap.objs.size (.dK [])) { s with heap := s.heap.push { cls := .type "dict", data := .dict #[] } } := I.laid (t' := s.toks) (fun b o e => Heap.get?_push_of_some _ e) (Nat.le_refl _) (dk_empty _ I.big)
  obtain ⟨_, its, m, rv, len, el⟩ := I1.lstM ((Same.new nd) _ _ hl)
  have ty : Shared.TypeIs { s with heap := s.heap.push { cls := .type "dict", data := .dict #[] } } (.ref s.heap.objs.size) "dict" := ⟨_, Heap.get?_push_size _ rfl, rfl⟩
  refine callType_codes (Q₁ := fun obj s₁ => obj = .ref s.heap.objs.size ∧ s₁ = { s with heap := s.heap.push { cls := .type "dict", data := .dict #[] } }) F.kt_called_dict (F.kt_typeCall_dict_1 _) F.entry_dict_init (kt_code_dict_new _ ⟨rfl, rfl⟩) ?_
  rintro obj s₁ ⟨rfl, rfl⟩
  refine ⟨ty, F.args_dict_init_2 _ _, ?_⟩
  unfold Builtin.«dict.__init__» Builtin.Dict.selfAndRest
  refine wpAny_bind (wpAny_bind (wpAny_notOrdered_dict ty (wpAny_pure ?_)))
  refine (show wpAny _ _ (Builtin.Dict.updateFrom "dict.__init__" s.heap.objs.size (.ref l) [] .none) _ _ _ from ?_)
  unfold Builtin.Dict.updateFrom
  refine wpAny_bind (wpAny_typeOf (T := "list") ⟨_, el, rfl⟩ ?_)
  rw [if_pos (by decide)]
  refine wpAny_bind (keysNone (show X.A.in1.in1.handled = none from I.ok.hd hc) el fun g tk kp => ?_)
  have I2 : Inv X pins σ (upd H s.heap.objs.size (.dK [])) { s with heap := g, toks := tk } := I1.kept kp
  have el2 := kp _ _ el
  rw [if_pos (by rfl)]
  refine wpAny_bind (wpAny_rule (wpAny_bind (wpAny_pyIter_list (s := { s with heap := g, toks := tk }) ⟨_, el2, rfl, _, rfl⟩ ?_)))
  have nit : (upd H s.heap.objs.size (.dK [])) g.objs.size = none := I2.hok.fresh (Nat.le_refl _)
  have hne : s.heap.objs.size ≠ g.objs.size := fun z => by rw [← z, upd_same] at nit; cases nit
  have I3 := I2.kept (t' := tk) (h' := g.push { cls := .type "list_iterator", data := .fields #[.ref l, .int 0 0] }) fun b o e => Heap.get?_push_of_some _ e
  refine wpAny_pure ⟨plainId_quiet plain_updLoop _, ?_⟩
  refine updLoopK (E := X.xe) (H := H) (ps := ps) (l := l) (show X.A.in1.handled = none from I.ok.hd hc) (show X.A.units + 1 + 1 < cLine by omega) hl hp nd (by rw [upd_ne (Ne.symm hne)] at nit; exact nit) hne ps.length 0 _ [] rfl (Nat.zero_le _) (Nat.le_of_lt (small1000 (by simpa using hz))) I3 (I2.fpOk (Nat.le_refl _) nit) ⟨_, Heap.get?_push_size _ rfl, rfl, rfl⟩ fun s' I' => ?_
  exact ⟨rfl, .ref s.heap.objs.size, _, I', rfl, q _ nd⟩
end
end L2

namespace L2
open PySem PySem.Spec PyProof.Rows
/-! ### own rules of a part -/
theorem within_due : ∀ m, m < 8 → ∀ p, p < 2 ^ m → (setsN m).filter (fun x => decide (x &&& p = x)) = dueN p := by decide +kernel
theorem cols_seven : ∀ m, m < 8 → ∀ a, a < 2 ^ m → colsN a = (List.range m).filter (hasB a) := by decide +kernel
theorem due_in : ∀ p, p < 128 → (dueN p).all (fun x => decide (x &&& p = x) && decide (x < 128)) = true := by decide +kernel
/-- the columns of the part that the set settles and has not -/
noncomputable def freshN (m : Nat) (rs : List RD) (p x : Nat) : Nat := (fixF m rs x &&& p) - ((fixF m rs x &&& p) &&& x)
theorem fresh_lt (m : Nat) (rs : List RD) (p x : Nat) : freshN m rs p x < 2 ^ m := by
  have h1 := fixF_lt m rs x
  have h2 : fixF m rs x &&& p ≤ fixF m rs x := Nat.and_le_left
  unfold freshN
  omega
theorem fresh_bits {m p x : Nat} {rs : List RD} (k : Nat) : HasB (freshN m rs p x) k ↔ HasB (fixF m rs x) k ∧ HasB p k ∧ ¬ HasB x k := by
  unfold freshN
  rw [hasb_out, hasb_and, and_assoc]
noncomputable def heldB (f : List RD) (x c : Nat) : Bool := f.any fun r => decide (r.2.2 = 2 ^ c) && decide (r.2.1 &&& x = r.2.1)
noncomputable def ownC (m : Nat) (rs : List RD) (p x : Nat) (f : List RD) (c : Nat) : List RD := if (hasB (freshN m rs p x) c && !heldB f x c) = true then f ++ [(true, x, 2 ^ c)] else f
noncomputable def ownX (m : Nat) (rs : List RD) (p : Nat) (f : List RD) (x : Nat) : List RD := (List.range m).foldl (ownC m rs p x) f
noncomputable def ownL (m : Nat) (rs : List RD) (p : Nat) : List RD := (dueN p).foldl (ownX m rs p) []
theorem fold_filter {α β : Type} (g : β → α → β) (P : α → Bool) (h : ∀ b a, P a = false → g b a = b) : ∀ (l : List α) (b : β), (l.filter P).foldl g b = l.foldl g b
  | [], b => rfl
  | a :: l, b => by
    cases e : P a with
    | true => rw [List.filter_cons_of_pos e, List.foldl_cons, List.foldl_cons]; exact fold_filter g P h l _
    | false => rw [List.filter_cons_of_neg (by rw [e]; exact Bool.false_ne_true), List.foldl_cons, h b a e]; exact fold_filter g P h l b
theorem ownX_cols {m p x : Nat} {rs : List RD} (m7 : m ≤ 7) (f : List RD) : (colsN (freshN m rs p x)).foldl (ownC m rs p x) f = ownX m rs p f x := by
  rw [cols_seven m (by omega) _ (fresh_lt m rs p x)]
  exact fold_filter _ _ (fun b a e => by unfold ownC; rw [e]; rfl) _ _
theorem ownC_len (m : Nat) (rs : List RD) (p x : Nat) (f : List RD) (c : Nat) : (ownC m rs p x f c).length ≤ f.length + 1 := by
  unfold ownC
  split
  · rw [List.length_append]; exact Nat.le_refl _
  · exact Nat.le_succ _
theorem fold_len {α β : Type} (g : List β → α → List β) (k : Nat) (h : ∀ f a, (g f a).length ≤ f.length + k) : ∀ (l : List α) (f : List β), (l.foldl g f).length ≤ f.length + k * l.length
  | [], f => by simp
  | a :: l, f => by
    have h1 := fold_len g k h l (g f a)
    have h2 := h f a
    rw [List.foldl_cons, List.length_cons, Nat.mul_succ]
    omega
theorem ownX_len (m : Nat) (rs : List RD) (p : Nat) (f : List RD) (x : Nat) : (ownX m rs p f x).length ≤ f.length + m := by
  have := fold_len _ 1 (ownC_len m rs p x) (List.range m) f
  rw [List.length_range, Nat.one_mul] at this
  exact this
theorem ownT_len {m p : Nat} {rs : List RD} (m7 : m ≤ 7) (hp : p < 128) (i : Nat) : (((dueN p).take i).foldl (ownX m rs p) []).length ≤ 896 := by
  have h1 := fold_len _ m (ownX_len m rs p) ((dueN p).take i) []
  have h2 : ((dueN p).take i).length ≤ (dueN p).length := List.length_take_le' i _
  have h3 := (due_len p hp).2
  have h4 : m * ((dueN p).take i).length ≤ 7 * 128 := Nat.mul_le_mul m7 (by omega)
  rw [List.length_nil] at h1
  omega
theorem own_len {m p : Nat} {rs : List RD} (m7 : m ≤ 7) (hp : p < 128) : (ownL m rs p).length ≤ 896 := by
  have := ownT_len (m := m) (rs := rs) m7 hp (dueN p).length
  rwa [List.take_length] at this
theorem own_succ {m p i x : Nat} {rs : List RD} (h : (dueN p)[i]? = some x) : ((dueN p).take (i + 1)).foldl (ownX m rs p) [] = ownX m rs p (((dueN p).take i).foldl (ownX m rs p) []) x := by
  rw [List.take_succ, h, List.foldl_append]; rfl
/-- the lefts found so far for a column -/
noncomputable def leftsOf (f : List RD) (c : Nat) : List Nat := (f.filter fun r => decide (r.2.2 = 2 ^ c)).map (·.2.1)
theorem lefts_held (f : List RD) (x c : Nat) : wiB x (leftsOf f c) = heldB f x c := by
  unfold wiB leftsOf heldB
  rw [List.any_map]
  induction f with
  | nil => rfl
  | cons r f ih =>
    rw [List.any_cons, ← ih]
    cases e : decide (r.2.2 = 2 ^ c) with
    | true => rw [List.filter_cons_of_pos (p := fun r : RD => decide (r.2.2 = 2 ^ c)) e, List.any_cons]; rfl
    | false => rw [List.filter_cons_of_neg (p := fun r : RD => decide (r.2.2 = 2 ^ c)) (by rw [e]; exact Bool.false_ne_true)]; rfl
theorem lefts_len (f : List RD) (c : Nat) : (leftsOf f c).length ≤ f.length := by
  unfold leftsOf
  rw [List.length_map]
  exact List.length_filter_le _ _
theorem lefts_snoc (f : List RD) (x c : Nat) (c' : Nat) : leftsOf (f ++ [(true, x, 2 ^ c)]) c' = if c = c' then leftsOf f c' ++ [x] else leftsOf f c' := by
  unfold leftsOf
  rw [List.filter_append, List.map_append]
  by_cases e : c = c'
  · subst e
    rw [if_pos rfl, List.filter_cons_of_pos (p := fun r : RD => decide (r.2.2 = 2 ^ c)) (decide_eq_true rfl)]; rfl
  · have : ¬ 2 ^ c = 2 ^ c' := fun z => e ((Nat.pow_right_inj (by decide)).mp z)
    rw [if_neg e, List.filter_cons_of_neg (p := fun r : RD => decide (r.2.2 = 2 ^ c')) (by show ¬ decide (2 ^ c = 2 ^ c') = true; rw [decide_eq_false this]; exact Bool.false_ne_true), List.filter_nil, List.map_nil, List.append_nil]
theorem valV_other {k : Key} : ∀ (ps : List Pk) (kvs : List (Key × V)), (∀ p ∈ ps, p.k ≠ k) → valV (putAllK kvs ps) k = valV kvs k
  | [], kvs, _ => rfl
  | p :: ps, kvs, h => by
    show valV (putAllK (putK kvs p.k p.v) ps) k = _
    rw [valV_other ps _ fun q hq => h q (List.mem_cons_of_mem _ hq), valV_put, if_neg fun z => h p (List.mem_cons_self ..) z.symm]
theorem valV_all : ∀ (ps : List Pk) (kvs : List (Key × V)), ps.Pairwise (fun a b => a.k ≠ b.k) → ∀ p ∈ ps, valV (putAllK kvs ps) p.k = some p.v
  | p :: ps, kvs, h, q, hq => by
    obtain ⟨h1, h2⟩ := List.pairwise_cons.mp h
    show valV (putAllK (putK kvs p.k p.v) ps) q.k = _
    rcases List.mem_cons.mp hq with rfl | hq
    · rw [valV_other ps _ fun a ha => Ne.symm (h1 a ha), valV_put, if_pos rfl]
    · exact valV_all ps _ h2 q hq
/-- the dict of lefts beside the rules found -/
structure LeftsA (H : Hp) (p : Nat) (dA fp : Addr) (kvs : List (Key × V)) (la : Nat → Addr) (f : List RD) (H' : Hp) : Prop where
  d : H' dA = some (.dK kvs)
  val : ∀ c ∈ colsN p, valV kvs (.inl (c : Int)) = some (.ref (la c))
  own : ∀ c ∈ colsN p, H' (la c) = some (.lst ((leftsOf f c).map vN))
  new : ∀ c ∈ colsN p, H (la c) = none
  nfp : ∀ c ∈ colsN p, la c ≠ fp
  inj : ∀ c ∈ colsN p, ∀ c' ∈ colsN p, la c = la c' → c = c'
theorem LeftsA.same {H H1 H2 : Hp} {p : Nat} {dA fp : Addr} {kvs : List (Key × V)} {la : Nat → Addr} {f : List RD} (L : LeftsA H p dA fp kvs la f H1) (e : Same H1 H2) : LeftsA H p dA fp kvs la f H2 :=
  ⟨e _ _ L.d, L.val, fun c hc => e _ _ (L.own c hc), L.new, L.nfp, L.inj⟩
theorem LeftsA.put {H H1 : Hp} {p : Nat} {dA fp : Addr} {kvs : List (Key × V)} {la : Nat → Addr} {f : List RD} {xs ys : List V} (L : LeftsA H p dA fp kvs la f H1) (hf : H1 fp = some (.lst xs)) : LeftsA H p dA fp kvs la f (upd H1 fp (.lst ys)) :=
  ⟨by rw [upd_ne (ne_of L.d hf (by intro z; cases z))]; exact L.d, L.val, fun c hc => by rw [upd_ne (L.nfp c hc)]; exact L.own c hc, L.new, L.nfp, L.inj⟩
theorem LeftsA.add {H H1 : Hp} {p : Nat} {dA fp : Addr} {kvs : List (Key × V)} {la : Nat → Addr} {f : List RD} {x c : Nat} (L : LeftsA H p dA fp kvs la f H1) (hc : c ∈ colsN p) : LeftsA H p dA fp kvs la (f ++ [(true, x, 2 ^ c)]) (upd H1 (la c) (.lst ((leftsOf f c).map vN ++ [vN x]))) := by
  refine ⟨by rw [upd_ne (ne_of L.d (L.own c hc) (by intro z; cases z))]; exact L.d, L.val, fun c' hc' => ?_, L.new, L.nfp, L.inj⟩
  rw [lefts_snoc]
  by_cases e : c = c'
  · subst e
    rw [upd_same, if_pos rfl, List.map_append]; rfl
  · rw [upd_ne fun z => e (L.inj c' hc' c hc z).symm, if_neg e]
    exact L.own c' hc'
noncomputable def spHoldsW (K : PySem.W.Frag) : Sp := fun vs H Q _ => ∃ (x : Nat) (p : Addr) (f : List Nat), vs = [vN x, .ref p] ∧ SqL K H p (f.map vN) ∧ f.length ≤ 1000 ∧ ∀ H', Same H H' → Q (.bl (wiB x f)) H'
noncomputable def spOwn (K : PySem.W.Frag) : Sp := fun vs H Q _ => ∃ (m p : Nat) (rl : Addr) (rs : List Rl), vs = [vN m, .ref rl, vN p] ∧ m ≤ 7 ∧ p < 2 ^ m ∧ SqL K H rl (rs.map fun r => V.ref r.r) ∧ RulesAt H m rs ∧ rs.length ≤ 200 ∧
  ∀ (fp : Addr) (ss : List Rl) (H' : Hp), Same H H' → H fp = none → H' fp = some (.lst (ss.map fun r => V.ref r.r)) → RulesAt H' m ss → ss.map Rl.d = ownL m (rs.map Rl.d) p → Q (.ref fp) H'
noncomputable def spPart70 (K : PySem.W.Frag) : Sp := fun vs H Q _ => ∃ (st : Addr) (ns : List Int) (k m : Nat), vs = [.ref st, vN m] ∧ STF K H st ns k ∧ k ≤ 900000 ∧ ns.length ≤ 63 ∧ 1 ≤ m ∧ m ≤ 7 ∧
  ∀ (r k' : Nat) (H' : Hp), r < 2 ^ m → k' ≤ k + 3 → STF K H' st ns k' → But st H H' → Q (vN r) H'
end L2

namespace L2
open PySem PySem.Spec PyProof.Rows
/-! ### what own rules hold; books evened out -/
theorem held_more {f g : List RD} {x c : Nat} (h : heldB f x c = true) (hp : f <+: g) : heldB g x c = true := by
  obtain ⟨t, rfl⟩ := hp
  unfold heldB at h ⊢
  rw [List.any_append, h, Bool.true_or]
theorem ownC_pre (m : Nat) (rs : List RD) (p x : Nat) (f : List RD) (c : Nat) : f <+: ownC m rs p x f c := by
  unfold ownC
  split
  · exact List.prefix_append _ _
  · exact List.prefix_rfl
theorem fold_pre {α β : Type} (g : List β → α → List β) (h : ∀ f a, f <+: g f a) : ∀ (l : List α) (f : List β), f <+: l.foldl g f
  | [], f => List.prefix_rfl
  | a :: l, f => (h f a).trans (fold_pre g h l _)
theorem ownX_pre (m : Nat) (rs : List RD) (p : Nat) (f : List RD) (x : Nat) : f <+: ownX m rs p f x := fold_pre _ (ownC_pre m rs p x) _ _
theorem fold_hit {α β : Type} (g : List β → α → List β) (h : ∀ f a, f <+: g f a) {a : α} : ∀ (l : List α) (f : List β), a ∈ l → ∃ f', g f' a <+: l.foldl g f
  | b :: l, f, hm => by
    rcases List.mem_cons.mp hm with rfl | hm
    · exact ⟨f, fold_pre g h l _⟩
    · exact fold_hit g h l _ hm
theorem own_held {m p x c : Nat} {rs : List RD} (hx : x ∈ dueN p) (hc : c < m) (hf : hasB (freshN m rs p x) c = true) : heldB (ownL m rs p) x c = true := by
  obtain ⟨f1, h1⟩ := fold_hit _ (ownX_pre m rs p) (dueN p) [] hx
  obtain ⟨f2, h2⟩ := fold_hit _ (ownC_pre m rs p x) (List.range m) f1 (List.mem_range.mpr hc)
  refine held_more (held_more (f := ownC m rs p x f2 c) ?_ h2) h1
  unfold ownC
  cases e : heldB f2 x c with
  | true => rw [hf]; exact e
  | false =>
    rw [hf]
    show heldB (f2 ++ [(true, x, 2 ^ c)]) x c = true
    unfold heldB
    rw [List.any_append]
    simp
theorem fold_all {α β : Type} (g : List β → α → List β) (P : β → Prop) (l0 : List α) (h : ∀ f a, a ∈ l0 → (∀ b ∈ f, P b) → ∀ b ∈ g f a, P b) : ∀ (l : List α) (f : List β), (∀ a ∈ l, a ∈ l0) → (∀ b ∈ f, P b) → ∀ b ∈ l.foldl g f, P b
  | [], f, _, hf => hf
  | a :: l, f, hl, hf => fold_all g P l0 h l _ (fun b hb => hl b (List.mem_cons_of_mem _ hb)) (h f a (hl a (List.mem_cons_self ..)) hf)
/-- what each own rule is -/
noncomputable def OwnP (m : Nat) (rs : List RD) (p : Nat) (r : RD) : Prop := ∃ x c, r = (true, x, 2 ^ c) ∧ x ∈ dueN p ∧ c < m ∧ HasB (freshN m rs p x) c
theorem own_mem {m p : Nat} {rs : List RD} (m7 : m ≤ 7) : ∀ r ∈ ownL m rs p, OwnP m rs p r := by
  refine fold_all _ (OwnP m rs p) (dueN p) (fun f x hx hf => ?_) (dueN p) [] (fun _ h => h) fun b h => absurd h List.not_mem_nil
  refine fold_all _ (OwnP m rs p) (List.range m) (fun f c hc hf b hb => ?_) (List.range m) f (fun _ h => h) hf
  unfold ownC at hb
  split at hb
  · rename_i e
    rcases List.mem_append.mp hb with hb | hb
    · exact hf b hb
    · rw [Bool.and_eq_true] at e
      have flt := fresh_lt m rs p x
      have p7 := pow7 m7
      have h1 : c ∈ colsN (freshN m rs p x) := by
        rw [cols_seven m (by omega) _ flt]
        exact List.mem_filter.mpr ⟨hc, e.1⟩
      exact ⟨x, c, List.mem_singleton.mp hb, hx, List.mem_range.mp hc, (cols_mem (by omega) c).mp h1⟩
  · exact hf b hb
theorem due_mem {m p x : Nat} (m7 : m ≤ 7) (hp : p < 2 ^ m) : x ∈ dueN p ↔ x < 2 ^ m ∧ x &&& p = x := by
  rw [← within_due m (by omega) p hp, List.mem_filter, decide_eq_true_iff]
  constructor
  · rintro ⟨_, h⟩
    exact ⟨Nat.lt_of_le_of_lt (by rw [← h]; exact Nat.and_le_right) hp, h⟩
  · rintro ⟨h1, h2⟩
    exact ⟨List.contains_iff_mem.mp (sets_all m (by omega) x h1), h2⟩
/-! rows in the heap -/
end L2

namespace L2
open PySem PySem.W PyProof.Rows
namespace ST
/-! ### what the library's tree of questions comes to, where each question has an answer -/
/-! the order asked for -/
section
variable {lt : Nat → Nat → Bool}
/-! what is asked for -/
section
variable {N : Nat} (h0 : 0 < N)
include h0
end
end
end ST
end L2

namespace L2
open PySem PySem.W PyProof.Rows
namespace ST
/-! ### rows in their order -/
noncomputable def lexB : List Int → List Int → Bool
  | x :: xs, y :: ys => if x = y then lexB xs ys else decide (x < y)
  | _, _ => false
theorem lex_as : ∀ {x y : List Int}, lexB x y = true → lexB y x = false
  | [], y, h => by cases y <;> rfl
  | _ :: _, [], h => rfl
  | a :: x, b :: y, h => by
    unfold lexB at h ⊢
    by_cases e : a = b
    · rw [if_pos e] at h
      rw [if_pos e.symm]
      exact lex_as h
    · rw [if_neg e] at h
      rw [if_neg (Ne.symm e)]
      have := of_decide_eq_true h
      exact decide_eq_false (by omega)
theorem lex_tr : ∀ {x y z : List Int}, x.length = y.length → y.length = z.length → lexB y x = false → lexB z y = false → lexB z x = false
  | [], [], [], _, _, _, _ => rfl
  | a :: x, b :: y, c :: z, h1, h2, h3, h4 => by
    unfold lexB at h3 h4 ⊢
    by_cases e1 : b = a
    · subst e1
      rw [if_pos rfl] at h3
      by_cases e2 : c = b
      · subst e2
        rw [if_pos rfl] at h4 ⊢
        exact lex_tr (Nat.succ.inj h1) (Nat.succ.inj h2) h3 h4
      · rw [if_neg e2] at h4 ⊢
        exact h4
    · rw [if_neg e1] at h3
      have n1 := of_decide_eq_false h3
      by_cases e2 : c = b
      · subst e2
        rw [if_neg e1]
        exact h3
      · rw [if_neg e2] at h4
        have n2 := of_decide_eq_false h4
        rw [if_neg (by omega)]
        exact decide_eq_false (by omega)
theorem lex_total : ∀ {x y : List Int}, x.length = y.length → lexB x y = false → lexB y x = false → x = y
  | [], [], _, _, _ => rfl
  | a :: x, b :: y, h, h1, h2 => by
    unfold lexB at h1 h2
    by_cases e : a = b
    · subst e
      rw [if_pos rfl] at h1 h2
      rw [lex_total (Nat.succ.inj h) h1 h2]
    · rw [if_neg e] at h1
      rw [if_neg (Ne.symm e)] at h2
      have := of_decide_eq_false h1
      have := of_decide_eq_false h2
      omega
section
variable {prog : Program} {w : World} {A : Around} {E : Value → Shared → Prop} {s : Shared}
/-- two rows compared, item by item -/
theorem lex_ask {Q : Bool → Shared → Prop} : ∀ {us vs : List Value} {xs ys : List Int} (i : Nat), IntsAre us xs → IntsAre vs ys → xs.length = ys.length → Q (lexB xs ys) s → KatLex prog w A true false Q (us.zip vs) i s
  | _, _, _, _, _, .nil, .nil, _, q => q
  | _, _, _, _, i, .cons (vs := us) (ns := xs) x t hx, .cons (vs := vs) (ns := ys) y u hy, hl, q => by
    refine kat_cons (wpAny_eqBool_int ?_)
    unfold lexB at q
    by_cases e : x = y
    · subst e
      rw [if_pos rfl] at q
      rw [beq_self_eq_true]
      exact kat_yes (lex_ask (i + 1) hx hy (Nat.succ.inj hl) q)
    · rw [if_neg e] at q
      rw [beq_eq_false_iff_ne.mpr e]
      refine kat_no ?_
      cases c : (true && i == 0) with
      | true => exact oneLt_int q
      | false => exact kat_one _ _ (lt_int q)
end
end ST
end L2

namespace L2
open PySem PySem.W PyProof.Rows
namespace SR
/-! ### the pieces of list.sort by their names -/
noncomputable def gall : Bool → Keyed → Array Keyed → Nat → Nat → Nat → StateT SortSt Sem (Option Nat) := sortPriv% PySem.Builtin.gallop
noncomputable def mLo : Array Keyed → Array Keyed → StateT SortSt Sem (Array Keyed) := sortPriv% PySem.Builtin.mergeLo
noncomputable def mHi : Array Keyed → Array Keyed → StateT SortSt Sem (Array Keyed) := sortPriv% PySem.Builtin.mergeHi
/-- an order: its questions and what follows from the answers -/
structure TO (L : Keyed → Keyed → Bool) : Prop where
  as_ : ∀ {x y}, L x y = true → L y x = false
  tr : ∀ {x y z}, L y x = false → L z y = false → L z x = false
section
variable {prog : Program} {w : World} {A : Around} {E : Value → Shared → Prop} {s : Shared} {κ : SortKind} {U : Keyed → Prop} {L : Keyed → Keyed → Bool}
/-- questions about members of U are answered by L, and nothing changes -/
noncomputable def Asked (prog : Program) (w : World) (A : Around) (s : Shared) (κ : SortKind) (U : Keyed → Prop) (L : Keyed → Keyed → Bool) : Prop :=
  ∀ x y, U x → U y → wpAny (model prog w) A (keyLt' κ x.1 y.1) (fun b s' => s' = s ∧ b = L x y) (fun _ _ => False) s
theorem r_elem {arr : Array Keyed} {i : Nat} {x : Keyed} {Q : Keyed → SortSt → Prop} {st : SortSt} (hx : arr[i]? = some x) (h : Q x st) : wpS (model prog w) A E s (elem' arr i) Q st := by
  rw [elem'_eq, hx]
  exact wpS_pure h
theorem r_lt (H : Asked prog w A s κ U L) {x y : Keyed} {Q : Option Bool → SortSt → Prop} {st : SortSt} (hk : kindOf st = κ) (ux : U x) (uy : U y) (h : Q (some (L x y)) st) : wpS (model prog w) A E s (lt' x y) Q st := by
  rw [lt'_eq]
  refine wpS_bind (wpS_get (wpS_bind (wpS_lift (wpAny_attempt (wpAny_mono (by rw [hk]; exact H x y ux uy) (fun b s' hb => ?_) fun _ _ f => False.elim f)))))
  obtain ⟨rfl, rfl⟩ := hb
  exact ⟨rfl, wpS_pure h⟩
theorem r_rule {r : String} {Q : Unit → SortSt → Prop} {st : SortSt} (h : Q () st) : wpS (model prog w) A E s (liftM (rule r) : StateT SortSt Sem Unit) Q st := wpS_lift (wpAny_rule ⟨rfl, h⟩)
/-! what galloping asks, as truths -/
theorem r_bey (H : Asked prog w A s κ U L) {left : Bool} {key x : Keyed} {arr : Array Keyed} {j : Nat} {Q : Option Bool → SortSt → Prop} {st : SortSt} (hk : kindOf st = κ) (uk : U key) (hx : arr[j]? = some x) (ux : U x)
    (h : Q (some (if left = true then L x key else !(L key x))) st) : wpS (model prog w) A E s (elem' arr j >>= fun x => if left = true then lt' x key else lt' key x >>= fun r => pure (r.map fun c => !c)) Q st := by
  refine wpS_bind (r_elem hx ?_)
  cases left with
  | true => exact r_lt H hk ux uk h
  | false => exact wpS_bind (r_lt H hk uk ux (wpS_pure h))
theorem r_gall (H : Asked prog w A s κ U L) {left : Bool} {key : Keyed} {arr : Array Keyed} {base n hint : Nat} {b : Nat → Bool} {Q : Option Nat → SortSt → Prop} {st : SortSt} (hk : kindOf st = κ) (uk : U key)
    (hb : ∀ i, i < n → ∃ x, arr[base + i]? = some x ∧ U x ∧ (if left = true then L x key else !(L key x)) = b i) (hm : ∀ i j, i ≤ j → j < n → b j = true → b i = true) (hh : hint < n)
    (h : ∀ k, k ≤ n → (∀ i, i < k → b i = true) → (∀ i, k ≤ i → i < n → b i = false) → Q (some k) st) : wpS (model prog w) A E s (gall left key arr base n hint) Q st := by
  have hf : ∀ i j, i ≤ j → j < n → b i = false → b j = false := fun i j h1 h2 h3 => by
    cases c : b j with
    | false => rfl
    | true => rw [hm i j h1 h2 c] at h3; exact h3
  obtain ⟨x0, g1, g2, g3⟩ := hb hint hh
  refine wpS_bind (r_bey H hk uk g1 g2 ?_)
  rw [g3]
  dsimp only
  cases c0 : b hint with
  | true =>
    rw [if_pos rfl]
    refine wpS_bind (wpS_mono (wpS_forRange (I := fun i c st' => ∃ la of, c = (none, la, of) ∧ st' = st ∧ hint + la < n ∧ b (hint + la) = true ∧ la < of ∧ i + 1 ≤ of)
      (Q := fun c st' => ∃ la of, c = (none, la, of) ∧ st' = st ∧ hint + la < n ∧ b (hint + la) = true ∧ la < of ∧ (n - hint ≤ of ∨ b (hint + of) = false)) ?_ ?_ ⟨0, 1, rfl, rfl, hh, c0, by omega, by omega⟩) ?_)
    · rintro i c st' _ hi ⟨la, of, rfl, rfl, p1, p2, p3, p4⟩
      dsimp only
      by_cases d : of ≥ n - hint
      · rw [if_pos d]
        exact wpS_pure ⟨la, of, rfl, rfl, p1, p2, p3, .inl d⟩
      · rw [if_neg d]
        obtain ⟨x1, k1, k2, k3⟩ := hb (hint + of) (by omega)
        refine wpS_bind (r_bey H hk uk k1 k2 ?_)
        rw [k3]
        cases c1 : b (hint + of) with
        | true => exact wpS_pure ⟨of, 2 * of + 1, rfl, rfl, by omega, c1, by omega, by omega⟩
        | false => exact wpS_pure ⟨la, of, rfl, rfl, p1, p2, p3, .inr c1⟩
    · rintro c st' ⟨la, of, rfl, rfl, p1, p2, p3, p4⟩
      exact ⟨la, of, rfl, rfl, p1, p2, p3, .inl (by omega)⟩
    · rintro c st' ⟨la, of, rfl, rfl, p1, p2, p3, p4⟩
      dsimp only
      obtain ⟨lo, elo⟩ : ∃ lo, hint + la + 1 = lo := ⟨_, rfl⟩
      obtain ⟨hi, ehi⟩ : ∃ hi, hint + min of (n - hint) = hi := ⟨_, rfl⟩
      rw [elo, ehi]
      have q1 : ∀ i, i < lo → b i = true := fun i hi => hm i (hint + la) (by omega) p1 p2
      have q2 : ∀ i, hi ≤ i → i < n → b i = false := fun i h1 h2 => by
        rcases p4 with p4 | p4
        · omega
        · by_cases e : of ≤ n - hint
          · exact hf (hint + of) i (by omega) h2 p4
          · omega
      have q3 : lo ≤ hi ∧ hi ≤ n := by omega
      clear p1 p2 p3 p4 elo ehi c0
      refine wpS_bind (wpS_mono (wpS_forRange (I := fun i c st'' => ∃ lo hi, c = (none, lo, hi) ∧ st'' = st' ∧ (∀ i, i < lo → b i = true) ∧ (∀ i, hi ≤ i → i < n → b i = false) ∧ lo ≤ hi ∧ hi ≤ n ∧ hi - lo + i ≤ n)
        (Q := fun c st'' => ∃ lo hi, c = (none, lo, hi) ∧ st'' = st' ∧ (∀ i, i < lo → b i = true) ∧ (∀ i, hi ≤ i → i < n → b i = false) ∧ lo = hi ∧ hi ≤ n) ?_ ?_ ⟨lo, hi, rfl, rfl, q1, q2, q3.1, q3.2, by omega⟩) ?_)
      · rintro i c st'' _ hi ⟨lo, hi, rfl, rfl, p1, p2, p3, p4, p5⟩
        dsimp only
        by_cases d : lo ≥ hi
        · rw [if_pos d]
          exact wpS_pure ⟨lo, hi, rfl, rfl, p1, p2, by omega, p4⟩
        · rw [if_neg d]
          obtain ⟨x1, k1, k2, k3⟩ := hb (lo + (hi - lo) / 2) (by omega)
          refine wpS_bind (r_bey H hk uk k1 k2 ?_)
          rw [k3]
          cases c1 : b (lo + (hi - lo) / 2) with
          | true => exact wpS_pure ⟨lo + (hi - lo) / 2 + 1, hi, rfl, rfl, fun i hi' => hm i _ (by omega) (by omega) c1, p2, by omega, p4, by omega⟩
          | false => exact wpS_pure ⟨lo, lo + (hi - lo) / 2, rfl, rfl, p1, fun i h1 h2 => hf _ i h1 h2 c1, by omega, by omega, by omega⟩
      · rintro c st'' ⟨lo, hi, rfl, rfl, p1, p2, p3, p4, p5⟩
        exact ⟨lo, hi, rfl, rfl, p1, p2, by omega, p4⟩
      · rintro c st'' ⟨lo, hi, rfl, rfl, p1, p2, rfl, p4⟩
        exact wpS_pure (h lo p4 p1 p2)
  | false =>
    rw [if_neg Bool.false_ne_true]
    refine wpS_bind (wpS_mono (wpS_forRange (I := fun i c st' => ∃ la of, c = (none, la, of) ∧ st' = st ∧ la ≤ hint ∧ b (hint - la) = false ∧ la < of ∧ i + 1 ≤ of)
      (Q := fun c st' => ∃ la of, c = (none, la, of) ∧ st' = st ∧ la ≤ hint ∧ b (hint - la) = false ∧ la < of ∧ (hint + 1 ≤ of ∨ b (hint - of) = true)) ?_ ?_ ⟨0, 1, rfl, rfl, by omega, c0, by omega, by omega⟩) ?_)
    · rintro i c st' _ hi ⟨la, of, rfl, rfl, p1, p2, p3, p4⟩
      dsimp only
      by_cases d : of ≥ hint + 1
      · rw [if_pos d]
        exact wpS_pure ⟨la, of, rfl, rfl, p1, p2, p3, .inl d⟩
      · rw [if_neg d]
        obtain ⟨x1, k1, k2, k3⟩ := hb (hint - of) (by omega)
        refine wpS_bind (r_bey H hk uk k1 k2 ?_)
        rw [k3]
        cases c1 : b (hint - of) with
        | true => exact wpS_pure ⟨la, of, rfl, rfl, p1, p2, p3, .inr c1⟩
        | false => exact wpS_pure ⟨of, 2 * of + 1, rfl, rfl, by omega, c1, by omega, by omega⟩
    · rintro c st' ⟨la, of, rfl, rfl, p1, p2, p3, p4⟩
      exact ⟨la, of, rfl, rfl, p1, p2, p3, .inl (by omega)⟩
    · rintro c st' ⟨la, of, rfl, rfl, p1, p2, p3, p4⟩
      dsimp only
      obtain ⟨lo, elo⟩ : ∃ lo, hint + 1 - min of (hint + 1) = lo := ⟨_, rfl⟩
      obtain ⟨hi, ehi⟩ : ∃ hi, hint - la = hi := ⟨_, rfl⟩
      rw [elo, ehi]
      have q1 : ∀ i, i < lo → b i = true := fun i hi => by
        rcases p4 with p4 | p4
        · omega
        · exact hm i (hint - of) (by omega) (by omega) p4
      have q2 : ∀ i, hi ≤ i → i < n → b i = false := fun i h1 h2 => hf (hint - la) i (by omega) h2 p2
      have q3 : lo ≤ hi ∧ hi ≤ n := by omega
      clear p1 p2 p3 p4 elo ehi c0
      refine wpS_bind (wpS_mono (wpS_forRange (I := fun i c st'' => ∃ lo hi, c = (none, lo, hi) ∧ st'' = st' ∧ (∀ i, i < lo → b i = true) ∧ (∀ i, hi ≤ i → i < n → b i = false) ∧ lo ≤ hi ∧ hi ≤ n ∧ hi - lo + i ≤ n)
        (Q := fun c st'' => ∃ lo hi, c = (none, lo, hi) ∧ st'' = st' ∧ (∀ i, i < lo → b i = true) ∧ (∀ i, hi ≤ i → i < n → b i = false) ∧ lo = hi ∧ hi ≤ n) ?_ ?_ ⟨lo, hi, rfl, rfl, q1, q2, q3.1, q3.2, by omega⟩) ?_)
      · rintro i c st'' _ hi ⟨lo, hi, rfl, rfl, p1, p2, p3, p4, p5⟩
        dsimp only
        by_cases d : lo ≥ hi
        · rw [if_pos d]
          exact wpS_pure ⟨lo, hi, rfl, rfl, p1, p2, by omega, p4⟩
        · rw [if_neg d]
          obtain ⟨x1, k1, k2, k3⟩ := hb (lo + (hi - lo) / 2) (by omega)
          refine wpS_bind (r_bey H hk uk k1 k2 ?_)
          rw [k3]
          cases c1 : b (lo + (hi - lo) / 2) with
          | true => exact wpS_pure ⟨lo + (hi - lo) / 2 + 1, hi, rfl, rfl, fun i hi' => hm i _ (by omega) (by omega) c1, p2, by omega, p4, by omega⟩
          | false => exact wpS_pure ⟨lo, lo + (hi - lo) / 2, rfl, rfl, p1, fun i h1 h2 => hf _ i h1 h2 c1, by omega, by omega, by omega⟩
      · rintro c st'' ⟨lo, hi, rfl, rfl, p1, p2, p3, p4, p5⟩
        exact ⟨lo, hi, rfl, rfl, p1, p2, by omega, p4⟩
      · rintro c st'' ⟨lo, hi, rfl, rfl, p1, p2, rfl, p4⟩
        exact wpS_pure (h lo p4 p1 p2)
end
end SR
end L2

namespace L2
open PySem PySem.W PyProof.Rows
namespace SR
/-! ### two sorted lists made one: mathematics -/
section
variable {L : Keyed → Keyed → Bool} {la lb out ro : List Keyed} {ia ib na nb k : Nat}
/-- not after -/
noncomputable abbrev Le (L : Keyed → Keyed → Bool) (x y : Keyed) : Prop := L y x = false
noncomputable abbrev Inc (L : Keyed → Keyed → Bool) (l : List Keyed) : Prop := l.Pairwise (Le L)
theorem Le.of_lt (O : TO L) {x y : Keyed} (h : L x y = true) : Le L x y := O.as_ h
theorem Le.trans (O : TO L) {x y z : Keyed} (h : Le L x y) (g : Le L y z) : Le L x z := O.tr h g
theorem Inc.le (S : Inc L la) {i j : Nat} {x y : Keyed} (hi : la[i]? = some x) (hj : la[j]? = some y) (h : i < j) : Le L x y := by
  obtain ⟨h1, e1⟩ := List.getElem?_eq_some_iff.mp hi
  obtain ⟨h2, e2⟩ := List.getElem?_eq_some_iff.mp hj
  have := List.pairwise_iff_getElem.mp S i j h1 h2 h
  rw [e1, e2] at this
  exact this
theorem irr (O : TO L) (x : Keyed) : Le L x x := by
  show L x x = false
  cases c : L x x with
  | false => rfl
  | true => have := O.as_ c; rw [c] at this; exact this
theorem Inc.le' (O : TO L) (S : Inc L la) {i j : Nat} {x y : Keyed} (hi : la[i]? = some x) (hj : la[j]? = some y) (h : i ≤ j) : Le L x y := by
  rcases Nat.lt_or_ge i j with c | c
  · exact S.le hi hj c
  · have : i = j := by omega
    subst this
    rw [hi] at hj
    cases hj
    exact irr O x
theorem mem_drop {l : List Keyed} {i : Nat} {y : Keyed} (h : y ∈ l.drop i) : ∃ j, i ≤ j ∧ l[j]? = some y := by
  obtain ⟨j, hj⟩ := List.mem_iff_getElem?.mp h
  rw [List.getElem?_drop] at hj
  exact ⟨i + j, by omega, hj⟩
theorem mem_take {l : List Keyed} {n : Nat} {y : Keyed} (h : y ∈ l.take n) : ∃ j, j < n ∧ l[j]? = some y := by
  obtain ⟨j, hj⟩ := List.mem_iff_getElem?.mp h
  rw [List.getElem?_take] at hj
  split at hj
  · exact ⟨j, by assumption, hj⟩
  · cases hj
structure LI (L : Keyed → Keyed → Bool) (la lb out : List Keyed) (ia ib : Nat) : Prop where
  perm : out.Perm (la.take ia ++ lb.take ib)
  srt : Inc L out
  ha : ∀ x ∈ out, ∀ y ∈ la.drop ia, Le L x y
  hb : ∀ x ∈ out, ∀ y ∈ lb.drop ib, Le L x y
theorem LI.swap (I : LI L la lb out ia ib) : LI L lb la out ib ia := ⟨I.perm.trans List.perm_append_comm, I.srt, I.hb, I.ha⟩
theorem LI.take (Sa : Inc L la) (I : LI L la lb out ia ib) (k : Nat) (h : ∀ x ∈ (la.drop ia).take k, ∀ y ∈ lb.drop ib, Le L x y) : LI L la lb (out ++ (la.drop ia).take k) (ia + k) ib := by
  have sd : Inc L (la.drop ia) := List.Pairwise.sublist (List.drop_sublist ..) Sa
  have sc : Inc L ((la.drop ia).take k ++ (la.drop ia).drop k) := by rw [List.take_append_drop]; exact sd
  have sp := List.pairwise_append.mp sc
  refine ⟨?_, List.pairwise_append.mpr ⟨I.srt, sp.1, fun x hx y hy => I.ha x hx y (List.mem_of_mem_take hy)⟩, fun x hx y hy => ?_, fun x hx y hy => ?_⟩
  · rw [List.take_add]
    refine (I.perm.append_right _).trans ?_
    rw [List.append_assoc, List.append_assoc]
    exact List.Perm.append_left _ List.perm_append_comm
  · rw [← List.drop_drop] at hy
    rcases List.mem_append.mp hx with hx | hx
    · exact I.ha x hx y (List.mem_of_mem_drop hy)
    · exact sp.2.2 x hx y hy
  · rcases List.mem_append.mp hx with hx | hx
    · exact I.hb x hx y hy
    · exact h x hx y hy
theorem LI.fin (Sa : Inc L la) (Sb : Inc L lb) (I : LI L la lb out ia ib) (h : ∀ x ∈ la.drop ia, ∀ y ∈ lb.drop ib, Le L x y) : (out ++ la.drop ia ++ lb.drop ib).Perm (la ++ lb) ∧ Inc L (out ++ la.drop ia ++ lb.drop ib) := by
  have J := I.take Sa (la.length - ia) fun x hx y hy => h x (List.mem_of_mem_take hx) y hy
  have e1 : (la.drop ia).take (la.length - ia) = la.drop ia := List.take_of_length_le (by simp)
  rw [e1] at J
  have J2 := J.swap.take Sb (lb.length - ib) fun x hx y hy => by
    rw [List.drop_eq_nil_of_le (by omega)] at hy; cases hy
  rw [List.take_of_length_le (by simp)] at J2
  refine ⟨J2.perm.trans ?_, J2.srt⟩
  rw [List.take_of_length_le (by omega), List.take_of_length_le (by omega)]
  exact List.perm_append_comm
structure HI (L : Keyed → Keyed → Bool) (la lb ro : List Keyed) (na nb : Nat) : Prop where
  perm : ro.Perm (la.drop na ++ lb.drop nb)
  srt : Inc L ro
  ha : ∀ x ∈ la.take na, ∀ y ∈ ro, Le L x y
  hb : ∀ x ∈ lb.take nb, ∀ y ∈ ro, Le L x y
theorem HI.swap (I : HI L la lb ro na nb) : HI L lb la ro nb na := ⟨I.perm.trans List.perm_append_comm, I.srt, I.hb, I.ha⟩
theorem HI.drop (Sa : Inc L la) (I : HI L la lb ro na nb) (k : Nat) (hk : k ≤ na) (h : ∀ x ∈ lb.take nb, ∀ y ∈ (la.take na).drop k, Le L x y) : HI L la lb ((la.take na).drop k ++ ro) k nb := by
  have sd : Inc L (la.take na) := List.Pairwise.sublist (List.take_sublist ..) Sa
  have sc : Inc L ((la.take na).take k ++ (la.take na).drop k) := by rw [List.take_append_drop]; exact sd
  have sp := List.pairwise_append.mp sc
  have ek : (la.take na).take k = la.take k := by rw [List.take_take, Nat.min_eq_left hk]
  refine ⟨?_, List.pairwise_append.mpr ⟨sp.2.1, I.srt, fun x hx y hy => I.ha x (List.mem_of_mem_drop hx) y hy⟩, fun x hx y hy => ?_, fun x hx y hy => ?_⟩
  · have e : la.drop k = (la.take na).drop k ++ la.drop na := by
      rcases Nat.lt_or_ge la.length na with c | c
      · rw [List.take_of_length_le (by omega), List.drop_eq_nil_of_le (i := na) (by omega), List.append_nil]
      · conv => lhs; rw [← List.take_append_drop na la]
        rw [List.drop_append_of_le_length (by rw [List.length_take]; omega)]
    rw [e, List.append_assoc]
    exact I.perm.append_left _
  · rw [← ek] at hx
    rcases List.mem_append.mp hy with hy | hy
    · exact sp.2.2 x hx y hy
    · exact I.ha x (List.mem_of_mem_take hx) y hy
  · rcases List.mem_append.mp hy with hy | hy
    · exact h x hx y hy
    · exact I.hb x hx y hy
theorem HI.fin (Sa : Inc L la) (Sb : Inc L lb) (I : HI L la lb ro na nb) (h : ∀ x ∈ la.take na, ∀ y ∈ lb.take nb, Le L x y) : (la.take na ++ lb.take nb ++ ro).Perm (la ++ lb) ∧ Inc L (la.take na ++ lb.take nb ++ ro) := by
  have J := I.swap.drop Sb 0 (Nat.zero_le _) fun x hx y hy => h x hx y (List.mem_of_mem_drop hy)
  have J2 := J.swap.drop Sa 0 (Nat.zero_le _) fun x hx y hy => by rw [List.take_zero] at hx; cases hx
  rw [List.drop_zero, List.drop_zero] at J2
  rw [List.append_assoc]
  refine ⟨J2.perm.trans ?_, J2.srt⟩
  rw [List.drop_zero, List.drop_zero]
end
end SR
end L2

namespace L2
open PySem PySem.W PyProof.Rows
namespace SR
section
variable {L : Keyed → Keyed → Bool} {a b out : Array Keyed} {ia ib k : Nat} {x y : Keyed}
/-- what merging leaves alone -/
structure Kp (st st' : SortSt) : Prop where
  kind : kindOf st' = kindOf st
  arr : arrOf st' = arrOf st
  pend : pendingOf st' = pendingOf st
  failed : failedOf st' = failedOf st
theorem Kp.refl (st : SortSt) : Kp st st := ⟨rfl, rfl, rfl, rfl⟩
theorem ex_toList {a : Array Keyed} {i j : Nat} : (a.extract i j).toList = (a.toList.drop i).take (j - i) := by
  simp
theorem ex_all {a : Array Keyed} {i : Nat} : (a.extract i a.size).toList = a.toList.drop i := by
  rw [ex_toList]; exact List.take_of_length_le (by simp)
theorem get_l {a : Array Keyed} {i : Nat} : a.toList[i]? = a[i]? := by simp
theorem take1 (h : a[ia]? = some x) : (a.toList.drop ia).take 1 = [x] := by
  rw [← get_l] at h
  obtain ⟨h1, h2⟩ := List.getElem?_eq_some_iff.mp h
  rw [List.drop_eq_getElem_cons h1, h2]
  rfl
theorem up (O : TO L) (Sa : Inc L a.toList) (h : a[ia]? = some x) (g : Le L y x) : ∀ z ∈ a.toList.drop ia, Le L y z := fun z hz => by
  obtain ⟨j, hj, ej⟩ := mem_drop hz
  rw [← get_l] at h
  exact g.trans O (Sa.le' O h ej hj)
noncomputable abbrev Fin (L : Keyed → Keyed → Bool) (a b r : Array Keyed) : Prop := r.toList.Perm (a.toList ++ b.toList) ∧ Inc L r.toList
noncomputable abbrev Lo (L : Keyed → Keyed → Bool) (a b out : Array Keyed) (ia ib : Nat) : Prop := LI L a.toList b.toList out.toList ia ib
theorem Lo.pushA (Sa : Inc L a.toList) (I : Lo L a b out ia ib) (h : a[ia]? = some x) (g : ∀ y ∈ b.toList.drop ib, Le L x y) : Lo L a b (out.push x) (ia + 1) ib := by
  have := LI.take Sa I 1 (by rw [take1 h]; intro z hz; rw [List.mem_singleton] at hz; rw [hz]; exact g)
  rw [take1 h] at this
  show LI L a.toList b.toList (out.push x).toList _ _
  rw [Array.toList_push]
  exact this
theorem Lo.pushB (Sb : Inc L b.toList) (I : Lo L a b out ia ib) (h : b[ib]? = some y) (g : ∀ x ∈ a.toList.drop ia, Le L y x) : Lo L a b (out.push y) ia (ib + 1) := (Lo.pushA (a := b) (b := a) Sb I.swap h g).swap
theorem Lo.chunkA (Sa : Inc L a.toList) (I : Lo L a b out ia ib) (k : Nat) (g : ∀ i x, i < k → a[ia + i]? = some x → ∀ y ∈ b.toList.drop ib, Le L x y) : Lo L a b (out ++ a.extract ia (ia + k)) (ia + k) ib := by
  have := LI.take Sa I k (fun x hx => by
    obtain ⟨j, hj, ej⟩ := mem_take hx
    rw [List.getElem?_drop, get_l] at ej
    exact g j x hj ej)
  show LI L a.toList b.toList (out ++ a.extract ia (ia + k)).toList _ _
  rw [Array.toList_append, ex_toList, Nat.add_sub_cancel_left]
  exact this
theorem Lo.chunkB (Sb : Inc L b.toList) (I : Lo L a b out ia ib) (k : Nat) (g : ∀ i y, i < k → b[ib + i]? = some y → ∀ x ∈ a.toList.drop ia, Le L y x) : Lo L a b (out ++ b.extract ib (ib + k)) ia (ib + k) := (Lo.chunkA (a := b) (b := a) Sb I.swap k g).swap
theorem Lo.done (Sa : Inc L a.toList) (Sb : Inc L b.toList) (I : Lo L a b out ia ib) (h : ia = a.size ∨ ib = b.size) : Fin L a b (out ++ a.extract ia a.size ++ b.extract ib b.size) := by
  have := LI.fin Sa Sb I fun x hx y hy => by
    rcases h with h | h
    · rw [h, List.drop_eq_nil_of_le (by simp)] at hx; cases hx
    · rw [h, List.drop_eq_nil_of_le (by simp)] at hy; cases hy
  unfold Fin
  rw [Array.toList_append, Array.toList_append, ex_all, ex_all]
  exact this
theorem Lo.last (Sa : Inc L a.toList) (Sb : Inc L b.toList) (h1 : ∀ y ∈ b.toList, ∀ x, a[a.size - 1]? = some x → Le L y x) (I : Lo L a b out ia ib) (h : ia + 1 = a.size) : Fin L a b (out ++ b.extract ib b.size ++ a.extract ia a.size) := by
  have := LI.fin Sb Sa I.swap fun y hy x hx => by
    obtain ⟨j, hj, ej⟩ := mem_drop hx
    have hl := (List.getElem?_eq_some_iff.mp ej).1
    rw [Array.length_toList] at hl
    rw [get_l] at ej
    exact h1 y (List.mem_of_mem_drop hy) x (by rw [← ej]; congr 1; omega)
  unfold Fin
  rw [Array.toList_append, Array.toList_append, ex_all, ex_all]
  exact ⟨this.1.trans List.perm_append_comm, this.2⟩
end
section
variable {prog : Program} {w : World} {A : Around} {E : Value → Shared → Prop} {s : Shared} {κ : SortKind} {U : Keyed → Prop} {L : Keyed → Keyed → Bool}
/-- how many do not come after the key -/
theorem r_right (O : TO L) (H : Asked prog w A s κ U L) {key : Keyed} {a : Array Keyed} {ia hint n : Nat} {Q : Option Nat → SortSt → Prop} {st : SortSt} (hk : kindOf st = κ) (uk : U key) (ua : ∀ x ∈ a.toList, U x) (hn : ia + n ≤ a.size)
    (Sa : ∀ i j x y, i ≤ j → j < n → a[ia + i]? = some x → a[ia + j]? = some y → Le L x y) (hh : hint < n)
    (h : ∀ k, k ≤ n → (∀ i x, i < k → a[ia + i]? = some x → Le L x key) → (∀ i x, k ≤ i → i < n → a[ia + i]? = some x → L key x = true) → Q (some k) st) : wpS (model prog w) A E s (gall false key a ia n hint) Q st := by
  have at_ : ∀ i, i < n → ∃ x, a[ia + i]? = some x ∧ U x := fun i hi => ⟨a[ia + i], Array.getElem?_eq_getElem (by omega), ua _ (by simp)⟩
  refine r_gall H (b := fun i => match a[ia + i]? with | some x => !(L key x) | none => false) hk uk (fun i hi => ?_) (fun i j hij hj hb => ?_) hh fun k hk1 hk2 hk3 => h k hk1 (fun i x hi ex => ?_) fun i x h1 h2 ex => ?_
  · obtain ⟨x, ex, ux⟩ := at_ i hi
    refine ⟨x, ex, ux, ?_⟩
    rw [if_neg Bool.false_ne_true, ex]
  · obtain ⟨x, ex, _⟩ := at_ i (by omega)
    obtain ⟨y, ey, _⟩ := at_ j hj
    try dsimp only at hb ⊢
    rw [ey] at hb
    rw [ex]
    have h1 : L key y = false := by simpa using hb
    have h2 : L key x = false := (Sa i j x y hij hj ex ey).trans O h1
    dsimp only
    rw [h2]
    rfl
  · have := hk2 i hi
    try dsimp only at this
    rw [ex] at this
    simpa using this
  · have := hk3 i h1 h2
    try dsimp only at this
    rw [ex] at this
    simpa using this
/-- how many come ahead of the key -/
theorem r_left (O : TO L) (H : Asked prog w A s κ U L) {key : Keyed} {a : Array Keyed} {ia hint n : Nat} {Q : Option Nat → SortSt → Prop} {st : SortSt} (hk : kindOf st = κ) (uk : U key) (ua : ∀ x ∈ a.toList, U x) (hn : ia + n ≤ a.size)
    (Sa : ∀ i j x y, i ≤ j → j < n → a[ia + i]? = some x → a[ia + j]? = some y → Le L x y) (hh : hint < n)
    (h : ∀ k, k ≤ n → (∀ i x, i < k → a[ia + i]? = some x → L x key = true) → (∀ i x, k ≤ i → i < n → a[ia + i]? = some x → Le L key x) → Q (some k) st) : wpS (model prog w) A E s (gall true key a ia n hint) Q st := by
  have at_ : ∀ i, i < n → ∃ x, a[ia + i]? = some x ∧ U x := fun i hi => ⟨a[ia + i], Array.getElem?_eq_getElem (by omega), ua _ (by simp)⟩
  refine r_gall H (b := fun i => match a[ia + i]? with | some x => L x key | none => false) hk uk (fun i hi => ?_) (fun i j hij hj hb => ?_) hh fun k hk1 hk2 hk3 => h k hk1 (fun i x hi ex => ?_) fun i x h1 h2 ex => ?_
  · obtain ⟨x, ex, ux⟩ := at_ i hi
    refine ⟨x, ex, ux, ?_⟩
    rw [if_pos rfl, ex]
  · obtain ⟨x, ex, _⟩ := at_ i (by omega)
    obtain ⟨y, ey, _⟩ := at_ j hj
    try dsimp only at hb ⊢
    rw [ey] at hb
    rw [ex]
    try dsimp only at hb ⊢
    cases c : L x key with
    | true => rfl
    | false =>
      have c' : Le L key x := c
      have := c'.trans O (Sa i j x y hij hj ex ey)
      rw [show L y key = false from this] at hb
      exact hb
  · have := hk2 i hi
    try dsimp only at this
    rw [ex] at this
    exact this
  · have := hk3 i h1 h2
    try dsimp only at this
    rw [ex] at this
    exact this
theorem sub_inc (O : TO L) {a : Array Keyed} (Sa : Inc L a.toList) {ia n : Nat} : ∀ i j x y, i ≤ j → j < n → a[ia + i]? = some x → a[ia + j]? = some y → Le L x y := fun i j x y hij hj ex ey =>
  Sa.le' O (by rw [get_l]; exact ex) (by rw [get_l]; exact ey) (by omega)
end
end SR
end L2

namespace L2
open PySem PySem.W PyProof.Rows
namespace SR
section
variable {prog : Program} {w : World} {A : Around} {E : Value → Shared → Prop} {s : Shared} {κ : SortKind} {U : Keyed → Prop} {L : Keyed → Keyed → Bool}
theorem r_mLo (O : TO L) (H : Asked prog w A s κ U L) {a b : Array Keyed} {Q : Array Keyed → SortSt → Prop} {st : SortSt} (hk : kindOf st = κ) (ua : ∀ x ∈ a.toList, U x) (ub : ∀ x ∈ b.toList, U x)
    (Sa : Inc L a.toList) (Sb : Inc L b.toList) (a1 : 1 ≤ a.size) (b1 : 1 ≤ b.size) (h0 : ∀ x ∈ a.toList, ∀ y, b[0]? = some y → Le L y x) (h1 : ∀ y ∈ b.toList, ∀ x, a[a.size - 1]? = some x → Le L y x)
    (h : ∀ out st', Kp st st' → Fin L a b out → Q out st') : wpS (model prog w) A E s (mLo a b) Q st := by
  have atA : ∀ i, i < a.size → ∃ x, a[i]? = some x ∧ U x := fun i hi => ⟨a[i], Array.getElem?_eq_getElem hi, ua _ (by simp)⟩
  have atB : ∀ i, i < b.size → ∃ x, b[i]? = some x ∧ U x := fun i hi => ⟨b[i], Array.getElem?_eq_getElem hi, ub _ (by simp)⟩
  refine wpS_bind (r_rule ?_)
  dsimp only
  obtain ⟨y0, e0⟩ : ∃ y, b[0]? = some y := ⟨_, Array.getElem?_eq_getElem (by omega)⟩
  refine wpS_bind (r_elem e0 ?_)
  have I0 : Lo L a b #[y0] 0 1 := by
    have z : Lo L a b #[] 0 0 := ⟨by simp, List.Pairwise.nil, fun x hx => by simp at hx, fun x hx => by simp at hx⟩
    exact Lo.pushB Sb z e0 fun x hx => h0 x (by simpa using hx) y0 e0
  by_cases d1 : (1 == b.size) = true
  · rw [if_pos d1]
    exact wpS_pure (h _ st (Kp.refl _) (I0.done Sa Sb (.inr (by simpa using d1))))
  rw [if_neg d1]
  by_cases d2 : (0 + 1 == a.size) = true
  · rw [if_pos d2]
    exact wpS_pure (h _ st (Kp.refl _) (I0.last Sa Sb h1 (by simpa using d2)))
  rw [if_neg d2]
  have d1' : 1 ≠ b.size := by simpa using d1
  have d2' : 1 ≠ a.size := by simpa using d2
  refine wpS_bind (wpS_get ?_)
  refine wpS_bind (wpS_mono (wpS_forRange (I := fun i c st' => ∃ out ia ib mg, c = (none, out, ia, ib, mg) ∧ Kp st st' ∧ Lo L a b out ia ib ∧ ia + 1 < a.size ∧ ib < b.size ∧ i + 1 ≤ ia + ib)
    (Q := fun c st' => ∃ r z, c = (some r, z) ∧ Kp st st' ∧ Fin L a b r) ?step ?fin ⟨#[y0], 0, 1, _, rfl, Kp.refl _, I0, by omega, by omega, by omega⟩) ?post)
  case fin =>
    rintro c st' ⟨out, ia, ib, mg, rfl, _, _, p1, p2, p3⟩
    omega
  case post =>
    rintro c st' ⟨r, z, rfl, K, F⟩
    exact wpS_pure (h r st' K F)
  case step =>
    rintro i c st1 _ hi ⟨out, ia, ib, mg, rfl, K1, I1, p1, p2, p3⟩
    dsimp only
    refine wpS_bind (wpS_mono (wpS_forRange (I := fun j c st' => ∃ out ia' ib' ac bc, c = (none, out, ia', ib', ac, bc) ∧ st' = st1 ∧ Lo L a b out ia' ib' ∧ ia' + 1 < a.size ∧ ib' < b.size ∧ ia + ib + j ≤ ia' + ib')
      (Q := fun c st' => st' = st1 ∧ ((∃ r z, c = (some r, z) ∧ Fin L a b r) ∨ ∃ out ia' ib' ac bc, c = (none, out, ia', ib', ac, bc) ∧ Lo L a b out ia' ib' ∧ ia' + 1 < a.size ∧ ib' < b.size ∧ ia + ib + 1 ≤ ia' + ib')) ?step1 ?fin1 ⟨out, ia, ib, 0, 0, rfl, rfl, I1, p1, p2, by omega⟩) ?post1)
    case fin1 =>
      rintro c st' ⟨out, ia', ib', ac, bc, rfl, rfl, I, q1, q2, q3⟩
      exact ⟨rfl, .inr ⟨out, ia', ib', ac, bc, rfl, I, q1, q2, by omega⟩⟩
    case step1 =>
      rintro j c st' _ hj ⟨out, ia', ib', ac, bc, rfl, rfl, I, q1, q2, q3⟩
      dsimp only
      obtain ⟨xa, ea, uxa⟩ := atA ia' (by omega)
      obtain ⟨xb, eb, uxb⟩ := atB ib' q2
      refine wpS_bind (r_elem eb (wpS_bind (r_elem ea (wpS_bind (r_lt H (K1.kind.trans hk) uxb uxa ?_)))))
      cases c : L xb xa with
      | true =>
        have J := Lo.pushB Sb I eb (up O Sa ea (Le.of_lt O c))
        refine wpS_bind (r_elem eb ?_)
        by_cases d : (ib' + 1 == b.size) = true
        · rw [if_pos d]
          exact wpS_pure ⟨rfl, .inl ⟨_, _, rfl, J.done Sa Sb (.inr (by simpa using d))⟩⟩
        · rw [if_neg d]
          have d' : ib' + 1 ≠ b.size := by simpa using d
          split
          · exact wpS_pure ⟨rfl, .inr ⟨_, _, _, _, _, rfl, J, q1, by omega, by omega⟩⟩
          · exact wpS_pure ⟨_, _, _, _, _, rfl, rfl, J, q1, by omega, by omega⟩
      | false =>
        have J := Lo.pushA Sa I ea (up O Sb eb c)
        refine wpS_bind (r_elem ea ?_)
        by_cases d : (ia' + 1 + 1 == a.size) = true
        · rw [if_pos d]
          exact wpS_pure ⟨rfl, .inl ⟨_, _, rfl, J.last Sa Sb h1 (by simpa using d)⟩⟩
        · rw [if_neg d]
          have d' : ia' + 1 + 1 ≠ a.size := by simpa using d
          split
          · exact wpS_pure ⟨rfl, .inr ⟨_, _, _, _, _, rfl, J, by omega, q2, by omega⟩⟩
          · exact wpS_pure ⟨_, _, _, _, _, rfl, rfl, J, by omega, q2, by omega⟩
    case post1 =>
      rintro c st' ⟨rfl, ⟨r, ⟨z1, z2, z3, z4, z5⟩, rfl, F⟩ | ⟨out, ia', ib', ac, bc, rfl, I2, q1, q2, q3⟩⟩
      · exact wpS_pure ⟨r, _, rfl, K1, F⟩
      · dsimp only
        refine wpS_bind (r_rule ?_)
        refine wpS_bind (wpS_mono (wpS_forRange (I := fun j c st' => ∃ out ja jb mg ac bc, c = (none, out, ja, jb, mg, ac, bc) ∧ Kp st st' ∧ Lo L a b out ja jb ∧ ja + 1 < a.size ∧ jb < b.size ∧ ia' + ib' ≤ ja + jb)
          (Q := fun c st' => Kp st st' ∧ ((∃ r z, c = (some r, z) ∧ Fin L a b r) ∨ ∃ out ja jb mg ac bc, c = (none, out, ja, jb, mg, ac, bc) ∧ Lo L a b out ja jb ∧ ja + 1 < a.size ∧ jb < b.size ∧ ia' + ib' ≤ ja + jb)) ?step2 ?fin2 ⟨out, ia', ib', _, ac, bc, rfl, K1, I2, q1, q2, Nat.le_refl _⟩) ?post2)
        case fin2 =>
          rintro c st' ⟨out, ja, jb, mg, ac, bc, rfl, K, I, r1, r2, r3⟩
          exact ⟨K, .inr ⟨out, ja, jb, mg, ac, bc, rfl, I, r1, r2, r3⟩⟩
        case post2 =>
          rintro c st' ⟨K, ⟨r, ⟨z1, z2, z3, z4, z5, z6⟩, rfl, F⟩ | ⟨out, ja, jb, mg, ac, bc, rfl, I, r1, r2, r3⟩⟩
          · exact wpS_pure ⟨r, _, rfl, K, F⟩
          · dsimp only
            exact wpS_bind (wpS_modify (wpS_pure ⟨out, ja, jb, _, rfl, ⟨K.kind, K.arr, K.pend, K.failed⟩, I, r1, r2, by omega⟩))
        case step2 =>
          rintro j c st' _ hj ⟨out, ja, jb, mg, ac, bc, rfl, K, I, r1, r2, r3⟩
          dsimp only
          obtain ⟨xb, eb, uxb⟩ := atB jb r2
          by_cases cg : mg > 1
          case' pos => rw [if_pos cg]
          case' neg => rw [if_neg cg]
          all_goals
            refine wpS_bind (wpS_modify (wpS_bind (r_elem eb ?_)))
            refine wpS_bind (r_right O H (K.kind.trans hk) uxb ua (by omega) (sub_inc O Sa) (by omega) fun k k1 k2 k3 => ?_)
            dsimp only
            have up_b : ∀ y ∈ b.toList.drop jb, Le L xb y := up O Sb eb (irr O xb)
            by_cases ck : k > 0
            case' pos =>
              rw [if_pos ck]
              have J := Lo.chunkA Sa I k fun i x hi ex y hy => (k2 i x hi ex).trans O (up_b y hy)
              by_cases d : (ja + k + 1 == a.size) = true
              · rw [if_pos d]
                exact wpS_pure ⟨⟨K.kind, K.arr, K.pend, K.failed⟩, .inl ⟨_, _, rfl, J.last Sa Sb h1 (by simpa using d)⟩⟩
              rw [if_neg d]
              by_cases e : (ja + k == a.size) = true
              · rw [if_pos e]
                exact wpS_pure ⟨⟨K.kind, K.arr, K.pend, K.failed⟩, .inl ⟨_, _, rfl, J.done Sa Sb (.inl (by simpa using e))⟩⟩
              rw [if_neg e]
              have f2 : ja + k + 1 < a.size := by
                have d' : ja + k + 1 ≠ a.size := by simpa using d
                have e' : ja + k ≠ a.size := by simpa using e
                omega
              have g2 : ∀ x ∈ a.toList.drop (ja + k), Le L xb x := by
                obtain ⟨xx, ex, _⟩ := atA (ja + k) (by omega)
                exact up O Sa ex (Le.of_lt O (k3 k xx (Nat.le_refl _) (by omega) ex))
              have r3' : ia' + ib' ≤ ja + k + jb := by omega
              clear d e k2 k3 k1
              generalize out ++ a.extract ja (ja + k) = out2 at J ⊢
              generalize ja + k = ja2 at J f2 g2 r3' ⊢
            case' neg =>
              rw [if_neg ck]
              have J := I
              have f2 := r1
              have g2 : ∀ x ∈ a.toList.drop ja, Le L xb x := by
                obtain ⟨xx, ex, _⟩ := atA ja (by omega)
                exact up O Sa ex (Le.of_lt O (k3 0 xx (by omega) (by omega) ex))
              have r3' := r3
              clear k2 k3 k1
              generalize out = out2 at J ⊢
              generalize ja = ja2 at J f2 g2 r3' ⊢
            all_goals
              refine wpS_bind (r_elem eb ?_)
              have J2 := Lo.pushB Sb J eb g2
              clear J g2
              by_cases d : (jb + 1 == b.size) = true
              · rw [if_pos d]
                exact wpS_pure ⟨⟨K.kind, K.arr, K.pend, K.failed⟩, .inl ⟨_, _, rfl, J2.done Sa Sb (.inr (by simpa using d))⟩⟩
              rw [if_neg d]
              have d' : jb + 1 ≠ b.size := by simpa using d
              obtain ⟨xa, ea, uxa⟩ := atA ja2 (by omega)
              refine wpS_bind (r_elem ea ?_)
              refine wpS_bind (r_left O H (K.kind.trans hk) uxa ub (by omega) (sub_inc O Sb) (by omega) fun m m1 m2 m3 => ?_)
              dsimp only
              have up_a : ∀ y ∈ a.toList.drop ja2, Le L xa y := up O Sa ea (irr O xa)
              generalize out2.push xb = out3 at J2 ⊢
              by_cases cm : m > 0
              case' pos =>
                rw [if_pos cm]
                have J3 := Lo.chunkB Sb J2 m fun i y hi ey x hx => (Le.of_lt O (m2 i y hi ey)).trans O (up_a x hx)
                by_cases d : (jb + 1 + m == b.size) = true
                · rw [if_pos d]
                  exact wpS_pure ⟨⟨K.kind, K.arr, K.pend, K.failed⟩, .inl ⟨_, _, rfl, J3.done Sa Sb (.inr (by simpa using d))⟩⟩
                rw [if_neg d]
                have f3 : jb + 1 + m < b.size := by
                  have d' : jb + 1 + m ≠ b.size := by simpa using d
                  omega
                have g3 : ∀ y ∈ b.toList.drop (jb + 1 + m), Le L xa y := by
                  obtain ⟨xx, ex, _⟩ := atB (jb + 1 + m) (by omega)
                  exact up O Sb ex (m3 m xx (Nat.le_refl _) (by omega) ex)
                have r4 : ia' + ib' ≤ ja2 + (jb + 1 + m) := by omega
                generalize out3 ++ b.extract (jb + 1) (jb + 1 + m) = out4 at J3 ⊢
                generalize jb + 1 + m = jb2 at J3 f3 g3 r4 ⊢
              case' neg =>
                rw [if_neg cm]
                have J3 := J2
                have f3 : jb + 1 < b.size := by omega
                have g3 : ∀ y ∈ b.toList.drop (jb + 1), Le L xa y := by
                  obtain ⟨xx, ex, _⟩ := atB (jb + 1) (by omega)
                  exact up O Sb ex (m3 0 xx (by omega) (by omega) ex)
                have r4 : ia' + ib' ≤ ja2 + (jb + 1) := by omega
                generalize out3 = out4 at J3 ⊢
                generalize jb + 1 = jb2 at J3 f3 g3 r4 ⊢
              all_goals
                refine wpS_bind (r_elem ea ?_)
                have J4 := Lo.pushA Sa J3 ea g3
                by_cases d : (ja2 + 1 + 1 == a.size) = true
                · rw [if_pos d]
                  exact wpS_pure ⟨⟨K.kind, K.arr, K.pend, K.failed⟩, .inl ⟨_, _, rfl, J4.last Sa Sb h1 (by simpa using d)⟩⟩
                rw [if_neg d]
                have d' : ja2 + 1 + 1 ≠ a.size := by simpa using d
                split
                · exact wpS_pure ⟨⟨K.kind, K.arr, K.pend, K.failed⟩, .inr ⟨_, _, _, _, _, _, rfl, J4, by omega, f3, by omega⟩⟩
                · exact wpS_pure ⟨_, _, _, _, _, _, rfl, ⟨K.kind, K.arr, K.pend, K.failed⟩, J4, by omega, f3, by omega⟩
end
end SR
end L2

namespace L2
open PySem PySem.W PyProof.Rows
namespace SR
section
variable {L : Keyed → Keyed → Bool} {a b out : Array Keyed} {na nb k : Nat} {x y : Keyed}
theorem dn (O : TO L) (Sa : Inc L a.toList) (h : a[na - 1]? = some x) (g : Le L x y) : ∀ z ∈ a.toList.take na, Le L z y := fun z hz => by
  obtain ⟨j, hj, ej⟩ := mem_take hz
  rw [← get_l] at h
  exact (Sa.le' O ej h (by omega)).trans O g
theorem drop1 (hn : 1 ≤ na) (h : a[na - 1]? = some x) : (a.toList.take na).drop (na - 1) = [x] := by
  rw [← get_l] at h
  obtain ⟨h1, h2⟩ := List.getElem?_eq_some_iff.mp h
  have e : na = (na - 1) + 1 := by omega
  rw [show a.toList.take na = a.toList.take ((na - 1) + 1) by rw [← e], List.take_add_one, h, List.drop_append_of_le_length (by rw [List.length_take]; omega), List.drop_eq_nil_of_le (by rw [List.length_take]; omega)]
  rfl
noncomputable abbrev Hi (L : Keyed → Keyed → Bool) (a b out : Array Keyed) (na nb : Nat) : Prop := HI L a.toList b.toList out.toList.reverse na nb
theorem Hi.pushA (Sa : Inc L a.toList) (I : Hi L a b out na nb) (hn : 1 ≤ na) (h : a[na - 1]? = some x) (g : ∀ y ∈ b.toList.take nb, Le L y x) : Hi L a b (out.push x) (na - 1) nb := by
  have := HI.drop Sa I (na - 1) (by omega) (by rw [drop1 hn h]; intro y hy z hz; rw [List.mem_singleton] at hz; rw [hz]; exact g y hy)
  rw [drop1 hn h] at this
  show HI L a.toList b.toList (out.push x).toList.reverse _ _
  rw [Array.toList_push, List.reverse_append]
  exact this
theorem Hi.pushB (Sb : Inc L b.toList) (I : Hi L a b out na nb) (hn : 1 ≤ nb) (h : b[nb - 1]? = some y) (g : ∀ x ∈ a.toList.take na, Le L x y) : Hi L a b (out.push y) na (nb - 1) := (Hi.pushA (a := b) (b := a) Sb I.swap hn h g).swap
theorem Hi.chunkA (Sa : Inc L a.toList) (I : Hi L a b out na nb) (at_ : Nat) (h1 : at_ ≤ na) (g : ∀ i x, at_ ≤ i → i < na → a[i]? = some x → ∀ y ∈ b.toList.take nb, Le L y x) : Hi L a b (out ++ (a.extract at_ na).reverse) at_ nb := by
  have e : (a.extract at_ na).toList = (a.toList.take na).drop at_ := by rw [ex_toList, List.take_drop]; congr 2; omega
  have := HI.drop Sa I at_ h1 (fun y hy x hx => by
    obtain ⟨j, hj, ej⟩ := mem_drop hx
    rw [List.getElem?_take] at ej
    split at ej
    · rw [get_l] at ej
      exact g j x hj (by assumption) ej y hy
    · cases ej)
  show HI L a.toList b.toList (out ++ (a.extract at_ na).reverse).toList.reverse _ _
  rw [Array.toList_append, Array.toList_reverse, List.reverse_append, List.reverse_reverse, e]
  exact this
theorem Hi.chunkB (Sb : Inc L b.toList) (I : Hi L a b out na nb) (at_ : Nat) (h1 : at_ ≤ nb) (g : ∀ i y, at_ ≤ i → i < nb → b[i]? = some y → ∀ x ∈ a.toList.take na, Le L x y) : Hi L a b (out ++ (b.extract at_ nb).reverse) na at_ := (Hi.chunkA (a := b) (b := a) Sb I.swap at_ h1 g).swap
theorem ex0 {a : Array Keyed} {n : Nat} : (a.extract 0 n).toList = a.toList.take n := by rw [ex_toList]; rfl
theorem Hi.done (Sa : Inc L a.toList) (Sb : Inc L b.toList) (I : Hi L a b out na nb) (h : na = 0 ∨ nb = 0) : Fin L a b (a.extract 0 na ++ b.extract 0 nb ++ out.reverse) := by
  have := HI.fin Sa Sb I fun x hx y hy => by
    rcases h with h | h
    · rw [h] at hx; cases hx
    · rw [h] at hy; cases hy
  unfold Fin
  rw [Array.toList_append, Array.toList_append, ex0, ex0, Array.toList_reverse]
  exact this
theorem Hi.first (Sa : Inc L a.toList) (Sb : Inc L b.toList) (h0 : ∀ x ∈ a.toList, ∀ y, b[0]? = some y → Le L y x) (I : Hi L a b out na nb) (h : nb = 1) : Fin L a b (b.extract 0 nb ++ a.extract 0 na ++ out.reverse) := by
  have := HI.fin Sb Sa I.swap fun y hy x hx => by
    obtain ⟨j, hj, ej⟩ := mem_take hy
    rw [get_l] at ej
    exact h0 x (List.mem_of_mem_take hx) y (by rw [← ej]; congr 1; omega)
  unfold Fin
  rw [Array.toList_append, Array.toList_append, ex0, ex0, Array.toList_reverse]
  exact ⟨this.1.trans List.perm_append_comm, this.2⟩
end
section
variable {prog : Program} {w : World} {A : Around} {E : Value → Shared → Prop} {s : Shared} {κ : SortKind} {U : Keyed → Prop} {L : Keyed → Keyed → Bool}
theorem z_ {a : Array Keyed} {i : Nat} : a[0 + i]? = a[i]? := by rw [Nat.zero_add]
theorem r_mHi (O : TO L) (H : Asked prog w A s κ U L) {a b : Array Keyed} {Q : Array Keyed → SortSt → Prop} {st : SortSt} (hk : kindOf st = κ) (ua : ∀ x ∈ a.toList, U x) (ub : ∀ x ∈ b.toList, U x)
    (Sa : Inc L a.toList) (Sb : Inc L b.toList) (a1 : 1 ≤ a.size) (b1 : 1 ≤ b.size) (h0 : ∀ x ∈ a.toList, ∀ y, b[0]? = some y → Le L y x) (h1 : ∀ y ∈ b.toList, ∀ x, a[a.size - 1]? = some x → Le L y x)
    (h : ∀ out st', Kp st st' → Fin L a b out → Q out st') : wpS (model prog w) A E s (mHi a b) Q st := by
  have atA : ∀ i, i < a.size → ∃ x, a[i]? = some x ∧ U x := fun i hi => ⟨a[i], Array.getElem?_eq_getElem hi, ua _ (by simp)⟩
  have atB : ∀ i, i < b.size → ∃ x, b[i]? = some x ∧ U x := fun i hi => ⟨b[i], Array.getElem?_eq_getElem hi, ub _ (by simp)⟩
  refine wpS_bind (r_rule ?_)
  dsimp only
  obtain ⟨x0, e0, _⟩ := atA (a.size - 1) (by omega)
  refine wpS_bind (r_elem e0 ?_)
  have I0 : Hi L a b #[x0] (a.size - 1) b.size := by
    have z : Hi L a b #[] a.size b.size := ⟨by simp, List.Pairwise.nil, fun x hx y hy => by simp at hy, fun x hx y hy => by simp at hy⟩
    exact Hi.pushA Sa z a1 e0 fun y hy => h1 y (List.mem_of_mem_take hy) x0 e0
  by_cases d1 : (a.size - 1 == 0) = true
  · rw [if_pos d1]
    exact wpS_pure (h _ st (Kp.refl _) (I0.done Sa Sb (.inl (by simpa using d1))))
  rw [if_neg d1]
  by_cases d2 : (b.size == 1) = true
  · rw [if_pos d2]
    exact wpS_pure (h _ st (Kp.refl _) (I0.first Sa Sb h0 (by simpa using d2)))
  rw [if_neg d2]
  have d1' : a.size - 1 ≠ 0 := by simpa using d1
  have d2' : b.size ≠ 1 := by simpa using d2
  refine wpS_bind (wpS_get ?_)
  refine wpS_bind (wpS_mono (wpS_forRange (I := fun i c st' => ∃ na nb out mg, c = (none, na, nb, out, mg) ∧ Kp st st' ∧ Hi L a b out na nb ∧ 1 ≤ na ∧ na < a.size ∧ 2 ≤ nb ∧ nb ≤ b.size ∧ i + 1 ≤ (a.size - na) + (b.size - nb))
    (Q := fun c st' => ∃ r z, c = (some r, z) ∧ Kp st st' ∧ Fin L a b r) ?step ?fin ⟨_, _, _, _, rfl, Kp.refl _, I0, by omega, by omega, by omega, by omega, by omega⟩) ?post)
  case fin =>
    rintro c st' ⟨na, nb, out, mg, rfl, _, _, p1, p2, p3, p4, p5⟩
    omega
  case post =>
    rintro c st' ⟨r, z, rfl, K, F⟩
    exact wpS_pure (h r st' K F)
  case step =>
    rintro i c st1 _ hi ⟨na, nb, out, mg, rfl, K1, I1, p1, p2, p3, p4, p5⟩
    dsimp only
    refine wpS_bind (wpS_mono (wpS_forRange (I := fun j c st' => ∃ na' nb' out ac bc, c = (none, na', nb', out, ac, bc) ∧ st' = st1 ∧ Hi L a b out na' nb' ∧ 1 ≤ na' ∧ na' < a.size ∧ 2 ≤ nb' ∧ nb' ≤ b.size ∧ (a.size - na) + (b.size - nb) + j ≤ (a.size - na') + (b.size - nb'))
      (Q := fun c st' => st' = st1 ∧ ((∃ r z, c = (some r, z) ∧ Fin L a b r) ∨ ∃ na' nb' out ac bc, c = (none, na', nb', out, ac, bc) ∧ Hi L a b out na' nb' ∧ 1 ≤ na' ∧ na' < a.size ∧ 2 ≤ nb' ∧ nb' ≤ b.size ∧ (a.size - na) + (b.size - nb) + 1 ≤ (a.size - na') + (b.size - nb'))) ?step1 ?fin1 ⟨na, nb, out, 0, 0, rfl, rfl, I1, p1, p2, p3, p4, by omega⟩) ?post1)
    case fin1 =>
      rintro c st' ⟨na', nb', out, ac, bc, rfl, rfl, I, q1, q2, q3, q4, q5⟩
      exact ⟨rfl, .inr ⟨na', nb', out, ac, bc, rfl, I, q1, q2, q3, q4, by omega⟩⟩
    case step1 =>
      rintro j c st' _ hj ⟨na', nb', out, ac, bc, rfl, rfl, I, q1, q2, q3, q4, q5⟩
      dsimp only
      obtain ⟨xa, ea, uxa⟩ := atA (na' - 1) (by omega)
      obtain ⟨xb, eb, uxb⟩ := atB (nb' - 1) (by omega)
      refine wpS_bind (r_elem eb (wpS_bind (r_elem ea (wpS_bind (r_lt H (K1.kind.trans hk) uxb uxa ?_)))))
      cases c : L xb xa with
      | true =>
        have J := Hi.pushA Sa I q1 ea (dn O Sb eb (Le.of_lt O c))
        refine wpS_bind (r_elem ea ?_)
        by_cases d : (na' - 1 == 0) = true
        · rw [if_pos d]
          exact wpS_pure ⟨rfl, .inl ⟨_, _, rfl, J.done Sa Sb (.inl (by simpa using d))⟩⟩
        · rw [if_neg d]
          have d' : na' - 1 ≠ 0 := by simpa using d
          split
          · exact wpS_pure ⟨rfl, .inr ⟨_, _, _, _, _, rfl, J, by omega, by omega, q3, q4, by omega⟩⟩
          · exact wpS_pure ⟨_, _, _, _, _, rfl, rfl, J, by omega, by omega, q3, q4, by omega⟩
      | false =>
        have J := Hi.pushB Sb I (by omega) eb (dn O Sa ea c)
        refine wpS_bind (r_elem eb ?_)
        by_cases d : (nb' - 1 == 1) = true
        · rw [if_pos d]
          exact wpS_pure ⟨rfl, .inl ⟨_, _, rfl, J.first Sa Sb h0 (by simpa using d)⟩⟩
        · rw [if_neg d]
          have d' : nb' - 1 ≠ 1 := by simpa using d
          split
          · exact wpS_pure ⟨rfl, .inr ⟨_, _, _, _, _, rfl, J, q1, q2, by omega, by omega, by omega⟩⟩
          · exact wpS_pure ⟨_, _, _, _, _, rfl, rfl, J, q1, q2, by omega, by omega, by omega⟩
    case post1 =>
      rintro c st' ⟨rfl, ⟨r, ⟨z1, z2, z3, z4, z5⟩, rfl, F⟩ | ⟨na', nb', out, ac, bc, rfl, I2, q1, q2, q3, q4, q5⟩⟩
      · exact wpS_pure ⟨r, _, rfl, K1, F⟩
      · dsimp only
        refine wpS_bind (r_rule ?_)
        refine wpS_bind (wpS_mono (wpS_forRange (I := fun j c st' => ∃ ma mb out mg ac bc, c = (none, ma, mb, out, mg, ac, bc) ∧ Kp st st' ∧ Hi L a b out ma mb ∧ 1 ≤ ma ∧ ma ≤ na' ∧ 2 ≤ mb ∧ mb ≤ nb')
          (Q := fun c st' => Kp st st' ∧ ((∃ r z, c = (some r, z) ∧ Fin L a b r) ∨ ∃ ma mb out mg ac bc, c = (none, ma, mb, out, mg, ac, bc) ∧ Hi L a b out ma mb ∧ 1 ≤ ma ∧ ma ≤ na' ∧ 2 ≤ mb ∧ mb ≤ nb')) ?step2 ?fin2 ⟨na', nb', out, _, ac, bc, rfl, K1, I2, q1, Nat.le_refl _, q3, Nat.le_refl _⟩) ?post2)
        case fin2 =>
          rintro c st' ⟨ma, mb, out, mg, ac, bc, rfl, K, I, r1, r2, r3, r4⟩
          exact ⟨K, .inr ⟨ma, mb, out, mg, ac, bc, rfl, I, r1, r2, r3, r4⟩⟩
        case post2 =>
          rintro c st' ⟨K, ⟨r, ⟨z1, z2, z3, z4, z5, z6⟩, rfl, F⟩ | ⟨ma, mb, out, mg, ac, bc, rfl, I, r1, r2, r3, r4⟩⟩
          · exact wpS_pure ⟨r, _, rfl, K, F⟩
          · dsimp only
            exact wpS_bind (wpS_modify (wpS_pure ⟨ma, mb, out, _, rfl, ⟨K.kind, K.arr, K.pend, K.failed⟩, I, r1, by omega, r3, by omega, by omega⟩))
        case step2 =>
          rintro j c st' _ hj ⟨ma, mb, out, mg, ac, bc, rfl, K, I, r1, r2, r3, r4⟩
          dsimp only
          obtain ⟨xb, eb, uxb⟩ := atB (mb - 1) (by omega)
          by_cases cg : mg > 1
          case' pos => rw [if_pos cg]
          case' neg => rw [if_neg cg]
          all_goals
            refine wpS_bind (wpS_modify (wpS_bind (r_elem eb ?_)))
            refine wpS_bind (r_right O H (K.kind.trans hk) uxb ua (by omega) (sub_inc O Sa) (by omega) fun t k1 k2 k3 => ?_)
            dsimp only
            have dn_b : ∀ y ∈ b.toList.take mb, Le L y xb := dn O Sb eb (irr O xb)
            by_cases ck : ma - t > 0
            case' pos =>
              rw [if_pos ck]
              have J := Hi.chunkA Sa I t k1 fun i x hi1 hi2 ex y hy => (dn_b y hy).trans O (Le.of_lt O (k3 i x hi1 hi2 (by rw [z_]; exact ex)))
              by_cases d : (t == 0) = true
              · rw [if_pos d]
                exact wpS_pure ⟨⟨K.kind, K.arr, K.pend, K.failed⟩, .inl ⟨_, _, rfl, J.done Sa Sb (.inl (by simpa using d))⟩⟩
              rw [if_neg d]
              have f2 : 1 ≤ t := by
                have d' : t ≠ 0 := by simpa using d
                omega
              have g2 : ∀ x ∈ a.toList.take t, Le L x xb := fun x hx => by
                obtain ⟨i, hi, ei⟩ := mem_take hx
                exact k2 i x hi (by rw [z_, ← get_l]; exact ei)
              have r2' : t ≤ na' := by omega
              clear d k2 k3 k1
              generalize out ++ (a.extract t ma).reverse = out2 at J ⊢
              generalize t = ma2 at J f2 g2 r2' ⊢
            case' neg =>
              rw [if_neg ck]
              have J := I
              have f2 := r1
              have g2 : ∀ x ∈ a.toList.take ma, Le L x xb := fun x hx => by
                obtain ⟨i, hi, ei⟩ := mem_take hx
                exact k2 i x (by omega) (by rw [z_, ← get_l]; exact ei)
              have r2' := r2
              clear k2 k3 k1
              generalize out = out2 at J ⊢
              generalize ma = ma2 at J f2 g2 r2' ⊢
            all_goals
              refine wpS_bind (r_elem eb ?_)
              have J2 := Hi.pushB Sb J (by omega) eb g2
              clear J g2
              by_cases d : (mb - 1 == 1) = true
              · rw [if_pos d]
                exact wpS_pure ⟨⟨K.kind, K.arr, K.pend, K.failed⟩, .inl ⟨_, _, rfl, J2.first Sa Sb h0 (by simpa using d)⟩⟩
              rw [if_neg d]
              have d' : mb - 1 ≠ 1 := by simpa using d
              obtain ⟨xa, ea, uxa⟩ := atA (ma2 - 1) (by omega)
              refine wpS_bind (r_elem ea ?_)
              refine wpS_bind (r_left O H (K.kind.trans hk) uxa ub (by omega) (sub_inc O Sb) (by omega) fun m m1 m2 m3 => ?_)
              dsimp only
              have dn_a : ∀ y ∈ a.toList.take ma2, Le L y xa := dn O Sa ea (irr O xa)
              generalize out2.push xb = out3 at J2 ⊢
              by_cases cm : mb - 1 - m > 0
              case' pos =>
                rw [if_pos cm]
                have J3 := Hi.chunkB Sb J2 m m1 fun i y hi1 hi2 ey x hx => (dn_a x hx).trans O (m3 i y hi1 hi2 (by rw [z_]; exact ey))
                by_cases d : (m == 1) = true
                · rw [if_pos d]
                  exact wpS_pure ⟨⟨K.kind, K.arr, K.pend, K.failed⟩, .inl ⟨_, _, rfl, J3.first Sa Sb h0 (by simpa using d)⟩⟩
                rw [if_neg d]
                by_cases e : (m == 0) = true
                · rw [if_pos e]
                  exact wpS_pure ⟨⟨K.kind, K.arr, K.pend, K.failed⟩, .inl ⟨_, _, rfl, J3.done Sa Sb (.inr (by simpa using e))⟩⟩
                rw [if_neg e]
                have f3 : 2 ≤ m := by
                  have d' : m ≠ 1 := by simpa using d
                  have e' : m ≠ 0 := by simpa using e
                  omega
                have g3 : ∀ y ∈ b.toList.take m, Le L y xa := fun y hy => by
                  obtain ⟨i, hi, ei⟩ := mem_take hy
                  exact Le.of_lt O (m2 i y hi (by rw [z_, ← get_l]; exact ei))
                have r4' : m ≤ nb' := by omega
                clear d e m2 m3 m1
                generalize out3 ++ (b.extract m (mb - 1)).reverse = out4 at J3 ⊢
                generalize m = mb2 at J3 f3 g3 r4' ⊢
              case' neg =>
                rw [if_neg cm]
                have J3 := J2
                have f3 : 2 ≤ mb - 1 := by omega
                have g3 : ∀ y ∈ b.toList.take (mb - 1), Le L y xa := fun y hy => by
                  obtain ⟨i, hi, ei⟩ := mem_take hy
                  exact Le.of_lt O (m2 i y (by omega) (by rw [z_, ← get_l]; exact ei))
                have r4' : mb - 1 ≤ nb' := by omega
                clear m2 m3 m1
                generalize out3 = out4 at J3 ⊢
                generalize mb - 1 = mb2 at J3 f3 g3 r4' ⊢
              all_goals
                refine wpS_bind (r_elem ea ?_)
                have J4 := Hi.pushA Sa J3 f2 ea g3
                by_cases d : (ma2 - 1 == 0) = true
                · rw [if_pos d]
                  exact wpS_pure ⟨⟨K.kind, K.arr, K.pend, K.failed⟩, .inl ⟨_, _, rfl, J4.done Sa Sb (.inl (by simpa using d))⟩⟩
                rw [if_neg d]
                have d' : ma2 - 1 ≠ 0 := by simpa using d
                split
                · exact wpS_pure ⟨⟨K.kind, K.arr, K.pend, K.failed⟩, .inr ⟨_, _, _, _, _, _, rfl, J4, by omega, by omega, f3, by omega⟩⟩
                · exact wpS_pure ⟨_, _, _, _, _, _, rfl, ⟨K.kind, K.arr, K.pend, K.failed⟩, J4, by omega, by omega, f3, by omega⟩
end
end SR
end L2

namespace L2
open PySem PySem.W PyProof.Rows
namespace SR
/-! ### two neighbouring runs made one -/
section
variable {L : Keyed → Keyed → Bool}
theorem put_list : ∀ (l : List Keyed) (k sa : Nat) (xs : Array Keyed), sa + k + l.length ≤ xs.size → ((l.zipIdx k).foldl (fun a (q : Keyed × Nat) => a.setIfInBounds (sa + q.2) q.1) xs).toList = xs.toList.take (sa + k) ++ l ++ xs.toList.drop (sa + k + l.length)
  | [], k, sa, xs, h => by simp
  | x :: l, k, sa, xs, h => by
    rw [List.length_cons] at h
    rw [List.zipIdx_cons, List.foldl_cons, put_list l (k + 1) sa _ (by rw [Array.size_setIfInBounds]; omega), Array.toList_setIfInBounds]
    have e1 : (xs.toList.set (sa + k) x).take (sa + (k + 1)) = xs.toList.take (sa + k) ++ [x] := by
      rw [← Nat.add_assoc, List.take_add_one, List.take_set_of_le (Nat.le_refl _), List.getElem?_set_self (by rw [Array.length_toList]; omega)]
      rfl
    have e2 : (xs.toList.set (sa + k) x).drop (sa + (k + 1) + l.length) = xs.toList.drop (sa + k + (x :: l).length) := by
      rw [List.drop_set_of_lt (by omega), List.length_cons]
      congr 1
      omega
    rw [e1, e2, List.append_assoc, List.append_assoc, List.append_assoc]
    rfl
theorem join_inc (O : TO L) {ra rb mg : List Keyed} {k n : Nat} {y0 xl : Keyed} (Sa : Inc L ra) (Sb : Inc L rb) (hy : rb[0]? = some y0) (hx : ra[ra.length - 1]? = some xl)
    (c1 : ∀ x ∈ ra.take k, Le L x y0) (c2 : ∀ y ∈ rb.drop n, Le L xl y) (hp : mg.Perm (ra.drop k ++ rb.take n)) (hi : Inc L mg) : (ra.take k ++ mg ++ rb.drop n).Perm (ra ++ rb) ∧ Inc L (ra.take k ++ mg ++ rb.drop n) := by
  have y_le : ∀ y ∈ rb, Le L y0 y := fun y h => by
    obtain ⟨j, hj⟩ := List.mem_iff_getElem?.mp h
    exact Sb.le' O hy hj (Nat.zero_le _)
  have le_x : ∀ x ∈ ra, Le L x xl := fun x h => by
    obtain ⟨j, hj⟩ := List.mem_iff_getElem?.mp h
    have := (List.getElem?_eq_some_iff.mp hj).1
    exact Sa.le' O hj hx (by omega)
  have sa := List.pairwise_append.mp (show Inc L (ra.take k ++ ra.drop k) by rw [List.take_append_drop]; exact Sa)
  have sb := List.pairwise_append.mp (show Inc L (rb.take n ++ rb.drop n) by rw [List.take_append_drop]; exact Sb)
  refine ⟨?_, List.pairwise_append.mpr ⟨List.pairwise_append.mpr ⟨sa.1, hi, fun x hx' y hy' => ?_⟩, sb.2.1, fun x hx' y hy' => ?_⟩⟩
  · refine ((hp.append_left _).append_right _).trans ?_
    conv => rhs; rw [← List.take_append_drop k ra, ← List.take_append_drop n rb]
    simp only [List.append_assoc]
    exact List.Perm.refl _
  · rcases List.mem_append.mp (hp.mem_iff.mp hy') with z | z
    · exact sa.2.2 x hx' y z
    · exact (c1 x hx').trans O (y_le y (List.mem_of_mem_take z))
  · rcases List.mem_append.mp hx' with z | z
    · exact (le_x x (List.mem_of_mem_take z)).trans O (c2 y hy')
    · rcases List.mem_append.mp (hp.mem_iff.mp z) with z | z
      · exact (le_x x (List.mem_of_mem_drop z)).trans O (c2 y hy')
      · exact sb.2.2 x z y hy'
end
section
variable {prog : Program} {w : World} {A : Around} {E : Value → Shared → Prop} {s : Shared} {κ : SortKind} {U : Keyed → Prop} {L : Keyed → Keyed → Bool}
theorem r_set {st1 st : SortSt} {Q : PUnit → SortSt → Prop} (h : Q ⟨⟩ st1) : wpS (model prog w) A E s (set st1 : StateT SortSt Sem PUnit) Q st := by
  unfold wpS
  rw [StateT.run_set]
  exact wpAny_pure ⟨rfl, h⟩
theorem pend_join {p : Array (Nat × Nat × Nat)} {u v z : Nat × Nat × Nat} {ps1 ps2 : List (Nat × Nat × Nat)} {i : Nat} (hp : p.toList = ps1 ++ u :: v :: ps2) (hi : i = ps1.length) : ((p.setIfInBounds i z).eraseIdxIfInBounds (i + 1)).toList = ps1 ++ z :: ps2 := by
  have hs : p.size = ps1.length + (ps2.length + 2) := by rw [← Array.length_toList, hp]; simp
  unfold Array.eraseIdxIfInBounds
  rw [dif_pos (by rw [Array.size_setIfInBounds]; omega), Array.toList_eraseIdx, Array.toList_setIfInBounds, hp, hi, List.set_append_right _ _ (Nat.le_refl _), Nat.sub_self, List.set_cons_zero, List.eraseIdx_append_of_length_le (by omega), Nat.add_sub_cancel_left]
  rfl
theorem r_mergeAt (O : TO L) (H : Asked prog w A s κ U L) {i sa na pw sb nb pz : Nat} {ps1 ps2 : List (Nat × Nat × Nat)} {P ra rb S : List Keyed} {Q : Bool → SortSt → Prop} {st : SortSt} (hk : kindOf st = κ) (hf : failedOf st = none)
    (hp : (pendingOf st).toList = ps1 ++ (sa, na, pw) :: (sb, nb, pz) :: ps2) (hi : i = ps1.length) (ha : (arrOf st).toList = P ++ ra ++ rb ++ S) (ua : ∀ x ∈ (arrOf st).toList, U x)
    (e1 : sa = P.length) (e2 : na = ra.length) (e3 : sb = P.length + ra.length) (e4 : nb = rb.length) (a1 : 1 ≤ ra.length) (b1 : 1 ≤ rb.length) (Sa : Inc L ra) (Sb : Inc L rb)
    (h : ∀ (m : List Keyed) (st' : SortSt), kindOf st' = κ → failedOf st' = none → (pendingOf st').toList = ps1 ++ (sa, na + nb, pw) :: ps2 → (arrOf st').toList = P ++ m ++ S → m.Perm (ra ++ rb) → Inc L m → Q true st') : wpS (model prog w) A E s (mergeAt' i) Q st := by
  refine wpS_bind (wpS_get ?_)
  have p1 : (pendingOf st)[i]? = some (sa, na, pw) := by rw [← Array.getElem?_toList, hp, hi, List.getElem?_append_right (Nat.le_refl _), Nat.sub_self]; rfl
  have p2 : (pendingOf st)[i + 1]? = some (sb, nb, pz) := by rw [← Array.getElem?_toList, hp, hi, List.getElem?_append_right (by omega), Nat.add_sub_cancel_left]; rfl
  have hl : (arrOf st).size = P.length + ra.length + rb.length + S.length := by rw [← Array.length_toList, ha]; simp [Nat.add_assoc]
  have gA : ∀ j, j < ra.length → (arrOf st)[sa + j]? = ra[j]? := fun j hj => by
    rw [← Array.getElem?_toList, ha, List.append_assoc, List.append_assoc, e1, List.getElem?_append_right (by omega), Nat.add_sub_cancel_left, List.getElem?_append_left hj]
  have gB : ∀ j, j < rb.length → (arrOf st)[sb + j]? = rb[j]? := fun j hj => by
    rw [← Array.getElem?_toList, ha, List.append_assoc, e3, List.getElem?_append_right (by rw [List.length_append]; omega), List.length_append, Nat.add_sub_cancel_left, List.getElem?_append_left hj]
  have leA : sa + na ≤ (arrOf st).size := by omega
  have leB : sb + nb ≤ (arrOf st).size := by omega
  have uA : ∀ x ∈ ra, U x := fun x hx => ua x (by rw [ha]; simp [hx])
  have uB : ∀ x ∈ rb, U x := fun x hx => ua x (by rw [ha]; simp [hx])
  obtain ⟨y0, ey⟩ : ∃ y, rb[0]? = some y := ⟨_, List.getElem?_eq_getElem (by omega)⟩
  obtain ⟨xl, ex⟩ : ∃ x, ra[ra.length - 1]? = some x := ⟨_, List.getElem?_eq_getElem (by omega)⟩
  dsimp only
  rw [p1, p2]
  dsimp only
  refine wpS_bind (r_set ?_)
  refine wpS_bind (r_elem (x := y0) (by rw [← ey, ← gB 0 (by omega)]; rfl) ?_)
  have incA : ∀ i j x y, i ≤ j → j < na → (arrOf st)[sa + i]? = some x → (arrOf st)[sa + j]? = some y → Le L x y := fun i j x y hij hj hx hy => by
    rw [gA i (by omega)] at hx
    rw [gA j (by omega)] at hy
    exact Sa.le' O hx hy hij
  have incB : ∀ i j x y, i ≤ j → j < nb → (arrOf st)[sb + i]? = some x → (arrOf st)[sb + j]? = some y → Le L x y := fun i j x y hij hj hx hy => by
    rw [gB i (by omega)] at hx
    rw [gB j (by omega)] at hy
    exact Sb.le' O hx hy hij
  refine wpS_bind (r_right O H hk (uB y0 (List.mem_of_getElem? ey)) ua leA incA (by omega) fun k k1 k2 k3 => ?_)
  have c1 : ∀ x ∈ ra.take k, Le L x y0 := fun x hx => by
    obtain ⟨j, hj, ej⟩ := mem_take hx
    exact k2 j x hj (by rw [gA j (by omega)]; exact ej)
  have d1 : ∀ x ∈ ra.drop k, Le L y0 x := fun x hx => by
    obtain ⟨j, hj, ej⟩ := mem_drop hx
    have := (List.getElem?_eq_some_iff.mp ej).1
    exact Le.of_lt O (k3 j x hj (by omega) (by rw [gA j (by omega)]; exact ej))
  dsimp only
  have pj := pend_join (z := (sa, na + nb, pw)) hp hi
  by_cases c0 : (na - k == 0) = true
  · rw [if_pos c0]
    have c0' : na - k = 0 := by simpa using c0
    have ek : ra.take k = ra := List.take_of_length_le (by omega)
    obtain ⟨q1, q2⟩ := join_inc O (mg := rb) (k := k) (n := rb.length) Sa Sb ey ex c1 (fun y hy => by rw [List.drop_eq_nil_of_le (Nat.le_refl _)] at hy; cases hy) (by rw [List.drop_eq_nil_of_le (i := k) (by omega), List.take_of_length_le (Nat.le_refl _)]; exact List.Perm.refl _) Sb
    rw [ek, List.drop_eq_nil_of_le (Nat.le_refl _), List.append_nil] at q1 q2
    exact wpS_pure (h (ra ++ rb) _ hk hf pj (by show (arrOf st).toList = _; rw [ha]; simp only [List.append_assoc]) q1 q2)
  rw [if_neg c0]
  have c0' : na - k ≠ 0 := by simpa using c0
  refine wpS_bind (r_elem (x := xl) (by rw [← ex, ← gA _ (by omega)]; congr 1; omega) ?_)
  refine wpS_bind (r_left O H hk (uA xl (List.mem_of_getElem? ex)) ua leB incB (by omega) fun n n1 n2 n3 => ?_)
  have c2 : ∀ y ∈ rb.drop n, Le L xl y := fun y hy => by
    obtain ⟨j, hj, ej⟩ := mem_drop hy
    have := (List.getElem?_eq_some_iff.mp ej).1
    exact n3 j y hj (by omega) (by rw [gB j (by omega)]; exact ej)
  have d2 : ∀ y ∈ rb.take n, Le L y xl := fun y hy => by
    obtain ⟨j, hj, ej⟩ := mem_take hy
    exact Le.of_lt O (n2 j y hj (by rw [gB j (by omega)]; exact ej))
  dsimp only
  by_cases c3 : (n == 0) = true
  · rw [if_pos c3]
    have c3' : n = 0 := by simpa using c3
    subst c3'
    obtain ⟨q1, q2⟩ := join_inc O (mg := ra.drop k) (k := k) (n := 0) Sa Sb ey ex c1 c2 (by simp) (List.Pairwise.sublist (List.drop_sublist ..) Sa)
    rw [List.take_append_drop, List.drop_zero] at q1 q2
    exact wpS_pure (h (ra ++ rb) _ hk hf pj (by show (arrOf st).toList = _; rw [ha]; simp only [List.append_assoc]) q1 q2)
  rw [if_neg c3]
  have c3' : n ≠ 0 := by simpa using c3
  have xA : ((arrOf st).extract (sa + k) sb).toList = ra.drop k := by
    rw [ex_toList, ha, List.append_assoc, List.append_assoc, e1, ← List.drop_drop, List.drop_left, List.drop_append_of_le_length (by omega), e3, show P.length + ra.length - (P.length + k) = (ra.drop k).length by rw [List.length_drop]; omega, List.take_left]
  have xB : ((arrOf st).extract sb (sb + n)).toList = rb.take n := by
    rw [ex_toList, ha, List.append_assoc, e3, show P.length + ra.length = (P ++ ra).length by rw [List.length_append], List.drop_left, Nat.add_sub_cancel_left, List.take_append_of_le_length (by omega)]
  have zA : ((arrOf st).extract (sa + k) sb).size = ra.length - k := by rw [← Array.length_toList, xA, List.length_drop]
  have zB : ((arrOf st).extract sb (sb + n)).size = n := by rw [← Array.length_toList, xB, List.length_take]; omega
  have key : ∀ (mg : Array Keyed) (st' : SortSt), Kp (SortSt.mk' (kindOf st) (arrOf st) (((pendingOf st).setIfInBounds i (sa, na + nb, pw)).eraseIdxIfInBounds (i + 1)) (gallopOf st) (failedOf st)) st' →
      Fin L ((arrOf st).extract (sa + k) sb) ((arrOf st).extract sb (sb + n)) mg →
      Q true (SortSt.mk' (kindOf st') (List.foldl (fun a (x : Keyed × Nat) => a.setIfInBounds (sa + k + x.2) x.1) (arrOf st') mg.toList.zipIdx) (pendingOf st') (gallopOf st') (failedOf st')) := fun mg st' K F => by
    obtain ⟨f1, f2⟩ := F
    rw [xA, xB] at f1
    obtain ⟨q1, q2⟩ := join_inc O (mg := mg.toList) (k := k) (n := n) Sa Sb ey ex c1 c2 f1 f2
    have lm : mg.toList.length = ra.length - k + n := by rw [f1.length_eq, List.length_append, List.length_drop, List.length_take]; omega
    refine h _ _ (K.kind.trans hk) (K.failed.trans hf) (by show (pendingOf st').toList = _; rw [K.pend]; exact pj) ?_ q1 q2
    show (List.foldl (fun a (x : Keyed × Nat) => a.setIfInBounds (sa + k + x.2) x.1) (arrOf st') mg.toList.zipIdx).toList = _
    rw [K.arr]
    show (List.foldl (fun a (x : Keyed × Nat) => a.setIfInBounds (sa + k + x.2) x.1) (arrOf st) (mg.toList.zipIdx 0)).toList = _
    rw [put_list mg.toList 0 (sa + k) (arrOf st) (by omega), Nat.add_zero, lm, ha]
    have t1 : (P ++ ra ++ rb ++ S).take (sa + k) = P ++ ra.take k := by
      rw [List.append_assoc, List.append_assoc, e1, List.take_length_add_append, List.take_append_of_le_length (by omega)]
    have t2 : (P ++ ra ++ rb ++ S).drop (sa + k + (ra.length - k + n)) = rb.drop n ++ S := by
      rw [show sa + k + (ra.length - k + n) = (P ++ ra).length + n by rw [List.length_append]; omega, List.append_assoc, ← List.drop_drop, List.drop_left, List.drop_append_of_le_length (by omega)]
    rw [t1, t2]
    simp only [List.append_assoc]
  have h0 : ∀ x ∈ ((arrOf st).extract (sa + k) sb).toList, ∀ y, ((arrOf st).extract sb (sb + n))[0]? = some y → Le L y x := fun x hx y hy => by
    rw [xA] at hx
    rw [← get_l, xB, List.getElem?_take, if_pos (by omega), ey] at hy
    cases hy
    exact d1 x hx
  have h1 : ∀ y ∈ ((arrOf st).extract sb (sb + n)).toList, ∀ x, ((arrOf st).extract (sa + k) sb)[((arrOf st).extract (sa + k) sb).size - 1]? = some x → Le L y x := fun y hy x hx => by
    rw [xB] at hy
    rw [← get_l, xA, zA, List.getElem?_drop, show k + (ra.length - k - 1) = ra.length - 1 by omega, ex] at hx
    cases hx
    exact d2 y hy
  have uX : ∀ x ∈ ((arrOf st).extract (sa + k) sb).toList, U x := fun x hx => by rw [xA] at hx; exact uA x (List.mem_of_mem_drop hx)
  have uY : ∀ x ∈ ((arrOf st).extract sb (sb + n)).toList, U x := fun x hx => by rw [xB] at hx; exact uB x (List.mem_of_mem_take hx)
  have sX : Inc L ((arrOf st).extract (sa + k) sb).toList := by rw [xA]; exact List.Pairwise.sublist (List.drop_sublist ..) Sa
  have sY : Inc L ((arrOf st).extract sb (sb + n)).toList := by rw [xB]; exact List.Pairwise.sublist (List.take_sublist ..) Sb
  have s1 : 1 ≤ ((arrOf st).extract (sa + k) sb).size := by omega
  have s2 : 1 ≤ ((arrOf st).extract sb (sb + n)).size := by omega
  by_cases c4 : na - k ≤ n
  · rw [if_pos c4]
    refine wpS_bind (r_mLo O H hk uX uY sX sY s1 s2 h0 h1 fun out st' K F => ?_)
    refine wpS_bind (wpS_modify (wpS_bind (wpS_get ?_)))
    have e : (failedOf st').isNone = true := by rw [show failedOf st' = none from K.failed.trans hf]; rfl
    refine wpS_pure (?_ : Q (failedOf st').isNone _)
    rw [e]
    exact key out st' K F
  · rw [if_neg c4]
    refine wpS_bind (r_mHi O H hk uX uY sX sY s1 s2 h0 h1 fun out st' K F => ?_)
    refine wpS_bind (wpS_modify (wpS_bind (wpS_get ?_)))
    have e : (failedOf st').isNone = true := by rw [show failedOf st' = none from K.failed.trans hf]; rfl
    refine wpS_pure (?_ : Q (failedOf st').isNone _)
    rw [e]
    exact key out st' K F
end
end SR
end L2

namespace L2
open PySem PySem.W PyProof.Rows
namespace SR
/-! ### a run found and a run made longer, from any place on -/
section
variable {L : Keyed → Keyed → Bool} {xs : Array Keyed} {lo n q : Nat}
noncomputable def at_ (xs : Array Keyed) (k : Nat) : Keyed := (xs[k]?).getD (Value.none, Value.none)
theorem at_some {k : Nat} (h : k < xs.size) : xs[k]? = some (at_ xs k) := by
  unfold at_
  rw [Array.getElem?_eq_getElem h]
  rfl
theorem at_mir {i j : Nat} (hj : j ≤ xs.size) (k : Nat) : at_ (mirror xs i j ((j - i) / 2)) k = if i ≤ k ∧ k < j then at_ xs (i + j - 1 - k) else at_ xs k := by
  unfold at_
  rw [getElem?_mirror_all hj]
  split <;> rfl
theorem at_bub {src d : Nat} (hs : src < xs.size) (hd : d ≤ src) (k : Nat) : at_ (bubble xs src d) k = if k = src - d then at_ xs src else if src - d < k ∧ k ≤ src then at_ xs (k - 1) else at_ xs k := by
  unfold at_
  rw [getElem?_bubble hs d hd]
  split
  · rfl
  · split <;> rfl
noncomputable def Up (L : Keyed → Keyed → Bool) (xs : Array Keyed) (lo n : Nat) : Prop := ∀ i j, i < j → j < n → Le L (at_ xs (lo + i)) (at_ xs (lo + j))
noncomputable def Dn (L : Keyed → Keyed → Bool) (xs : Array Keyed) (lo n : Nat) : Prop := ∀ i j, i < j → j < n → Le L (at_ xs (lo + j)) (at_ xs (lo + i))
theorem Up.more (O : TO L) (h : Up L xs lo n) (h1 : 1 ≤ n) (g : Le L (at_ xs (lo + n - 1)) (at_ xs (lo + n))) : Up L xs lo (n + 1) := fun i j hij hj => by
  by_cases c : j < n
  · exact h i j hij c
  · have e : j = n := by omega
    subst e
    by_cases d : i = j - 1
    · rw [d, show lo + (j - 1) = lo + j - 1 by omega]; exact g
    · have := h i (j - 1) (by omega) (by omega)
      rw [show lo + (j - 1) = lo + j - 1 by omega] at this
      exact this.trans O g
theorem Dn.more (O : TO L) (h : Dn L xs lo n) (h1 : 1 ≤ n) (g : Le L (at_ xs (lo + n)) (at_ xs (lo + n - 1))) : Dn L xs lo (n + 1) := fun i j hij hj => by
  by_cases c : j < n
  · exact h i j hij c
  · have e : j = n := by omega
    subst e
    by_cases d : i = j - 1
    · rw [d, show lo + (j - 1) = lo + j - 1 by omega]; exact g
    · have := h i (j - 1) (by omega) (by omega)
      rw [show lo + (j - 1) = lo + j - 1 by omega] at this
      exact g.trans O this
structure DI (L : Keyed → Keyed → Bool) (xs : Array Keyed) (lo n q : Nat) : Prop where
  q1 : q + 1 ≤ n
  dn : Dn L xs lo n
  eq : ∀ i j, n - (q + 1) ≤ i → i < n → n - (q + 1) ≤ j → j < n → Le L (at_ xs (lo + i)) (at_ xs (lo + j))
theorem DI.one (O : TO L) (h1 : 1 ≤ n) (h : Dn L xs lo n) : DI L xs lo n 0 := ⟨by omega, h, fun i j a b c d => by
  have : i = j := by omega
  rw [this]; exact irr O _⟩
/-- alike ones turned about: still falling -/
theorem DI.rev (O : TO L) (D : DI L xs lo n q) (hs : lo + n ≤ xs.size) : Dn L (mirror xs (lo + n - (q + 1)) (lo + n) ((lo + n - (lo + n - (q + 1))) / 2)) lo n ∧ Le L (at_ xs (lo + n - 1)) (at_ (mirror xs (lo + n - (q + 1)) (lo + n) ((lo + n - (lo + n - (q + 1))) / 2)) (lo + n - 1)) := by
  have q1 := D.q1
  have inn : ∀ i, n - (q + 1) ≤ i → i < n → ∃ i', n - (q + 1) ≤ i' ∧ i' < n ∧ at_ (mirror xs (lo + n - (q + 1)) (lo + n) ((lo + n - (lo + n - (q + 1))) / 2)) (lo + i) = at_ xs (lo + i') := fun i h1 h2 => ⟨n - (q + 1) + n - 1 - i, by omega, by omega, by rw [at_mir hs, if_pos (by omega)]; congr 1; omega⟩
  have out : ∀ i, i < n - (q + 1) → at_ (mirror xs (lo + n - (q + 1)) (lo + n) ((lo + n - (lo + n - (q + 1))) / 2)) (lo + i) = at_ xs (lo + i) := fun i h => by rw [at_mir hs, if_neg (by omega)]
  refine ⟨fun i j hij hj => ?_, ?_⟩
  · by_cases cj : j < n - (q + 1)
    · rw [out i (by omega), out j cj]
      exact D.dn i j hij hj
    · obtain ⟨j', j1, j2, ej⟩ := inn j (by omega) hj
      rw [ej]
      by_cases ci : i < n - (q + 1)
      · rw [out i ci]
        exact D.dn i j' (by omega) j2
      · obtain ⟨i', i1, i2, ei⟩ := inn i (by omega) (by omega)
        rw [ei]
        exact D.eq j' i' j1 j2 i1 i2
  · obtain ⟨i', i1, i2, ei⟩ := inn (n - 1) (by omega) (by omega)
    rw [show lo + n - 1 = lo + (n - 1) by omega, ei]
    exact D.eq (n - 1) i' (by omega) (by omega) i1 i2
theorem Dn.turn (D : Dn L xs lo n) (hs : lo + n ≤ xs.size) : Up L (mirror xs lo (lo + n) ((lo + n - lo) / 2)) lo n := fun i j hij hj => by
  rw [at_mir hs, at_mir hs, if_pos (by omega), if_pos (by omega)]
  have := D (n - 1 - j) (n - 1 - i) (by omega) (by omega)
  rw [show lo + (n - 1 - j) = lo + (lo + n) - 1 - (lo + j) by omega, show lo + (n - 1 - i) = lo + (lo + n) - 1 - (lo + i) by omega] at this
  exact this
theorem Up.same (O : TO L) (h : Up L xs lo n) (h1 : 1 ≤ n) (g : Le L (at_ xs (lo + n - 1)) (at_ xs lo)) : ∀ i j, i < n → j < n → Le L (at_ xs (lo + i)) (at_ xs (lo + j)) := fun i j hi hj => by
  have top : Le L (at_ xs (lo + i)) (at_ xs (lo + n - 1)) := by
    by_cases c : i = n - 1
    · rw [c, show lo + (n - 1) = lo + n - 1 by omega]; exact irr O _
    · have := h i (n - 1) (by omega) (by omega)
      rwa [show lo + (n - 1) = lo + n - 1 by omega] at this
  have low : Le L (at_ xs lo) (at_ xs (lo + j)) := by
    by_cases c : j = 0
    · rw [c]; exact irr O _
    · exact h 0 j (by omega) hj
  exact (top.trans O g).trans O low
theorem Dn.of_same (hs : lo + n ≤ xs.size) (h : ∀ i j, i < n → j < n → Le L (at_ xs (lo + i)) (at_ xs (lo + j))) : (∀ i j, i < n → j < n → Le L (at_ xs (lo + j)) (at_ (mirror xs lo (lo + n) ((lo + n - lo) / 2)) (lo + i))) ∧ Dn L (mirror xs lo (lo + n) ((lo + n - lo) / 2)) lo n := by
  have e : ∀ i, i < n → ∃ i', i' < n ∧ at_ (mirror xs lo (lo + n) ((lo + n - lo) / 2)) (lo + i) = at_ xs (lo + i') := fun i hi => ⟨n - 1 - i, by omega, by rw [at_mir hs, if_pos (by omega)]; congr 1; omega⟩
  refine ⟨fun i j hi hj => ?_, fun i j hij hj => ?_⟩
  · obtain ⟨i', h1, e1⟩ := e i hi
    rw [e1]; exact h j i' hj h1
  · obtain ⟨i', h1, e1⟩ := e i (by omega)
    obtain ⟨j', h2, e2⟩ := e j hj
    rw [e1, e2]; exact h j' i' h2 h1
end
section
variable {prog : Program} {w : World} {A : Around} {E : Value → Shared → Prop} {s : Shared} {κ : SortKind} {U : Keyed → Prop} {L : Keyed → Keyed → Bool} {lo : Nat} {st0 st : SortSt}
structure Sg (κ : SortKind) (lo : Nat) (st0 st : SortSt) : Prop where
  kind : kindOf st = κ
  failed : failedOf st = none
  pend : pendingOf st = pendingOf st0
  perm : (arrOf st).Perm (arrOf st0)
  pre : ∀ k, k < lo → (arrOf st)[k]? = (arrOf st0)[k]?
theorem Sg.size (G : Sg κ lo st0 st) : (arrOf st).size = (arrOf st0).size := G.perm.size_eq
theorem Sg.mir (G : Sg κ lo st0 st) {i j : Nat} (hi : lo ≤ i) (hj : j ≤ (arrOf st).size) : Sg κ lo st0 (setArr st (mirror (arrOf st) i j ((j - i) / 2))) :=
  ⟨G.kind, G.failed, G.pend, (mirror_perm ..).trans G.perm, fun k hk => by
    show (mirror (arrOf st) i j ((j - i) / 2))[k]? = _
    rw [getElem?_mirror_all hj, if_neg (by omega)]
    exact G.pre k hk⟩
theorem r_rev {i j : Nat} {Q : Unit → SortSt → Prop} (h : Q () (setArr st (mirror (arrOf st) i j ((j - i) / 2)))) : wpS (model prog w) A E s (reverseSlice' i j) Q st := by
  rw [reverseSlice'_eq]
  exact wpS_modify h
theorem r_move {i j : Nat} {Q : Unit → SortSt → Prop} (h : Q () (setArr st (bubble (arrOf st) i (i - j)))) : wpS (model prog w) A E s (moveDown' i j) Q st := by
  rw [moveDown'_eq]
  exact wpS_modify h
theorem Sg.u (G : Sg κ lo st0 st) (u0 : ∀ x ∈ (arrOf st0).toList, U x) {k : Nat} (h : k < (arrOf st).size) : U (at_ (arrOf st) k) := by
  have := at_some h
  exact u0 _ ((Array.perm_iff_toList_perm.mp G.perm).mem_iff.mp (by rw [← Array.getElem?_toList] at this; exact List.mem_of_getElem? this))
theorem r_ltAt (H : Asked prog w A s κ U L) (u0 : ∀ x ∈ (arrOf st0).toList, U x) (G : Sg κ lo st0 st) {i j : Nat} {Q : Option Bool → SortSt → Prop} (hi : i < (arrOf st).size) (hj : j < (arrOf st).size) (h : Q (some (L (at_ (arrOf st) i) (at_ (arrOf st) j))) st) : wpS (model prog w) A E s (ltAt' i j) Q st := by
  rw [ltAt'_eq]
  refine wpS_bind (wpS_get (wpS_bind (r_elem (at_some hi) (wpS_bind (r_elem (at_some hj) ?_)))))
  exact r_lt H G.kind (G.u u0 hi) (G.u u0 hj) h
theorem r_count (O : TO L) (H : Asked prog w A s κ U L) (u0 : ∀ x ∈ (arrOf st0).toList, U x) {nrem : Nat} {Q : Option Nat → SortSt → Prop} (G : Sg κ lo st0 st) (h1 : 1 ≤ nrem) (hn : lo + nrem = (arrOf st0).size)
    (h : ∀ n st', 1 ≤ n → n ≤ nrem → Sg κ lo st0 st' → Up L (arrOf st') lo n → Q (some n) st') : wpS (model prog w) A E s (countRun' lo nrem) Q st := by
  refine wpS_bind (wpS_mono (wpS_forRange (I := fun i c st' => c = (none, i) ∧ st' = st ∧ Up L (arrOf st) lo i)
    (Q := fun c st' => st' = st ∧ ∃ n, c = (none, n) ∧ 1 ≤ n ∧ n ≤ nrem ∧ Up L (arrOf st) lo n ∧ (n = nrem ∨ L (at_ (arrOf st) (lo + n)) (at_ (arrOf st) (lo + n - 1)) = true)) ?_ ?_ ⟨rfl, rfl, fun i j a b => by omega⟩) ?_)
  · rintro i c st' h1' h2' ⟨rfl, rfl, up⟩
    refine wpS_bind (r_ltAt H u0 G (by rw [G.size]; omega) (by rw [G.size]; omega) ?_)
    cases c : L (at_ (arrOf st') (lo + i)) (at_ (arrOf st') (lo + i - 1)) with
    | true => exact wpS_pure ⟨rfl, i, rfl, h1', by omega, up, .inr c⟩
    | false => exact wpS_pure ⟨rfl, rfl, up.more O h1' c⟩
  · rintro c st' ⟨rfl, rfl, up⟩
    rw [Nat.max_eq_right h1] at up ⊢
    exact ⟨rfl, nrem, rfl, h1, Nat.le_refl _, up, .inl rfl⟩
  · rintro c st' ⟨rfl, n, rfl, n1, n2, up, n3⟩
    dsimp only
    by_cases c0 : (n == nrem) = true
    · rw [if_pos c0]
      exact wpS_pure (h n st' n1 n2 G up)
    rw [if_neg c0]
    have c0' : n ≠ nrem := by simpa using c0
    have sm : L (at_ (arrOf st') (lo + n)) (at_ (arrOf st') (lo + n - 1)) = true := n3.resolve_left c0'
    have z0 := G.size
    by_cases c1 : n > 1
    case' pos =>
      rw [if_pos c1]
      refine wpS_bind (r_ltAt H u0 G (by omega) (by omega) ?_)
      dsimp only
      by_cases c2 : L (at_ (arrOf st') lo) (at_ (arrOf st') (lo + n - 1)) = true
      · rw [if_pos c2]
        exact wpS_pure (h n st' n1 n2 G up)
      rw [if_neg c2]
      refine wpS_bind (r_rev ?_)
      have G2 := G.mir (i := lo) (j := lo + n) (Nat.le_refl _) (by omega)
      have sa := up.same O n1 (Bool.eq_false_iff.mpr c2)
      have D : DI L (arrOf (setArr st' (mirror (arrOf st') lo (lo + n) ((lo + n - lo) / 2)))) lo (n + 1) 0 := by
        obtain ⟨s1, s2⟩ := Dn.of_same (xs := arrOf st') (lo := lo) (n := n) (by omega) sa
        refine DI.one O (by omega) (s2.more O n1 ?_)
        have e1 : at_ (mirror (arrOf st') lo (lo + n) ((lo + n - lo) / 2)) (lo + n) = at_ (arrOf st') (lo + n) := by rw [at_mir (by omega), if_neg (by omega)]
        rw [e1]
        have := s1 (n - 1) (n - 1) (by omega) (by omega)
        rw [show lo + (n - 1) = lo + n - 1 by omega] at this
        exact (Le.of_lt O sm).trans O this
      clear sa c2 sm up G n3 c0 c1
      generalize setArr st' (mirror (arrOf st') lo (lo + n) ((lo + n - lo) / 2)) = st2 at G2 D ⊢
    case' neg =>
      rw [if_neg c1]
      have G2 := G
      have D : DI L (arrOf st') lo (n + 1) 0 := DI.one O (by omega) (Dn.more O (fun i j a b => by omega) n1 (Le.of_lt O sm))
      clear sm up G n3 c0 c1
      generalize st' = st2 at G2 D ⊢
    all_goals
      refine wpS_bind (r_rule ?_)
      refine wpS_bind (wpS_mono (wpS_forRange (I := fun i c st3 => ∃ q, c = (none, i, q) ∧ Sg κ lo st0 st3 ∧ DI L (arrOf st3) lo i q)
        (Q := fun c st3 => ∃ m q, c = (none, m, q) ∧ Sg κ lo st0 st3 ∧ DI L (arrOf st3) lo m q ∧ m ≤ nrem) ?step ?fin ⟨0, rfl, G2, D⟩) ?post)
      case fin =>
        rintro c st3 ⟨q, rfl, G3, D3⟩
        rw [Nat.max_eq_right (by omega)] at D3 ⊢
        exact ⟨nrem, q, rfl, G3, D3, Nat.le_refl _⟩
      case step =>
        rintro i c st3 i1 i2 ⟨q, rfl, G3, D3⟩
        dsimp only
        have z3 := G3.size
        have q1 := D3.q1
        refine wpS_bind (r_ltAt H u0 G3 (by omega) (by omega) ?_)
        cases c3 : L (at_ (arrOf st3) (lo + i)) (at_ (arrOf st3) (lo + i - 1)) with
        | true =>
          dsimp only
          rw [if_pos rfl]
          by_cases c4 : q > 0
          · rw [if_pos c4]
            refine wpS_bind (r_rev (wpS_pure ⟨0, rfl, G3.mir (by omega) (by omega), DI.one O (by omega) ?_⟩))
            obtain ⟨s1, s2⟩ := D3.rev O (by omega)
            refine s1.more O (by omega) ?_
            have e1 : at_ (mirror (arrOf st3) (lo + i - (q + 1)) (lo + i) ((lo + i - (lo + i - (q + 1))) / 2)) (lo + i) = at_ (arrOf st3) (lo + i) := by rw [at_mir (by omega), if_neg (by omega)]
            rw [e1]
            exact (Le.of_lt O c3).trans O s2
          · rw [if_neg c4]
            exact wpS_pure ⟨0, rfl, G3, DI.one O (by omega) (D3.dn.more O (by omega) (Le.of_lt O c3))⟩
        | false =>
          dsimp only
          rw [if_neg Bool.false_ne_true]
          refine wpS_bind (r_ltAt H u0 G3 (by omega) (by omega) ?_)
          cases c4 : L (at_ (arrOf st3) (lo + i - 1)) (at_ (arrOf st3) (lo + i)) with
          | true => exact wpS_pure ⟨i, q, rfl, G3, D3, by omega⟩
          | false =>
            refine wpS_pure ⟨q + 1, rfl, G3, by omega, D3.dn.more O (by omega) c4, fun a b a1 a2 b1 b2 => ?_⟩
            have lst : ∀ a, i - (q + 1) ≤ a → a < i → Le L (at_ (arrOf st3) (lo + a)) (at_ (arrOf st3) (lo + i)) ∧ Le L (at_ (arrOf st3) (lo + i)) (at_ (arrOf st3) (lo + a)) := fun a x1 x2 => by
              have e1 := D3.eq a (i - 1) x1 x2 (by omega) (by omega)
              have e2 := D3.eq (i - 1) a (by omega) (by omega) x1 x2
              rw [show lo + (i - 1) = lo + i - 1 by omega] at e1 e2
              exact ⟨e1.trans O c3, Le.trans O c4 e2⟩
            by_cases ca : a = i
            · by_cases cb : b = i
              · rw [ca, cb]; exact irr O _
              · rw [ca]; exact (lst b (by omega) (by omega)).2
            · by_cases cb : b = i
              · rw [cb]; exact (lst a (by omega) (by omega)).1
              · exact D3.eq a b (by omega) (by omega) (by omega) (by omega)
      case post =>
        rintro c st3 ⟨m, q, rfl, G3, D3, m1⟩
        dsimp only
        have z3 := G3.size
        have q1 := D3.q1
        by_cases c4 : q > 0
        case' pos =>
          rw [if_pos c4]
          refine wpS_bind (r_rev ?_)
          have G4 := G3.mir (i := lo + m - (q + 1)) (j := lo + m) (by omega) (by omega)
          have D4 : Dn L (arrOf (setArr st3 (mirror (arrOf st3) (lo + m - (q + 1)) (lo + m) ((lo + m - (lo + m - (q + 1))) / 2)))) lo m := (D3.rev O (by omega)).1
          clear D3 G3 z3
          generalize setArr st3 (mirror (arrOf st3) (lo + m - (q + 1)) (lo + m) ((lo + m - (lo + m - (q + 1))) / 2)) = st4 at G4 D4 ⊢
        case' neg =>
          rw [if_neg c4]
          have G4 := G3
          have D4 := D3.dn
          clear D3 G3 z3
          generalize st3 = st4 at G4 D4 ⊢
        all_goals
          have z4 := G4.size
          refine wpS_bind (r_rev ?_)
          have G5 := G4.mir (i := lo) (j := lo + m) (Nat.le_refl _) (by omega)
          have U5 : Up L (arrOf (setArr st4 (mirror (arrOf st4) lo (lo + m) ((lo + m - lo) / 2)))) lo m := D4.turn (by omega)
          clear D4 G4 z4
          generalize setArr st4 (mirror (arrOf st4) lo (lo + m) ((lo + m - lo) / 2)) = st5 at G5 U5 ⊢
          have z5 := G5.size
          refine wpS_bind (wpS_mono (wpS_forRange (I := fun i c st' => c = (none, i) ∧ st' = st5 ∧ Up L (arrOf st5) lo i)
            (Q := fun c st' => st' = st5 ∧ ∃ n, c = (none, n) ∧ 1 ≤ n ∧ n ≤ nrem ∧ Up L (arrOf st5) lo n) ?_ ?_ ⟨rfl, rfl, U5⟩) ?_)
          · rintro i c st' h1' h2' ⟨rfl, rfl, up⟩
            refine wpS_bind (r_ltAt H u0 G5 (by dsimp only; omega) (by dsimp only; omega) ?_)
            cases c : L (at_ (arrOf st') (lo + i)) (at_ (arrOf st') (lo + i - 1)) with
            | true => exact wpS_pure ⟨rfl, i, rfl, by omega, by omega, up⟩
            | false => exact wpS_pure ⟨rfl, rfl, up.more O (by omega) c⟩
          · rintro c st' ⟨rfl, rfl, up⟩
            rw [Nat.max_eq_right m1] at up ⊢
            exact ⟨rfl, nrem, rfl, h1, Nat.le_refl _, up⟩
          · rintro c st' ⟨rfl, n, rfl, n1, n2, up⟩
            exact wpS_pure (h n st' n1 n2 G5 up)
theorem r_bin (O : TO L) (H : Asked prog w A s κ U L) (u0 : ∀ x ∈ (arrOf st0).toList, U x) {n ok : Nat} {Q : Bool → SortSt → Prop} (G : Sg κ lo st0 st) (h1 : 1 ≤ ok) (h2 : ok ≤ n) (hn : lo + n ≤ (arrOf st0).size) (up : Up L (arrOf st) lo ok)
    (h : ∀ st', Sg κ lo st0 st' → Up L (arrOf st') lo n → Q true st') : wpS (model prog w) A E s (binarySort' lo n ok) Q st := by
  refine wpS_bind (wpS_mono (wpS_forRange (I := fun k c st' => c = (none, ()) ∧ Sg κ lo st0 st' ∧ Up L (arrOf st') lo k)
    (Q := fun c st' => c = (none, ()) ∧ Sg κ lo st0 st' ∧ Up L (arrOf st') lo n) ?_ ?_ ⟨rfl, G, by rw [Nat.max_eq_left h1]; exact up⟩) ?_)
  · rintro k c st' k1 k2 ⟨rfl, G1, U1⟩
    have z1 := G1.size
    refine wpS_bind (wpS_mono (wpS_forRange (I := fun i c st2 => ∃ l r, c = (none, l, r) ∧ st2 = st' ∧ l ≤ r ∧ r ≤ k ∧ r - l + i ≤ k ∧ (∀ i, i < l → Le L (at_ (arrOf st') (lo + i)) (at_ (arrOf st') (lo + k))) ∧ ∀ i, r ≤ i → i < k → Le L (at_ (arrOf st') (lo + k)) (at_ (arrOf st') (lo + i)))
      (Q := fun c st2 => ∃ l, c = (none, l, l) ∧ st2 = st' ∧ l ≤ k ∧ (∀ i, i < l → Le L (at_ (arrOf st') (lo + i)) (at_ (arrOf st') (lo + k))) ∧ ∀ i, l ≤ i → i < k → Le L (at_ (arrOf st') (lo + k)) (at_ (arrOf st') (lo + i))) ?_ ?_ ⟨0, k, rfl, rfl, by omega, by omega, by omega, fun i a => by omega, fun i a b => by omega⟩) ?_)
    · rintro i c st2 _ i2 ⟨l, r, rfl, rfl, a1, a2, a3, a4, a5⟩
      dsimp only
      by_cases c0 : l ≥ r
      · rw [if_pos c0]
        have : l = r := by omega
        subst this
        exact wpS_pure ⟨l, rfl, rfl, a2, a4, a5⟩
      · rw [if_neg c0]
        refine wpS_bind (r_ltAt H u0 G1 (by omega) (by omega) ?_)
        cases c1 : L (at_ (arrOf st2) (lo + k)) (at_ (arrOf st2) (lo + (l + r) / 2)) with
        | true =>
          refine wpS_pure ⟨l, (l + r) / 2, rfl, rfl, by omega, by omega, by omega, a4, fun i b1 b2 => ?_⟩
          by_cases e : i = (l + r) / 2
          · rw [e]; exact Le.of_lt O c1
          · exact (Le.of_lt O c1).trans O (U1 _ i (by omega) b2)
        | false =>
          refine wpS_pure ⟨(l + r) / 2 + 1, r, rfl, rfl, by omega, by omega, by omega, fun i b1 => ?_, a5⟩
          by_cases e : i = (l + r) / 2
          · rw [e]; exact c1
          · exact (U1 i ((l + r) / 2) (by omega) (by omega)).trans O c1
    · rintro c st2 ⟨l, r, rfl, rfl, a1, a2, a3, a4, a5⟩
      have : l = r := by omega
      subst this
      exact ⟨l, rfl, rfl, a2, a4, a5⟩
    · rintro c st2 ⟨l, rfl, rfl, a2, a4, a5⟩
      have hs : lo + k < (arrOf st2).size := by omega
      have ed : lo + k - (lo + k - (lo + l)) = lo + l := by omega
      refine wpS_bind (r_move (wpS_pure ⟨rfl, ⟨G1.kind, G1.failed, G1.pend, (bubble_perm ..).trans G1.perm, fun j hj => ?_⟩, fun i j hij hj => ?_⟩))
      · show (bubble (arrOf st2) (lo + k) (lo + k - (lo + l)))[j]? = _
        rw [getElem?_bubble hs _ (by omega), if_neg (by omega), if_neg (by omega)]
        exact G1.pre j hj
      · show Le L (at_ (bubble (arrOf st2) (lo + k) (lo + k - (lo + l))) (lo + i)) (at_ (bubble (arrOf st2) (lo + k) (lo + k - (lo + l))) (lo + j))
        rw [at_bub hs (by omega), at_bub hs (by omega), ed]
        by_cases b1 : j = l
        · rw [if_neg (by omega), if_neg (by omega), if_pos (by omega)]
          exact a4 i (by omega)
        · rw [if_neg (c := lo + j = lo + l) (by omega)]
          by_cases b2 : j < l
          · rw [if_neg (by omega), if_neg (by omega), if_neg (by omega)]
            exact U1 i j hij (by omega)
          · rw [if_pos (c := lo + l < lo + j ∧ lo + j ≤ lo + k) (by omega)]
            by_cases b3 : i = l
            · rw [if_pos (by omega), show lo + j - 1 = lo + (j - 1) by omega]
              exact a5 (j - 1) (by omega) (by omega)
            · rw [if_neg (by omega)]
              by_cases b4 : i < l
              · rw [if_neg (by omega), show lo + j - 1 = lo + (j - 1) by omega]
                by_cases b5 : i = j - 1
                · omega
                · exact U1 i (j - 1) (by omega) (by omega)
              · rw [if_pos (by omega), show lo + j - 1 = lo + (j - 1) by omega, show lo + i - 1 = lo + (i - 1) by omega]
                exact U1 (i - 1) (j - 1) (by omega) (by omega)
  · rintro c st' ⟨rfl, G1, U1⟩
    rw [Nat.max_eq_right (by rw [Nat.max_eq_left h1]; exact h2)] at U1
    exact ⟨rfl, G1, U1⟩
  · rintro c st' ⟨rfl, G1, U1⟩
    exact wpS_pure (h st' G1 U1)
end
end SR
end L2

namespace L2
open PySem PySem.W PyProof.Rows
namespace SR
/-! ### the runs waiting, and the whole of the sort -/
section
variable {L : Keyed → Keyed → Bool}
noncomputable def Runs (L : Keyed → Keyed → Bool) : Nat → List (Nat × Nat × Nat) → List (List Keyed) → Prop
  | _, [], [] => True
  | o, p :: ps, r :: rs => p.1 = o ∧ p.2.1 = r.length ∧ 1 ≤ r.length ∧ Inc L r ∧ Runs L (o + r.length) ps rs
  | _, _, _ => False
theorem Runs.len : ∀ {o : Nat} {ps : List (Nat × Nat × Nat)} {rs : List (List Keyed)}, Runs L o ps rs → ps.length = rs.length ∧ rs.length ≤ rs.flatten.length
  | _, [], [], _ => ⟨rfl, Nat.le_refl _⟩
  | _, p :: ps, r :: rs, h => by
    obtain ⟨_, _, h3, _, h5⟩ := h
    obtain ⟨e1, e2⟩ := h5.len
    rw [List.length_cons, List.length_cons, e1, List.flatten_cons, List.length_append]
    exact ⟨rfl, by omega⟩
  | _, [], _ :: _, h => h.elim
  | _, _ :: _, [], h => h.elim
theorem Runs.push : ∀ {o : Nat} {ps : List (Nat × Nat × Nat)} {rs : List (List Keyed)} {r : List Keyed} {z : Nat}, Runs L o ps rs → 1 ≤ r.length → Inc L r → Runs L o (ps ++ [(o + rs.flatten.length, r.length, z)]) (rs ++ [r])
  | o, [], [], r, z, _, h1, h2 => ⟨by simp, rfl, h1, h2, trivial⟩
  | o, p :: ps, q :: rs, r, z, h, h1, h2 => by
    obtain ⟨a1, a2, a3, a4, a5⟩ := h
    have := a5.push (z := z) h1 h2
    refine ⟨a1, a2, a3, a4, ?_⟩
    show Runs L (o + q.length) (ps ++ _) (rs ++ [r])
    rw [List.flatten_cons, List.length_append, ← Nat.add_assoc]
    exact this
  | _, [], _ :: _, _, _, h, _, _ => h.elim
  | _, _ :: _, [], _, _, h, _, _ => h.elim
/-- the last number of each is nobody's business -/
theorem Runs.alike : ∀ {o : Nat} {ps ps' : List (Nat × Nat × Nat)} {rs : List (List Keyed)}, Runs L o ps rs → ps'.map (fun p => (p.1, p.2.1)) = ps.map (fun p => (p.1, p.2.1)) → Runs L o ps' rs
  | _, [], [], [], _, _ => trivial
  | o, p :: ps, p' :: ps', r :: rs, h, e => by
    obtain ⟨a1, a2, a3, a4, a5⟩ := h
    rw [List.map_cons, List.map_cons] at e
    injection e with e1 e2
    injection e1 with e3 e4
    exact ⟨e3.trans a1, e4.trans a2, a3, a4, a5.alike e2⟩
  | _, p :: ps, [], _, _, e => by simp at e
  | _, [], p' :: ps', _, _, e => by simp at e
  | _, [], _, _ :: _, h, _ => h.elim
  | _, _ :: _, _, [], h, _ => h.elim
theorem Runs.cut : ∀ {i o : Nat} {ps : List (Nat × Nat × Nat)} {rs : List (List Keyed)}, Runs L o ps rs → i + 1 < ps.length → ∃ ps1 u v ps2 rs1 ra rb rs2, ps = ps1 ++ u :: v :: ps2 ∧ i = ps1.length ∧ rs = rs1 ++ ra :: rb :: rs2 ∧ u.1 = o + rs1.flatten.length ∧ u.2.1 = ra.length ∧ v.1 = o + rs1.flatten.length + ra.length ∧ v.2.1 = rb.length ∧ 1 ≤ ra.length ∧ 1 ≤ rb.length ∧ Inc L ra ∧ Inc L rb ∧
    ∀ m : List Keyed, m.length = ra.length + rb.length → Inc L m → Runs L o (ps1 ++ (u.1, u.2.1 + v.2.1, u.2.2) :: ps2) (rs1 ++ m :: rs2)
  | 0, o, u :: v :: ps, ra :: rb :: rs, h, _ => by
    obtain ⟨a1, a2, a3, a4, b1, b2, b3, b4, b5⟩ := h
    refine ⟨[], u, v, ps, [], ra, rb, rs, rfl, rfl, rfl, by simpa using a1, a2, by simpa using b1, b2, a3, b3, a4, b4, fun m e hm => ⟨a1, by rw [e, a2, b2], by omega, hm, ?_⟩⟩
    rw [e, ← Nat.add_assoc]
    exact b5
  | i + 1, o, p :: ps, r :: rs, h, hi => by
    obtain ⟨a1, a2, a3, a4, a5⟩ := h
    obtain ⟨ps1, u, v, ps2, rs1, ra, rb, rs2, e1, e2, e3, c1, c2, c3, c4, c5, c6, c7, c8, c9⟩ := a5.cut (i := i) (by rw [List.length_cons] at hi; omega)
    refine ⟨p :: ps1, u, v, ps2, r :: rs1, ra, rb, rs2, by rw [e1]; rfl, by rw [List.length_cons, e2], by rw [e3]; rfl, ?_, c2, ?_, c4, c5, c6, c7, c8, fun m e hm => ⟨a1, a2, a3, a4, c9 m e hm⟩⟩
    · rw [c1, List.flatten_cons, List.length_append, Nat.add_assoc]
    · rw [c3, List.flatten_cons, List.length_append, Nat.add_assoc o]
  | _, _, [], _, _, hi => by simp at hi
  | 0, _, [_], _, _, hi => by simp at hi
  | 0, _, _ :: _ :: _, [], h, _ => h.elim
  | 0, _, _ :: _ :: _, [_], h, _ => h.2.2.2.2.elim
  | _ + 1, _, _ :: _, [], h, _ => h.elim
end
section
variable {prog : Program} {w : World} {A : Around} {E : Value → Shared → Prop} {s : Shared} {κ : SortKind} {U : Keyed → Prop} {L : Keyed → Keyed → Bool} {a₀ : Array Keyed} {R : List Keyed} {st : SortSt}
structure St (L : Keyed → Keyed → Bool) (κ : SortKind) (a₀ : Array Keyed) (R : List Keyed) (st : SortSt) : Prop where
  kind : kindOf st = κ
  failed : failedOf st = none
  perm : (arrOf st).Perm a₀
  ex : ∃ rs, (arrOf st).toList = rs.flatten ++ R ∧ Runs L 0 (pendingOf st).toList rs
theorem St.u (S : St L κ a₀ R st) (u0 : ∀ x ∈ a₀.toList, U x) : ∀ x ∈ (arrOf st).toList, U x := fun x hx => u0 x ((Array.perm_iff_toList_perm.mp S.perm).mem_iff.mp hx)
theorem r_join (O : TO L) (H : Asked prog w A s κ U L) (u0 : ∀ x ∈ a₀.toList, U x) (S : St L κ a₀ R st) {i : Nat} (hi : i + 1 < (pendingOf st).size) {Q : Bool → SortSt → Prop}
    (h : ∀ st', St L κ a₀ R st' → (pendingOf st').size + 1 = (pendingOf st).size → Q true st') : wpS (model prog w) A E s (mergeAt' i) Q st := by
  obtain ⟨rs, e, r⟩ := S.ex
  obtain ⟨ps1, ⟨sa, na, pw⟩, ⟨sb, nb, pz⟩, ps2, rs1, ra, rb, rs2, e1, e2, e3, c1, c2, c3, c4, c5, c6, c7, c8, c9⟩ := r.cut (i := i) (by rw [Array.length_toList]; exact hi)
  rw [Nat.zero_add] at c1 c3
  refine r_mergeAt O H S.kind S.failed e1 e2 (P := rs1.flatten) (ra := ra) (rb := rb) (S := rs2.flatten ++ R) (by rw [e, e3]; simp) (S.u u0) c1 c2 c3 c4 c5 c6 c7 c8 fun m st' k1 k2 k3 k4 k5 k6 => h st' ⟨k1, k2, ?_, ?_⟩ ?_
  · refine (Array.perm_iff_toList_perm.mpr ?_).trans S.perm
    rw [k4, e, e3]
    simp only [List.flatten_append, List.flatten_cons, List.append_assoc]
    have : (m ++ (rs2.flatten ++ R)).Perm (ra ++ (rb ++ (rs2.flatten ++ R))) := by
      rw [← List.append_assoc ra]
      exact k5.append_right _
    exact this.append_left _
  · refine ⟨rs1 ++ m :: rs2, ?_, ?_⟩
    · rw [k4]; simp
    · rw [k3]
      exact c9 m (by rw [k5.length_eq, List.length_append]) k6
  · rw [← Array.length_toList, k3, ← Array.length_toList, e1]
    simp [Nat.add_assoc]
theorem ite_or {c : Prop} [Decidable c] {a b : Nat} : (if c then a else b) = a ∨ (if c then a else b) = b := by
  split
  · exact .inl rfl
  · exact .inr rfl
theorem r_ite {α : Type} {c : Prop} [Decidable c] {x y : StateT SortSt Sem α} {Q : α → SortSt → Prop} (h1 : c → wpS (model prog w) A E s x Q st) (h2 : ¬ c → wpS (model prog w) A E s y Q st) : wpS (model prog w) A E s (if c then x else y) Q st := by
  split
  · exact h1 (by assumption)
  · exact h2 (by assumption)
theorem St.seg (S : St L κ a₀ R st) {lo : Nat} {st2 : SortSt} (e : lo + R.length = a₀.size) (G : Sg κ lo st st2) : St L κ a₀ ((arrOf st2).toList.drop lo) st2 := by
  obtain ⟨rs, e1, r⟩ := S.ex
  refine ⟨G.kind, G.failed, G.perm.trans S.perm, rs, ?_, by rw [G.pend]; exact r⟩
  have hl : lo = rs.flatten.length := by
    have := S.perm.size_eq
    rw [← Array.length_toList, e1, List.length_append] at this
    omega
  have : (arrOf st2).toList.take lo = rs.flatten := by
    have h2 : (arrOf st).toList.take lo = rs.flatten := by rw [e1, hl, List.take_left]
    rw [← h2]
    apply List.ext_getElem?
    intro k
    rw [List.getElem?_take, List.getElem?_take]
    split
    · rw [Array.getElem?_toList, Array.getElem?_toList]
      exact G.pre k (by assumption)
    · rfl
  rw [← this, List.take_append_drop]
theorem St.push (S : St L κ a₀ R st) {lo n : Nat} (e : lo + R.length = a₀.size) (h1 : 1 ≤ n) (h2 : n ≤ R.length) (hi : Inc L (R.take n)) : St L κ a₀ (R.drop n) (setPending st ((pendingOf st).push (lo, n, 0))) := by
  obtain ⟨rs, e1, r⟩ := S.ex
  have hl : lo = rs.flatten.length := by
    have := S.perm.size_eq
    rw [← Array.length_toList, e1, List.length_append] at this
    omega
  refine ⟨S.kind, S.failed, S.perm, rs ++ [R.take n], ?_, ?_⟩
  · show (arrOf st).toList = _
    rw [e1]
    simp
  · show Runs L 0 ((pendingOf st).push (lo, n, 0)).toList _
    have hn : (R.take n).length = n := by rw [List.length_take]; omega
    have := r.push (r := R.take n) (z := 0) (by omega) hi
    rw [Nat.zero_add, ← hl, hn] at this
    rw [Array.toList_push]
    exact this
theorem St.mod (S : St L κ a₀ R st) (k pw : Nat) : St L κ a₀ R (setPending st ((pendingOf st).modify k fun x => (x.1, x.2.1, pw))) := by
  obtain ⟨rs, e1, r⟩ := S.ex
  refine ⟨S.kind, S.failed, S.perm, rs, e1, r.alike ?_⟩
  show List.map _ ((pendingOf st).modify k fun x => (x.1, x.2.1, pw)).toList = _
  apply List.ext_getElem?
  intro j
  rw [List.getElem?_map, List.getElem?_map, Array.getElem?_toList, Array.getElem?_toList, Array.getElem?_modify]
  split
  · cases (pendingOf st)[j]? <;> rfl
  · rfl
theorem inc_of_up {xs : Array Keyed} {lo n : Nat} (h : Up L xs lo n) (hn : lo + n ≤ xs.size) : Inc L ((xs.toList.drop lo).take n) := by
  refine List.pairwise_iff_getElem.mpr fun i j hi hj hij => ?_
  rw [List.length_take] at hi hj
  have at' : ∀ k (hk : k < ((xs.toList.drop lo).take n).length), ((xs.toList.drop lo).take n)[k] = at_ xs (lo + k) := fun k hk => by
    rw [List.length_take, List.length_drop, Array.length_toList] at hk
    have := at_some (xs := xs) (k := lo + k) (by omega)
    rw [List.getElem_take, List.getElem_drop]
    rw [← Array.getElem?_toList] at this
    exact (List.getElem?_eq_some_iff.mp this).2
  rw [at' i (by rw [List.length_take]; omega), at' j (by rw [List.length_take]; omega)]
  exact h i j hij (by omega)
theorem r_runs (O : TO L) (H : Asked prog w A s κ U L) (u0 : ∀ x ∈ a₀.toList, U x) {Q : Unit → SortSt → Prop} (h : ∀ st', (arrOf st').Perm a₀ → failedOf st' = none → Inc L (arrOf st').toList → Q () st') : wpS (model prog w) A E s sortRuns' Q (SortSt.mk' κ a₀ #[] 7 none) := by
  refine wpS_bind (wpS_get ?_)
  dsimp only
  refine wpS_bind (wpS_mono (wpS_forRange (I := fun i c st => ∃ lo R, c = (none, lo) ∧ St L κ a₀ R st ∧ lo + R.length = a₀.size ∧ (i ≤ lo ∨ lo = a₀.size))
    (Q := fun c st => ∃ lo, c = (none, lo) ∧ St L κ a₀ [] st) ?step ?fin ⟨0, a₀.toList, rfl, ⟨rfl, rfl, Array.Perm.refl _, [], by simp [arrOf], trivial⟩, by simp, .inl (Nat.le_refl _)⟩) ?post)
  case fin =>
    rintro c st ⟨lo, R, rfl, S, e1, e2⟩
    have : R = [] := List.eq_nil_of_length_eq_zero (by
      have : (arrOf (SortSt.mk' κ a₀ #[] 7 none)).size = a₀.size := rfl
      rcases e2 with e2 | e2
      · have e3 : a₀.size ≤ lo := Nat.le_trans (Nat.le_max_right 0 _) e2
        omega
      · omega)
    subst this
    exact ⟨lo, rfl, S⟩
  case post =>
    rintro c st ⟨lo, rfl, S⟩
    dsimp only
    have s0 : (pendingOf st).size ≤ a₀.size := by
      obtain ⟨rs, e1, r⟩ := S.ex
      have := S.perm.size_eq
      rw [← Array.length_toList, e1, List.append_nil] at this
      have l2 := r.len
      rw [Array.length_toList] at l2
      omega
    refine wpS_bind (wpS_mono (wpS_forRange (I := fun i c st => c = (none, ()) ∧ St L κ a₀ [] st ∧ ((pendingOf st).size + i ≤ a₀.size ∨ (pendingOf st).size ≤ 1)) (Q := fun c st => c = (none, ()) ∧ St L κ a₀ [] st ∧ (pendingOf st).size ≤ 1) ?_ ?_ ⟨rfl, S, .inl s0⟩) ?_)
    · rintro i c st1 _ hi ⟨rfl, S1, e⟩
      refine wpS_bind (wpS_get ?_)
      by_cases c1 : (pendingOf st1).size ≤ 1
      · rw [if_pos c1]
        exact wpS_pure ⟨rfl, S1, c1⟩
      rw [if_neg c1]
      have key : ∀ j, j = (pendingOf st1).size - 2 - 1 ∨ j = (pendingOf st1).size - 2 → j + 1 < (pendingOf st1).size := fun j hj => by omega
      refine wpS_bind (r_join O H u0 S1 (key _ ite_or) fun st2 S2 e2 => ?_)
      simp only [Bool.not_true, Bool.false_eq_true, if_false]
      exact wpS_pure ⟨rfl, S2, by omega⟩
    · rintro c st1 ⟨rfl, S1, e⟩
      have : a₀.size ≤ max 0 (arrOf (SortSt.mk' κ a₀ #[] 7 none)).size := Nat.le_max_right ..
      exact ⟨rfl, S1, by
        rcases e with e | e
        · have : (pendingOf st1).size + a₀.size ≤ a₀.size := Nat.le_trans (Nat.add_le_add_left this _) e
          omega
        · exact e⟩
    · rintro c st1 ⟨rfl, S1, e⟩
      refine wpS_pure (h st1 S1.perm S1.failed ?_)
      obtain ⟨rs, e1, r⟩ := S1.ex
      have l2 := r.len.1
      rw [Array.length_toList] at l2
      rw [e1, List.append_nil]
      match rs, l2 with
      | [], _ => exact List.Pairwise.nil
      | [x], _ =>
        have : Inc L x := by
          revert r
          cases (pendingOf st1).toList with
          | nil => exact fun r => r.elim
          | cons p ps => exact fun r => r.2.2.2.1
        simpa using this
      | _ :: _ :: l, l2 => rw [List.length_cons, List.length_cons] at l2; omega
  case step =>
    rintro i c st _ hi ⟨lo, R, rfl, S, e1, e2⟩
    dsimp only
    generalize (sortPriv% PySem.Builtin.minRun : Nat → Nat → Nat → Nat) a₀.size a₀.size 0 = mr
    by_cases c0 : lo ≥ a₀.size
    · rw [if_pos c0]
      have : R = [] := List.eq_nil_of_length_eq_zero (by omega)
      subst this
      exact wpS_pure ⟨lo, rfl, S⟩
    rw [if_neg c0]
    have sz : (arrOf st).size = a₀.size := S.perm.size_eq
    have e2' : i ≤ lo := by omega
    refine wpS_bind (r_count O H (S.u u0) ⟨S.kind, S.failed, rfl, Array.Perm.refl _, fun _ _ => rfl⟩ (by omega) (by omega) fun n st1 n1 n2 G1 up1 => ?_)
    dsimp only
    refine r_ite (fun c1 => ?a) (fun c1 => ?b)
    case' a =>
      refine wpS_bind (r_rule (wpS_bind (r_bin O H (S.u u0) G1 n1 (by omega) (by omega) up1 fun st2 G2 up2 => ?_)))
      simp only [Bool.not_true, Bool.false_eq_true, if_false]
      have f1 : 1 ≤ min (a₀.size - lo) mr := by omega
      have f2 : lo + min (a₀.size - lo) mr ≤ a₀.size := by omega
      clear up1 G1 n1 n2 c1
      generalize min (a₀.size - lo) mr = m at f1 f2 up2 ⊢
    case' b =>
      have G2 := G1
      have up2 := up1
      have f1 := n1
      have f2 : lo + n ≤ a₀.size := by omega
      clear up1 G1 n1 n2 c1
      generalize st1 = st2 at G2 up2 ⊢
      generalize n = m at f1 f2 up2 ⊢
    all_goals
      have S2 := S.seg e1 G2
      have z2 : (arrOf st2).size = a₀.size := G2.size.trans sz
      have lR : ((arrOf st2).toList.drop lo).length = a₀.size - lo := by rw [List.length_drop, Array.length_toList, z2]
      have iR := inc_of_up up2 (by omega)
      have done_ : ∀ st3, St L κ a₀ ((arrOf st2).toList.drop lo) st3 → wpS (model prog w) A E s (modify fun s => setPending s ((pendingOf s).push (lo, m, 0))) (fun _ st' => ∃ lo' R', ((none, lo + m) : Option Unit × Nat) = (none, lo') ∧ St L κ a₀ R' st' ∧ lo' + R'.length = a₀.size ∧ (i + 1 ≤ lo' ∨ lo' = a₀.size)) st3 := fun st3 S3 =>
        wpS_modify ⟨lo + m, _, rfl, S3.push (by omega) f1 (by omega) iR, by rw [List.length_drop]; omega, by omega⟩
      refine wpS_bind (wpS_get ?_)
      rcases hb : (pendingOf st2).back? with _ | ⟨s1, n1, z⟩
      · exact wpS_bind (wpS_mono (done_ st2 S2) fun _ st' hst => wpS_pure hst)
      · dsimp only
        refine wpS_bind (wpS_mono (wpS_forRange (I := fun i c st3 => c = (none, ()) ∧ St L κ a₀ ((arrOf st2).toList.drop lo) st3) (Q := fun c st3 => c = (none, ()) ∧ St L κ a₀ ((arrOf st2).toList.drop lo) st3) ?_ ?_ ⟨rfl, S2⟩) ?_)
        · rintro j c st3 _ _ ⟨rfl, S3⟩
          refine wpS_bind (wpS_get ?_)
          by_cases c2 : (pendingOf st3).size > 1
          · rw [if_pos c2]
            have hp : (pendingOf st3)[(pendingOf st3).size - 2]? = some (pendingOf st3)[(pendingOf st3).size - 2] := Array.getElem?_eq_getElem (by omega)
            rw [hp]
            generalize (pendingOf st3)[(pendingOf st3).size - 2] = q
            obtain ⟨q1, q2, q3⟩ := q
            dsimp only
            refine r_ite (fun _ => wpS_pure ⟨rfl, S3⟩) fun _ => ?_
            have key : ∀ j, j = (pendingOf st3).size - 2 → j + 1 < (pendingOf st3).size := fun j hj => by omega
            refine wpS_bind (r_join O H u0 S3 (key _ rfl) fun st4 S4 _ => ?_)
            simp only [Bool.not_true, Bool.false_eq_true, if_false]
            exact wpS_pure ⟨rfl, S4⟩
          · rw [if_neg c2]
            exact wpS_pure ⟨rfl, S3⟩
        · rintro c st3 ⟨rfl, S3⟩
          exact ⟨rfl, S3⟩
        · rintro c st3 ⟨rfl, S3⟩
          dsimp only
          refine wpS_bind (wpS_modify ?_)
          exact wpS_bind (wpS_mono (done_ _ (S3.mod _ _)) fun _ st' hst => wpS_pure hst)
end
end SR
end L2

namespace L2
open PySem PySem.Spec PySem.W PyProof.Rows
namespace ST
/-! ### list.sort of rows -/
section
variable {prog : Program} {w : World} {A : Around} {E : Value → Shared → Prop} {s : Shared} {L a : Addr} {mm : Str → Option Value} {m : Nat} {rows : List (Addr × List Int)}
noncomputable abbrev rf (r : Addr × List Int) : Value := .ref r.1
noncomputable def RUp (rows : List (Addr × List Int)) : Prop := rows.Pairwise fun x y => lexB y.2 x.2 = false
theorem perm_map' {α β : Type} {f : α → β} {l : List β} {xs : List α} (h : l.Perm (xs.map f)) : ∃ ys : List α, ys.Perm xs ∧ l = ys.map f := by
  generalize e : xs.map f = l2 at h
  induction h generalizing xs with
  | nil => exact ⟨[], by rw [List.map_eq_nil_iff.mp e], rfl⟩
  | cons x h ih =>
    obtain ⟨y, ys, rfl, rfl, e'⟩ := List.map_eq_cons_iff.mp e
    obtain ⟨zs, p, rfl⟩ := ih e'
    exact ⟨y :: zs, p.cons y, rfl⟩
  | swap x y l =>
    obtain ⟨a, as, rfl, rfl, e'⟩ := List.map_eq_cons_iff.mp e
    obtain ⟨b, bs, rfl, rfl, rfl⟩ := List.map_eq_cons_iff.mp e'
    exact ⟨b :: a :: bs, List.Perm.swap .., rfl⟩
  | trans h1 h2 ih1 ih2 =>
    obtain ⟨ys, p, rfl⟩ := ih2 e
    obtain ⟨zs, p', e'⟩ := ih1 rfl
    exact ⟨zs, p'.trans p, e'⟩
theorem zip_same : ∀ rows : List (Addr × List Int), (rows.map rf).zip (rows.map rf) = rows.map fun r => (rf r, rf r)
  | [] => rfl
  | r :: rows => by rw [List.map_cons, List.zip_cons_cons, zip_same rows]; rfl
/-- the row that stands at a key's place -/
noncomputable def keyK (m : Nat) (rows : List (Addr × List Int)) (x : Keyed) : List Int := match x.1 with
  | .ref a => ((rows.find? fun r => r.1 == a).map (·.2)).getD (List.replicate m 0)
  | _ => List.replicate m 0
theorem keyK_len (hr : ∀ r ∈ rows, r.2.length = m) (x : Keyed) : (keyK m rows x).length = m := by
  unfold keyK
  split
  · cases e : rows.find? fun r => r.1 == _ with
    | none => exact List.length_replicate
    | some r => exact hr r (List.mem_of_find?_eq_some e)
  · exact List.length_replicate
theorem keyK_ord (hr : ∀ r ∈ rows, r.2.length = m) : SR.TO fun x y => lexB (keyK m rows x) (keyK m rows y) :=
  ⟨fun h => lex_as h, fun {x y z} h1 h2 => lex_tr (by rw [keyK_len hr, keyK_len hr]) (by rw [keyK_len hr, keyK_len hr]) h1 h2⟩
theorem sort_few {c : Nat} {P : PySem.Fin → Shared → Prop} (ho : s.heap.get? a = some (seqObj "list" (rows.map rf).toArray c)) (h2 : rows.length < 2)
    (h : ∀ h' c', h'.get? a = some (seqObj "list" (rows.map rf).toArray c') → (∀ b o, b ≠ a → s.heap.get? b = some o → h'.get? b = some o) → P (.done (.ret .none)) { s with heap := h' }) :
    wpAny (model prog w) A (Builtin.«list.sort» ⟨[.ref a], []⟩) P E s := by
  have lv : (rows.map rf).length = rows.length := List.length_map ..
  have sz : ((rows.map rf).toArray).size < 2 := by rw [List.size_toArray, lv]; exact h2
  have few : ((rows.map rf).toArray).size ≤ sizeLine := Nat.le_trans (Nat.le_of_lt sz) (by decide)
  have zz : Array.map (fun x => x.snd) (((rows.map rf).toArray).zip ((rows.map rf).toArray)) = (rows.map rf).toArray := by
    apply Array.toList_inj.mp
    rw [Array.toList_map, Array.toList_zip, List.toList_toArray]
    exact List.map_snd_zip (Nat.le_refl _)
  obtain ⟨c1, o1⟩ : ∃ c1, (s.heap.update a (Obj.mapSeq fun _ => (#[] : Array Value))).get? a = some (seqObj "list" #[] c1) := ⟨_, get?_update_seq ho _⟩
  rw [list_sort_plain]
  refine wpAny_bind (listItems_at ho rfl (wpAny_bind (listUpdate_at ho rfl (wpAny_bind (seqEpoch_at o1 rfl (wpAny_bind (wpAny_newTuple (wpAny_bind (wpAny_newList (wpAny_holding ?_) (Nat.zero_le _))) few)))) few (Nat.zero_le _))))
  dsimp only
  rw [if_pos sz]
  refine wpAny_bind (wpAny_pure ?_)
  rw [if_pos sz]
  refine wpAny_bind (wpAny_pure ?_)
  dsimp only
  rw [show arrOf (SortSt.mk' general' (((rows.map rf).toArray).zip ((rows.map rf).toArray)) #[] 7 none) = ((rows.map rf).toArray).zip ((rows.map rf).toArray) from rfl, zz]
  have o3 := Heap.get?_push_of_some { cls := .type "list", data := .seq #[] } (Heap.get?_push_of_some { cls := .type "tuple", data := .seq (rows.map rf).toArray } o1)
  refine wpAny_bind (seqEpoch_at o3 rfl (wpAny_bind (listUpdate_at o3 rfl ?_ (Nat.zero_le _) (Nat.le_succ_of_le few))))
  rw [if_neg (by simp)]
  refine wpAny_pure (h _ _ (get?_update_seq o3 _) fun b o nb e => ?_)
  rw [Heap.get?_update_ne _ _ _ _ nb]
  refine Heap.get?_push_of_some _ (Heap.get?_push_of_some _ ?_)
  rw [Heap.get?_update_ne _ _ _ _ nb]
  exact e
end
end ST
end L2

namespace L2
open PySem PySem.Spec PySem.W PyProof.Rows
namespace ST
/-! ### sorted(..) of whatever gives rows -/
section
variable {prog : Program} {w : World} {A : Around} {E : Value → Shared → Prop} {s : Shared} {m : Nat} {S : List (Addr × List Int) → Prop}
end
end ST
end L2

namespace L2
open PySem
namespace ST
/-! ### the walk through a set's table: every slot is met -/
/-! with nothing left of the hash: from place to place by 5 i + 1 -/
end ST
end L2

namespace L2
open PySem
namespace ST
/-! ### places in their order -/
/-! ### one look through the table -/
/-! ### a table in order -/
end ST
end L2

namespace L2
open PySem
namespace ST
/-! ### one thing more -/
end ST
end L2

namespace L2
open PySem
namespace ST
/-! ### a table laid anew, of 32 places -/
section
variable {M : Nat}
/-! what comes of it -/
end
end ST
end L2

namespace L2
open PySem PySem.Spec
namespace ST
/-! ### a set of tuples in the heap -/
section
variable {prog : Program} {w : World} {K : Type} [DecidableEq K] (knd : PySem.KeyKind prog w K)
end
section
variable {prog : Program} {w : World} {K : Type} [DecidableEq K] {knd : PySem.KeyKind prog w K} {A : Around} {E : Value → Shared → Prop} {s : Shared} {a b : Addr} {xs : List (List K × Addr)} {led : Bool} {o : Obj} {ep : Nat} {t : SetTable} {k : List K} {Pl : Prop}
/-! the search -/
end
end ST
end L2

namespace L2
open PySem PySem.Spec
namespace ST
/-! ### a tuple is put into a set -/
section
variable {prog : Program} {w : World} {K : Type} [DecidableEq K] {knd : PySem.KeyKind prog w K} {A : Around} {E : Value → Shared → Prop} {s : Shared} {a b : Addr} {xs : List (List K × Addr)} {led : Bool} {o : Obj} {ep : Nat} {t : SetTable} {k : List K} {Pl : Prop}
end
end ST
end L2

namespace L2
open PySem PySem.Spec
namespace ST
/-! ### all tuples of a list are put into a set -/
section
variable {prog : Program} {w : World} {K : Type} [DecidableEq K] {knd : PySem.KeyKind prog w K} {A : Around} {a I : Addr} {fp wr : List Addr} {St : Nat → Heap → Prop} {led : Bool} {ts : List (List K × Addr)} {R : Result → Shared → Prop} {P : Nat → Value → Prop} {N : Nat} {Pl : Prop}
end
end ST
end L2

namespace L2
open PySem PySem.Spec
namespace ST
/-! ### set(a list of tuples) -/
section
variable {prog : Program} {w : World} {K : Type} [DecidableEq K] {knd : PySem.KeyKind prog w K} {A : Around} {E : Value → Shared → Prop} {s : Shared} {Pl : Prop}
end
end ST
end L2

namespace L2
open PySem PySem.Spec PySem.W PyProof.Rows
namespace ST
/-! ### the order in which a set gives its members -/
end ST
end L2

namespace L2
open PySem PySem.Spec PySem.W PyProof.Rows
namespace ST
/-! ### a set is walked -/
section
variable {prog : Program} {w : World} {A : Around} {E : Value → Shared → Prop} {s : Shared} {a I : Addr} {o : Obj} {es : Array (Int × Value)} {ep : Nat} {t : SetTable}
end
end ST
end L2

namespace L2
open PySem PySem.Spec PySem.W PyProof.Rows
namespace ST
section
variable {prog : Program} {w : World} {A : Around} {E : Value → Shared → Prop} {s : Shared} {a I : Addr} {o : Obj} {es : Array (Int × Value)} {ep : Nat} {t : SetTable}
end
end ST
end L2

namespace L2
open PySem PySem.Spec PySem.W PyProof.Rows
namespace ST
section
variable {prog : Program} {w : World} {A : Around} {E : Value → Shared → Prop} {s : Shared} {a I : Addr} {o : Obj} {es : Array (Int × Value)} {ep : Nat} {t : SetTable}
end
end ST
end L2

namespace L2
open PySem PySem.Spec PySem.W PyProof.Rows
namespace ST
/-! ### the keys of any dict in turn -/
section
variable {prog : Program} {w : World} {A : Around} {E : Value → Shared → Prop} {s : Shared} {d I : Addr} {o : Obj} {es : Array DictEntry} {ep : Nat}
end
end ST
end L2

namespace L2
open PySem PySem.Spec PySem.W PyProof.Rows
/-! ### sets of rows, sorted rows -/
section
variable {P : Program} {w : World} {H : Hp} {h : Heap} {m : Nat} {rows : List RW}
end
section
variable {X : Cx} {K : PySem.W.Frag}
end
end L2

namespace L2
open PySem PySem.Spec PySem.W PyProof.Rows
/-! ### a set of tuples in which texts stand, and how many it holds -/
section
variable {X : Cx} {K : PySem.W.Frag}
end
end L2

namespace L2
open PySem PySem.Spec PyProof.Rows
/-! ### own rules: none within another of its column; how many there can be; what the books say of them -/
theorem pow_same {a b : Nat} (h : 2 ^ a = 2 ^ b) : a = b := (hasb_pow a b).mp (h ▸ (hasb_pow b b).mpr rfl)
theorem hasB_of {s k : Nat} : hasB s k = true ↔ HasB s k := by
  unfold hasB HasB
  rw [Nat.testBit_eq_decide_div_mod_eq]
noncomputable def Unl (a b : RD) : Prop := a.2.2 = b.2.2 → a.2.1 &&& b.2.1 ≠ a.2.1 ∧ b.2.1 &&& a.2.1 ≠ b.2.1
theorem Unl.symm {a b : RD} (h : Unl a b) : Unl b a := fun e => ⟨(h e.symm).2, (h e.symm).1⟩
theorem due_up : ∀ p, p < 128 → (dueN p).Pairwise (fun a b => b &&& a ≠ b) := by decide +kernel
theorem held_no {f : List RD} {x c : Nat} (h : heldB f x c = false) {r : RD} (hr : r ∈ f) (e : r.2.2 = 2 ^ c) : r.2.1 &&& x ≠ r.2.1 := fun z => by
  have : heldB f x c = true := List.any_eq_true.mpr ⟨r, hr, by rw [decide_eq_true e, decide_eq_true z]; rfl⟩
  rw [h] at this
  cases this
section
variable {m p : Nat} {rs : List RD}
theorem ownC_pw {x : Nat} {pre : List Nat} (hx : ∀ a ∈ pre, x &&& a ≠ x) {f : List RD} {c : Nat} (hp : f.Pairwise Unl) (hm : ∀ r ∈ f, r.2.1 ∈ pre ∨ r.2.1 = x) : (ownC m rs p x f c).Pairwise Unl ∧ ∀ r ∈ ownC m rs p x f c, r.2.1 ∈ pre ∨ r.2.1 = x := by
  unfold ownC
  by_cases e : (hasB (freshN m rs p x) c && !heldB f x c) = true
  · rw [if_pos e]
    rw [Bool.and_eq_true, Bool.not_eq_true'] at e
    refine ⟨List.pairwise_append.mpr ⟨hp, List.pairwise_singleton _ _, fun a ha b hb => ?_⟩, fun r hr => ?_⟩
    · obtain rfl := List.mem_singleton.mp hb
      intro ec
      have h1 := held_no e.2 ha ec
      refine ⟨h1, ?_⟩
      rcases hm a ha with h | h
      · exact hx _ h
      · rw [h, Nat.and_self] at h1
        exact absurd rfl h1
    · rcases List.mem_append.mp hr with hr | hr
      · exact hm r hr
      · obtain rfl := List.mem_singleton.mp hr
        exact .inr rfl
  · rw [if_neg e]
    exact ⟨hp, hm⟩
theorem ownCs_pw {x : Nat} {pre : List Nat} (hx : ∀ a ∈ pre, x &&& a ≠ x) : ∀ (cs : List Nat) (f : List RD), f.Pairwise Unl → (∀ r ∈ f, r.2.1 ∈ pre ∨ r.2.1 = x) → (cs.foldl (ownC m rs p x) f).Pairwise Unl ∧ ∀ r ∈ cs.foldl (ownC m rs p x) f, r.2.1 ∈ pre ∨ r.2.1 = x
  | [], f, h1, h2 => ⟨h1, h2⟩
  | c :: cs, f, h1, h2 => by
    obtain ⟨h3, h4⟩ := ownC_pw (m := m) (p := p) (rs := rs) (c := c) hx h1 h2
    exact ownCs_pw hx cs _ h3 h4
theorem ownXs_pw : ∀ (l pre : List Nat) (f : List RD), (pre ++ l).Pairwise (fun a b => b &&& a ≠ b) → f.Pairwise Unl → (∀ r ∈ f, r.2.1 ∈ pre) → (l.foldl (ownX m rs p) f).Pairwise Unl
  | [], pre, f, _, h1, _ => h1
  | x :: l, pre, f, h0, h1, h2 => by
    have hx : ∀ a ∈ pre, x &&& a ≠ x := fun a ha => (List.pairwise_append.mp h0).2.2 a ha x (List.mem_cons_self ..)
    obtain ⟨h3, h4⟩ := ownCs_pw (m := m) (p := p) (rs := rs) hx (List.range m) f h1 fun r hr => .inl (h2 r hr)
    refine ownXs_pw l (pre ++ [x]) _ (by rw [List.append_assoc]; exact h0) h3 fun r hr => ?_
    rcases h4 r hr with h | h
    · exact List.mem_append.mpr (.inl h)
    · exact List.mem_append.mpr (.inr (by rw [h]; exact List.mem_singleton.mpr rfl))
theorem own_pw (hp : p < 128) : (ownL m rs p).Pairwise Unl := ownXs_pw _ [] [] (due_up p hp) .nil fun _ h => absurd h List.not_mem_nil
theorem own_nd (hp : p < 128) : (ownL m rs p).Nodup := (own_pw hp).imp fun {a b} h e => by
  subst e
  exact (h rfl).1 (Nat.and_self _)
theorem pw_two {α : Type} {R : α → α → Prop} (hs : ∀ {a b}, R a b → R b a) : ∀ {l : List α}, l.Pairwise R → ∀ a ∈ l, ∀ b ∈ l, a ≠ b → R a b
  | [], _, a, ha, _, _, _ => absurd ha List.not_mem_nil
  | x :: l, h, a, ha, b, hb, ne => by
    obtain ⟨h1, h2⟩ := List.pairwise_cons.mp h
    rcases List.mem_cons.mp ha with rfl | ha'
    · rcases List.mem_cons.mp hb with rfl | hb'
      · exact absurd rfl ne
      · exact h1 b hb'
    · rcases List.mem_cons.mp hb with rfl | hb'
      · exact hs (h1 a ha')
      · exact pw_two hs h2 a ha' b hb' ne
theorem own_apart (hp : p < 128) {x y c : Nat} (hx : ((true, x, 2 ^ c) : RD) ∈ ownL m rs p) (hy : ((true, y, 2 ^ c) : RD) ∈ ownL m rs p) (h : x &&& y = x) : x = y := Classical.byContradiction fun ne =>
  (pw_two (fun h => Unl.symm h) (own_pw hp) _ hx _ hy (fun e => ne (by injection e with _ e; injection e)) rfl).1 h
end
/-! how many -/
section
variable {m p : Nat} {rs : List RD}
end
/-! what the books say -/
noncomputable def FolK (ks : List Nat) (x y : Nat) : Prop := ∀ d ∈ ks, d &&& x = 0 → d &&& y = 0
section
variable {m p x c : Nat} {rs : List RD} {ks : List Nat}
theorem fol_fix (hk : Kept0 m rs ks) (hx : x < 2 ^ m) (hc : c < m) : FolK ks x (2 ^ c) ↔ HasB (fixF m rs x) c := by
  rw [fix_iff hx c]
  constructor
  · intro h
    refine ⟨hc, fun d hd ha hb => ?_⟩
    have := h d ((hk d).mpr ⟨hd.2.1, hd.2.2⟩) (apart_iff.mp ha)
    have h2 : HasB (d &&& 2 ^ c) c := (hasb_and _ _ _).mpr ⟨hb, (hasb_pow c c).mpr rfl⟩
    rw [this] at h2
    exact hasb_zero h2
  · rintro ⟨_, h⟩ d hd h0
    refine zero_of fun k hb => ?_
    obtain ⟨h1, h2⟩ := (hasb_and _ _ _).mp hb
    obtain rfl := (hasb_pow c k).mp h2
    obtain ⟨h3, h4⟩ := (hk d).mp hd
    refine h d ⟨Nat.pos_of_ne_zero fun e => ?_, h3, h4⟩ (apart_iff.mpr h0) h1
    rw [e] at h1
    exact hasb_zero h1
/-- what each own rule is, by the books -/
structure OwnOk (m : Nat) (ks : List Nat) (p x c : Nat) : Prop where
  xp : x &&& p = x
  cp : 2 ^ c &&& p ≠ 0
  cx : 2 ^ c &&& x = 0
  cm : c < m
  xm : x < 2 ^ m
  fol : FolK ks x (2 ^ c)
  least : ∀ k, HasB x k → ¬ FolK ks (x - 2 ^ k) (2 ^ c)
theorem drop_bits {x k : Nat} (h : HasB x k) (j : Nat) : HasB (x - 2 ^ k) j ↔ HasB x j ∧ j ≠ k := by
  have e : x &&& 2 ^ k = 2 ^ k := bits_eq fun i => by
    rw [hasb_and, hasb_pow]
    constructor
    · exact fun h => h.2
    · rintro rfl
      exact ⟨h, rfl⟩
  have e2 : x - 2 ^ k = x - (x &&& 2 ^ k) := by rw [e]
  rw [e2, hasb_out, hasb_pow]
  constructor
  · exact fun h => ⟨h.1, fun e => h.2 e.symm⟩
  · exact fun h => ⟨h.1, fun e => h.2 e.symm⟩
theorem own_ok (hk : Kept0 m rs ks) (m7 : m ≤ 7) (hp : p < 2 ^ m) (h : ((true, x, 2 ^ c) : RD) ∈ ownL m rs p) : OwnOk m ks p x c := by
  have p7 := pow7 m7
  obtain ⟨x', c', e, h1, h2, h3⟩ := own_mem m7 _ h
  obtain rfl : x = x' := by injection e with _ e; injection e
  have ec : (2 : Nat) ^ c = 2 ^ c' := by injection e with _ e; injection e
  obtain rfl : c = c' := pow_same ec
  obtain ⟨hx, hxp⟩ := (due_mem m7 hp).mp h1
  obtain ⟨f1, f2, f3⟩ := (fresh_bits c).mp h3
  refine ⟨hxp, fun z => ?_, zero_of fun k hb => ?_, h2, hx, (fol_fix hk hx h2).mpr f1, fun k hb hf => ?_⟩
  · have h4 : HasB (2 ^ c &&& p) c := (hasb_and _ _ _).mpr ⟨(hasb_pow c c).mpr rfl, f2⟩
    rw [z] at h4
    exact hasb_zero h4
  · obtain ⟨h4, h5⟩ := (hasb_and _ _ _).mp hb
    obtain rfl := (hasb_pow c k).mp h4
    exact f3 h5
  · have hx2 : x - 2 ^ k < 2 ^ m := Nat.lt_of_le_of_lt (Nat.sub_le ..) hx
    have sub : ∀ j, HasB (x - 2 ^ k) j → HasB x j := fun j h => ((drop_bits hb j).mp h).1
    have subp : ∀ j, HasB x j → HasB p j := fun j h => by
      rw [← hxp] at h
      exact ((hasb_and _ _ _).mp h).2
    have d2 : x - 2 ^ k ∈ dueN p := (due_mem m7 hp).mpr ⟨hx2, sub_and fun j h => subp j (sub j h)⟩
    have f4 : HasB (freshN m rs p (x - 2 ^ k)) c := (fresh_bits c).mpr ⟨(fol_fix hk hx2 h2).mp hf, f2, fun h => f3 (sub c h)⟩
    obtain ⟨r, hr, hb2⟩ := List.any_eq_true.mp (own_held d2 h2 (hasB_of.mpr f4))
    obtain ⟨y, c2, rfl, _⟩ := own_mem m7 r hr
    rw [Bool.and_eq_true, decide_eq_true_iff, decide_eq_true_iff] at hb2
    obtain ⟨e2, e3⟩ := hb2
    have e2' : (2 : Nat) ^ c2 = 2 ^ c := e2
    rw [e2'] at hr
    have hyx : ∀ j, HasB y j → HasB (x - 2 ^ k) j := fun j h => by
      have e3' : y &&& (x - 2 ^ k) = y := e3
      rw [← e3'] at h
      exact ((hasb_and _ _ _).mp h).2
    have := own_apart (by omega) hr h (sub_and fun j h => sub j (hyx j h))
    subst this
    exact ((drop_bits hb k).mp (hyx k hb)).2 rfl
theorem own_all (hk : Kept0 m rs ks) (m7 : m ≤ 7) (hp : p < 2 ^ m) (hx : x < 2 ^ m) (hxp : x &&& p = x) (hc : c < m) (hpc : HasB p c) (hxc : ¬ HasB x c) (hf : FolK ks x (2 ^ c)) : heldB (ownL m rs p) x c = true :=
  own_held ((due_mem m7 hp).mpr ⟨hx, hxp⟩) hc (hasB_of.mpr ((fresh_bits c).mpr ⟨(fol_fix hk hx hc).mp hf, hpc, hxc⟩))
end
end L2
namespace L2
open PySem PySem.Spec PyProof.Rows
end L2

namespace L2
open PySem PySem.Spec PySem.W PyProof.Rows
namespace ST
/-! ### list.sort of tuples that begin with one word and go on with two numbers -/
section
variable {prog : Program} {w : World} {A : Around} {E : Value → Shared → Prop} {s : Shared} {a : Addr} {rows : List (Addr × List Int)}
noncomputable def WordAt (h : Heap) (wd : Str) (r : Addr × List Int) : Prop := r.2.length = 2 ∧ ∃ o its n t us, h.get? r.1 = some o ∧ o.cls = .type "tuple" ∧ o.data = .seq its n ∧ its.toList = Value.str wd t :: us ∧ IntsAre us r.2
theorem WordAt.keep {h h' : Heap} {wd : Str} {r : Addr × List Int} (x : WordAt h wd r) (e : ∀ o, h.get? r.1 = some o → h'.get? r.1 = some o) : WordAt h' wd r := by
  obtain ⟨l, o, its, n, t, us, h1, h2⟩ := x
  exact ⟨l, o, its, n, t, us, e o h1, h2⟩
theorem word_ne {wd : Str} {r : Addr × List Int} {o : Obj} {b : Addr} (x : WordAt s.heap wd r) (hb : s.heap.get? b = some o) (hc : o.cls ≠ .type "tuple") : r.1 ≠ b := fun z => by
  obtain ⟨_, o', _, _, _, _, h1, h2, _⟩ := x
  rw [z, hb] at h1
  cases h1
  exact hc h2
theorem word_lt {wd : Str} {a b : Addr × List Int} {Q : Bool → Shared → Prop} (ha : WordAt s.heap wd a) (hb : WordAt s.heap wd b) (q : Q (lexB a.2 b.2) s) : wpAny (model prog w) A (keyLt' (tuples' true) (.ref a.1) (.ref b.1)) Q E s := by
  obtain ⟨l1, o1, i1, n1, t1, u1, h1, _, d1, e1, r1⟩ := ha
  obtain ⟨l2, o2, i2, n2, t2, u2, h2, _, d2, e2, r2⟩ := hb
  have z1 : i1.size = 3 := by rw [← Array.length_toList, e1, List.length_cons, r1.length, l1]
  have z2 : i2.size = 3 := by rw [← Array.length_toList, e2, List.length_cons, r2.length, l2]
  refine kat_lt h1 d1 h2 d2 ?_
  rw [z1, z2, decide_eq_false (Nat.lt_irrefl _), e1, e2, List.zip_cons_cons]
  refine kat_cons (wpAny_eqBool_str ?_)
  rw [decide_eq_true rfl]
  exact kat_yes (lex_ask 1 r1 r2 (by rw [l1, l2]) q)
theorem WordAt.first {h : Heap} {wd : Str} : ∀ {rows : List (Addr × List Int)}, (∀ r ∈ rows, WordAt h wd r) → ∃ fs : List Value, fs.length = rows.length ∧ KatTups h (rows.map rf) fs ∧ ∀ v ∈ fs, ∃ t, v = .str wd t
  | [], _ => ⟨[], rfl, .nil, fun v h => by cases h⟩
  | r :: rows, hr => by
    obtain ⟨fs, e, t, hv⟩ := WordAt.first (rows := rows) fun x hx => hr x (List.mem_cons_of_mem _ hx)
    obtain ⟨l, o, its, n, t0, us, h1, h2, h3, h4, _⟩ := hr r (List.mem_cons_self ..)
    have e0 : its[0]? = some (Value.str wd t0) := by
      rw [← Array.getElem?_toList, h4]
      rfl
    refine ⟨.str wd t0 :: fs, by rw [List.length_cons, List.length_cons, e], KatTups.cons h1 h2 h3 e0 t, fun v hv' => ?_⟩
    rcases List.mem_cons.mp hv' with z | z
    · exact ⟨t0, z⟩
    · exact hv v z
theorem keyW_of {h : Heap} {wd : Str} (hr : ∀ r ∈ rows, WordAt h wd r) {r : Addr × List Int} (hm : r ∈ rows) : keyK 2 rows (rf r, rf r) = r.2 := by
  show ((rows.find? fun q => q.1 == r.1).map (·.2)).getD (List.replicate 2 0) = r.2
  cases e : rows.find? fun q => q.1 == r.1 with
  | none => exact absurd (List.find?_eq_none.mp e r hm) (by simp)
  | some q =>
    have e1 : q.1 = r.1 := by simpa using List.find?_some e
    obtain ⟨_, o1, i1, n1, t1, u1, g1, _, d1, v1, r1⟩ := hr q (List.mem_of_find?_eq_some e)
    obtain ⟨_, o2, i2, n2, t2, u2, g2, _, d2, v2, r2⟩ := hr r hm
    rw [e1, g2] at g1
    cases g1
    rw [d2] at d1
    cases d1
    rw [v2] at v1
    cases v1
    show q.2 = r.2
    rw [← r1.nums, ← r2.nums]
theorem sort_words {c : Nat} {wd : Str} {P : PySem.Fin → Shared → Prop} (ho : s.heap.get? a = some (seqObj "list" (rows.map rf).toArray c)) (hr : ∀ r ∈ rows, WordAt s.heap wd r) (h2 : 2 ≤ rows.length) (h64 : rows.length < 1000)
    (h : ∀ h' rows' c', rows'.Perm rows → RUp rows' → h'.get? a = some (seqObj "list" (rows'.map rf).toArray c') → (∀ b o, b ≠ a → s.heap.get? b = some o → h'.get? b = some o) → P (.done (.ret .none)) { s with heap := h' }) :
    wpAny (model prog w) A (Builtin.«list.sort» ⟨[.ref a], []⟩) P E s := by
  have lv : (rows.map rf).length = rows.length := List.length_map ..
  have sz : ¬ ((rows.map rf).toArray).size < 2 := by rw [List.size_toArray, lv]; omega
  have few : ((rows.map rf).toArray).size ≤ sizeLine := by rw [List.size_toArray, lv]; exact Nat.le_trans (Nat.le_of_lt h64) (by decide)
  obtain ⟨c1, o1⟩ : ∃ c1, (s.heap.update a (Obj.mapSeq fun _ => (#[] : Array Value))).get? a = some (seqObj "list" #[] c1) := ⟨_, get?_update_seq ho _⟩
  have o3 := Heap.get?_push_of_some { cls := .type "list", data := .seq #[] } (Heap.get?_push_of_some { cls := .type "tuple", data := .seq (rows.map rf).toArray } o1)
  have k3 : ∀ b o, b ≠ a → s.heap.get? b = some o → (((s.heap.update a (Obj.mapSeq fun _ => (#[] : Array Value))).push { cls := .type "tuple", data := .seq (rows.map rf).toArray }).push { cls := .type "list", data := .seq #[] }).get? b = some o := fun b o nb e =>
    Heap.get?_push_of_some _ (Heap.get?_push_of_some _ (by rw [Heap.get?_update_ne _ _ _ _ nb]; exact e))
  rw [list_sort_plain]
  refine wpAny_bind (listItems_at ho rfl (wpAny_bind (listUpdate_at ho rfl (wpAny_bind (seqEpoch_at o1 rfl (wpAny_bind (wpAny_newTuple (wpAny_bind (wpAny_newList (wpAny_holding ?_) (Nat.zero_le _))) few)))) few (Nat.zero_le _))))
  dsimp only
  rw [if_neg sz]
  generalize ((s.heap.update a (Obj.mapSeq fun _ => (#[] : Array Value))).push { cls := .type "tuple", data := .seq (rows.map rf).toArray }).push { cls := .type "list", data := .seq #[] } = h3 at o3 k3
  have r3 : ∀ r ∈ rows, WordAt h3 wd r := fun r hr' => (hr r hr').keep fun o e => k3 _ o (word_ne (hr r hr') ho fun z => absurd (Value.type.inj z) (by decide)) e
  obtain ⟨fs, lf, tf, hf⟩ := WordAt.first r3
  refine wpAny_bind (kat_kind (s := { s with heap := h3 }) (T := .type "str") tf (by omega) (fun v hv => ?_) (by rfl) ?_)
  · obtain ⟨t, rfl⟩ := hf v hv
    exact Looks.of_pure rfl
  rw [show (Value.type "str" != Value.type "tuple") = true from by decide, if_neg sz]
  have za : (((rows.map rf).toArray).zip ((rows.map rf).toArray)).toList = rows.map fun r => (rf r, rf r) := by
    rw [Array.toList_zip, List.toList_toArray]
    exact zip_same rows
  refine wpAny_bind (wpAny_mono (SR.r_runs (s := { s with heap := h3 }) (κ := tuples' true) (U := fun x => ∃ r ∈ rows, x = (rf r, rf r)) (keyK_ord (m := 2) (rows := rows) fun r hr' => (hr r hr').1) (fun x y ux uy => ?_) (fun x hx => ?_) (Q := fun _ st => failedOf st = none ∧ ∃ rows', (arrOf st).map (·.2) = (rows'.map rf).toArray ∧ rows'.Perm rows ∧ RUp rows') fun st' pe fl inc => ⟨fl, ?_⟩) ?_ fun _ _ e => e)
  · obtain ⟨r, hr1, rfl⟩ := ux
    obtain ⟨r', hr2, rfl⟩ := uy
    refine word_lt (s := { s with heap := h3 }) (r3 r hr1) (r3 r' hr2) ⟨rfl, ?_⟩
    dsimp only
    rw [keyW_of r3 hr1, keyW_of r3 hr2]
  · rw [za] at hx
    obtain ⟨r, hr1, rfl⟩ := List.mem_map.mp hx
    exact ⟨r, hr1, rfl⟩
  · have pl := Array.perm_iff_toList_perm.mp pe
    rw [za] at pl
    obtain ⟨rows', p', e'⟩ := perm_map' pl
    refine ⟨rows', ?_, p', ?_⟩
    · apply Array.toList_inj.mp
      rw [Array.toList_map, e', List.map_map]
      rfl
    · unfold RUp
      have := inc
      rw [e', SR.Inc, List.pairwise_map] at this
      refine this.imp_of_mem fun {x y} hx hy h => ?_
      have h' : lexB (keyK 2 rows (rf y, rf y)) (keyK 2 rows (rf x, rf x)) = false := h
      rw [keyW_of r3 (p'.mem_iff.mp hx), keyW_of r3 (p'.mem_iff.mp hy)] at h'
      exact h'
  · rintro ⟨⟨⟩, st⟩ s' ⟨rfl, fl, rows', ar, pr, up⟩
    dsimp only
    rw [ar, fl]
    have few' : ((rows'.map rf).toArray).size ≤ sizeLine := by rw [List.size_toArray, List.length_map, pr.length_eq]; exact Nat.le_trans (Nat.le_of_lt h64) (by decide)
    refine wpAny_bind (seqEpoch_at o3 rfl (wpAny_bind (listUpdate_at o3 rfl ?_ (Nat.zero_le _) (Nat.le_succ_of_le few'))))
    rw [if_neg (by simp)]
    refine wpAny_pure (h _ rows' _ pr up (get?_update_seq o3 _) fun b o nb e => ?_)
    rw [Heap.get?_update_ne _ _ _ _ nb]
    exact k3 b o nb e
theorem sort_words' {c : Nat} {wd : Str} {P : PySem.Fin → Shared → Prop} (ho : s.heap.get? a = some (seqObj "list" (rows.map rf).toArray c)) (hr : ∀ r ∈ rows, WordAt s.heap wd r) (h64 : rows.length < 1000)
    (h : ∀ h' rows' c', rows'.Perm rows → RUp rows' → h'.get? a = some (seqObj "list" (rows'.map rf).toArray c') → (∀ b o, b ≠ a → s.heap.get? b = some o → h'.get? b = some o) → P (.done (.ret .none)) { s with heap := h' }) :
    wpAny (model prog w) A (Builtin.«list.sort» ⟨[.ref a], []⟩) P E s := by
  by_cases c2 : 2 ≤ rows.length
  · exact sort_words ho hr c2 h64 h
  · refine sort_few ho (by omega) fun h' c' e1 e2 => h h' rows c' (List.Perm.refl _) ?_ e1 e2
    unfold RUp
    match rows, c2 with
    | [], _ => exact List.Pairwise.nil
    | [r], _ => exact List.pairwise_singleton _ _
    | _ :: _ :: l, c2 => exact absurd (by simp) c2
end
end ST
/-- a rule's two numbers, at its place -/
noncomputable def rw2 (r : Rl) : Addr × List Int := (r.r, [(r.x : Int), (r.y : Int)])
theorem rule_word {P : Program} {w : World} {H : Hp} {h : Heap} {r : Rl} {st : Bool} (ok : HOk P w H h) (hR : RuleAt H r.r st r.x r.y) : ST.WordAt h (wordS st) (rw2 r) := by
  obtain ⟨_, its, rv, o, h1, h2, n, h3⟩ := (show ObjOk P w H h r.r (.tup [.str (wordS st), vN r.x, vN r.y]) from ok r.r _ hR)
  refine ⟨rfl, o, its.toArray, n, ?_⟩
  cases rv with
  | cons a1 a2 =>
    obtain ⟨t, rfl⟩ := a1
    exact ⟨t, _, h1, h2, h3, rfl, intsAre_of a2⟩
/-- sorted(a list of rules of one kind) -/
theorem call_sortedW {X : Cx} {K : PySem.W.Frag} (hK : X.K = K) : CallR X (.builtin "sorted") (fun xs H Q => ∃ (p : Addr) (st : Bool) (fs : List Rl), xs = [.ref p] ∧ SqL K H p (fs.map fun r => V.ref r.r) ∧ (∀ r ∈ fs, RuleAt H r.r st r.x r.y) ∧ fs.length < 1000 ∧
    ∀ (l : Addr) (fs' : List Rl), H l = none → fs'.Perm fs → ST.RUp (fs'.map rw2) → Q (.ref l) (upd H l (.lst (fs'.map fun r => V.ref r.r)))) := by
  subst hK
  intro pins s σ H xs us Q I r h
  obtain ⟨p, st, fs, rfl, hq, R, hz, q⟩ := h
  obtain ⟨u, rfl, rx⟩ := vals1 r
  cases rx
  obtain ⟨its, rv, pl, hz'⟩ := I.list hq
  have hits : its = (fs.map rw2).map ST.rf := by
    have all : ∀ {rs : List Rl} {vs : List Value}, Vals (rs.map fun r => V.ref r.r) vs → vs = (rs.map rw2).map ST.rf := by
      intro rs
      induction rs with
      | nil => intro vs h; cases h; rfl
      | cons x rs ih =>
        intro vs h
        cases h with
        | cons h1 h2 =>
          rw [ih h2]
          cases h1
          rfl
    exact all rv
  subst hits
  have li : ((fs.map rw2).map ST.rf).length = fs.length := by rw [List.length_map, List.length_map]
  refine Calls.call_function_entry kind_sorted plain_sorted entry_sorted (args_sorted1 _) ?_
  unfold Builtin.«sorted»
  refine wpAny_bind (m := checkCount "sorted" 1 1 _) (wpAny_pure (wpAny_bind (collect_list pl.isList ?_ (by rw [li]; exact Nat.le_of_lt (small1000 (by omega))))))
  dsimp only
  generalize eh : Heap.update _ _ _ = h1
  have le : s.heap.objs.size ≤ h1.objs.size := by
    rw [← eh, Heap.size_update, size_push']
    exact Nat.le_succ _
  have keep : ∀ b o, s.heap.get? b = some o → h1.get? b = some o := fun b o e => by
    rw [← eh]
    exact (Heap.get?_update_other _ _ (Nat.ne_of_gt (Heap.lt_size e))).trans (Heap.get?_push_of_some _ e)
  clear eh
  refine wpAny_bind (wpAny_newList ?_ (by rw [li]; exact Nat.le_trans (Nat.le_of_lt hz) (by decide)))
  dsimp only
  have ho : (h1.push { cls := .type "list", data := .seq ((fs.map rw2).map ST.rf).toArray }).get? h1.objs.size = some (seqObj "list" ((fs.map rw2).map ST.rf).toArray 0) := Heap.get?_push_size _ rfl
  refine wpAny_bind (wpAny_holding (wpAny_call_entry slot_list_sort ⟨_, ho, rfl⟩ entry_list_sort (ST.sort_words' (s := { s with heap := h1.push { cls := .type "list", data := .seq ((fs.map rw2).map ST.rf).toArray } }) (wd := wordS st) ho (fun x hx => ?_) (by rw [List.length_map]; omega) fun h' rows' c' pr up ho' k' => ⟨_, rfl, ?_⟩) (args_list_sort _)))
  · obtain ⟨y, hy, rfl⟩ := List.mem_map.mp hx
    exact (rule_word I.hok (R y hy)).keep fun o e => Heap.get?_push_of_some _ (keep _ o e)
  refine wpAny_pure ⟨_, rfl, ?_⟩
  obtain ⟨fs', pf, rfl⟩ := ST.perm_map' pr
  have keep' : ∀ b o, s.heap.get? b = some o → h'.get? b = some o := fun b o e => k' b o (Nat.ne_of_lt (Heap.lt_size (keep b o e))) (Heap.get?_push_of_some _ (keep b o e))
  have vl : ∀ l : List Rl, Vals (l.map fun r => V.ref r.r) ((l.map rw2).map ST.rf) := fun l => by
    induction l with
    | nil => exact .nil
    | cons x l ih => exact .cons rfl ih
  exact ⟨.ref h1.objs.size, _, I.laid (t' := s.toks) keep' le (show ObjOk X.prog X.w _ _ _ (.lst (fs'.map fun r => V.ref r.r)) from ⟨by rw [List.length_map, pf.length_eq]; exact Nat.le_of_lt (small1000 (Nat.le_of_lt hz)), _, c', vl fs', ho'⟩), rfl, q _ fs' (I.hok.fresh le) pf up⟩
end L2

namespace L2
open PySem PySem.Spec PyProof.Rows
/-! ### the cover of a cover is the cover -/
/-! keys hang on what the rules say alone -/
end L2

namespace L2
open PySem PySem.Spec PyProof.Rows
/-! ### k04: the mathematics -/
noncomputable def sum2 (l : List Nat) : Nat := (l.map fun c => 2 ^ c).sum
theorem perm_sum {l l' : List Nat} (h : l.Perm l') : l.sum = l'.sum := by
  induction h with
  | nil => rfl
  | cons x _ ih => rw [List.sum_cons, List.sum_cons, ih]
  | swap x y l => simp only [List.sum_cons]; omega
  | trans _ _ h1 h2 => exact h1.trans h2
theorem perm_sum2 {l l' : List Nat} (h : l.Perm l') : sum2 l = sum2 l' := perm_sum (h.map _)
theorem cols_sum2 : ∀ a, a < 128 → sum2 (colsN a) = a := by decide +kernel
theorem filt_cols : ∀ b0 b1 b2 b3 b4 b5 b6 : Bool, colsN (sum2 ((List.range 7).filter fun k => [b0, b1, b2, b3, b4, b5, b6].getD k false)) = (List.range 7).filter fun k => [b0, b1, b2, b3, b4, b5, b6].getD k false := by decide +kernel
theorem filt_lt : ∀ b0 b1 b2 b3 b4 b5 b6 : Bool, sum2 ((List.range 7).filter fun k => [b0, b1, b2, b3, b4, b5, b6].getD k false) < 128 := by decide +kernel
theorem filt_list (p : Nat → Bool) : (List.range 7).filter p = (List.range 7).filter fun k => [p 0, p 1, p 2, p 3, p 4, p 5, p 6].getD k false := by
  refine List.filter_congr fun k hk => ?_
  have h := List.mem_range.mp hk
  match k, h with
  | 0, _ => rfl
  | 1, _ => rfl
  | 2, _ => rfl
  | 3, _ => rfl
  | 4, _ => rfl
  | 5, _ => rfl
  | 6, _ => rfl
theorem perm_filt {L : List Nat} (hn : L.Nodup) (hb : ∀ x ∈ L, x < 7) : L.Perm ((List.range 7).filter fun k => decide (k ∈ L)) := by
  refine (List.perm_ext_iff_of_nodup hn (List.nodup_range.sublist List.filter_sublist)).mpr fun x => ?_
  rw [List.mem_filter, List.mem_range, decide_eq_true_iff]
  exact ⟨fun h => ⟨hb x h, h⟩, fun h => h.2⟩
theorem perm_cols {L : List Nat} (hn : L.Nodup) (hb : ∀ x ∈ L, x < 7) : L.Perm (colsN (sum2 L)) ∧ sum2 L < 128 := by
  have h := perm_filt hn hb
  rw [perm_sum2 h, filt_list]
  refine ⟨?_, filt_lt _ _ _ _ _ _ _⟩
  rw [filt_cols]
  exact (filt_list fun k => decide (k ∈ L)) ▸ h
/-- the set turned -/
noncomputable def turnN (a : Nat) (o : List Nat) : Nat := sum2 ((colsN a).map fun c => o.getD c 0)
theorem cols_rangeT : ∀ m, m < 8 → ∀ a, a < 2 ^ m → (List.range m).filter (hasB a) = colsN a := by decide +kernel
theorem cols_nodup (a : Nat) : (colsN a).Nodup := List.nodup_range.sublist List.filter_sublist
theorem idx_get : ∀ {o : List Nat} {c : Nat}, o.Nodup → c < o.length → o.idxOf (o.getD c 0) = c
  | [], _, _, h => absurd h (Nat.not_lt_zero _)
  | x :: o, 0, _, _ => by simp [List.idxOf_cons]
  | x :: o, c + 1, hn, h => by
    rw [List.nodup_cons] at hn
    have h' : c < o.length := by simpa using h
    have hm : o.getD c 0 ∈ o := by
      rw [List.getD_eq_getElem?_getD, List.getElem?_eq_getElem h']
      exact List.getElem_mem h'
    have hne : (x == o.getD c 0) = false := by
      rw [beq_eq_false_iff_ne]
      intro e
      exact hn.1 (e ▸ hm)
    have ih := idx_get hn.2 h'
    show (x :: o).idxOf ((x :: o).getD (c + 1) 0) = c + 1
    rw [show (x :: o).getD (c + 1) 0 = o.getD c 0 from rfl, List.idxOf_cons, hne]
    simp only [cond_false, ih]
structure Ord (m : Nat) (o : List Nat) : Prop where
  len : o.length = m
  nd : o.Nodup
  lt : ∀ x ∈ o, x < m
theorem Ord.getD_mem {m : Nat} {o : List Nat} (h : Ord m o) {c : Nat} (hc : c < m) : o.getD c 0 ∈ o := by
  have : c < o.length := by rw [h.len]; exact hc
  rw [List.getD_eq_getElem?_getD, List.getElem?_eq_getElem this]
  exact List.getElem_mem this
theorem Ord.getD_lt {m : Nat} {o : List Nat} (h : Ord m o) {c : Nat} (hc : c < m) : o.getD c 0 < m := h.lt _ (h.getD_mem hc)
theorem Ord.inj {m : Nat} {o : List Nat} (h : Ord m o) {c d : Nat} (hc : c < m) (hd : d < m) (e : o.getD c 0 = o.getD d 0) : c = d := by
  have h1 : c < o.length := by rw [h.len]; exact hc
  have h2 : d < o.length := by rw [h.len]; exact hd
  rw [← idx_get h.nd h1, e, idx_get h.nd h2]
theorem nodup_map {f : Nat → Nat} : ∀ {l : List Nat}, l.Nodup → (∀ a ∈ l, ∀ b ∈ l, f a = f b → a = b) → (l.map f).Nodup
  | [], _, _ => List.nodup_nil
  | x :: l, h, hf => by
    rw [List.nodup_cons] at h
    rw [List.map_cons, List.nodup_cons]
    refine ⟨fun hm => ?_, nodup_map h.2 fun a ha b hb => hf a (List.mem_cons_of_mem _ ha) b (List.mem_cons_of_mem _ hb)⟩
    obtain ⟨y, hy, e⟩ := List.mem_map.mp hm
    have := hf y (List.mem_cons_of_mem _ hy) x List.mem_cons_self e
    subst this
    exact h.1 hy
theorem cols_lt {m a : Nat} (hm : m < 8) (ha : a < 2 ^ m) : ∀ c ∈ colsN a, c < m := fun c hc => by
  rw [← cols_rangeT m hm a ha] at hc
  exact List.mem_range.mp (List.mem_filter.mp hc).1
theorem turn_perm {m a : Nat} {o : List Nat} (hm : m < 8) (ha : a < 2 ^ m) (h : Ord m o) : ((colsN a).map fun c => o.getD c 0).Perm (colsN (turnN a o)) ∧ turnN a o < 128 := by
  have hc := cols_lt hm ha
  refine perm_cols (nodup_map (cols_nodup a) fun x hx y hy e => h.inj (hc x hx) (hc y hy) e) fun x hx => ?_
  obtain ⟨c, hc', rfl⟩ := List.mem_map.mp hx
  have := h.getD_lt (hc c hc')
  omega
theorem turn_back {m a : Nat} {o b : List Nat} (hm : m < 8) (ha : a < 2 ^ m) (h : Ord m o) (hb : ∀ c, c < m → b.getD (o.getD c 0) 0 = c) : turnN (turnN a o) b = a := by
  have hc := cols_lt hm ha
  have pw : 2 ^ m ≤ 2 ^ 7 := Nat.pow_le_pow_right (by decide) (by omega)
  have p := (turn_perm hm ha h).1.map fun c => b.getD c 0
  show sum2 ((colsN (turnN a o)).map fun c => b.getD c 0) = a
  rw [← perm_sum2 p, List.map_map]
  have e : (colsN a).map ((fun c => b.getD c 0) ∘ fun c => o.getD c 0) = colsN a := by
    have e1 : (colsN a).map ((fun c => b.getD c 0) ∘ fun c => o.getD c 0) = (colsN a).map id := List.map_congr_left fun c hc' => hb c (hc c hc')
    rw [e1, List.map_id]
  rw [e]
  exact cols_sum2 a (by omega)
/-! orders made -/
theorem ord_ins {k i : Nat} {o : List Nat} (h : Ord k o) : Ord (k + 1) (o.take i ++ [k] ++ o.drop i) := by
  have p : (o.take i ++ [k] ++ o.drop i).Perm (k :: o) := by
    rw [List.append_assoc]
    refine List.perm_middle.trans ?_
    show (k :: (o.take i ++ o.drop i)).Perm (k :: o)
    rw [List.take_append_drop]
  refine ⟨?_, p.nodup_iff.mpr (List.nodup_cons.mpr ⟨fun hm => Nat.lt_irrefl _ (h.lt k hm), h.nd⟩), fun x hx => ?_⟩
  · rw [p.length_eq, List.length_cons, h.len]
  · rcases List.mem_cons.mp (p.mem_iff.mp hx) with rfl | hx
    · omega
    · have := h.lt x hx; omega
/-- the order that undoes an order -/
noncomputable def backN (m : Nat) (o : List Nat) : List Nat := (List.range m).map fun k => o.idxOf k
theorem Ord.has {m : Nat} {o : List Nat} (h : Ord m o) {k : Nat} (hk : k < m) : k ∈ o := by
  have p : o.Perm ((List.range m).filter fun x => decide (x ∈ o)) := by
    refine (List.perm_ext_iff_of_nodup h.nd (List.nodup_range.sublist List.filter_sublist)).mpr fun x => ?_
    rw [List.mem_filter, List.mem_range, decide_eq_true_iff]
    exact ⟨fun hx => ⟨h.lt x hx, hx⟩, fun hx => hx.2⟩
  have hl : ((List.range m).filter fun x => decide (x ∈ o)).length = (List.range m).length := by rw [← p.length_eq, h.len, List.length_range]
  have := List.length_filter_eq_length_iff.mp hl k (List.mem_range.mpr hk)
  exact of_decide_eq_true this
/-! ### k16: rows with their columns exchanged and other numbers -/
theorem mem_colsM {m a k : Nat} (hm : m < 8) (ha : a < 2 ^ m) (hk : k < m) : k ∈ colsN a ↔ hasB a k = true := by
  rw [← cols_rangeT m hm a ha, List.mem_filter, List.mem_range]
  exact ⟨fun h => h.2, fun h => ⟨hk, h⟩⟩
theorem cols_small : ∀ m, m < 8 → ∀ a, a < 128 → (∀ c ∈ colsN a, c < m) → a < 2 ^ m := by decide +kernel
theorem turn_small {m x : Nat} {o : List Nat} (hm : m < 8) (hx : x < 2 ^ m) (h : Ord m o) : turnN x o < 2 ^ m := by
  obtain ⟨p, h128⟩ := turn_perm hm hx h
  refine cols_small m hm _ h128 fun c hc => ?_
  obtain ⟨d, hd, rfl⟩ := List.mem_map.mp (p.mem_iff.mpr hc)
  exact h.getD_lt (cols_lt hm hx d hd)
theorem turn_has {m x k : Nat} {o : List Nat} (hm : m < 8) (hx : x < 2 ^ m) (h : Ord m o) (hk : k < m) : hasB (turnN x o) (o.getD k 0) = hasB x k := by
  rw [Bool.eq_iff_iff, ← mem_colsM hm (turn_small hm hx h) (h.getD_lt hk), ← mem_colsM hm hx hk, ← (turn_perm hm hx h).1.mem_iff, List.mem_map]
  constructor
  · rintro ⟨c, hc, e⟩
    rw [← h.inj (cols_lt hm hx c hc) hk e]
    exact hc
  · intro hc
    exact ⟨k, hc, rfl⟩
theorem Ord.find {m j : Nat} {o : List Nat} (h : Ord m o) (hj : j < m) : ∃ k, k < m ∧ o.getD k 0 = j := by
  obtain ⟨k, hk, e⟩ := List.mem_iff_getElem.mp (h.has hj)
  refine ⟨k, by rw [← h.len]; exact hk, ?_⟩
  rw [List.getD_eq_getElem?_getD, List.getElem?_eq_getElem hk]
  exact e
section
variable {m : Nat} {o : List Nat}
theorem bits_ext {a b : Nat} (ha : a < 2 ^ m) (hb : b < 2 ^ m) (h : ∀ j, j < m → a.testBit j = b.testBit j) : a = b := Nat.eq_of_testBit_eq fun j => by
  by_cases hj : j < m
  · exact h j hj
  · rw [Nat.testBit_lt_two_pow (Nat.lt_of_lt_of_le ha (Nat.pow_le_pow_right (by decide) (by omega))), Nat.testBit_lt_two_pow (Nat.lt_of_lt_of_le hb (Nat.pow_le_pow_right (by decide) (by omega)))]
theorem turn_tb (hm : m < 8) (h : Ord m o) {x k : Nat} (hx : x < 2 ^ m) (hk : k < m) : (turnN x o).testBit (o.getD k 0) = x.testBit k := by
  rw [← hasB_tb, ← hasB_tb]; exact turn_has hm hx h hk
theorem turn_ext (hm : m < 8) (h : Ord m o) {a b : Nat} (ha : a < 2 ^ m) (hb : b < 2 ^ m) (e : ∀ k, k < m → b.testBit (o.getD k 0) = a.testBit k) : turnN a o = b :=
  bits_ext (turn_small hm ha h) hb fun j hj => by
    obtain ⟨k, hk, rfl⟩ := h.find hj
    rw [turn_tb hm h ha hk, e k hk]
theorem andlt {a b : Nat} (ha : a < 2 ^ m) : a &&& b < 2 ^ m := Nat.lt_of_le_of_lt Nat.and_le_left ha
theorem turn_and (hm : m < 8) (h : Ord m o) {a b : Nat} (ha : a < 2 ^ m) (hb : b < 2 ^ m) : turnN (a &&& b) o = turnN a o &&& turnN b o :=
  turn_ext hm h (andlt ha) (andlt (turn_small hm ha h)) fun k hk => by rw [Nat.testBit_and, Nat.testBit_and, turn_tb hm h ha hk, turn_tb hm h hb hk]
theorem turn_inj (hm : m < 8) (h : Ord m o) {a b : Nat} (ha : a < 2 ^ m) (hb : b < 2 ^ m) : turnN a o = turnN b o ↔ a = b := by
  constructor
  · intro e
    refine bits_ext ha hb fun k hk => ?_
    rw [← turn_tb hm h ha hk, e, turn_tb hm h hb hk]
  · rintro rfl; rfl
theorem turn_zero (hm : m < 8) (h : Ord m o) : turnN 0 o = 0 := turn_ext hm h (Nat.two_pow_pos m) (Nat.two_pow_pos m) fun k hk => by rw [Nat.zero_testBit, Nat.zero_testBit]
theorem turn_eq0 (hm : m < 8) (h : Ord m o) {a : Nat} (ha : a < 2 ^ m) : turnN a o = 0 ↔ a = 0 := by
  have := turn_inj hm h ha (Nat.two_pow_pos m)
  rw [turn_zero hm h] at this
  exact this
noncomputable def turnR (o : List Nat) (r : RD) : RD := (r.1, turnN r.2.1 o, turnN r.2.2 o)
noncomputable def RLt (m : Nat) (r : RD) : Prop := r.2.1 < 2 ^ m ∧ r.2.2 < 2 ^ m
theorem turn_us (hm : m < 8) (h : Ord m o) {r : RD} (hr : RLt m r) {b : Nat} (hb : b < 2 ^ m) : usB (turnR o r) (turnN b o) = usB r b := by
  have e1 : decide (turnN r.2.1 o &&& turnN b o = 0) = decide (r.2.1 &&& b = 0) := by
    rw [← turn_and hm h hr.1 hb, decide_eq_decide]; exact turn_eq0 hm h (andlt hr.1)
  have e2 : decide (turnN r.2.2 o &&& turnN b o = 0) = decide (r.2.2 &&& b = 0) := by
    rw [← turn_and hm h hr.2 hb, decide_eq_decide]; exact turn_eq0 hm h (andlt hr.2)
  have e3 : decide (turnN r.2.2 o &&& turnN b o = turnN b o) = decide (r.2.2 &&& b = b) := by
    rw [← turn_and hm h hr.2 hb, decide_eq_decide]; exact turn_inj hm h (andlt hr.2) hb
  show usableB r.1 (turnN r.2.1 o) (turnN r.2.2 o) (turnN b o) = usableB r.1 r.2.1 r.2.2 b
  unfold usableB
  rw [e1, e2, e3]
end
noncomputable def spBy (K : PySem.W.Frag) : Sp := fun vs H Q _ => ∃ (a m : Nat) (p : Addr) (o : List Nat), vs = [vN a, .ref p] ∧ m ≤ 7 ∧ a < 2 ^ m ∧ Ord m o ∧ SqL K H p (o.map vN) ∧ ∀ H', Same H H' → Q (vN (turnN a o)) H'
theorem by_sum {m a : Nat} {o : List Nat} (hm : m < 8) (ha : a < 2 ^ m) : (((List.range m).filter (hasB a)).map fun c => 2 ^ o.getD c 0).sum = turnN a o := by
  rw [cols_rangeT m hm a ha]
  unfold turnN sum2
  rw [List.map_map]
  rfl

/-! keys in another order -/
theorem idx_at : ∀ {o : List Nat} {c : Nat}, c ∈ o → o[o.idxOf c]? = some c
  | a :: o, c, h => by
    by_cases e : a = c
    · subst e; rw [List.idxOf_cons_self]; rfl
    · have h' : c ∈ o := (List.mem_cons.mp h).resolve_left (fun z => e z.symm)
      have e1 : (a :: o).idxOf c = o.idxOf c + 1 := by
        rw [List.idxOf_cons, show (a == c) = false from beq_false_of_ne e]; rfl
      rw [e1, List.getElem?_cons_succ]; exact idx_at h'
theorem back_ord {m : Nat} {o : List Nat} (h : Ord m o) : Ord m (backN m o) := by
  refine ⟨by unfold backN; rw [List.length_map, List.length_range], ?_, fun x hx => ?_⟩
  · refine nodup_map List.nodup_range fun a ha b hb e => ?_
    have h1 := h.has (List.mem_range.mp ha)
    have h2 := h.has (List.mem_range.mp hb)
    have e1 : o[o.idxOf a]? = some a := idx_at h1
    have e2 : o[o.idxOf b]? = some b := idx_at h2
    rw [e, e2] at e1
    exact (Option.some.inj e1).symm
  · unfold backN at hx
    obtain ⟨k, hk, rfl⟩ := List.mem_map.mp hx
    have := List.idxOf_lt_length_of_mem (h.has (List.mem_range.mp hk))
    rw [h.len] at this
    exact this
theorem get_back {m : Nat} {o : List Nat} (h : Ord m o) : ∀ c, c < m → o.getD ((backN m o).getD c 0) 0 = c := fun c hc => by
  have e : (backN m o).getD c 0 = o.idxOf c := by
    unfold backN
    rw [List.getD_eq_getElem?_getD, List.getElem?_map, List.getElem?_range hc]; rfl
  rw [e, List.getD_eq_getElem?_getD, idx_at (h.has hc)]; rfl
theorem turn_onto {m : Nat} {o : List Nat} (hm : m < 8) (h : Ord m o) {d : Nat} (hd : d < 2 ^ m) : ∃ e, e < 2 ^ m ∧ turnN e o = d :=
  ⟨turnN d (backN m o), turn_small hm hd (back_ord h), turn_back hm hd (back_ord h) (get_back h)⟩
theorem kept_turn {m : Nat} {o : List Nat} (hm : m < 8) (h : Ord m o) {rs : List RD} (hr : ∀ r ∈ rs, RLt m r) {d : Nat} (hd : d < 2 ^ m) : KeptS m (rs.map (turnR o)) (turnN d o) ↔ KeptS m rs d := by
  have z := turn_eq0 hm h hd
  unfold KeptS
  constructor
  · rintro ⟨h1, h2, h3⟩
    refine ⟨?_, hd, fun r hr' => ?_⟩
    · rcases Nat.eq_zero_or_pos d with e | e
      · rw [z.mpr e] at h1; cases h1
      · exact e
    · rw [← turn_us hm h (hr r hr') hd]
      exact h3 _ (List.mem_map.mpr ⟨r, hr', rfl⟩)
  · rintro ⟨h1, h2, h3⟩
    refine ⟨?_, turn_small hm hd h, fun r hr' => ?_⟩
    · rcases Nat.eq_zero_or_pos (turnN d o) with e | e
      · rw [z.mp e] at h1; cases h1
      · exact e
    · obtain ⟨r', h4, rfl⟩ := List.mem_map.mp hr'
      rw [turn_us hm h (hr r' h4) hd]
      exact h3 r' h4
theorem vN_insP (l : List Nat) (i x : Nat) : (l.map vN).take i ++ [vN x] ++ (l.map vN).drop i = (l.take i ++ [x] ++ l.drop i).map vN := by
  rw [List.map_append, List.map_append, List.map_take, List.map_drop]; rfl
end L2

namespace L2
open PySem PySem.Spec PyProof.Rows
/-! ### own rules, and what is gained part by part, with the columns in another order -/
section
variable {m : Nat} {o : List Nat} {rs : List RD}
theorem fix_turn (hm : m < 8) (h : Ord m o) (hr : ∀ r ∈ rs, RLt m r) {x k : Nat} (hx : x < 2 ^ m) (hk : k < m) : HasB (fixF m (rs.map (turnR o)) (turnN x o)) (o.getD k 0) ↔ HasB (fixF m rs x) k := by
  have ap : ∀ d, d < 2 ^ m → (Apart (turnN x o) (turnN d o) ↔ Apart x d) := fun d hd => by
    rw [apart_iff, apart_iff, ← turn_and hm h hd hx, turn_eq0 hm h (andlt hd)]
  have tb : ∀ d, d < 2 ^ m → (HasB (turnN d o) (o.getD k 0) ↔ HasB d k) := fun d hd => by unfold HasB; rw [turn_tb hm h hd hk]
  rw [fix_iff (turn_small hm hx h), fix_iff hx]
  constructor
  · rintro ⟨_, z⟩
    exact ⟨hk, fun d hd ha hb => z _ ((kept_turn hm h hr hd.2.1).mpr hd) ((ap d hd.2.1).mpr ha) ((tb d hd.2.1).mpr hb)⟩
  · rintro ⟨_, z⟩
    refine ⟨h.getD_lt hk, fun d' hd' ha' hb' => ?_⟩
    obtain ⟨d, hd, rfl⟩ := turn_onto hm h hd'.2.1
    exact z d ((kept_turn hm h hr hd).mp hd') ((ap d hd).mp ha') ((tb d hd).mp hb')
theorem fix_mono {x y c : Nat} (hx : x < 2 ^ m) (hy : y < 2 ^ m) (h : ∀ k, HasB x k → HasB y k) (hf : HasB (fixF m rs x) c) : HasB (fixF m rs y) c := by
  rw [fix_iff hx] at hf
  rw [fix_iff hy]
  exact ⟨hf.1, fun d hd ha => hf.2 d hd fun k hk hz => ha k hk (h k hz)⟩
structure OwnQ (m : Nat) (rs : List RD) (p x c : Nat) : Prop where
  xm : x < 2 ^ m
  xp : x &&& p = x
  cm : c < m
  cp : HasB p c
  cx : ¬ HasB x c
  fix : HasB (fixF m rs x) c
  least : ∀ k, HasB x k → ¬ HasB (fixF m rs (x - 2 ^ k)) c
theorem kept_some (m : Nat) (rs : List RD) : Kept0 m rs ((List.range (2 ^ m)).filter fun d => rs.all fun r => !usB r d) := fun d => by
  rw [List.mem_filter, List.mem_range, List.all_eq_true]
  constructor
  · rintro ⟨h1, h2⟩
    exact ⟨h1, fun r hr => by have := h2 r hr; rwa [Bool.not_eq_true'] at this⟩
  · rintro ⟨h1, h2⟩
    exact ⟨h1, fun r hr => by rw [h2 r hr]; rfl⟩
theorem own_iff {p x c : Nat} (m7 : m ≤ 7) (hp : p < 2 ^ m) : ((true, x, 2 ^ c) : RD) ∈ ownL m rs p ↔ OwnQ m rs p x c := by
  have hk := kept_some m rs
  constructor
  · intro h
    have O := own_ok hk m7 hp h
    refine ⟨O.xm, O.xp, O.cm, ?_, fun z => ?_, (fol_fix hk O.xm O.cm).mp O.fol, fun k hb z => O.least k hb ((fol_fix hk (Nat.lt_of_le_of_lt (Nat.sub_le ..) O.xm) O.cm).mpr z)⟩
    · refine Classical.byContradiction fun z => O.cp (zero_of fun k hb => ?_)
      obtain ⟨h1, h2⟩ := (hasb_and _ _ _).mp hb
      obtain rfl := (hasb_pow c k).mp h1
      exact z h2
    · have : HasB (2 ^ c &&& x) c := (hasb_and _ _ _).mpr ⟨(hasb_pow c c).mpr rfl, z⟩
      rw [O.cx] at this
      exact hasb_zero this
  · intro q
    have hh := own_all hk m7 hp q.xm q.xp q.cm q.cp q.cx ((fol_fix hk q.xm q.cm).mpr q.fix)
    obtain ⟨r, hr, e⟩ := List.any_eq_true.mp hh
    obtain ⟨y, c', rfl, _⟩ := own_mem m7 r hr
    rw [Bool.and_eq_true, decide_eq_true_iff, decide_eq_true_iff] at e
    obtain ⟨e1, e2⟩ := e
    have e1 : (2 : Nat) ^ c' = 2 ^ c := e1
    have e2 : y &&& x = y := e2
    rw [e1] at hr
    have O := own_ok hk m7 hp hr
    have sub : ∀ k, HasB y k → HasB x k := fun k hb => by
      rw [← e2] at hb
      exact ((hasb_and _ _ _).mp hb).2
    have exy : y = x := Classical.byContradiction fun ne => by
      obtain ⟨k, h1, h2⟩ : ∃ k, HasB x k ∧ ¬ HasB y k := Classical.byContradiction fun no => ne (bits_eq fun k => ⟨sub k, fun hb => Classical.byContradiction fun z => no ⟨k, hb, z⟩⟩)
      refine q.least k h1 (fix_mono O.xm (Nat.lt_of_le_of_lt (Nat.sub_le ..) q.xm) (fun j hj => (drop_bits h1 j).mpr ⟨sub j hj, fun z => h2 (z ▸ hj)⟩) ((fol_fix hk O.xm O.cm).mp O.fol))
    rw [← exy]
    exact hr
theorem turn_pow (hm : m < 8) (h : Ord m o) {c : Nat} (hc : c < m) : turnN (2 ^ c) o = 2 ^ o.getD c 0 :=
  turn_ext hm h (Nat.pow_lt_pow_right (by decide) hc) (Nat.pow_lt_pow_right (by decide) (h.getD_lt hc)) fun k hk => by
    rw [Nat.testBit_two_pow, Nat.testBit_two_pow]
    exact decide_eq_decide.mpr ⟨fun e => h.inj hc hk e, fun e => by rw [e]⟩
theorem turn_b (hm : m < 8) (h : Ord m o) {x k : Nat} (hx : x < 2 ^ m) (hk : k < m) : HasB (turnN x o) (o.getD k 0) ↔ HasB x k := by unfold HasB; rw [turn_tb hm h hx hk]
theorem turn_drop (hm : m < 8) (h : Ord m o) {x k : Nat} (hx : x < 2 ^ m) (hb : HasB x k) : turnN (x - 2 ^ k) o = turnN x o - 2 ^ o.getD k 0 := by
  have hk := hasb_lt hx hb
  have hb' := (turn_b hm h hx hk).mpr hb
  refine turn_ext hm h (Nat.lt_of_le_of_lt (Nat.sub_le ..) hx) (Nat.lt_of_le_of_lt (Nat.sub_le ..) (turn_small hm hx h)) fun j hj => ?_
  have : HasB (turnN x o - 2 ^ o.getD k 0) (o.getD j 0) ↔ HasB (x - 2 ^ k) j := by
    rw [drop_bits hb', drop_bits hb, turn_b hm h hx hj]
    exact ⟨fun z => ⟨z.1, fun e => z.2 (by rw [e])⟩, fun z => ⟨z.1, fun e => z.2 (h.inj hj hk e)⟩⟩
  exact Bool.eq_iff_iff.mpr this
theorem ownQ_turn (hm : m < 8) (h : Ord m o) (hr : ∀ r ∈ rs, RLt m r) {p x c : Nat} (hp : p < 2 ^ m) (hx : x < 2 ^ m) (hc : c < m) : OwnQ m (rs.map (turnR o)) (turnN p o) (turnN x o) (o.getD c 0) ↔ OwnQ m rs p x c := by
  have e1 : turnN x o &&& turnN p o = turnN x o ↔ x &&& p = x := by rw [← turn_and hm h hx hp, turn_inj hm h (andlt hx) hx]
  constructor
  · intro q
    refine ⟨hx, e1.mp q.xp, hc, (turn_b hm h hp hc).mp q.cp, fun z => q.cx ((turn_b hm h hx hc).mpr z), (fix_turn hm h hr hx hc).mp q.fix, fun k hb z => ?_⟩
    have hk := hasb_lt hx hb
    refine q.least (o.getD k 0) ((turn_b hm h hx hk).mpr hb) ?_
    rw [← turn_drop hm h hx hb]
    exact (fix_turn hm h hr (Nat.lt_of_le_of_lt (Nat.sub_le ..) hx) hc).mpr z
  · intro q
    refine ⟨turn_small hm hx h, e1.mpr q.xp, h.getD_lt hc, (turn_b hm h hp hc).mpr q.cp, fun z => q.cx ((turn_b hm h hx hc).mp z), (fix_turn hm h hr hx hc).mpr q.fix, fun k' hb' z => ?_⟩
    obtain ⟨k, hk, rfl⟩ := h.find (hasb_lt (turn_small hm hx h) hb')
    have hb := (turn_b hm h hx hk).mp hb'
    rw [← turn_drop hm h hx hb] at z
    exact q.least k hb ((fix_turn hm h hr (Nat.lt_of_le_of_lt (Nat.sub_le ..) hx) hc).mp z)
theorem own_turn (m7 : m ≤ 7) (h : Ord m o) (hr : ∀ r ∈ rs, RLt m r) {p : Nat} (hp : p < 2 ^ m) : ((ownL m rs p).map (turnR o)).Perm (ownL m (rs.map (turnR o)) (turnN p o)) := by
  have hm : m < 8 := by omega
  have p7 := pow7 m7
  have tp := turn_small hm hp h
  have nd1 : ((ownL m rs p).map (turnR o)).Nodup := by
    refine List.pairwise_map.mpr ((List.Pairwise.and_mem.mp (own_nd (m := m) (rs := rs) (p := p) (by omega))).imp fun {a b} ⟨ha, hb, ne⟩ e => ne ?_)
    obtain ⟨xa, ca, rfl, _⟩ := own_mem m7 a ha
    obtain ⟨xb, cb, rfl, _⟩ := own_mem m7 b hb
    have qa := (own_iff m7 hp).mp ha
    have qb := (own_iff m7 hp).mp hb
    unfold turnR at e
    have e1 : turnN xa o = turnN xb o := congrArg (fun d : RD => d.2.1) e
    have e2 : turnN (2 ^ ca) o = turnN (2 ^ cb) o := congrArg (fun d : RD => d.2.2) e
    rw [(turn_inj hm h qa.xm qb.xm).mp e1, (turn_inj hm h (Nat.pow_lt_pow_right (by decide) qa.cm) (Nat.pow_lt_pow_right (by decide) qb.cm)).mp e2]
  refine (List.perm_ext_iff_of_nodup nd1 (own_nd (by omega))).mpr fun d => ?_
  rw [List.mem_map]
  constructor
  · rintro ⟨r, hr', rfl⟩
    obtain ⟨x, c, rfl, _⟩ := own_mem m7 r hr'
    have q := (own_iff m7 hp).mp hr'
    show (true, turnN x o, turnN (2 ^ c) o) ∈ _
    rw [turn_pow hm h q.cm]
    exact (own_iff m7 tp).mpr ((ownQ_turn hm h hr hp q.xm q.cm).mpr q)
  · intro hd
    obtain ⟨x', c', rfl, _⟩ := own_mem m7 d hd
    have q' := (own_iff m7 tp).mp hd
    obtain ⟨x, hx, rfl⟩ := turn_onto hm h q'.xm
    obtain ⟨c, hc, rfl⟩ := h.find q'.cm
    have q := (ownQ_turn hm h hr hp hx hc).mp q'
    refine ⟨(true, x, 2 ^ c), (own_iff m7 hp).mpr q, ?_⟩
    show (true, turnN x o, turnN (2 ^ c) o) = _
    rw [turn_pow hm h hc]
/-! what is gained, as a closure -/
noncomputable def cloN (m : Nat) (rs : List RD) (ps : List Nat) (x : Nat) : Nat := (runG m rs ps 128 x).2
noncomputable def ShutP (m : Nat) (rs : List RD) (ps : List Nat) (z : Nat) : Prop := ∀ p ∈ ps, gainN m rs z p = 0
theorem clo_shut {ps : List Nat} {x : Nat} (m7 : m ≤ 7) (hx : x < 2 ^ m) : cloN m rs ps x < 2 ^ m ∧ ShutP m rs ps (cloN m rs ps x) ∧ ∀ k, HasB x k → HasB (cloN m rs ps x) k := by
  have p7 := pow7 m7
  obtain ⟨h1, h2⟩ := runG_end (rs := rs) (ps := ps) 128 x hx (by omega)
  exact ⟨h1, stepG_off h2, (runG_gl (m := m) (rs := rs) (ps := ps) 128 x).sub⟩
theorem gl_least {ps : List Nat} {w : Nat} (hw : w < 2 ^ m) (sh : ShutP m rs ps w) {z z' : Nat} {l : List (Nat × Nat)} (G : GL m rs ps z l z') : z < 2 ^ m → (∀ k, HasB z k → HasB w k) → ∀ k, HasB z' k → HasB w k := by
  induction G with
  | nil => exact fun _ h => h
  | cons hs _ ih =>
    rename_i z z' u l
    intro hz h
    obtain ⟨_, hlt⟩ := step_up hz hs
    refine ih hlt fun k hb => ?_
    rcases (hasb_or _ _ _).mp hb with hb | hb
    · exact h k hb
    · obtain ⟨p, hp, e, _⟩ := stepG_some hs
      rw [e, gain_bits] at hb
      obtain ⟨b1, b2, _⟩ := hb
      refine Classical.byContradiction fun z0 => ?_
      have : HasB (gainN m rs w p) k := (gain_bits k).mpr ⟨fix_mono (andlt hz) (andlt hw) (fun j hj => (hasb_and _ _ _).mpr ⟨h j ((hasb_and _ _ _).mp hj).1, ((hasb_and _ _ _).mp hj).2⟩) b1, b2, z0⟩
      rw [sh p (List.mem_of_getElem? hp)] at this
      exact hasb_zero this
theorem clo_least {ps : List Nat} {x w : Nat} (hx : x < 2 ^ m) (hw : w < 2 ^ m) (sh : ShutP m rs ps w) (h : ∀ k, HasB x k → HasB w k) : ∀ k, HasB (cloN m rs ps x) k → HasB w k :=
  gl_least hw sh (runG_gl (m := m) (rs := rs) (ps := ps) 128 x) hx h
theorem clo_same {ps qs : List Nat} {x : Nat} (m7 : m ≤ 7) (hx : x < 2 ^ m) (e : ∀ p, p ∈ ps ↔ p ∈ qs) : cloN m rs ps x = cloN m rs qs x := by
  obtain ⟨a1, a2, a3⟩ := clo_shut (rs := rs) (ps := ps) m7 hx
  obtain ⟨b1, b2, b3⟩ := clo_shut (rs := rs) (ps := qs) m7 hx
  exact bits_eq fun k => ⟨clo_least hx b1 (fun p hp => b2 p ((e p).mp hp)) b3 k, clo_least hx a1 (fun p hp => a2 p ((e p).mpr hp)) a3 k⟩
theorem gain_turn (hm : m < 8) (h : Ord m o) (hr : ∀ r ∈ rs, RLt m r) {z p : Nat} (hz : z < 2 ^ m) (hp : p < 2 ^ m) : gainN m (rs.map (turnR o)) (turnN z o) (turnN p o) = 0 ↔ gainN m rs z p = 0 := by
  have b : ∀ k, k < m → (HasB (gainN m (rs.map (turnR o)) (turnN z o) (turnN p o)) (o.getD k 0) ↔ HasB (gainN m rs z p) k) := fun k hk => by
    rw [gain_bits, gain_bits, ← turn_and hm h hz hp, fix_turn hm h hr (andlt hz) hk, turn_b hm h hp hk, turn_b hm h hz hk]
  constructor
  · intro e
    refine zero_of fun k hb => ?_
    have := (b k (hasb_lt (gain_lt m rs z p) hb)).mpr hb
    rw [e] at this
    exact hasb_zero this
  · intro e
    refine zero_of fun k' hb => ?_
    obtain ⟨k, hk, rfl⟩ := h.find (hasb_lt (gain_lt _ _ _ _) hb)
    have := (b k hk).mp hb
    rw [e] at this
    exact hasb_zero this
theorem clo_turn (m7 : m ≤ 7) (h : Ord m o) (hr : ∀ r ∈ rs, RLt m r) {ps : List Nat} (hin : InM m ps) {x : Nat} (hx : x < 2 ^ m) : cloN m (rs.map (turnR o)) (ps.map fun p => turnN p o) (turnN x o) = turnN (cloN m rs ps x) o := by
  have hm : m < 8 := by omega
  have tx := turn_small hm hx h
  obtain ⟨a1, a2, a3⟩ := clo_shut (rs := rs) (ps := ps) m7 hx
  obtain ⟨b1, b2, b3⟩ := clo_shut (rs := rs.map (turnR o)) (ps := ps.map fun p => turnN p o) m7 tx
  have sub : ∀ {a b : Nat}, a < 2 ^ m → b < 2 ^ m → (∀ k, HasB a k → HasB b k) → ∀ k, HasB (turnN a o) k → HasB (turnN b o) k := fun {a b} ha hb z k' hk' => by
    obtain ⟨k, hk, rfl⟩ := h.find (hasb_lt (turn_small hm ha h) hk')
    exact (turn_b hm h hb hk).mpr (z k ((turn_b hm h ha hk).mp hk'))
  obtain ⟨e, he, ee⟩ := turn_onto hm h b1
  refine bits_eq fun k => ⟨clo_least tx (turn_small hm a1 h) (fun q hq => ?_) (sub hx a1 a3) k, ?_⟩
  · obtain ⟨p, hp, rfl⟩ := List.mem_map.mp hq
    exact (gain_turn hm h hr a1 (hin p hp)).mpr (a2 p hp)
  · rw [← ee]
    refine sub a1 he (clo_least hx he (fun p hp => ?_) fun j hj => ?_) k
    · have := b2 _ (List.mem_map.mpr ⟨p, hp, rfl⟩)
      rw [← ee] at this
      exact (gain_turn hm h hr he (hin p hp)).mp this
    · have hjm := hasb_lt hx hj
      have := b3 _ ((turn_b hm h hx hjm).mpr hj)
      rw [← ee] at this
      exact (turn_b hm h he hjm).mp this
end
/-! two sorted lists of the same rules -/
theorem words_same {a b : List Rl} (ha : ST.RUp (a.map rw2)) (hb : ST.RUp (b.map rw2)) (ta : ∀ r ∈ a, r.st = true) (tb : ∀ r ∈ b, r.st = true) (pr : (a.map Rl.d).Perm (b.map Rl.d)) : a.map Rl.d = b.map Rl.d := by
  have go : ∀ {l : List Rl}, ST.RUp (l.map rw2) → (∀ r ∈ l, r.st = true) → (l.map Rl.d).Pairwise fun x y => x.1 = true ∧ y.1 = true ∧ ST.lexB [(y.2.1 : Int), (y.2.2 : Int)] [(x.2.1 : Int), (x.2.2 : Int)] = false := fun {l} h t => by
    unfold ST.RUp at h
    rw [List.pairwise_map] at h ⊢
    exact (List.Pairwise.and_mem.mp h).imp fun {x y} ⟨hx, hy, z⟩ => ⟨t x hx, t y hy, z⟩
  refine List.Perm.eq_of_pairwise (fun x y _ _ h1 h2 => ?_) (go ha ta) (go hb tb) pr
  have := ST.lex_total (by rfl) h2.2.2 h1.2.2
  injection this with e1 e2
  injection e2 with e2 _
  obtain ⟨x1, x2, x3⟩ := x
  obtain ⟨y1, y2, y3⟩ := y
  obtain ⟨t1, t2, _⟩ := h1
  have e1 : (x2 : Int) = y2 := e1
  have e2 : (x3 : Int) = y3 := e2
  have t1 : x1 = true := t1
  have t2 : y1 = true := t2
  rw [t1, t2, show x2 = y2 by omega, show x3 = y3 by omega]
end L2
namespace L2
open PySem PySem.Spec PyProof.Rows
noncomputable def spOrdQ (K : PySem.W.Frag) : Sp := fun vs H Q _ => ∃ (st : Addr) (ns : List Int) (k m : Nat), vs = [.ref st, vN m] ∧ STF K H st ns k ∧ k ≤ 10000 ∧ ns.length ≤ 63 ∧ m ≤ 7 ∧
  ∀ (p : Addr) (o : List Nat) (k' : Nat) (H' : Hp), Ord m o → H p = none → H' p = some (.lst (o.map vN)) → STF K H' st ns k' → But st H H' → p ≠ st → k' ≤ k + m → Q (.ref p) H'
noncomputable def spPutRs (K : PySem.W.Frag) : Sp := fun vs H Q _ => ∃ (m : Nat) (rl op : Addr) (rs : List Rl) (o : List Nat), vs = [.ref rl, .ref op] ∧ m ≤ 7 ∧ SqL K H rl (rs.map fun r => V.ref r.r) ∧ RulesAt H m rs ∧ rs.length ≤ 1000 ∧ Ord m o ∧ SqL K H op (o.map vN) ∧
  ∀ (ol : Addr) (os : List Rl) (H' : Hp), Same H H' → H ol = none → H' ol = some (.lst (os.map fun r => V.ref r.r)) → RulesAt H' m os → os.map Rl.d = (rs.map Rl.d).map (turnR o) → Q (.ref ol) H'
noncomputable def WordV (H : Hp) (y z : Nat) (t : Addr) : Prop := (y &&& z = y ∧ H t = some (.tup [.str "yes", .non])) ∨ (y &&& z ≠ y ∧ H t = some (.tup [.str "no", vN z]))
theorem WordV.same {H H' : Hp} {y z : Nat} {t : Addr} (h : WordV H y z t) (e : Same H H') : WordV H' y z t := by
  rcases h with ⟨h1, h2⟩ | ⟨h1, h2⟩
  · exact .inl ⟨h1, e _ _ h2⟩
  · exact .inr ⟨h1, e _ _ h2⟩
noncomputable def spWordG (K : PySem.W.Frag) : Sp := fun vs H Q _ => ∃ (t : Addr) (y : Nat) (R : List (Nat × Nat) × Nat), vs = [.ref t] ∧ GainV H y R t ∧ ∀ (t' : Addr) (H' : Hp), Same H H' → WordV H' y R.2 t' → Q (.ref t') H'
theorem own_st {m p : Nat} {rs : List RD} (m7 : m ≤ 7) {fs : List Rl} (e : fs.map Rl.d = ownL m rs p) : ∀ r ∈ fs, r.st = true := fun r hr => by
  obtain ⟨x, c, e', _⟩ := own_mem m7 r.d (by rw [← e]; exact List.mem_map.mpr ⟨r, hr, rfl⟩)
  exact congrArg (fun d : RD => d.1) e'
theorem turn_st {o : List Nat} {fs gs : List Rl} (h : ∀ r ∈ fs, r.st = true) (e : gs.map Rl.d = (fs.map Rl.d).map (turnR o)) : ∀ r ∈ gs, r.st = true := fun r hr => by
  have h1 : r.d ∈ (fs.map Rl.d).map (turnR o) := by rw [← e]; exact List.mem_map.mpr ⟨r, hr, rfl⟩
  obtain ⟨d, hd, ed⟩ := List.mem_map.mp h1
  obtain ⟨f, hf, rfl⟩ := List.mem_map.mp hd
  have h2 : (turnR o f.d).1 = r.d.1 := congrArg (fun d : RD => d.1) ed
  have h3 : (turnR o f.d).1 = f.st := rfl
  have h4 : r.d.1 = r.st := rfl
  rw [← h4, ← h2, h3]
  exact h f hf
theorem st_at {H : Hp} {m : Nat} {fs : List Rl} (h : RulesAt H m fs) (t : ∀ r ∈ fs, r.st = true) : ∀ r ∈ fs, RuleAt H r.r true r.x r.y := fun r hr => by
  have := (h r hr).1
  rw [t r hr] at this
  exact this
theorem yes_eq : same (.tuple [.str "yes", .none]) (.tuple [.str "yes", .none]) = true ∧ SeqAt.noMix (.tuple [.str "yes", .none]) (.tuple [.str "yes", .none]) = true ∧ SeqAt.shaped (.tuple [.str "yes", .none]) = true := by
  refine ⟨by simp [same, sameAll], by simp [SeqAt.noMix, SeqAt.noMixAll], by decide +kernel⟩
theorem no_eq (z : Int) : same (.tuple [.str "no", .int z]) (.tuple [.str "no", .int z]) = true ∧ SeqAt.noMix (.tuple [.str "no", .int z]) (.tuple [.str "no", .int z]) = true ∧ SeqAt.shaped (.tuple [.str "no", .int z]) = true := by
  refine ⟨by simp [same, sameAll], by simp [SeqAt.noMix, SeqAt.noMixAll], ?_⟩
  simp [SeqAt.shaped, PyData.canLay0, PyData.canLayAll0, PyData.depth, PyData.depthAll]
  decide +kernel
end L2

namespace Own
open PySem L2
noncomputable def top (i : Nat) : Stmt := PySem.Challenge.pw_splithouse_k78_whole_columns_exchanged.main.body.getD i (.Pass ⟨0, 0, 0, 0⟩)
section
variable {P : Program} {w : World} {K : PySem.W.Frag} {mg : Str → Option Value} {base : Heap}
seal PySem.wpAny
noncomputable abbrev sHas : Stmt := top 1
theorem scHas : FnScope ["some", "column"] ["some", "column"] (defScope sHas) := ⟨rfl, rfl, rfl, by decide +kernel, rfl, by decide +kernel, by decide +kernel⟩
theorem ok_has {f : Addr} {fd : FuncData} (F : Fun K "has_column" "has_column" sHas f fd) : FnOk P w K mg base CX0 1 f fd ["some", "column"] spHas := by
  refine F.ok scHas (fun vs H Q E h => ?_) (fun cdv A outer s H vs Q E hr h => ?_)
  · obtain ⟨a, k, rfl, _⟩ := h
    rfl
  · obtain ⟨a, k, rfl, q⟩ := h
    refine ⟨_, pss_one (ps_ret (pe_cmpR op_eq (pe_op op_and (pe_op op_shr (pv 0) (pv 1)) pe_int) pe_int (nomark _))), ?_⟩
    refine ⟨_, rfl, _, rfl, _, _, rfl, rfl, (by omega), _, _, rfl, rfl, rfl, ?_⟩
    show Q (V.bl (decide (V.int (Builtin.bitAnd ((a : Int) / 2 ^ (k : Int).toNat) 1) = V.int 1))) H
    rw [has_eq]
    exact q
noncomputable abbrev sCols : Stmt := top 2
theorem scCols : FnScope ["some"] ["some"] (defScope sCols) := ⟨rfl, rfl, rfl, by decide +kernel, rfl, by decide +kernel, by decide +kernel⟩
theorem ok_cols {f fH : Addr} {fd fdH : FuncData} (F : Fun K "columns_of" "columns_of" sCols f fd) (GH : FnOk P w K mg base CX0 1 fH fdH ["some", "column"] spHas) (mH : mg "has_column" = some (.ref fH)) (kH : PySem.W.keepIn K (.ref fH) = true) (bH : Binds K fdH ["some", "column"] []) (zR : mg "range" = none) : FnOk P w K mg base CX0 2 f fd ["some"] spCols := by
  refine F.ok scCols (fun vs H Q E h => ?_) (fun cdv A outer s H vs Q E hr h => ?_)
  · obtain ⟨a, rfl, _⟩ := h
    rfl
  · obtain ⟨a, rfl, ha, q⟩ := h
    refine ⟨_, pss_one (ps_ret (pe_comp (xs := ["column"]) (cs ["some"] (defScope sCols) rfl rfl (by decide +kernel)) rfl (pi_range1 rfl zR (pa_cons (pe_bm0 PySem.F.plainAttrs_int PySem.F.slot_int_bit_length PySem.F.type_int_bit_length mt_bitlen (pv 0)) pa_nil))
      (fun _ _ _ => pg_name (i := 0) (show (["column", "some"] : List Str).Nodup by decide +kernel) rfl (Or.inl rfl)) (fun _ _ _ => pts_one (pt_val (pe_call GH hr rfl mH kH bH .nil pass0 (pa_cons (pv 1) (pa_cons (pv 0) pa_nil))))) (fun _ _ _ => pv 0))), ?_⟩
    refine ⟨_, rfl, rfl, (a : Int), rfl, rfl, _, rfl, (by omega), ?_, ?_⟩
    · have := bitsN_le ha
      show ((bitsN a : Nat) : Int) < _
      omega
    · refine lc_range (lo := 0) (k := ((bitsN a : Nat) : Int).toNat) (n := 1) (fun i acc H' => H' = H ∧ acc = ((List.range i).filter (hasB a)).map vN) ?_ ⟨rfl, rfl⟩ (fun i acc H' hi h => ?_) (fun i acc H' hi h => ?_) (fun acc H' h => ?_)
      · have := bitsN_le ha
        omega
      · rw [h.2, List.length_map]
        exact Nat.le_trans (List.length_filter_le _ _) (by simp)
      · obtain ⟨rfl, rfl⟩ := h
        refine ⟨rfl, _, rfl, _, rfl, a, i, ?_, _, rfl, ?_⟩
        · show [vN a, V.int (0 + (i : Int))] = _
          rw [Int.zero_add]; rfl
        · refine ite2 (fun hc => ?_) (fun hc => ?_)
          · refine ⟨_, rfl, rfl, ?_⟩
            rw [filt_succ, if_pos hc, List.map_append, Int.zero_add]
            rfl
          · refine ⟨rfl, ?_⟩
            rw [filt_succ, if_neg hc, List.append_nil]
      · obtain ⟨rfl, rfl⟩ := h
        intro p hp
        exact q p hp
noncomputable abbrev sAll : Stmt := top 3
theorem scAll : FnScope ["many"] ["many"] (defScope sAll) := ⟨rfl, rfl, rfl, by decide +kernel, rfl, by decide +kernel, by decide +kernel⟩
theorem ok_all {f : Addr} {fd : FuncData} (F : Fun K "all_of" "all_of" sAll f fd) : FnOk P w K mg base CX0 1 f fd ["many"] spAllOf := by
  refine F.ok scAll (fun vs H Q E h => ?_) (fun cdv A outer s H vs Q E hr h => ?_)
  · obtain ⟨m, rfl, _⟩ := h
    rfl
  · obtain ⟨m, rfl, hm, q⟩ := h
    refine ⟨_, pss_one (ps_ret (pe_op op_sub (pe_op op_shl pe_int (pv 0)) pe_int)), ?_⟩
    refine ⟨_, rfl, _, _, rfl, rfl, cpow1 hm, _, _, rfl, rfl, ?_⟩
    show Q (V.int (1 * 2 ^ (m : Int).toNat - 1)) H
    have pw : 0 < 2 ^ m := Nat.two_pow_pos m
    have e : (1 : Int) * 2 ^ (m : Int).toNat - 1 = ((2 ^ m - 1 : Nat) : Int) := by rw [shl1]; omega
    rw [e]
    exact q
noncomputable abbrev sWithin : Stmt := top 4
noncomputable def spWithin : Sp := fun vs H Q _ => ∃ a b : Nat, vs = [.int (a : Int), .int (b : Int)] ∧ Q (.bl (decide (a &&& b = a))) H
theorem scWithin : FnScope ["one", "other"] ["one", "other"] (defScope sWithin) := ⟨rfl, rfl, rfl, by decide +kernel, rfl, by decide +kernel, by decide +kernel⟩
theorem ok_within {f : Addr} {fd : FuncData} (F : Fun K "is_within" "is_within" sWithin f fd) : FnOk P w K mg base CX0 1 f fd ["one", "other"] spWithin := by
  refine F.ok scWithin (fun vs H Q E h => ?_) (fun cdv A outer s H vs Q E hr h => ?_)
  · obtain ⟨a, b, rfl, _⟩ := h
    rfl
  · obtain ⟨a, b, rfl, q⟩ := h
    refine ⟨_, pss_one (ps_ret (pe_cmpR op_eq (pe_op op_and (pv 0) (pv 1)) (pv 0) (nomark _))), ?_⟩
    refine ⟨_, rfl, _, rfl, _, _, rfl, rfl, _, rfl, rfl, ?_⟩
    show Q (V.bl (decide (V.int (Builtin.bitAnd (a : Int) (b : Int)) = V.int (a : Int)))) H
    rw [bitAnd_nat, dec_int]
    have e : (((a &&& b : Nat) : Int) == (a : Int)) = decide (a &&& b = a) := by
      rw [Bool.eq_iff_iff, beq_iff_eq, decide_eq_true_iff]
      exact Int.ofNat_inj
    rw [e]
    exact q
noncomputable abbrev sMore : Stmt := top 5
theorem scMore : FnScope ["sets", "some", "found", "inner"] ["sets", "some"] (defScope sMore) := ⟨rfl, rfl, rfl, by decide +kernel, rfl, by decide +kernel, by decide +kernel⟩
theorem ok_more {f fC : Addr} {fd fdC : FuncData} (F : Fun K "with_one_more" "with_one_more" sMore f fd) (GC : FnOk P w K mg base CX0 2 fC fdC ["some"] spCols) (mC : mg "columns_of" = some (.ref fC)) (kC : PySem.W.keepIn K (.ref fC) = true) (bC : Binds K fdC ["some"] []) (zsorted : mg "sorted" = none) : FnOk P w K mg base CX0 3 f fd ["sets", "some"] spOneUp := by
  refine F.ok scMore (fun vs H Q E h => ?_) (fun cdv A outer s H vs Q E hr h => ?_)
  · obtain ⟨p, a, i, rfl, _⟩ := h
    rfl
  · obtain ⟨p, a, i, rfl, ha, hi, hp, q⟩ := h
    have nd := scMore.nd
    have hr2 : Room 2 _ := hr.mono (by decide)
    obtain ⟨c7, cb⟩ := cols7 a ha
    have lr := row_len a ha i (by omega)
    refine ⟨_, (pss_cons (ps_set (i := 2) nd rfl (Or.inl rfl) (pe_lst pa_nil))
      (pss_cons (ps_for PassesOwn.never rfl (pi_listK (K := K) rfl (pv 0)) (pg_name (i := 3) nd rfl (Or.inr rfl)) (pss_one (ps_expr (pe_bm PySem.F.plainAttrs_list PySem.F.slot_list_extend PySem.F.type_list_extend mt_extend (pv 2) (pa_cons (pe_comp (xs := ["column"]) (cs ["sets", "some", "found", "inner"] (defScope sMore) rfl rfl (by decide +kernel)) rfl (pi_listK (K := K) rfl (pe_call GC hr2 rfl mC kC bC .nil pass0 (pa_cons (pv 1) pa_nil))) (fun _ _ _ => pg_name (i := 0) (show (["column", "sets", "some", "found", "inner"] : List Str).Nodup by decide +kernel) rfl (Or.inl rfl)) (fun _ _ _ => (pts_one (pt_cmpR op_gtN (pe_op op_shl1 pe_int (pv 0)) (pv 4) (nomark _)))) (fun _ _ _ => (pe_op op_orN (pv 4) (pe_op op_shl1 pe_int (pv 0))))) pa_nil)))))
      (pss_one (ps_ret (pe_callB (call_sortedK (K := K) rfl) (by rfl) zsorted PyProof.Rows.boot_sorted (pa_cons (pv 2) pa_nil)))))), ?_⟩
    refine ⟨Nat.zero_le _, fun fp hfp => ?_⟩
    have s0 := Same.new (o := .lst []) hfp
    refine ⟨_, rfl, p, rfl, ⟨_, SqL.of (s0 _ _ hp)⟩, for_list (K := K) (xs := (rowN a i).map vN) (fun j σ H' => (∃ v3 : Option V, σ = [some (.ref p), some (vN a), some (.ref fp), v3]) ∧ Same H H' ∧ H' fp = some (.lst ((moreN a ((rowN a i).take j)).map vN))) ⟨⟨_, rfl⟩, s0, upd_same⟩ (fun j σ H' _ h => SqL.of (h.2.1 _ _ hp)) ?_ ?_⟩
    · rintro j v σ H1 hv ⟨⟨v3, rfl⟩, s1, hf1⟩
      rw [List.getElem?_map] at hv
      cases ex : (rowN a i)[j]? with
      | none => rw [ex] at hv; cases hv
      | some x =>
        rw [ex] at hv
        obtain rfl := (Option.some.inj hv).symm
        refine ⟨_, rfl, .inl ⟨rfl, _, SqL.of hf1⟩, _, rfl, a, rfl, by omega, fun cp hcp => ⟨cp, rfl, ⟨_, SqL.of upd_same⟩, ?_⟩⟩
        have sC := Same.new (o := .lst ((colsN a).map vN)) hcp
        have hcp2 : (upd H1 cp (.lst ((colsN a).map vN))) cp = some (.lst ((colsN a).map vN)) := upd_same
        generalize upd H1 cp (.lst ((colsN a).map vN)) = H2 at sC hcp2
        refine lc_list (K := K) (xs := (colsN a).map vN) (fun k acc H3 => H3 = H2 ∧ acc = ((((colsN a).take k).filter fun c => decide (x < 2 ^ c)).map fun c => x ||| 2 ^ c).map vN) (by rw [List.length_map]; omega) ⟨rfl, rfl⟩ (fun k acc H3 hk h => ?_) (fun k u acc H3 hu h => ?_) (fun acc H3 h => ?_)
        · obtain ⟨rfl, rfl⟩ := h
          exact ⟨SqL.of hcp2, by rw [List.length_map, List.length_map]; exact Nat.le_trans (List.length_filter_le _ _) (List.length_take_le _ _)⟩
        · obtain ⟨rfl, rfl⟩ := h
          rw [List.getElem?_map] at hu
          cases ec : (colsN a)[k]? with
          | none => rw [ec] at hu; cases hu
          | some c =>
            rw [ec] at hu
            obtain rfl := (Option.some.inj hu).symm
            have c1 : c < 7 := of_decide_eq_true (List.all_eq_true.mp cb c (List.mem_of_getElem? ec))
            have et : ((colsN a).take (k + 1)).filter (fun c => decide (x < 2 ^ c)) = ((colsN a).take k).filter (fun c => decide (x < 2 ^ c)) ++ [c].filter (fun c => decide (x < 2 ^ c)) := by rw [List.take_succ, ec, ← List.filter_append]; rfl
            refine ⟨rfl, _, rfl, c, rfl, rfl, by omega, _, rfl, 2 ^ c, x, rfl, rfl, _, rfl, ite2 (fun hb => ?_) (fun hb => ?_)⟩
            · refine ⟨_, rfl, _, rfl, c, rfl, rfl, by omega, x, 2 ^ c, rfl, rfl, rfl, ?_⟩
              rw [et, List.filter_cons_of_pos (p := fun c => decide (x < 2 ^ c)) hb, List.map_append, List.map_append]; rfl
            · refine ⟨rfl, ?_⟩
              rw [et, List.filter_cons_of_neg (p := fun c => decide (x < 2 ^ c)) hb, List.filter_nil, List.append_nil]
        · obtain ⟨rfl, rfl⟩ := h
          rw [List.length_map, List.take_length]
          intro ep hep
          have sE := Same.new (o := .lst (((((colsN a).filter fun c => decide (x < 2 ^ c)).map fun c => x ||| 2 ^ c)).map vN)) hep
          have hf3 := (sC.trans sE) _ _ hf1
          have lm := moreN_len a ha ((rowN a i).take j)
          have lt : ((rowN a i).take j).length ≤ (rowN a i).length := List.length_take_le' j _
          have lu := upOf_len a x ha
          refine ⟨fp, ep, _, _, rfl, rfl, hf3, upd_same, Nat.le_of_lt (small1000 ?_), ?_⟩
          · rw [List.length_map, List.length_map]
            have : (((colsN a).filter fun c => decide (x < 2 ^ c)).map fun c => x ||| 2 ^ c).length ≤ 7 := lu
            omega
          · refine ⟨⟨_, rfl⟩, (s1.trans (sC.trans sE)).own3 hfp, ?_⟩
            rw [upd_same, moreN_succ ex, List.map_append]
            rfl
    · rintro σ H1 ⟨⟨v3, rfl⟩, s1, hf1⟩
      rw [List.length_map, List.take_length] at hf1
      have mi := map_int (moreN a (rowN a i))
      have l64 : ((moreN a (rowN a i)).map fun (k : Nat) => (k : Int)).length < 64 := by
        rw [List.length_map, (List.isPerm_iff.mp (more_perm a ha i hi)).length_eq]
        have := row_len a ha (i + 1) (by omega)
        omega
      refine ⟨_, rfl, fp, (moreN a (rowN a i)).map fun (k : Nat) => (k : Int), rfl, SqL.of (by rw [mi]; exact hf1), l64, fun l ns' hl pm pw => ?_⟩
      rw [row_is ha hi pm pw, map_int]
      exact q l _ (s1.trans (Same.new hl)) (s1.free hl) upd_same
noncomputable abbrev sSetsW : Stmt := top 6
theorem scSetsW : FnScope ["some", "found", "level"] ["some"] (defScope sSetsW) := ⟨rfl, rfl, rfl, by decide +kernel, rfl, by decide +kernel, by decide +kernel⟩
theorem ok_setsw {f fMO : Addr} {fd fdMO : FuncData} (F : Fun K "sets_within" "sets_within" sSetsW f fd) (GMO : FnOk P w K mg base CX0 3 fMO fdMO ["sets", "some"] spOneUp) (mMO : mg "with_one_more" = some (.ref fMO)) (kMO : PySem.W.keepIn K (.ref fMO) = true) (bMO : Binds K fdMO ["sets", "some"] []) : FnOk P w K mg base CX0 7 f fd ["some"] spSetsW := by
  refine F.ok scSetsW (fun vs H Q E h => ?_) (fun cdv A outer s H vs Q E hr h => ?_)
  · obtain ⟨a, rfl, _⟩ := h
    rfl
  · obtain ⟨a, rfl, ha, q⟩ := h
    have nd := scSetsW.nd
    have hr3 : Room 3 _ := hr.mono (by decide)
    refine ⟨_, (pss_cons (ps_set (i := 1) nd rfl (Or.inl rfl) (pe_lst pa_nil))
      (pss_cons (ps_set (i := 2) nd rfl (Or.inl rfl) (pe_lst (pa_cons pe_int pa_nil)))
      (pss_cons (ps_while PassesOwn.never (pt_cmpR (op_neLK (K := K) rfl hr.units) (pv 2) (pe_lst pa_nil) (nomark _)) (pss_cons (ps_expr (pe_bm PySem.F.plainAttrs_list PySem.F.slot_list_extend PySem.F.type_list_extend mt_extend (pv 1) (pa_cons (pv 2) pa_nil)))
      (pss_one (ps_set (i := 2) nd rfl (Or.inl rfl) (pe_call GMO hr3 rfl mMO kMO bMO .nil pass0 (pa_cons (pv 2) (pa_cons (pv 0) pa_nil)))))))
      (pss_one (ps_ret (pv 1)))))), ?_⟩
    refine ⟨Nat.zero_le _, fun p hp => ?_⟩
    have s0 := Same.new (o := .lst []) hp
    refine ⟨(by show 1 ≤ sizeLine; decide), fun l0 hl0 => ?_⟩
    have s1 := Same.new (o := .lst [V.int 0]) hl0
    have hp1 : (upd (upd H p (.lst [])) l0 (.lst [V.int 0])) p = some (.lst []) := s1 _ _ upd_same
    have hl1 : (upd (upd H p (.lst [])) l0 (.lst [V.int 0])) l0 = some (.lst ((rowN a 0).map vN)) := by rw [upd_same, row_zero a ha]; rfl
    have n1 : p ≠ l0 := ne_of_none (show (upd H p (.lst [])) p = _ from upd_same) hl0
    refine ⟨fun n σ H' => ∃ (i : Nat) (lp : Addr), σ = [some (vN a), some (.ref p), some (.ref lp)] ∧ n = 8 - i ∧ i ≤ 8 ∧ Same H H' ∧ p ≠ lp ∧ H' p = some (.lst ((dueM a i).map vN)) ∧ H' lp = some (.lst ((rowN a i).map vN)), ⟨_, 0, l0, rfl, rfl, by omega, s0.trans s1, n1, hp1, hl1⟩, ?_⟩
    rintro n _ H1 ⟨i, lp, rfl, en, hi, s2, nn, hp2, hl2⟩
    have mi := map_int (rowN a i)
    refine ⟨_, rfl, Nat.zero_le _, fun np hnp => ?_⟩
    have sN := Same.new (o := .lst []) hnp
    refine ⟨lp, np, (rowN a i).map fun (k : Nat) => (k : Int), [], rfl, rfl, SqL.of (by rw [mi]; exact sN _ _ hl2), SqL.of upd_same, _, rfl, ?_⟩
    have hp3 := sN _ _ hp2
    have hl3 := sN _ _ hl2
    have s3 := s2.trans sN
    generalize upd H1 np (.lst []) = H3 at hp3 hl3 s3
    rw [if_pos rfl]
    refine ite2 (fun hb => ?_) (fun hb => ?_)
    · have hne : rowN a i ≠ [] := fun z => by
        rw [z] at hb
        cases hb
      have hi8 : i < 8 := by
        rcases Nat.lt_or_ge i 8 with h | h
        · exact h
        · have : i = 8 := by omega
          rw [this, row_last a ha] at hne
          exact absurd rfl hne
      have ld := dueM_len a i ha (by omega)
      have lr := row_len a ha i (by omega)
      refine ⟨_, fun _ _ h => h, ?_⟩
      refine ⟨_, rfl, .inl ⟨rfl, _, SqL.of hp3⟩, _, rfl, p, lp, _, _, rfl, rfl, hp3, hl3, Nat.le_of_lt (small1000 (by rw [List.length_map, List.length_map]; omega)), ?_⟩
      have hl4 : (upd H3 p (.lst ((dueM a i).map vN ++ (rowN a i).map vN))) lp = some (.lst ((rowN a i).map vN)) := by rw [upd_ne nn.symm]; exact hl3
      have hp4 : (upd H3 p (.lst ((dueM a i).map vN ++ (rowN a i).map vN))) p = some (.lst ((dueM a (i + 1)).map vN)) := by rw [upd_same, dueM_succ, List.map_append]
      have s4 : Same H (upd H3 p (.lst ((dueM a i).map vN ++ (rowN a i).map vN))) := s3.own3 hp
      generalize upd H3 p (.lst ((dueM a i).map vN ++ (rowN a i).map vN)) = H4 at hl4 hp4 s4
      refine ⟨_, rfl, _, rfl, lp, a, i, rfl, ha, hi8, hl4, fun l H5 s5 hl50 hl5 => ?_⟩
      exact ⟨8 - (i + 1), by omega, i + 1, l, rfl, rfl, by omega, s4.trans s5, ne_of_none hp4 hl50, s5 _ _ hp4, hl5⟩
    · have hz : rowN a i = [] := by
        cases z : rowN a i with
        | nil => rfl
        | cons x xs => exact absurd (by rw [z]; rfl) hb
      rw [row_due a ha i (by omega) hz] at hp3
      exact ⟨_, rfl, q p _ s3 hp hp3⟩
end
end Own

namespace Own
open PySem L2
section
variable {P : Program} {w : World} {K : PySem.W.Frag} {mg : Str → Option Value} {base : Heap}
seal PySem.wpAny
noncomputable abbrev sCanUse : Stmt := top 8
theorem scCanUse : FnScope ["rule", "block", "taken"] ["rule", "block"] (defScope sCanUse) := ⟨rfl, rfl, rfl, by decide +kernel, rfl, by decide +kernel, by decide +kernel⟩
theorem ok_canuse {f : Addr} {fd : FuncData} (F : Fun K "can_use" "can_use" sCanUse f fd) : FnOk P w K mg base CX0 1 f fd ["rule", "block"] spUsable := by
  refine F.ok scCanUse (fun vs H Q E h => ?_) (fun cdv A outer s H vs Q E hr h => ?_)
  · obtain ⟨r, st, x, y, b, rfl, _⟩ := h
    rfl
  · obtain ⟨r, st, x, y, b, rfl, hR, q⟩ := h
    have nd := scCanUse.nd
    refine ⟨_, (pss_cons (ps_if (pt_cmpR op_neN (pe_op op_andN (pe_ix (ix_tupK (K := K) rfl) (pv 0) pe_int (fun _ _ => rfl)) (pv 1)) pe_int (nomark _)) (pss_one (ps_ret pe_bl)) pss_nil)
      (pss_cons (ps_set (i := 2) nd rfl (Or.inl rfl) (pe_op op_andN (pe_ix (ix_tupK (K := K) rfl) (pv 0) pe_int (fun _ _ => rfl)) (pv 1)))
      (pss_cons (ps_if (pt_cmpR op_eq (pe_ix (ix_tupK (K := K) rfl) (pv 0) pe_int (fun _ _ => rfl)) pe_str (nomark _)) (pss_one (ps_ret (pe_cmpR op_neN (pv 2) pe_int (nomark _)))) pss_nil)
      (pss_one (ps_ret (pe_and (pe_cmpR op_neN (pv 2) pe_int (nomark _)) (pe_one (pe_cmpR op_neN (pv 2) (pv 1) (nomark _))))))))), ?_⟩
    refine ⟨_, rfl, r, _, _, _, rfl, rfl, SqT.of hR, atI_nat (j := 1) rfl, _, rfl, x, b, rfl, rfl, x &&& b, 0, rfl, rfl, _, rfl, ?_⟩
    cases c1 : decide (x &&& b = 0) with
    | false =>
      refine iteT ?_
      have : usableB st x y b = false := by unfold usableB; rw [c1]; rfl
      rw [this] at q
      exact q
    | true =>
      refine iteF ?_
      refine ⟨_, rfl, r, _, _, _, rfl, rfl, SqT.of hR, atI_nat (j := 2) rfl, _, rfl, y, b, rfl, rfl, ?_⟩
      refine ⟨_, rfl, r, _, _, _, rfl, rfl, SqT.of hR, atI_nat (j := 0) rfl, rfl, _, rfl, ?_⟩
      cases st with
      | true =>
        refine iteT ?_
        have : usableB true x y b = !decide (y &&& b = 0) := by unfold usableB; rw [c1]; simp
        rw [this] at q
        exact ⟨_, rfl, y &&& b, 0, rfl, rfl, q⟩
      | false =>
        refine ite2 (fun hc => ?_) (fun _ => ?_)
        · exact absurd (of_decide_eq_true hc) (by intro z; injection z with z; revert z; decide)
        refine ⟨_, rfl, y &&& b, 0, rfl, rfl, _, rfl, ?_⟩
        cases c2 : decide (y &&& b = 0) with
        | true =>
          refine iteF ?_
          have : usableB false x y b = false := by unfold usableB; rw [c1, c2]; rfl
          rw [this] at q
          exact q
        | false =>
          refine iteT ?_
          have : usableB false x y b = !decide (y &&& b = b) := by unfold usableB; rw [c1, c2]; simp
          rw [this] at q
          exact ⟨_, rfl, _, rfl, y &&& b, b, rfl, rfl, q⟩
noncomputable abbrev sListed : Stmt := top 9
theorem scListed : FnScope ["block"] ["block"] (defScope sListed) := ⟨rfl, rfl, rfl, by decide +kernel, rfl, by decide +kernel, by decide +kernel⟩
theorem ok_listed {f : Addr} {fd : FuncData} (F : Fun K "listed" "listed" sListed f fd) : FnOk P w K mg base CX0 1 f fd ["block"] spListed := by
  refine F.ok scListed (fun vs H Q E h => ?_) (fun cdv A outer s H vs Q E hr h => ?_)
  · obtain ⟨b, rfl, _⟩ := h
    rfl
  · obtain ⟨b, rfl, q⟩ := h
    refine ⟨_, (pss_cons (ps_if (pt_cmpR op_eqN (pv 0) pe_int (nomark _)) (pss_one (ps_ret (pe_lst pa_nil))) pss_nil)
      (pss_one (ps_ret (pe_lst (pa_cons (pv 0) pa_nil))))), ?_⟩
    refine ⟨_, rfl, b, 0, rfl, rfl, _, rfl, ite2 (fun hc => ?_) (fun hc => ?_)⟩
    · have b0 : b = 0 := of_decide_eq_true hc
      refine ⟨(by show 0 ≤ sizeLine; exact Nat.zero_le _), fun p hp => ?_⟩
      have := q p hp
      rw [if_neg (by omega)] at this
      exact this
    · have b0 : 0 < b := Nat.pos_of_ne_zero fun z => hc (decide_eq_true z)
      refine ⟨_, rfl, (by show 1 ≤ sizeLine; decide), fun p hp => ?_⟩
      have := q p hp
      rw [if_pos b0] at this
      exact this
noncomputable abbrev sUsed : Stmt := top 10
theorem scUsed : FnScope ["rule", "fixed", "blocks", "at", "taken", "rest"] ["rule", "fixed", "blocks", "at"] (defScope sUsed) := ⟨rfl, rfl, rfl, by decide +kernel, rfl, by decide +kernel, by decide +kernel⟩
theorem ok_used {f fI : Addr} {fd fdI : FuncData} (F : Fun K "used" "used" sUsed f fd) (GI : FnOk P w K mg base CX0 1 fI fdI ["block"] spListed) (mI : mg "listed" = some (.ref fI)) (kI : PySem.W.keepIn K (.ref fI) = true) (bI : Binds K fdI ["block"] []) : FnOk P w K mg base CX0 2 f fd ["rule", "fixed", "blocks", "at"] (spUsed K) := by
  refine F.ok scUsed (fun vs H Q E h => ?_) (fun cdv A outer s H vs Q E hr h => ?_)
  · obtain ⟨r, l, st, x, y, fx, at_, bs, rfl, _⟩ := h
    rfl
  · obtain ⟨r, l, st, x, y, fx, at_, bs, rfl, hR, hl, hat, hb, hdis, q⟩ := h
    have nd := scUsed.nd
    refine ⟨_, (pss_cons (ps_set (i := 4) nd rfl (Or.inl rfl) (pe_op op_andN (pe_ix (ix_listK (K := K) rfl) (pv 2) (pv 3) (fun _ _ => rfl)) (pe_ix (ix_tupK (K := K) rfl) (pv 0) pe_int (fun _ _ => rfl))))
      (pss_cons (ps_set (i := 5) nd rfl (Or.inl rfl) (pe_op op_andInv (pe_ix (ix_listK (K := K) rfl) (pv 2) (pv 3) (fun _ _ => rfl)) (pe_un un_inv (pe_ix (ix_tupK (K := K) rfl) (pv 0) pe_int (fun _ _ => rfl)))))
      (pss_cons (ps_if (pt_cmpR op_eq (pe_ix (ix_tupK (K := K) rfl) (pv 0) pe_int (fun _ _ => rfl)) pe_str (nomark _)) (pss_one (ps_ret (pe_tup (pa_cons (pe_op op_orN (pv 1) (pv 4)) (pa_cons (pe_op op_cat (pe_op op_cat (pe_slice sl_list (pv 2) po_none (po_some (pv 3))) (pe_call GI hr rfl mI kI bI .nil pass0 (pa_cons (pv 5) pa_nil))) (pe_slice sl_list (pv 2) (po_some (pe_op op_addN (pv 3) pe_int)) po_none)) pa_nil))))) pss_nil)
      (pss_one (ps_ret (pe_tup (pa_cons (pv 1) (pa_cons (pe_op op_cat (pe_op op_cat (pe_slice sl_list (pv 2) po_none (po_some (pv 3))) (pe_lst (pa_cons (pv 4) (pa_cons (pv 5) pa_nil)))) (pe_slice sl_list (pv 2) (po_some (pe_op op_addN (pv 3) pe_int)) po_none)) pa_nil)))))))), ?_⟩
    have eb : bs[at_]? = some (bs.getD at_ 0) := by rw [List.getD_eq_getElem?_getD, List.getElem?_eq_getElem hat]; rfl
    have ebv : (bs.map vN)[at_]? = some (vN (bs.getD at_ 0)) := by rw [List.getElem?_map, eb]; rfl
    refine ⟨_, rfl, _, rfl, l, _, _, _, rfl, rfl, hl, atI_nat ebv, _, rfl, r, _, _, _, rfl, rfl, SqT.of hR, atI_nat (j := 2) rfl, bs.getD at_ 0, y, rfl, rfl, ?_⟩
    refine ⟨_, rfl, _, rfl, l, _, _, _, rfl, rfl, hl, atI_nat ebv, _, rfl, r, _, _, _, rfl, rfl, SqT.of hR, atI_nat (j := 2) rfl, (y : Int), rfl, bs.getD at_ 0, y, rfl, rfl, ?_⟩
    refine ⟨_, rfl, r, _, _, _, rfl, rfl, SqT.of hR, atI_nat (j := 0) rfl, rfl, _, rfl, ?_⟩
    have lt : (List.take at_ (bs.map vN)).length ≤ 200 := by rw [List.length_take, List.length_map]; omega
    have ld : (List.drop (at_ + 1) (bs.map vN)).length ≤ 200 := by rw [List.length_drop, List.length_map]; omega
    have szc : ∀ n : Nat, n ≤ 1000 → n ≤ sizeLine := fun n h => Nat.le_of_lt (small1000 h)
    have e1 : cutV (bs.map vN) none (some (at_ : Int)) = List.take at_ (bs.map vN) := cut_take _ _
    have e2 : cutV (bs.map vN) (some ((at_ + 1 : Nat) : Int)) none = List.drop (at_ + 1) (bs.map vN) := cut_drop _ _
    cases st with
    | true =>
      refine iteT ?_
      have eo : behindFx true y fx bs at_ = fx ||| inN y bs at_ := by
        unfold behindFx
        rw [if_pos rfl]
        exact (or_add fx (inN y bs at_) (dis_sub hdis (sub_in _ y))).symm
      refine ⟨_, rfl, _, rfl, fx, inN y bs at_, rfl, rfl, ?_⟩
      refine ⟨_, rfl, _, rfl, (at_ : Int), rfl, l, _, rfl, hl, fun p1 hp1 => ?_⟩
      rw [e1]
      have s1 := Same.new (o := .lst (List.take at_ (bs.map vN))) hp1
      refine ⟨_, rfl, outN y bs at_, rfl, fun p3 hp3 => ?_⟩
      have s3 := Same.new (o := .lst ((if 0 < outN y bs at_ then [outN y bs at_] else []).map vN)) hp3
      have l3 : ((if 0 < outN y bs at_ then [outN y bs at_] else []).map vN).length ≤ 1 := by split <;> simp
      refine ⟨p1, p3, List.take at_ (bs.map vN), (if 0 < outN y bs at_ then [outN y bs at_] else []).map vN, rfl, rfl, s3 _ _ upd_same, upd_same, szc _ (by omega), fun p4 hp4 => ?_⟩
      have s4 := Same.new (o := .lst (List.take at_ (bs.map vN) ++ (if 0 < outN y bs at_ then [outN y bs at_] else []).map vN)) hp4
      have s14 := (s1.trans s3).trans s4
      refine ⟨_, rfl, _, rfl, at_, 1, rfl, rfl, ((at_ + 1 : Nat) : Int), rfl, l, _, rfl, s14.seq hl, fun p5 hp5 => ?_⟩
      rw [e2]
      have s5 := Same.new (o := .lst (List.drop (at_ + 1) (bs.map vN))) hp5
      refine ⟨p4, p5, List.take at_ (bs.map vN) ++ (if 0 < outN y bs at_ then [outN y bs at_] else []).map vN, List.drop (at_ + 1) (bs.map vN), rfl, rfl, s5 _ _ upd_same, upd_same, szc _ (by rw [List.length_append]; omega), fun p6 hp6 => ?_⟩
      have e6 : List.take at_ (bs.map vN) ++ (if 0 < outN y bs at_ then [outN y bs at_] else []).map vN ++ List.drop (at_ + 1) (bs.map vN) = (behindBs true y bs at_).map vN := by
        unfold behindBs
        rw [if_pos rfl, List.map_append, List.map_append, List.map_take, List.map_drop]
      rw [e6]
      have s6 := Same.new (o := .lst ((behindBs true y bs at_).map vN)) hp6
      refine ⟨(by show 2 ≤ sizeLine; decide), fun t ht => ?_⟩
      have s7 := Same.new (o := .tup [vN (fx ||| inN y bs at_), V.ref p6]) ht
      have s16 := (s14.trans s5).trans s6
      exact q t p6 _ (s16.trans s7) (s16.none ht) (by rw [eo]; exact upd_same) ((s14.trans s5).none hp6) (s7 _ _ upd_same)
    | false =>
      refine ite2 (fun hc => ?_) (fun _ => ?_)
      · exact absurd (of_decide_eq_true hc) (by intro z; injection z with z; revert z; decide)
      refine ⟨_, rfl, ?_⟩
      refine ⟨_, rfl, _, rfl, (at_ : Int), rfl, l, _, rfl, hl, fun p1 hp1 => ?_⟩
      rw [e1]
      have s1 := Same.new (o := .lst (List.take at_ (bs.map vN))) hp1
      refine ⟨_, rfl, _, rfl, (by show 2 ≤ sizeLine; decide), fun p3 hp3 => ?_⟩
      have s3 := Same.new (o := .lst [vN (inN y bs at_), vN (outN y bs at_)]) hp3
      refine ⟨p1, p3, List.take at_ (bs.map vN), [vN (inN y bs at_), vN (outN y bs at_)], rfl, rfl, s3 _ _ upd_same, upd_same, szc _ (by show _ + 2 ≤ 1000; omega), fun p4 hp4 => ?_⟩
      have s4 := Same.new (o := .lst (List.take at_ (bs.map vN) ++ [vN (inN y bs at_), vN (outN y bs at_)])) hp4
      have s14 := (s1.trans s3).trans s4
      refine ⟨_, rfl, _, rfl, at_, 1, rfl, rfl, ((at_ + 1 : Nat) : Int), rfl, l, _, rfl, s14.seq hl, fun p5 hp5 => ?_⟩
      rw [e2]
      have s5 := Same.new (o := .lst (List.drop (at_ + 1) (bs.map vN))) hp5
      refine ⟨p4, p5, List.take at_ (bs.map vN) ++ [vN (inN y bs at_), vN (outN y bs at_)], List.drop (at_ + 1) (bs.map vN), rfl, rfl, s5 _ _ upd_same, upd_same, szc _ (by rw [List.length_append]; show _ + 2 + _ ≤ 1000; omega), fun p6 hp6 => ?_⟩
      have e6 : List.take at_ (bs.map vN) ++ [vN (inN y bs at_), vN (outN y bs at_)] ++ List.drop (at_ + 1) (bs.map vN) = (behindBs false y bs at_).map vN := by
        unfold behindBs
        rw [if_neg Bool.false_ne_true, List.map_append, List.map_append, List.map_take, List.map_drop]
        rfl
      rw [e6]
      have s6 := Same.new (o := .lst ((behindBs false y bs at_).map vN)) hp6
      refine ⟨(by show 2 ≤ sizeLine; decide), fun t ht => ?_⟩
      have s7 := Same.new (o := .tup [vN fx, V.ref p6]) ht
      have s16 := (s14.trans s5).trans s6
      exact q t p6 _ (s16.trans s7) (s16.none ht) upd_same ((s14.trans s5).none hp6) (s7 _ _ upd_same)
noncomputable abbrev sBegun : Stmt := top 11
theorem scBegun : FnScope ["many", "some"] ["many", "some"] (defScope sBegun) := ⟨rfl, rfl, rfl, by decide +kernel, rfl, by decide +kernel, by decide +kernel⟩
theorem ok_begun {f fI fAL : Addr} {fd fdI fdAL : FuncData} (F : Fun K "begun" "begun" sBegun f fd) (GI : FnOk P w K mg base CX0 1 fI fdI ["block"] spListed) (mI : mg "listed" = some (.ref fI)) (kI : PySem.W.keepIn K (.ref fI) = true) (bI : Binds K fdI ["block"] []) (GAL : FnOk P w K mg base CX0 1 fAL fdAL ["many"] spAllOf) (mAL : mg "all_of" = some (.ref fAL)) (kAL : PySem.W.keepIn K (.ref fAL) = true) (bAL : Binds K fdAL ["many"] []) : FnOk P w K mg base CX0 2 f fd ["many", "some"] (spBegun K) := by
  refine F.ok scBegun (fun vs H Q E h => ?_) (fun cdv A outer s H vs Q E hr h => ?_)
  · obtain ⟨m, x, rfl, _⟩ := h
    rfl
  · obtain ⟨m, x, rfl, m7, hx, q⟩ := h
    have hr1 : Room 1 _ := hr.mono (by decide)
    refine ⟨_, (pss_one (ps_ret (pe_tup (pa_cons (pv 1) (pa_cons (pe_call GI hr1 rfl mI kI bI .nil pass0 (pa_cons (pe_op op_andInv (pe_call GAL hr1 rfl mAL kAL bAL .nil pass0 (pa_cons (pv 0) pa_nil)) (pe_un un_inv (pv 1))) pa_nil)) pa_nil))))), ?_⟩
    refine ⟨_, rfl, _, rfl, m, rfl, by omega, _, rfl, (x : Int), rfl, 2 ^ m - 1, x, rfl, rfl, 2 ^ m - 1 - ((2 ^ m - 1) &&& x), rfl, fun p hp => ?_⟩
    have ea : (2 ^ m - 1) &&& x = x := by rw [Nat.and_comm, Nat.and_two_pow_sub_one_eq_mod, Nat.mod_eq_of_lt hx]
    have e : (if 0 < 2 ^ m - 1 - ((2 ^ m - 1) &&& x) then [2 ^ m - 1 - ((2 ^ m - 1) &&& x)] else []) = beginBs m x := by
      rw [ea]
      unfold beginBs
      by_cases h : x < 2 ^ m - 1
      · rw [if_pos h, if_pos (by omega)]
      · rw [if_neg h, if_neg (by omega)]
    rw [e]
    have s1 := Same.new (o := .lst ((beginBs m x).map vN)) hp
    refine ⟨(by show 2 ≤ sizeLine; decide), fun t ht => ?_⟩
    have s2 := Same.new (o := .tup [vN x, V.ref p]) ht
    exact q t p _ (s1.trans s2) (s1.none ht) upd_same hp (s2 _ _ upd_same)
noncomputable abbrev sFirst : Stmt := top 12
theorem scFirst : FnScope ["rules", "blocks", "number", "rule", "at", "block"] ["rules", "blocks"] (defScope sFirst) := ⟨rfl, rfl, rfl, by decide +kernel, rfl, by decide +kernel, by decide +kernel⟩
theorem ok_first {f fCU : Addr} {fd fdCU : FuncData} (F : Fun K "first_use" "first_use" sFirst f fd) (GCU : FnOk P w K mg base CX0 1 fCU fdCU ["rule", "block"] spUsable) (mCU : mg "can_use" = some (.ref fCU)) (kCU : PySem.W.keepIn K (.ref fCU) = true) (bCU : Binds K fdCU ["rule", "block"] []) (zenumerate : mg "enumerate" = none) : FnOk P w K mg base CX0 2 f fd ["rules", "blocks"] (spFirstUse K) := by
  refine F.ok scFirst (fun vs H Q E h => ?_) (fun cdv A outer s H vs Q E hr h => ?_)
  · obtain ⟨rl, bl, rs, bs, m, rfl, _⟩ := h
    rfl
  · obtain ⟨rl, bl, rs, bs, m, rfl, hrl, hRs, hbl, lr, lb, qn, qs⟩ := h
    have nd := scFirst.nd
    have hr : Room 1 _ := hr.mono (by decide)
    have lrm : (rs.map fun r => V.ref r.r).length = rs.length := List.length_map ..
    have lbm : (bs.map vN).length = bs.length := List.length_map ..
    refine ⟨_, (pss_cons (ps_for PassesOwn.never rfl (pi_enum (K := K) rfl rfl zenumerate (pa_cons (pv 0) pa_nil)) (pg_tup rfl (pgs_cons (pg_name (i := 2) nd rfl (Or.inl rfl)) (pgs_cons (pg_name (i := 3) nd rfl (Or.inl rfl)) pgs_nil))) (pss_one (ps_for PassesOwn.never rfl (pi_enum (K := K) rfl rfl zenumerate (pa_cons (pv 1) pa_nil)) (pg_tup rfl (pgs_cons (pg_name (i := 4) nd rfl (Or.inl rfl)) (pgs_cons (pg_name (i := 5) nd rfl (Or.inl rfl)) pgs_nil))) (pss_one (ps_if (pt_val (pe_call GCU hr rfl mCU kCU bCU .nil pass0 (pa_cons (pv 3) (pa_cons (pv 5) pa_nil)))) (pss_one (ps_ret (pe_tup (pa_cons (pv 2) (pa_cons (pv 4) pa_nil))))) pss_nil)))))
      (pss_one (ps_ret pe_non))), ?_⟩
    refine ⟨_, rfl, rl, _, rfl, hrl, for_enum (xs := rs.map fun r => V.ref r.r) (fun i σ H' => (∃ v2 v3 v4 v5, σ = [some (.ref rl), some (.ref bl), v2, v3, v4, v5]) ∧ Same H H' ∧ usesN (rs.map Rl.d) bs i = []) ⟨⟨none, none, none, none, rfl⟩, Same.refl _, rfl⟩ (fun i σ H' _ h => h.2.1.seq hrl) ?_ ?_⟩
    · rintro i v σ H0 t0 hv ⟨⟨v2, v3, v4, v5, rfl⟩, s0, u0⟩ ht0
      rw [List.getElem?_map] at hv
      cases er : rs[i]? with
      | none => rw [er] at hv; cases hv
      | some r =>
        rw [er] at hv
        obtain rfl := (Option.some.inj hv).symm
        have hi : i < rs.length := (List.getElem?_eq_some_iff.mp er).1
        have hrm := List.mem_of_getElem? er
        have s1 := s0.trans (Same.new (o := .tup [.int (i : Int), V.ref r.r]) ht0)
        refine ⟨t0, _, rfl, SqT.of upd_same, rfl, _, _, rfl, _, _, rfl, rfl, ?_⟩
        generalize upd H0 t0 (.tup [.int (i : Int), V.ref r.r]) = H1 at s1
        refine ⟨_, rfl, bl, _, rfl, s1.seq hbl, for_enum (xs := bs.map vN) (fun j σ H' => (∃ v4 v5, σ = [some (.ref rl), some (.ref bl), some (vN i), some (.ref r.r), v4, v5]) ∧ Same H H' ∧ usesR r.d i bs j = []) ⟨⟨_, _, rfl⟩, s1, rfl⟩ (fun j σ H' _ h => h.2.1.seq hbl) ?_ ?_⟩
        · rintro j v σ H2 t2 hv' ⟨⟨v4', v5', rfl⟩, s2, u2⟩ ht2
          rw [List.getElem?_map] at hv'
          cases eb : bs[j]? with
          | none => rw [eb] at hv'; cases hv'
          | some b =>
            rw [eb] at hv'
            obtain rfl := (Option.some.inj hv').symm
            have hj : j < bs.length := (List.getElem?_eq_some_iff.mp eb).1
            have ebd : bs.getD j 0 = b := by rw [List.getD_eq_getElem?_getD, eb]; rfl
            have s3 := s2.trans (Same.new (o := .tup [.int (j : Int), vN b]) ht2)
            refine ⟨t2, _, rfl, SqT.of upd_same, rfl, _, _, rfl, _, _, rfl, rfl, ?_⟩
            generalize upd H2 t2 (.tup [.int (j : Int), vN b]) = H3 at s3
            refine ⟨_, rfl, _, rfl, r.r, r.st, r.x, r.y, b, rfl, s3 _ _ (hRs r hrm).1, _, rfl, ite2 (fun hu => ?_) (fun hu => ?_)⟩
            · obtain ⟨us, eu⟩ := uses_first (n := rs.length) u0 (by rw [rd_at er]; exact u2) hi hj (by rw [rd_at er, ebd]; exact hu)
              refine ⟨_, rfl, _, rfl, (by show 2 ≤ sizeLine; decide), fun t ht => ?_⟩
              exact qs (i, j) us t _ (s3.trans (Same.new ht)) eu (s3.none ht) upd_same
            · refine ⟨⟨_, _, rfl⟩, s3, ?_⟩
              rw [usesR_succ, u2, ebd, if_neg (show ¬ usB r.d b = true from hu)]; rfl
        · rintro σ H2 ⟨⟨v4', v5', rfl⟩, s2, u2⟩
          rw [lbm] at u2
          refine ⟨⟨_, _, _, _, rfl⟩, s2, ?_⟩
          rw [usesN_succ, u0, rd_at er, u2]; rfl
    · rintro σ H' ⟨⟨v2, v3, v4, v5, rfl⟩, s', u'⟩
      rw [lrm] at u'
      exact qn H' s' u'
end
end Own

namespace Own
open PySem L2
section
variable {P : Program} {w : World} {K : PySem.W.Frag} {mg : Str → Option Value} {base : Heap}
seal PySem.wpAny
noncomputable abbrev sUnf : Stmt := top 13
theorem scUnf : FnScope ["many", "rules", "some", "now", "steps", "use"] ["many", "rules", "some"] (defScope sUnf) := ⟨rfl, rfl, rfl, by decide +kernel, rfl, by decide +kernel, by decide +kernel⟩
theorem ok_unf {f fBG fFU fUD : Addr} {fd fdBG fdFU fdUD : FuncData} (F : Fun K "unfolded" "unfolded" sUnf f fd) (GBG : FnOk P w K mg base CX0 2 fBG fdBG ["many", "some"] (spBegun K)) (mBG : mg "begun" = some (.ref fBG)) (kBG : PySem.W.keepIn K (.ref fBG) = true) (bBG : Binds K fdBG ["many", "some"] []) (GFU : FnOk P w K mg base CX0 2 fFU fdFU ["rules", "blocks"] (spFirstUse K)) (mFU : mg "first_use" = some (.ref fFU)) (kFU : PySem.W.keepIn K (.ref fFU) = true) (bFU : Binds K fdFU ["rules", "blocks"] []) (GUD : FnOk P w K mg base CX0 2 fUD fdUD ["rule", "fixed", "blocks", "at"] (spUsed K)) (mUD : mg "used" = some (.ref fUD)) (kUD : PySem.W.keepIn K (.ref fUD) = true) (bUD : Binds K fdUD ["rule", "fixed", "blocks", "at"] []) : FnOk P w K mg base CX0 3 f fd ["many", "rules", "some"] (spUnfolded K) := by
  refine F.ok scUnf (fun vs H Q E h => ?_) (fun cdv A outer s H vs Q E hr h => ?_)
  · obtain ⟨m, x, rl, rs, rfl, _⟩ := h
    rfl
  · obtain ⟨m, x, rl, rs, rfl, m7, hx, hrl, hRs, lr, qq⟩ := h
    have nd := scUnf.nd
    have hr2 : Room 2 _ := hr.mono (by decide)
    refine ⟨_, (pss_cons (ps_set (i := 3) nd rfl (Or.inl rfl) (pe_call GBG hr2 rfl mBG kBG bBG .nil pass0 (pa_cons (pv 0) (pa_cons (pv 2) pa_nil)))) (pss_cons (ps_set (i := 4) nd rfl (Or.inl rfl) (pe_lst pa_nil)) (pss_cut (fun σ H' => ∃ n, UInv H m x rl rs n σ H') (ps_set (i := 5) nd rfl (Or.inl rfl) (pe_call GFU hr2 rfl mFU kFU bFU .nil pass0 (pa_cons (pv 1) (pa_cons (pe_ix (ix_tupK (K := K) rfl) (pv 3) pe_int (fun _ _ => rfl)) pa_nil)))) (pss_cons (ps_while PassesOwn.never (pt_cmpR op_notN (pv 5) pe_non (nomark _)) (pss_cons (ps_expr (pe_bm PySem.F.plainAttrs_list PySem.F.slot_list_append PySem.F.type_list_append mt_append (pv 4) (pa_cons (pe_tup (pa_cons (pe_ix (ix_tupK (K := K) rfl) (pv 5) pe_int (fun _ _ => rfl)) (pa_cons (pe_ix (ix_listK (K := K) rfl) (pe_ix (ix_tupK (K := K) rfl) (pv 3) pe_int (fun _ _ => rfl)) (pe_ix (ix_tupK (K := K) rfl) (pv 5) pe_int (fun _ _ => rfl)) (fun _ _ => rfl)) pa_nil))) pa_nil)))
      (pss_cons (ps_set (i := 3) nd rfl (Or.inl rfl) (pe_call GUD hr2 rfl mUD kUD bUD .nil pass0 (pa_cons (pe_ix (ix_listK (K := K) rfl) (pv 1) (pe_ix (ix_tupK (K := K) rfl) (pv 5) pe_int (fun _ _ => rfl)) (fun _ _ => rfl)) (pa_cons (pe_ix (ix_tupK (K := K) rfl) (pv 3) pe_int (fun _ _ => rfl)) (pa_cons (pe_ix (ix_tupK (K := K) rfl) (pv 3) pe_int (fun _ _ => rfl)) (pa_cons (pe_ix (ix_tupK (K := K) rfl) (pv 5) pe_int (fun _ _ => rfl)) pa_nil))))))
      (pss_one (ps_set (i := 5) nd rfl (Or.inl rfl) (pe_call GFU hr2 rfl mFU kFU bFU .nil pass0 (pa_cons (pv 1) (pa_cons (pe_ix (ix_tupK (K := K) rfl) (pv 3) pe_int (fun _ _ => rfl)) pa_nil)))))))) (pss_one (ps_ret (pe_tup (pa_cons (pe_ix (ix_tupK (K := K) rfl) (pv 3) pe_int (fun _ _ => rfl)) (pa_cons (pe_ix (ix_tupK (K := K) rfl) (pv 3) pe_int (fun _ _ => rfl)) (pa_cons (pv 4) pa_nil)))))))))), ?_⟩
    refine ⟨_, rfl, _, rfl, m, x, rfl, m7, hx, fun t0 p0 H1 s1 ht0 ht1 hp0 hp1 => ?_⟩
    refine ⟨(by show 0 ≤ sizeLine; exact Nat.zero_le _), fun qa hqa => ?_⟩
    have c2 := UCore.begin (rs := rs) m7 hx s1 hp0 hp1 hqa
    have ht2 := Same.new (o := .lst []) hqa _ _ ht1
    generalize upd H1 qa (.lst []) = H2 at c2 ht2
    refine ⟨⟨_, rfl, _, rfl, t0, _, _, _, rfl, rfl, SqT.of ht2, atI_nat (j := 1) rfl, rl, p0, rs, beginBs m x, m, rfl, c2.same.seq hrl, hRs.same c2.same, SqL.of c2.hp, lr, (by have := c2.good.len m7; exact Nat.le_trans this (by decide)), fun H3 s3 hu => ?_, fun u us t5 H3 s3 hu ht5 ht5' => ?_⟩, ?_⟩
    · exact ⟨_, _, t0, p0, qa, [], .non, rfl, rfl, s3 _ _ ht2, c2.mono s3, .inl ⟨hu, rfl⟩⟩
    · exact ⟨_, _, t0, p0, qa, [], .ref t5, rfl, rfl, s3 _ _ ht2, c2.mono s3, .inr ⟨u, us, t5, hu, rfl, ht5'⟩⟩
    clear c2 ht2 ht1 hp1 hp0 ht0 s1 hqa
    rintro σ H3 ⟨n0, hinv⟩
    refine ⟨UInv H m x rl rs, ⟨n0, hinv⟩, ?_⟩
    rintro n _ H4 ⟨s, t, p, qa, sw, v, rfl, en, ht, c, hv⟩
    refine ⟨_, rfl, rfl, _, rfl, ?_⟩
    rcases hv with ⟨hu, rfl⟩ | ⟨u, us, t5, hu, rfl, ht5⟩
    · refine iteF ?_
      refine ⟨_, rfl, t, _, _, _, rfl, rfl, SqT.of ht, atI_nat (j := 0) rfl, _, rfl, t, _, _, _, rfl, rfl, SqT.of ht, atI_nat (j := 1) rfl, _, rfl, (by show 3 ≤ sizeLine; decide), fun tt htt => ?_⟩
      have s5 := Same.new (o := .tup [vN s.fx, V.ref p, V.ref qa]) htt
      have c5 := c.mono s5
      exact qq tt p qa s sw _ (c.run s (.done (by rw [rd_len]; exact hu))) c5.same (c.same.none htt) upd_same c5.hp0 c5.hp c5.hq0 c5.hq c5.st c5.est (by have := c5.slen; omega) c5.npq
    · refine iteT ?_
      refine ⟨_, fun _ _ h => h, ?_⟩
      obtain ⟨r, er, erd, hu2, ebu, hR⟩ := uses_at (rs := rs) (u := u) (by rw [hu]; exact List.mem_cons_self ..) (hRs.same c.same)
      have ebv : (s.bs.map vN)[u.2]? = some (vN (s.bs.getD u.2 0)) := by rw [List.getElem?_map, ebu]; rfl
      have erv : (rs.map fun r => V.ref r.r)[u.1]? = some (V.ref r.r) := by rw [List.getElem?_map, er]; rfl
      refine ⟨_, rfl, .inl ⟨rfl, _, SqL.of c.hq⟩, _, rfl, t5, _, _, _, rfl, rfl, SqT.of ht5, atI_nat (j := 0) rfl, _, rfl, t, _, _, _, rfl, rfl, SqT.of ht, atI_nat (j := 1) rfl, _, rfl, t5, _, _, _, rfl, rfl, SqT.of ht5, atI_nat (j := 1) rfl, p, _, _, _, rfl, rfl, SqL.of c.hp, atI_nat ebv, (by show 2 ≤ sizeLine; decide), fun w hw => ?_⟩
      have sw1 := Same.new (o := .tup [vN u.1, vN (s.bs.getD u.2 0)]) hw
      have c1 := c.mono sw1
      have hw1 : (upd H4 w (.tup [vN u.1, vN (s.bs.getD u.2 0)])) w = some (.tup [vN u.1, vN (s.bs.getD u.2 0)]) := upd_same
      have ht1 := sw1 _ _ ht
      have ht51 := sw1 _ _ ht5
      generalize upd H4 w (.tup [vN u.1, vN (s.bs.getD u.2 0)]) = H5 at sw1 c1 hw1 ht1 ht51
      refine ⟨qa, _, _, rfl, rfl, c1.hq, (by rw [List.length_map]; exact small1000 (by have := c1.slen; omega)), ?_⟩
      have sq : Same H (upd H5 qa (.lst ((sw.map fun w => V.ref w.1) ++ [V.ref w]))) := c1.same.own c1.hq0
      have ht2 : (upd H5 qa (.lst ((sw.map fun w => V.ref w.1) ++ [V.ref w]))) t = some (.tup [vN s.fx, .ref p]) := by rw [upd_ne (ne_of ht1 c1.hq (by intro z; cases z))]; exact ht1
      have ht52 : (upd H5 qa (.lst ((sw.map fun w => V.ref w.1) ++ [V.ref w]))) t5 = some (.tup [vN u.1, vN u.2]) := by rw [upd_ne (ne_of ht51 c1.hq (by intro z; cases z))]; exact ht51
      have hp2 : (upd H5 qa (.lst ((sw.map fun w => V.ref w.1) ++ [V.ref w]))) p = some (.lst (s.bs.map vN)) := by rw [upd_ne c1.npq]; exact c1.hp
      have hdis : s.fx &&& s.bs.getD u.2 0 = 0 := c.good.dis _ (List.mem_of_getElem? ebu)
      refine ⟨_, rfl, _, rfl, t5, _, _, _, rfl, rfl, SqT.of ht52, atI_nat (j := 0) rfl, rl, _, _, _, rfl, rfl, sq.seq hrl, atI_nat erv, _, rfl, t, _, _, _, rfl, rfl, SqT.of ht2, atI_nat (j := 0) rfl, _, rfl, t, _, _, _, rfl, rfl, SqT.of ht2, atI_nat (j := 1) rfl, _, rfl, t5, _, _, _, rfl, rfl, SqT.of ht52, atI_nat (j := 1) rfl, r.r, p, r.st, r.x, r.y, s.fx, u.2, s.bs, rfl, sq _ _ (hRs r (List.mem_of_getElem? er)).1, SqL.of hp2, hu2, (by have := c.good.len m7; omega), hdis, fun t' p' H6 s6 ht' ht6 hp' hp6 => ?_⟩
      have efx : (stepS (rs.map Rl.d) s u).fx = behindFx r.st r.y s.fx s.bs u.2 := by unfold stepS; rw [erd]; rfl
      have ebs : (stepS (rs.map Rl.d) s u).bs = behindBs r.st r.y s.bs u.2 := by unfold stepS; rw [erd]; rfl
      rw [← efx] at ht6
      rw [← ebs] at hp6
      obtain ⟨c6, mu⟩ := c1.next (w := (w, (u.1, s.bs.getD u.2 0))) hu rfl hw1 s6 hp' hp6
      refine ⟨_, rfl, _, rfl, t', _, _, _, rfl, rfl, SqT.of ht6, atI_nat (j := 1) rfl, rl, p', rs, (stepS (rs.map Rl.d) s u).bs, m, rfl, c6.same.seq hrl, hRs.same c6.same, SqL.of c6.hp, lr, (by have := c6.good.len m7; omega), fun H7 s7 hu' => ?_, fun u' us' t5' H7 s7 hu' ht7 ht7' => ?_⟩
      · exact ⟨_, by rw [en]; exact mu, _, t', p', qa, _, .non, rfl, rfl, s7 _ _ ht6, c6.mono s7, .inl ⟨hu', rfl⟩⟩
      · exact ⟨_, by rw [en]; exact mu, _, t', p', qa, _, .ref t5', rfl, rfl, s7 _ _ ht6, c6.mono s7, .inr ⟨u', us', t5', hu', rfl, ht7'⟩⟩
noncomputable abbrev sSettled : Stmt := top 15
theorem scSettled : FnScope ["many", "rules", "some"] ["many", "rules", "some"] (defScope sSettled) := ⟨rfl, rfl, rfl, by decide +kernel, rfl, by decide +kernel, by decide +kernel⟩
theorem ok_settled {f fUN : Addr} {fd fdUN : FuncData} (F : Fun K "settled" "settled" sSettled f fd) (GUN : FnOk P w K mg base CX0 3 fUN fdUN ["many", "rules", "some"] (spUnfolded K)) (mUN : mg "unfolded" = some (.ref fUN)) (kUN : PySem.W.keepIn K (.ref fUN) = true) (bUN : Binds K fdUN ["many", "rules", "some"] []) : FnOk P w K mg base CX0 4 f fd ["many", "rules", "some"] (spSettled K) := by
  refine F.ok scSettled (fun vs H Q E h => ?_) (fun cdv A outer s H vs Q E hr h => ?_)
  · obtain ⟨m, x, rl, rs, rfl, _⟩ := h
    rfl
  · obtain ⟨m, x, rl, rs, rfl, m7, hx, hrl, hRs, lr, q⟩ := h
    have hr3 : Room 3 _ := hr.mono (by decide)
    refine ⟨_, (pss_one (ps_ret (pe_ix (ix_tupK (K := K) rfl) (pe_call GUN hr3 rfl mUN kUN bUN .nil pass0 (pa_cons (pv 0) (pa_cons (pv 1) (pa_cons (pv 2) pa_nil)))) pe_int (fun _ _ => rfl)))), ?_⟩
    refine ⟨_, rfl, _, rfl, _, rfl, m, x, rl, rs, rfl, m7, hx, hrl, hRs, lr, fun t p qa s sw H1 R s1 ht ht1 hp hp1 hq hq1 st1 e1 l1 n1 => ?_⟩
    exact ⟨t, _, _, _, rfl, rfl, SqT.of ht1, atI_nat (j := 0) rfl, q s H1 R s1⟩
noncomputable abbrev sHoldsOne : Stmt := top 21
theorem scHoldsOne : FnScope ["some", "found"] ["some", "found"] (defScope sHoldsOne) := ⟨rfl, rfl, rfl, by decide +kernel, rfl, by decide +kernel, by decide +kernel⟩
theorem ok_holdsone {f fIW : Addr} {fd fdIW : FuncData} (F : Fun K "holds_one" "holds_one" sHoldsOne f fd) (GIW : FnOk P w K mg base CX0 1 fIW fdIW ["one", "other"] spWithin) (mIW : mg "is_within" = some (.ref fIW)) (kIW : PySem.W.keepIn K (.ref fIW) = true) (bIW : Binds K fdIW ["one", "other"] []) (zany : mg "any" = none) : FnOk P w K mg base CX0 2 f fd ["some", "found"] (spHoldsW K) := by
  refine F.ok scHoldsOne (fun vs H Q E h => ?_) (fun cdv A outer s H vs Q E hr h => ?_)
  · obtain ⟨x, p, f, rfl, _⟩ := h
    rfl
  · obtain ⟨x, p, f, rfl, hp, lf, q⟩ := h
    have hr1 : Room 1 _ := hr.mono (by decide)
    refine ⟨_, (pss_one (ps_ret (pe_callB (call_anyK (K := K) rfl rfl) (by rfl) zany PyProof.Rows.boot_any (pa_cons (pe_comp (xs := ["inner"]) (cs ["some", "found"] (defScope sHoldsOne) rfl rfl (by decide +kernel)) rfl (pi_listK (K := K) rfl (pv 1)) (fun _ _ _ => pg_name (i := 0) (show (["inner", "some", "found"] : List Str).Nodup by decide +kernel) rfl (Or.inl rfl)) (fun _ _ _ => pts_nil) (fun _ _ _ => (pe_call GIW hr1 rfl mIW kIW bIW .nil pass0 (pa_cons (pv 0) (pa_cons (pv 1) pa_nil))))) pa_nil)))), ?_⟩
    refine ⟨_, rfl, p, rfl, ⟨_, hp⟩, lc_list (K := K) (xs := f.map vN) (fun j acc H2 => H2 = H ∧ acc = ((f.take j).map fun y => decide (y &&& x = y)).map V.bl) (by rw [List.length_map]; omega) ⟨rfl, rfl⟩ (fun j acc H2 hj h => ?_) (fun j v acc H2 hx h => ?_) (fun acc H2 h => ?_)⟩
    · obtain ⟨rfl, rfl⟩ := h
      exact ⟨hp, by rw [List.length_map, List.length_map]; exact List.length_take_le _ _⟩
    · obtain ⟨rfl, rfl⟩ := h
      rw [List.getElem?_map] at hx
      cases ey : f[j]? with
      | none => rw [ey] at hx; cases hx
      | some y =>
        rw [ey] at hx
        obtain rfl := (Option.some.inj hx).symm
        refine ⟨rfl, _, rfl, _, rfl, y, x, rfl, rfl, ?_⟩
        rw [List.take_succ, ey, List.map_append, List.map_append]
        rfl
    · obtain ⟨rfl, rfl⟩ := h
      rw [List.length_map, List.take_length]
      intro e he
      refine ⟨e, _, rfl, SqL.of upd_same, ?_⟩
      rw [wiB_map]
      exact q _ (Same.new he)
end
end Own

namespace Own
open PySem L2
section
variable {P : Program} {w : World} {K : PySem.W.Frag} {mg : Str → Option Value} {base : Heap}
seal PySem.wpAny
noncomputable abbrev sOwn : Stmt := top 23
theorem scOwn : FnScope ["many", "rules", "part", "found", "lefts", "some", "column"] ["many", "rules", "part"] (defScope sOwn) := ⟨rfl, rfl, rfl, by decide +kernel, rfl, by decide +kernel, by decide +kernel⟩
theorem noVisO : ¬ Vis (defScope sOwn) "" := by rintro (h | h | h) <;> exact absurd h (by decide +kernel)
theorem ok_own {f fC fSW fSE fHO : Addr} {fd fdC fdSW fdSE fdHO : FuncData} (F : Fun K "own_rules" "own_rules" sOwn f fd) (GC : FnOk P w K mg base CX0 2 fC fdC ["some"] spCols) (mC : mg "columns_of" = some (.ref fC)) (kC : PySem.W.keepIn K (.ref fC) = true) (bC : Binds K fdC ["some"] []) (GSW : FnOk P w K mg base CX0 7 fSW fdSW ["some"] spSetsW) (mSW : mg "sets_within" = some (.ref fSW)) (kSW : PySem.W.keepIn K (.ref fSW) = true) (bSW : Binds K fdSW ["some"] []) (GSE : FnOk P w K mg base CX0 4 fSE fdSE ["many", "rules", "some"] (spSettled K)) (mSE : mg "settled" = some (.ref fSE)) (kSE : PySem.W.keepIn K (.ref fSE) = true) (bSE : Binds K fdSE ["many", "rules", "some"] []) (GHO : FnOk P w K mg base CX0 2 fHO fdHO ["some", "found"] (spHoldsW K)) (mHO : mg "holds_one" = some (.ref fHO)) (kHO : PySem.W.keepIn K (.ref fHO) = true) (bHO : Binds K fdHO ["some", "found"] []) (zdict : mg "dict" = none) : FnOk P w K mg base CX0 8 f fd ["many", "rules", "part"] (spOwn K) := by
  refine F.ok scOwn (fun vs H Q E h => ?_) (fun cdv A outer s H vs Q E hr h => ?_)
  · obtain ⟨m, p, rl, rs, rfl, _⟩ := h
    rfl
  · obtain ⟨m, p, rl, rs, rfl, m7, hp, hrl, hRs, lr, q⟩ := h
    have nd := scOwn.nd
    have hr2 : Room 2 _ := hr.mono (by decide)
    have hr4 : Room 4 _ := hr.mono (by decide)
    have hr7 : Room 7 _ := hr.mono (by decide)
    have p7 := pow7 m7
    have p128 : p < 128 := by omega
    obtain ⟨c7, cb⟩ := cols7 p p128
    have cm := cols_mem (a := p) p128
    have cnd : (colsN p).Nodup := by
      rw [cols_seven m (by omega) p hp]
      exact (List.nodup_range).filter _
    refine ⟨_, (pss_cons (ps_set (i := 3) nd rfl (Or.inl rfl) (pe_lst pa_nil))
      (pss_cons (ps_set (i := 4) nd rfl (Or.inl rfl) (pe_callTy (call_dictPks rfl hr.units) (by rfl) zdict PyProof.Rows.boot_dict (pa_cons (pe_hide 6 (show ¬ Vis (defScope sOwn) "" from noVisO) (pe_comp (xs := ["column"]) (cs ["many", "rules", "part", "found", "lefts", "some", ""] (defScope sOwn) rfl rfl (by decide +kernel)) rfl (pi_listK (K := K) rfl (pe_call GC hr2 rfl mC kC bC .nil pass0 (pa_cons (pv 2) pa_nil))) (fun _ _ _ => pg_name (i := 0) (show (["column", "many", "rules", "part", "found", "lefts", "some", ""] : List Str).Nodup by decide +kernel) rfl (Or.inl rfl)) (fun _ _ _ => pts_nil) (fun _ _ _ => (pe_tup (pa_cons (pv 0) (pa_cons (pe_lst pa_nil) pa_nil)))))) pa_nil)))
      (pss_cons (ps_for PassesOwn.never rfl (pi_listK (K := K) rfl (pe_call GSW hr7 rfl mSW kSW bSW .nil pass0 (pa_cons (pv 2) pa_nil))) (pg_name (i := 5) nd rfl (Or.inl rfl)) (pss_one (ps_for PassesOwn.never rfl (pi_listK (K := K) rfl (pe_call GC hr2 rfl mC kC bC .nil pass0 (pa_cons (pe_op op_andInv (pe_op op_andN (pe_call GSE hr4 rfl mSE kSE bSE .nil pass0 (pa_cons (pv 0) (pa_cons (pv 1) (pa_cons (pv 5) pa_nil)))) (pv 2)) (pe_un un_inv (pv 5))) pa_nil))) (pg_name (i := 6) nd rfl (Or.inl rfl)) (pss_one (ps_if (pt_not (pt_val (pe_call GHO hr2 rfl mHO kHO bHO .nil pass0 (pa_cons (pv 5) (pa_cons (pe_dget (hu_of hr) (pv 4) (pv 6) (fun _ _ => rfl)) pa_nil))))) (pss_cons (ps_expr (pe_bm PySem.F.plainAttrs_list PySem.F.slot_list_append PySem.F.type_list_append mt_append (pe_dget (hu_of hr) (pv 4) (pv 6) (fun _ _ => rfl)) (pa_cons (pv 5) pa_nil)))
      (pss_one (ps_expr (pe_bm PySem.F.plainAttrs_list PySem.F.slot_list_append PySem.F.type_list_append mt_append (pv 3) (pa_cons (pe_tup (pa_cons pe_str (pa_cons (pv 5) (pa_cons (pe_op op_shl1 pe_int (pv 6)) pa_nil)))) pa_nil))))) pss_nil)))))
      (pss_one (ps_ret (pv 3)))))), ?_⟩
    refine ⟨Nat.zero_le _, fun fp hfp => ?_⟩
    have s1 := Same.new (o := .lst []) hfp
    have hfp1 : (upd H fp (.lst [])) fp = some (.lst []) := upd_same
    generalize upd H fp (.lst []) = H1 at s1 hfp1
    refine ⟨(fun v z => by cases z), _, rfl, p, rfl, by omega, fun cp hcp => ⟨cp, rfl, ⟨_, SqL.of upd_same⟩, ?_⟩⟩
    have sC := Same.new (o := .lst ((colsN p).map vN)) hcp
    have hcp2 : (upd H1 cp (.lst ((colsN p).map vN))) cp = some (.lst ((colsN p).map vN)) := upd_same
    generalize upd H1 cp (.lst ((colsN p).map vN)) = H2 at sC hcp2
    refine lc_list (K := K) (xs := (colsN p).map vN) (fun j acc H' => ∃ ps : List (Pk × Addr), acc = ps.map (fun w => V.ref w.1.t) ∧ ps.map (fun w => w.1.k) = ((colsN p).take j).map (fun (c : Nat) => (Sum.inl (c : Int) : Key)) ∧ (∀ w ∈ ps, w.1.At H' ∧ w.1.v = .ref w.2 ∧ H' w.2 = some (.lst []) ∧ H2 w.2 = none) ∧ ps.Pairwise (fun a b => a.2 ≠ b.2) ∧ Same H2 H') (by rw [List.length_map]; omega) ⟨[], rfl, rfl, (fun w h => absurd h List.not_mem_nil), .nil, Same.refl _⟩ (fun j acc H' hj h => ?_) (fun j v acc H' hv h => ?_) (fun acc H' h => ?_)
    · obtain ⟨ps, rfl, ek, _, _, s'⟩ := h
      refine ⟨SqL.of (s' _ _ hcp2), ?_⟩
      have := congrArg List.length ek
      rw [List.length_map, List.length_map] at this
      rw [List.length_map, this]
      exact List.length_take_le _ _
    · obtain ⟨ps, rfl, ek, hps, pw, s'⟩ := h
      rw [List.getElem?_map] at hv
      cases ec : (colsN p)[j]? with
      | none => rw [ec] at hv; cases hv
      | some c =>
        rw [ec] at hv
        obtain rfl := (Option.some.inj hv).symm
        refine ⟨rfl, _, rfl, Nat.zero_le _, fun la hla => ?_⟩
        have sL := Same.new (o := .lst []) hla
        refine ⟨(by show 2 ≤ sizeLine; decide), fun tp htp => ?_⟩
        have sT := Same.new (o := .tup [vN c, V.ref la]) htp
        have sLT := sL.trans sT
        refine ⟨ps ++ [(⟨tp, .inl (c : Int), .ref la⟩, la)], by rw [List.map_append]; rfl, by rw [List.map_append, ek, List.take_succ, ec, List.map_append]; rfl, fun w hw => ?_, ?_, s'.trans sLT⟩
        · rcases List.mem_append.mp hw with hw | hw
          · obtain ⟨a1, a2, a3, a4⟩ := hps w hw
            exact ⟨sLT _ _ a1, a2, sLT _ _ a3, a4⟩
          · rw [List.mem_singleton.mp hw]
            exact ⟨upd_same, rfl, sT _ _ upd_same, s'.none hla⟩
        · refine List.pairwise_append.mpr ⟨pw, List.pairwise_singleton _ _, fun a ha b hb => ?_⟩
          rw [List.mem_singleton.mp hb]
          exact ne_of_none (hps a ha).2.2.1 hla
    obtain ⟨ps, rfl, ek, hps, pw, s'⟩ := h
    rw [List.length_map, List.take_length] at ek
    intro lp hlp
    have sP := Same.new (o := .lst (ps.map fun w => V.ref w.1.t)) hlp
    have lps : ps.length ≤ 7 := by
      have := congrArg List.length ek
      rw [List.length_map, List.length_map] at this
      omega
    have eps : (ps.map fun w => V.ref w.1.t) = (ps.map (·.1)).map fun w => V.ref w.t := by rw [List.map_map]; rfl
    refine ⟨lp, ps.map (·.1), rfl, by rw [upd_same, eps], fun w hw => ?_, by rw [List.length_map]; omega, fun dA hdA => ?_⟩
    · obtain ⟨w', hw', rfl⟩ := List.mem_map.mp hw
      exact sP _ _ (hps w' hw').1
    have sD := Same.new (o := .dK (putAllK [] (ps.map (·.1)))) hdA
    have s23 := s'.trans (sP.trans sD)
    have pwk : (ps.map (·.1)).Pairwise (fun a b => a.k ≠ b.k) := by
      have h1 : (ps.map fun w => w.1.k).Nodup := by
        rw [ek]
        exact cnd.map _ fun a b h z => h (by injection z with z; omega)
      rw [List.pairwise_map]
      have h2 := List.pairwise_map.mp h1
      exact h2
    have find : ∀ c ∈ colsN p, ∃ w ∈ ps, w.1.k = .inl (c : Int) := fun c hc => by
      have : (Sum.inl (c : Int) : Key) ∈ ps.map (fun w => w.1.k) := by rw [ek]; exact List.mem_map.mpr ⟨c, hc, rfl⟩
      obtain ⟨w, hw, e⟩ := List.mem_map.mp this
      exact ⟨w, hw, e⟩
    obtain ⟨la, hla⟩ : ∃ la : Nat → Addr, ∀ c ∈ colsN p, ∃ w ∈ ps, w.1.k = .inl (c : Int) ∧ w.2 = la c := by
      have ex : ∀ c : Nat, ∃ a : Addr, c ∈ colsN p → ∃ w ∈ ps, w.1.k = .inl (c : Int) ∧ w.2 = a := fun c => by
        by_cases hc : c ∈ colsN p
        · obtain ⟨w, hw, e⟩ := find c hc
          exact ⟨w.2, fun _ => ⟨w, hw, e, rfl⟩⟩
        · exact ⟨fp, fun z => absurd z hc⟩
      obtain ⟨la, h⟩ := Classical.axiomOfChoice ex
      exact ⟨la, h⟩
    obtain ⟨kvs, ekv⟩ : ∃ kvs, kvs = putAllK [] (ps.map (·.1)) := ⟨_, rfl⟩
    have L3 : LeftsA H p dA fp kvs la [] (upd (upd H' lp (.lst (ps.map fun w => V.ref w.1.t))) dA (.dK (putAllK [] (ps.map (·.1))))) := by
      have all : ∀ c ∈ colsN p, valV kvs (.inl (c : Int)) = some (.ref (la c)) ∧ H' (la c) = some (.lst []) ∧ H2 (la c) = none := fun c hc => by
        obtain ⟨w, hw, e1, e2⟩ := hla c hc
        obtain ⟨a1, a2, a3, a4⟩ := hps w hw
        have v1 := valV_all (ps.map (·.1)) [] pwk w.1 (List.mem_map.mpr ⟨w, hw, rfl⟩)
        rw [e1, a2, e2, ← ekv] at v1
        rw [e2] at a3 a4
        exact ⟨v1, a3, a4⟩
      refine ⟨by rw [upd_same, ekv], fun c hc => (all c hc).1, fun c hc => (sP.trans sD) _ _ (all c hc).2.1, fun c hc => (s1.trans sC).none (all c hc).2.2, fun c hc z => ?_, fun c hc c' hc' z => ?_⟩
      · have a4 := (all c hc).2.2
        rw [z] at a4
        have := sC _ _ hfp1
        rw [a4] at this
        cases this
      · obtain ⟨w, hw, e1, e2⟩ := hla c hc
        obtain ⟨w', hw', e1', e2'⟩ := hla c' hc'
        rw [← e2, ← e2'] at z
        have ww : w = w' := by
          refine Classical.byContradiction fun ne => ?_
          obtain ⟨i, hi, rfl⟩ := List.getElem_of_mem hw
          obtain ⟨j, hj, rfl⟩ := List.getElem_of_mem hw'
          rcases Nat.lt_trichotomy i j with h | h | h
          · exact List.pairwise_iff_getElem.mp pw i j hi hj h z
          · subst h; exact ne rfl
          · exact List.pairwise_iff_getElem.mp pw j i hj hi h z.symm
        rw [ww, e1'] at e1
        injection e1 with e1
        omega
    have hfp3 := (sC.trans s23) _ _ hfp1
    have s03 := (s1.trans sC).trans s23
    generalize upd (upd H' lp (.lst (ps.map fun w => V.ref w.1.t))) dA (.dK (putAllK [] (ps.map (·.1)))) = H3 at L3 hfp3 s03
    clear s23 sD sP pwk hps pw ek hla find ekv
    refine ⟨_, rfl, p, rfl, p128, fun xp H4 s4 hxp0 hxp => ⟨xp, rfl, ⟨_, SqL.of hxp⟩, for_list (K := K) (xs := (dueN p).map vN) (fun i σ H' => (∃ v5 v6, σ = [some (vN m), some (.ref rl), some (vN p), some (.ref fp), some (.ref dA), v5, v6]) ∧ H' xp = some (.lst ((dueN p).map vN)) ∧ Same H H' ∧ ∃ ss : List Rl, H' fp = some (.lst (ss.map fun (r : Rl) => V.ref r.r)) ∧ RulesAt H' m ss ∧ ss.map Rl.d = ((dueN p).take i).foldl (ownX m (rs.map Rl.d) p) [] ∧ LeftsA H p dA fp kvs la (ss.map Rl.d) H') ⟨⟨_, _, rfl⟩, hxp, s03.trans s4, [], s4 _ _ hfp3, (fun r h => absurd h List.not_mem_nil), rfl, L3.same s4⟩ (fun i σ H' _ h => SqL.of h.2.1) ?_ ?_⟩⟩
    · rintro i v σ H5 hv ⟨⟨v5, v6, rfl⟩, hx5, s5, ss, hf5, hS5, es5, L5⟩
      rw [List.getElem?_map] at hv
      cases ex : (dueN p)[i]? with
      | none => rw [ex] at hv; cases hv
      | some x =>
        rw [ex] at hv
        obtain rfl := (Option.some.inj hv).symm
        have hxin := List.all_eq_true.mp (due_in p p128) x (List.mem_of_getElem? ex)
        rw [Bool.and_eq_true, decide_eq_true_iff, decide_eq_true_iff] at hxin
        have hx : x < 2 ^ m := Nat.lt_of_le_of_lt (by rw [← hxin.1]; exact Nat.and_le_right) hp
        have lt5 := ownT_len (m := m) (rs := rs.map Rl.d) m7 p128 i
        refine ⟨_, rfl, _, rfl, _, rfl, m, x, rl, rs, rfl, m7, hx, s5.seq hrl, hRs.same s5, lr, fun u H6 R s6 => ?_⟩
        have efx := (R.blocks hx).fixF
        rw [← efx]
        refine ⟨_, rfl, fixF m (rs.map Rl.d) x, p, rfl, rfl, _, rfl, (x : Int), rfl, fixF m (rs.map Rl.d) x &&& p, x, rfl, rfl, freshN m (rs.map Rl.d) p x, rfl, (by have := fresh_lt m (rs.map Rl.d) p x; omega), fun cq hcq => ⟨cq, rfl, ⟨_, SqL.of upd_same⟩, ?_⟩⟩
        have sQ := Same.new (o := .lst ((colsN (freshN m (rs.map Rl.d) p x)).map vN)) hcq
        have hcq7 : (upd H6 cq (.lst ((colsN (freshN m (rs.map Rl.d) p x)).map vN))) cq = some (.lst ((colsN (freshN m (rs.map Rl.d) p x)).map vN)) := upd_same
        have s67 := s6.trans sQ
        generalize upd H6 cq (.lst ((colsN (freshN m (rs.map Rl.d) p x)).map vN)) = H7 at hcq7 s67
        have flt := fresh_lt m (rs.map Rl.d) p x
        have cl7 := (cols7 (freshN m (rs.map Rl.d) p x) (by omega)).1
        have nxf : xp ≠ fp := (ne_of_none hfp3 hxp0).symm
        have nqf : cq ≠ fp := (ne_of_none (s6 _ _ hf5) hcq).symm
        have nxl : ∀ c ∈ colsN p, xp ≠ la c := fun c hc => (ne_of_none (L3.own c hc) hxp0).symm
        have nql : ∀ c ∈ colsN p, cq ≠ la c := fun c hc => (ne_of_none (s6 _ _ (L5.own c hc)) hcq).symm
        refine for_list (K := K) (xs := (colsN (freshN m (rs.map Rl.d) p x)).map vN) (fun j σ H' => (∃ v6, σ = [some (vN m), some (.ref rl), some (vN p), some (.ref fp), some (.ref dA), some (vN x), v6]) ∧ H' xp = some (.lst ((dueN p).map vN)) ∧ H' cq = some (.lst ((colsN (freshN m (rs.map Rl.d) p x)).map vN)) ∧ Same H H' ∧ ∃ ss : List Rl, H' fp = some (.lst (ss.map fun (r : Rl) => V.ref r.r)) ∧ RulesAt H' m ss ∧ ss.map Rl.d = ((colsN (freshN m (rs.map Rl.d) p x)).take j).foldl (ownC m (rs.map Rl.d) p x) (((dueN p).take i).foldl (ownX m (rs.map Rl.d) p) []) ∧ LeftsA H p dA fp kvs la (ss.map Rl.d) H' ∧ ss.length ≤ 896 + j) ⟨⟨_, rfl⟩, s67 _ _ hx5, hcq7, s5.trans s67, ss, s67 _ _ hf5, hS5.same s67, es5, L5.same s67, by have := congrArg List.length es5; rw [List.length_map] at this; omega⟩ (fun j σ H' _ h => SqL.of h.2.2.1) ?_ ?_
        · rintro j v σ H8 hv ⟨⟨w6, rfl⟩, hx8, hc8, s8, ss8, hf8, hS8, es8, L8, ls8⟩
          rw [List.getElem?_map] at hv
          cases ec : (colsN (freshN m (rs.map Rl.d) p x))[j]? with
          | none => rw [ec] at hv; cases hv
          | some c =>
            rw [ec] at hv
            obtain rfl := (Option.some.inj hv).symm
            have hj : j < 7 := by have := (List.getElem?_eq_some_iff.mp ec).1; omega
            have hcF := (cols_mem (a := freshN m (rs.map Rl.d) p x) (by omega) c).mp (List.mem_of_getElem? ec)
            have hcB : hasB (freshN m (rs.map Rl.d) p x) c = true := by
              have := List.mem_of_getElem? ec
              rw [cols_seven m (by omega) _ flt] at this
              exact (List.mem_filter.mp this).2
            have hcp' : c ∈ colsN p := (cm c).mpr ((fresh_bits c).mp hcF).2.1
            have hcm : c < m := hasb_lt flt hcF
            have pc2 : 2 ^ c < 2 ^ m := Nat.pow_lt_pow_right (by decide) hcm
            have estep : ((colsN (freshN m (rs.map Rl.d) p x)).take (j + 1)).foldl (ownC m (rs.map Rl.d) p x) (((dueN p).take i).foldl (ownX m (rs.map Rl.d) p) []) = ownC m (rs.map Rl.d) p x (ss8.map Rl.d) c := by
              rw [List.take_succ, ec, List.foldl_append, es8]; rfl
            have ll := lefts_len (ss8.map Rl.d) c
            rw [List.length_map] at ll
            have dg : ∀ {HX : Hp}, HX dA = some (.dK kvs) → DGet HX dA (vN c) (some (.ref (la c))) := fun hX => by
              rw [← L8.val c hcp']
              exact DGet.k (k := .inl (c : Int)) hX
            refine ⟨_, rfl, _, rfl, _, rfl, dA, _, rfl, dg L8.d, x, la c, leftsOf (ss8.map Rl.d) c, rfl, SqL.of (L8.own c hcp'), by omega, fun H9 s9 => ⟨_, rfl, ite2 (fun hb => ?_) (fun hb => ?_)⟩⟩
            · have hw : heldB (ss8.map Rl.d) x c = false := by
                rw [← lefts_held]
                cases z : wiB x (leftsOf (ss8.map Rl.d) c) with
                | false => rfl
                | true => rw [z] at hb; cases hb
              have eo : ownC m (rs.map Rl.d) p x (ss8.map Rl.d) c = ss8.map Rl.d ++ [(true, x, 2 ^ c)] := by
                unfold ownC
                rw [hw, hcB]; rfl
              have L9 := L8.same s9
              have b2 := L9.own c hcp'
              refine ⟨_, rfl, _, rfl, dA, _, rfl, dg L9.d, .inl ⟨rfl, _, SqL.of b2⟩, _, rfl, la c, _, _, rfl, rfl, b2, small1000 (by rw [List.length_map]; omega), ?_⟩
              have LA := L9.add (x := x) hcp'
              have sA : Same H (upd H9 (la c) (.lst ((leftsOf (ss8.map Rl.d) c).map vN ++ [vN x]))) := (s8.trans s9).own (L8.new c hcp')
              have hSA : RulesAt (upd H9 (la c) (.lst ((leftsOf (ss8.map Rl.d) c).map vN ++ [vN x]))) m ss8 := (hS8.same s9).put b2
              have hfA : (upd H9 (la c) (.lst ((leftsOf (ss8.map Rl.d) c).map vN ++ [vN x]))) fp = some (.lst (ss8.map fun (r : Rl) => V.ref r.r)) := by rw [upd_ne (L8.nfp c hcp').symm]; exact s9 _ _ hf8
              have hxA : (upd H9 (la c) (.lst ((leftsOf (ss8.map Rl.d) c).map vN ++ [vN x]))) xp = some (.lst ((dueN p).map vN)) := by rw [upd_ne (nxl c hcp')]; exact s9 _ _ hx8
              have hcA : (upd H9 (la c) (.lst ((leftsOf (ss8.map Rl.d) c).map vN ++ [vN x]))) cq = some (.lst ((colsN (freshN m (rs.map Rl.d) p x)).map vN)) := by rw [upd_ne (nql c hcp')]; exact s9 _ _ hc8
              generalize upd H9 (la c) (.lst ((leftsOf (ss8.map Rl.d) c).map vN ++ [vN x])) = HA at LA sA hSA hfA hxA hcA
              refine ⟨_, rfl, .inl ⟨rfl, _, SqL.of hfA⟩, _, rfl, _, rfl, c, rfl, rfl, by omega, (by show 3 ≤ sizeLine; decide), fun tt htt => ?_⟩
              have sT := Same.new (o := .tup [V.str "settle", vN x, vN (2 ^ c)]) htt
              have htB : (upd HA tt (.tup [V.str "settle", vN x, vN (2 ^ c)])) tt = some (.tup [V.str "settle", vN x, vN (2 ^ c)]) := upd_same
              generalize upd HA tt (.tup [V.str "settle", vN x, vN (2 ^ c)]) = HB at sT htB
              have hfB := sT _ _ hfA
              refine ⟨fp, _, _, rfl, rfl, hfB, small1000 (by rw [List.length_map]; omega), ?_⟩
              have ntf : tt ≠ fp := ne_of htB hfB (by intro z; cases z)
              refine ⟨⟨_, rfl⟩, by rw [upd_ne nxf]; exact sT _ _ hxA, by rw [upd_ne nqf]; exact sT _ _ hcA, (sA.trans sT).own hfp, ss8 ++ [⟨tt, true, x, 2 ^ c⟩], by rw [upd_same, List.map_append]; rfl, fun r' hr' => ?_, by rw [estep, eo, List.map_append]; rfl, by rw [List.map_append]; exact (LA.same sT).put hfB, by rw [List.length_append]; show ss8.length + 1 ≤ _; omega⟩
              rcases List.mem_append.mp hr' with hr' | hr'
              · exact ((hSA.same sT).put hfB) r' hr'
              · rw [List.mem_singleton.mp hr']
                exact ⟨by show (upd HB fp _) tt = _; rw [upd_ne ntf]; exact htB, hx, pc2⟩
            · have hw : heldB (ss8.map Rl.d) x c = true := by
                rw [← lefts_held]
                cases z : wiB x (leftsOf (ss8.map Rl.d) c) with
                | true => rfl
                | false => exact absurd (by rw [z]; rfl) hb
              have eo : ownC m (rs.map Rl.d) p x (ss8.map Rl.d) c = ss8.map Rl.d := by
                unfold ownC
                rw [hw, Bool.not_true, Bool.and_false]; rfl
              exact ⟨⟨_, rfl⟩, s9 _ _ hx8, s9 _ _ hc8, s8.trans s9, ss8, s9 _ _ hf8, hS8.same s9, by rw [estep, eo], L8.same s9, by omega⟩
        · rintro σ H8 ⟨⟨w6, rfl⟩, hx8, hc8, s8, ss8, hf8, hS8, es8, L8, ls8⟩
          rw [List.length_map, List.take_length, ownX_cols m7] at es8
          exact ⟨⟨_, _, rfl⟩, hx8, s8, ss8, hf8, hS8, by rw [own_succ ex]; exact es8, L8⟩
    · rintro σ H5 ⟨⟨v5, v6, rfl⟩, hx5, s5, ss, hf5, hS5, es5, L5⟩
      rw [List.length_map, List.take_length] at es5
      exact ⟨_, rfl, q fp ss H5 s5 hfp hf5 hS5 es5⟩
end
end Own

namespace Own
open PySem L2
section
variable {P : Program} {w : World} {K : PySem.W.Frag} {mg : Str → Option Value} {base : Heap}
seal PySem.wpAny
noncomputable abbrev sFirstGain : Stmt := top 24
theorem scFirstGain : FnScope ["many", "rules", "parts", "some", "number", "part", "gained"] ["many", "rules", "parts", "some"] (defScope sFirstGain) := ⟨rfl, rfl, rfl, by decide +kernel, rfl, by decide +kernel, by decide +kernel⟩
theorem ok_firstgain {f fSE : Addr} {fd fdSE : FuncData} (F : Fun K "first_gain" "first_gain" sFirstGain f fd) (GSE : FnOk P w K mg base CX0 4 fSE fdSE ["many", "rules", "some"] (spSettled K)) (mSE : mg "settled" = some (.ref fSE)) (kSE : PySem.W.keepIn K (.ref fSE) = true) (bSE : Binds K fdSE ["many", "rules", "some"] []) (zenumerate : mg "enumerate" = none) : FnOk P w K mg base CX0 5 f fd ["many", "rules", "parts", "some"] (spFirstGain K) := by
  refine F.ok scFirstGain (fun vs H Q E h => ?_) (fun cdv A outer s H vs Q E hr h => ?_)
  · obtain ⟨m, z, rl, pl, rs, ps, rfl, _⟩ := h
    rfl
  · obtain ⟨m, z, rl, pl, rs, ps, rfl, m7, hz, hrl, hRs, lr, hpl, hps, qn, qs⟩ := h
    have nd := scFirstGain.nd
    have hr4 : Room 4 _ := hr.mono (by decide)
    refine ⟨_, (pss_cons (ps_for PassesOwn.never rfl (pi_enum (K := K) rfl rfl zenumerate (pa_cons (pv 2) pa_nil)) (pg_tup rfl (pgs_cons (pg_name (i := 4) nd rfl (Or.inl rfl)) (pgs_cons (pg_name (i := 5) nd rfl (Or.inl rfl)) pgs_nil))) (pss_cons (ps_set (i := 6) nd rfl (Or.inl rfl) (pe_op op_andInv (pe_op op_andN (pe_call GSE hr4 rfl mSE kSE bSE .nil pass0 (pa_cons (pv 0) (pa_cons (pv 1) (pa_cons (pe_op op_andN (pv 3) (pv 5)) pa_nil)))) (pv 5)) (pe_un un_inv (pv 3))))
      (pss_one (ps_if (pt_cmpR op_neN (pv 6) pe_int (nomark _)) (pss_one (ps_ret (pe_tup (pa_cons (pv 4) (pa_cons (pv 6) pa_nil))))) pss_nil))))
      (pss_one (ps_ret pe_non))), ?_⟩
    refine ⟨_, rfl, pl, _, rfl, hpl, for_enum (xs := ps.map vN) (fun i σ H' => (∃ v4 v5 v6, σ = [some (vN m), some (.ref rl), some (.ref pl), some (vN z), v4, v5, v6]) ∧ Same H H' ∧ ((List.range ps.length).take i).find? (gB m (rs.map Rl.d) z ps) = none) ⟨⟨none, none, none, rfl⟩, Same.refl _, rfl⟩ (fun i σ H' _ h => h.2.1.seq hpl) ?_ ?_⟩
    · rintro i v σ H0 t0 hv ⟨⟨v4, v5, v6, rfl⟩, s0, u0⟩ ht0
      rw [List.getElem?_map] at hv
      cases ep : ps[i]? with
      | none => rw [ep] at hv; cases hv
      | some p =>
        rw [ep] at hv
        obtain rfl := (Option.some.inj hv).symm
        have s1 := s0.trans (Same.new (o := .tup [.int (i : Int), vN p]) ht0)
        refine ⟨t0, _, rfl, SqT.of upd_same, rfl, _, _, rfl, _, _, rfl, rfl, ?_⟩
        generalize upd H0 t0 (.tup [.int (i : Int), vN p]) = H1 at s1
        have hzp : z &&& p < 2 ^ m := Nat.lt_of_le_of_lt Nat.and_le_left hz
        refine ⟨_, rfl, _, rfl, _, rfl, _, rfl, z, p, rfl, rfl, m, z &&& p, rl, rs, rfl, m7, hzp, s1.seq hrl, hRs.same s1, lr, fun u H2 R s2 => ?_⟩
        have e := (R.blocks hzp).fixF
        rw [← e]
        refine ⟨_, rfl, fixF m (rs.map Rl.d) (z &&& p), p, rfl, rfl, _, rfl, (z : Int), rfl, fixF m (rs.map Rl.d) (z &&& p) &&& p, z, rfl, rfl, ?_⟩
        have s12 := s1.trans s2
        refine ⟨_, rfl, gainN m (rs.map Rl.d) z p, 0, rfl, rfl, _, rfl, ite2 (fun hb => ?_) (fun hb => ?_)⟩
        · have hne : gainN m (rs.map Rl.d) z p ≠ 0 := fun w => by rw [decide_eq_true w] at hb; cases hb
          refine ⟨_, rfl, _, rfl, (by show 2 ≤ sizeLine; decide), fun t ht => ?_⟩
          exact qs _ t _ (s12.trans (Same.new ht)) (stepG_hit u0 ep hne) (s12.none ht) upd_same
        · have he : gainN m (rs.map Rl.d) z p = 0 := Classical.byContradiction fun w => hb (by rw [decide_eq_false w]; rfl)
          exact ⟨⟨_, _, _, rfl⟩, s12, stepG_miss u0 ep he⟩
    · rintro σ H' ⟨⟨v4, v5, v6, rfl⟩, s', u'⟩
      rw [List.length_map] at u'
      exact qn H' s' (stepG_none u' (Nat.le_refl _))
noncomputable abbrev sPartBy : Stmt := top 25
theorem scPartBy : FnScope ["many", "rules", "parts", "rule", "reached", "gains", "gain"] ["many", "rules", "parts", "rule"] (defScope sPartBy) := ⟨rfl, rfl, rfl, by decide +kernel, rfl, by decide +kernel, by decide +kernel⟩
theorem ok_partby {f fFG fIW : Addr} {fd fdFG fdIW : FuncData} {tkMP : PySem.Tok} (F : Fun K "part_by_part" "part_by_part" sPartBy f fd) (GFG : FnOk P w K mg base CX0 5 fFG fdFG ["many", "rules", "parts", "some"] (spFirstGain K)) (mFG : mg "first_gain" = some (.ref fFG)) (kFG : PySem.W.keepIn K (.ref fFG) = true) (bFG : Binds K fdFG ["many", "rules", "parts", "some"] []) (GIW : FnOk P w K mg base CX0 1 fIW fdIW ["one", "other"] spWithin) (mIW : mg "is_within" = some (.ref fIW)) (kIW : PySem.W.keepIn K (.ref fIW) = true) (bIW : Binds K fdIW ["one", "other"] []) (mMP : mg "MOST_PARTS" = some (.int 10 tkMP)) (zlen : mg "len" = none) : FnOk P w K mg base CX0 6 f fd ["many", "rules", "parts", "rule"] (spPartBy K) := by
  refine F.ok scPartBy (fun vs H Q E h => ?_) (fun cdv A outer s H vs Q E hr h => ?_)
  · obtain ⟨m, x, y, rl, pl, r, rs, ps, rfl, _⟩ := h
    rfl
  · obtain ⟨m, x, y, rl, pl, r, rs, ps, rfl, m7, hx, hrl, hRs, lr, hpl, hps, p1, p10, hR, qq⟩ := h
    have nd := scPartBy.nd
    have hr1 : Room 1 _ := hr.mono (by decide)
    have hr5 : Room 5 _ := hr.mono (by decide)
    have lpm : (ps.map vN).length = ps.length := List.length_map ..
    refine ⟨_, (pss_cons (ps_if (PW.pt (pw_or (pt_cmpR op_eqN (pe_callB (call_lenK (K := K) rfl) (by rfl) zlen PySem.boot_len (pa_cons (pv 2) pa_nil)) pe_int (nomark _)) (pw_or1 (pt_cmpR op_gtN (pe_callB (call_lenK (K := K) rfl) (by rfl) zlen PySem.boot_len (pa_cons (pv 2) pa_nil)) (pe_glob (v := vN 10) (by rfl) mMP ⟨_, rfl⟩) (nomark _))))) (pss_one ps_never) pss_nil) (pss_cons (ps_set (i := 4) nd rfl (Or.inl rfl) (pe_ix (ix_tupK (K := K) rfl) (pv 3) pe_int (fun _ _ => rfl))) (pss_cons (ps_set (i := 5) nd rfl (Or.inl rfl) (pe_lst pa_nil)) (pss_cut (fun σ H' => ∃ n, PInv H m x rl pl r rs ps n σ H') (ps_set (i := 6) nd rfl (Or.inl rfl) (pe_call GFG hr5 rfl mFG kFG bFG .nil pass0 (pa_cons (pv 0) (pa_cons (pv 1) (pa_cons (pv 2) (pa_cons (pv 4) pa_nil)))))) (pss_cons (ps_while PassesOwn.never (pt_cmpR op_notN (pv 6) pe_non (nomark _)) (pss_cons (ps_expr (pe_bm PySem.F.plainAttrs_list PySem.F.slot_list_append PySem.F.type_list_append mt_append (pv 5) (pa_cons (pv 6) pa_nil)))
      (pss_cons (ps_set (i := 4) nd rfl (Or.inl rfl) (pe_op op_orN (pv 4) (pe_ix (ix_tupK (K := K) rfl) (pv 6) pe_int (fun _ _ => rfl))))
      (pss_one (ps_set (i := 6) nd rfl (Or.inl rfl) (pe_call GFG hr5 rfl mFG kFG bFG .nil pass0 (pa_cons (pv 0) (pa_cons (pv 1) (pa_cons (pv 2) (pa_cons (pv 4) pa_nil))))))))))
      (pss_cons (ps_if (pt_val (pe_call GIW hr1 rfl mIW kIW bIW .nil pass0 (pa_cons (pe_ix (ix_tupK (K := K) rfl) (pv 3) pe_int (fun _ _ => rfl)) (pa_cons (pv 4) pa_nil)))) (pss_one (ps_ret (pe_tup (pa_cons pe_str (pa_cons (pv 5) pa_nil))))) pss_nil)
      (pss_one (ps_ret (pe_tup (pa_cons pe_str (pa_cons (pv 4) pa_nil))))))))))), ?_⟩
    refine ⟨_, rfl, pl, _, rfl, .inl hpl, (ps.map vN).length, 0, rfl, rfl, _, rfl, ?_⟩
    rw [lpm, decide_eq_false (show ¬ ps.length = 0 by omega)]
    refine iteF ?_
    refine ⟨_, rfl, pl, _, rfl, .inl hpl, (ps.map vN).length, 10, rfl, rfl, _, rfl, ?_⟩
    rw [lpm, decide_eq_false (show ¬ 10 < ps.length by omega)]
    refine iteF ?_
    refine ⟨_, rfl, r, _, _, _, rfl, rfl, SqT.of hR, atI_nat (j := 1) rfl, ?_⟩
    refine ⟨Nat.zero_le _, fun gl hgl => ?_⟩
    have s1 := Same.new (o := .lst []) hgl
    have hgl1 : (upd H gl (.lst [])) gl = some (.lst []) := upd_same
    generalize upd H gl (.lst []) = H1 at s1 hgl1
    refine ⟨⟨_, rfl, _, rfl, _, rfl, _, rfl, m, x, rl, pl, rs, ps, rfl, m7, hx, s1.seq hrl, hRs.same s1, lr, s1.seq hpl, hps, fun H2 s2 hn => ?_, fun u t H2 s2 hu ht0 ht => ?_⟩, ?_⟩
    · exact ⟨_, x, gl, [], .non, rfl, GAt.begin m7 hx, s1.trans s2, hgl, s2 _ _ hgl1, (fun w h => absurd h List.not_mem_nil), .inl ⟨hn, rfl⟩⟩
    · exact ⟨_, x, gl, [], .ref t, rfl, GAt.begin m7 hx, s1.trans s2, hgl, s2 _ _ hgl1, (fun w h => absurd h List.not_mem_nil), .inr ⟨u, t, hu, rfl, ht⟩⟩
    clear s1 hgl1 hgl
    rintro σ H3 ⟨n0, hinv⟩
    refine ⟨PInv H m x rl pl r rs ps, ⟨n0, hinv⟩, ?_⟩
    clear hinv
    rintro n _ H4 ⟨z, gl, sw, v, rfl, G, s4, hgl, hgl4, st4, hv⟩
    refine ⟨_, rfl, rfl, _, rfl, ?_⟩
    rcases hv with ⟨hn, rfl⟩ | ⟨u, t, hu, rfl, ht⟩
    · refine iteF ?_
      obtain ⟨d1, d2⟩ := G.done hn
      have hR4 := s4 _ _ hR
      refine ⟨_, rfl, r, _, _, _, rfl, rfl, SqT.of hR4, atI_nat (j := 2) rfl, _, rfl, y, z, rfl, _, rfl, ite2 (fun hb => ?_) (fun hb => ?_)⟩
      · refine ⟨_, rfl, (by show 2 ≤ sizeLine; decide), fun t ht => ?_⟩
        have s5 := Same.new (o := .tup [V.str "yes", V.ref gl]) ht
        refine qq t _ (s4.trans s5) (.inl ⟨by rw [← d2]; exact of_decide_eq_true hb, gl, sw, s5 _ _ hgl4, st4.same s5, d1, ?_, upd_same⟩) fun q' w => ?_
        · have := G.len
          rw [List.length_map] at this
          omega
        · rw [upd_same] at w
          injection w with w
          injection w with w
          injection w with _ w
          injection w with w _
          injection w with w
          rw [← w]; exact hgl
      · refine ⟨_, rfl, (by show 2 ≤ sizeLine; decide), fun t ht => ?_⟩
        refine qq t _ (s4.trans (Same.new ht)) (.inr ⟨by rw [← d2]; exact fun w => hb (decide_eq_true w), by rw [upd_same, ← d2]⟩) fun q' w => ?_
        rw [upd_same] at w
        injection w with w
        injection w with w
        injection w with w
        injection w with w
        exact absurd w (by decide)
    · refine iteT ?_
      refine ⟨_, fun _ _ h => h, ?_⟩
      obtain ⟨n', rfl, G'⟩ := G.next hu
      have ls := G.len
      rw [List.length_map] at ls
      refine ⟨_, rfl, .inl ⟨rfl, _, SqL.of hgl4⟩, _, rfl, gl, _, _, rfl, rfl, hgl4, (by rw [List.length_map]; exact small1000 (by omega)), ?_⟩
      have nt : t ≠ gl := ne_of ht hgl4 (by intro z; cases z)
      have s5 : Same H (upd H4 gl (.lst ((sw.map fun w => V.ref w.1) ++ [V.ref t]))) := s4.own hgl
      have ht5 : (upd H4 gl (.lst ((sw.map fun w => V.ref w.1) ++ [V.ref t]))) t = some (.tup [vN u.1, vN u.2]) := by rw [upd_ne nt]; exact ht
      have hg5 : (upd H4 gl (.lst ((sw.map fun w => V.ref w.1) ++ [V.ref t]))) gl = some (.lst ((sw ++ [(t, u)]).map fun w => V.ref w.1)) := by rw [upd_same, List.map_append]; rfl
      have st5 : StepsAt (upd H4 gl (.lst ((sw.map fun w => V.ref w.1) ++ [V.ref t]))) (sw ++ [(t, u)]) := (st4.put hgl4).snoc (w := (t, u)) ht5
      generalize upd H4 gl (.lst ((sw.map fun w => V.ref w.1) ++ [V.ref t])) = H5 at s5 ht5 hg5 st5
      have G2 : GAt m (rs.map Rl.d) ps x ((sw ++ [(t, u)]).map (·.2)) (z ||| u.2) n' := by rw [List.map_append]; exact G'
      refine ⟨_, rfl, _, rfl, t, _, _, _, rfl, rfl, SqT.of ht5, atI_nat (j := 1) rfl, z, u.2, rfl, rfl, ?_⟩
      refine ⟨_, rfl, _, rfl, _, rfl, _, rfl, m, z ||| u.2, rl, pl, rs, ps, rfl, m7, G2.lt, s5.seq hrl, hRs.same s5, lr, s5.seq hpl, hps, fun H6 s6 hn => ?_, fun u' t' H6 s6 hu' ht0' ht' => ?_⟩
      · exact ⟨n', by omega, _, gl, _, .non, rfl, G2, s5.trans s6, hgl, s6 _ _ hg5, st5.same s6, .inl ⟨hn, rfl⟩⟩
      · exact ⟨n', by omega, _, gl, _, .ref t', rfl, G2, s5.trans s6, hgl, s6 _ _ hg5, st5.same s6, .inr ⟨u', t', hu', rfl, ht'⟩⟩
end
end Own

namespace Own
open PySem L2
section
variable {P : Program} {w : World} {K : PySem.W.Frag} {mg : Str → Option Value} {base : Heap}
seal PySem.wpAny
noncomputable abbrev sPCell : Stmt := top 27
theorem scPCell : FnScope ["_law_script", "_law_k", "_law_number", "_law_spot"] ["_law_script", "_law_k"] (defScope sPCell) := ⟨rfl, rfl, rfl, by decide +kernel, rfl, by decide +kernel, by decide +kernel⟩
theorem ok_pcell {f : Addr} {fd : FuncData} (F : Fun K "_law_cell" "_law_cell" sPCell f fd) (zlen : mg "len" = none) : FnOk P w K mg base CX0 1 f fd ["_law_script", "_law_k"] (spPCell K) := by
  refine F.ok scPCell (fun vs H Q E h => ?_) (fun cdv A outer s H vs Q E hr h => ?_)
  · obtain ⟨sc, ns, k, rfl, _⟩ := h
    rfl
  · obtain ⟨sc, ns, k, rfl, hS, hk, q⟩ := h
    have nd := scPCell.nd
    have kk : k * k ≤ 1000000 * 1000000 := Nat.mul_le_mul hk hk
    have len1 : (ns.map V.int).length = ns.length := List.length_map ..
    refine ⟨_, (pss_cons (ps_if (pt_cmpR op_ltN (pv 1) (pe_callB (call_lenK (K := K) rfl) (by rfl) zlen PySem.boot_len (pa_cons (pv 0) pa_nil)) (nomark _)) (pss_one (ps_ret (pe_ix (ix_listK (K := K) rfl) (pv 0) (pv 1) (fun _ _ => rfl)))) pss_nil)
      (pss_cons (ps_set (i := 2) nd rfl (Or.inl rfl) (pe_op op_addN (pe_op op_mulN (pv 1) pe_int) pe_int))
      (pss_cons (ps_if (pt_cmpR op_gtN (pe_callB (call_lenK (K := K) rfl) (by rfl) zlen PySem.boot_len (pa_cons (pv 0) pa_nil)) pe_int (nomark _)) (pss_cons (ps_set (i := 3) nd rfl (Or.inl rfl) (pe_ix (ix_listK (K := K) rfl) (pv 0) (pe_op op_modN' (pe_op op_mulN (pv 1) pe_int) (pe_callB (call_lenK (K := K) rfl) (by rfl) zlen PySem.boot_len (pa_cons (pv 0) pa_nil))) (fun _ _ => rfl)))
      (pss_one (ps_set (i := 2) nd rfl (Or.inl rfl) (pe_op op_mod (pe_op op_add (pe_op op_add (pe_op op_mul (pv 3) pe_int) (pe_op op_mulN (pe_op op_mulN (pv 1) (pv 1)) pe_int)) (pv 1)) pe_int)))) pss_nil)
      (pss_one (ps_ret (pe_op op_modN' (pe_op op_mulN (pv 2) (pv 2)) pe_int)))))), ?_⟩
    refine ⟨_, rfl, _, rfl, sc, _, rfl, .inl hS, k, _, rfl, rfl, _, rfl, ?_⟩
    refine ite2 (fun hc => ?_) (fun hc => ?_)
    · have hlt : k < ns.length := by
        have := of_decide_eq_true hc
        rwa [len1] at this
      exact ⟨_, rfl, _, rfl, sc, _, _, _, rfl, rfl, hS, atI_nat (j := k) (v := V.int ns[k]) (by simp [hlt]), q _⟩
    · refine ⟨_, rfl, k, 7919, rfl, rfl, by omega, k * 7919, 5, rfl, rfl, ?_⟩
      refine ⟨_, rfl, sc, _, rfl, .inl hS, _, 0, rfl, rfl, _, rfl, ?_⟩
      refine ite2 (fun hc2 => ?_) (fun hc2 => ?_)
      · have hpos : 0 < (ns.map V.int).length := of_decide_eq_true hc2
        have hj : k * 7 % (ns.map V.int).length < ns.length := by
          have := Nat.mod_lt (k * 7) hpos
          rwa [len1] at this ⊢
        refine ⟨_, rfl, _, rfl, k, 7, rfl, rfl, by omega, _, rfl, sc, _, rfl, .inl hS, k * 7, (ns.map V.int).length, rfl, rfl, hpos, sc, _, _, _, rfl, rfl, hS, atI_nat (j := k * 7 % (ns.map V.int).length) (v := V.int ns[k * 7 % (ns.map V.int).length]) (by rw [List.getElem?_map, List.getElem?_eq_getElem hj]; rfl), ?_⟩
        refine ⟨_, rfl, _, _, rfl, rfl, .inr ⟨by decide, by decide⟩, _, rfl, _, rfl, k, k, rfl, rfl, by omega, k * k, 7919, rfl, rfl, by omega, _, _, rfl, rfl, _, rfl, _, _, rfl, rfl, _, _, rfl, rfl, (by show (0 : Int) < 2147483647; decide), ?_⟩
        have p0 : (0 : Int) < 2147483647 := by decide
        dsimp only
        generalize ns[k * 7 % (ns.map V.int).length] * 48271 + ((k * k * 7919 : Nat) : Int) + (k : Int) = z
        obtain ⟨c, e, lt⟩ := nat_of (n := 2147483647) (mod_lo z p0) (mod_hi z p0)
        refine ⟨_, rfl, _, rfl, c, c, congrArg V.int e, congrArg V.int e, by omega, c * c, 2147483629, rfl, rfl, (by show 0 < 2147483629; decide), q _⟩
      · exact ⟨_, rfl, _, rfl, k * 7919 + 5, k * 7919 + 5, rfl, rfl, by omega, _, 2147483629, rfl, rfl, (by show 0 < 2147483629; decide), q _⟩
noncomputable abbrev sPNext : Stmt := top 28
theorem scPNext : FnScope ["_law_pen", "_law_most", "_law_cell_here"] ["_law_pen", "_law_most"] (defScope sPNext) := ⟨rfl, rfl, rfl, by decide +kernel, rfl, by decide +kernel, by decide +kernel⟩
theorem ok_pnext {f fPC : Addr} {fd fdPC : FuncData} (F : Fun K "_law_next" "_law_next" sPNext f fd) (GPC : FnOk P w K mg base CX0 1 fPC fdPC ["_law_script", "_law_k"] (spPCell K)) (mPC : mg "_law_cell" = some (.ref fPC)) (kPC : PySem.W.keepIn K (.ref fPC) = true) (bPC : Binds K fdPC ["_law_script", "_law_k"] []) : FnOk P w K mg base CX0 2 f fd ["_law_pen", "_law_most"] (spTakeF K) := by
  refine F.ok scPNext (fun vs H Q E h => ?_) (fun cdv A outer s H vs Q E hr h => ?_)
  · obtain ⟨st, ns, k, most, rfl, _⟩ := h
    rfl
  · obtain ⟨st, ns, k, most, rfl, S, hk, hl, hm, q⟩ := h
    obtain ⟨sc, hst, hscF⟩ := id S
    have nd := scPNext.nd
    have hr1 : Room 1 _ := hr.mono (by decide)
    refine ⟨_, (pss_cons (ps_set (i := 2) nd rfl (Or.inl rfl) (pe_op op_mod (pe_call GPC hr1 rfl mPC kPC bPC .nil pass0 (pa_cons (pe_ix (ix_listK (K := K) rfl) (pv 0) pe_int (fun _ _ => rfl)) (pa_cons (pe_ix (ix_listK (K := K) rfl) (pv 0) pe_int (fun _ _ => rfl)) pa_nil))) (pv 1)))
      (pss_cons (ps_asg (pe_op op_add (pe_ix (ix_listK (K := K) rfl) (pv 0) pe_int (fun _ _ => rfl)) pe_int) (pg_sub (pv 0) pe_int set_list))
      (pss_one (ps_ret (pv 2))))), ?_⟩
    refine ⟨_, rfl, st, _, _, _, rfl, rfl, SqL.of hst, atI_nat (j := 0) rfl, _, rfl, st, _, _, _, rfl, rfl, SqL.of hst, atI_nat (j := 1) rfl, sc, ns, k, rfl, hscF.sq, hk, fun v => ?_⟩
    refine ⟨_, rfl, _, _, rfl, rfl, hm, ?_⟩
    refine ⟨_, rfl, st, _, _, _, rfl, rfl, SqL.of hst, atI_nat (j := 1) rfl, _, _, rfl, rfl, _, rfl, st, _, 1, 1, rfl, rfl, hst, rfl, ?_⟩
    have bt : But st H (upd H st (.lst [.ref sc, .int ((k : Int) + 1)])) := But.put st H _
    have hscF' : SqF K (upd H st (.lst [.ref sc, .int ((k : Int) + 1)])) sc ns := STF.seq hst hscF bt
    have s' : L2.STF K (upd H st (.lst [.ref sc, .int ((k : Int) + 1)])) st ns (k + 1) := ⟨sc, by rw [upd_same]; rfl, hscF'⟩
    exact ⟨_, rfl, q _ _ (mod_lo _ hm) (mod_hi _ hm) s' bt⟩
noncomputable abbrev sPSome : Stmt := top 29
theorem scPSome : FnScope ["_law_pen", "_law_many", "_law_first", "_law_second", "_law_one", "_law_other"] ["_law_pen", "_law_many"] (defScope sPSome) := ⟨rfl, rfl, rfl, by decide +kernel, rfl, by decide +kernel, by decide +kernel⟩
theorem ok_psome {f fPN : Addr} {fd fdPN : FuncData} (F : Fun K "_law_some" "_law_some" sPSome f fd) (GPN : FnOk P w K mg base CX0 2 fPN fdPN ["_law_pen", "_law_most"] (spTakeF K)) (mPN : mg "_law_next" = some (.ref fPN)) (kPN : PySem.W.keepIn K (.ref fPN) = true) (bPN : Binds K fdPN ["_law_pen", "_law_most"] []) : FnOk P w K mg base CX0 3 f fd ["_law_pen", "_law_many"] (spSetF K) := by
  refine F.ok scPSome (fun vs H Q E h => ?_) (fun cdv A outer s H vs Q E hr h => ?_)
  · obtain ⟨st, ns, k, m, rfl, _⟩ := h
    rfl
  · obtain ⟨st, ns, k, m, rfl, S, hk, hl, hm1, hm7, q⟩ := h
    have nd := scPSome.nd
    have hr2 : Room 2 _ := hr.mono (by decide)
    have pw : 0 < 2 ^ m := Nat.two_pow_pos m
    refine ⟨_, (pss_cons (ps_set (i := 2) nd rfl (Or.inl rfl) (pe_call GPN hr2 rfl mPN kPN bPN .nil pass0 (pa_cons (pv 0) (pa_cons (pe_op op_shl1 pe_int (pv 1)) pa_nil))))
      (pss_cons (ps_set (i := 3) nd rfl (Or.inl rfl) (pe_call GPN hr2 rfl mPN kPN bPN .nil pass0 (pa_cons (pv 0) (pa_cons (pe_op op_shl1 pe_int (pv 1)) pa_nil))))
      (pss_cons (ps_set (i := 4) nd rfl (Or.inl rfl) (pe_op op_shl1 pe_int (pe_op op_modN' (pv 2) (pv 1))))
      (pss_cons (ps_set (i := 5) nd rfl (Or.inl rfl) (pe_op op_shl1 pe_int (pe_op op_modN' (pv 3) (pv 1))))
      (pss_one (ps_ret (pe_ix (ix_listK (K := K) rfl) (pe_lst (pa_cons (pv 2) (pa_cons (pe_op op_andN (pv 2) (pv 3)) (pa_cons (pv 4) (pa_cons (pe_op op_orN (pv 4) (pv 5)) (pa_cons (pv 4) (pa_cons (pe_op op_orN (pv 4) (pv 5)) (pa_cons (pe_op op_andN (pv 2) (pv 3)) (pa_cons pe_int pa_nil))))))))) (pe_call GPN hr2 rfl mPN kPN bPN .nil pass0 (pa_cons (pv 0) (pa_cons pe_int pa_nil))) (fun _ _ => rfl)))))))), ?_⟩
    refine ⟨_, rfl, _, rfl, m, rfl, rfl, by omega, st, ns, k, ((2 ^ m : Nat) : Int), rfl, S, by omega, hl, by omega, fun r1 H1 a1 b1 S1 B1 => ?_⟩
    obtain ⟨n1, rfl, hn1⟩ := nat_of a1 b1
    refine ⟨_, rfl, _, rfl, m, rfl, rfl, by omega, st, ns, k + 1, ((2 ^ m : Nat) : Int), rfl, S1, by omega, hl, by omega, fun r2 H2 a2 b2 S2 B2 => ?_⟩
    obtain ⟨n2, rfl, hn2⟩ := nat_of a2 b2
    have l1 : n1 % m < m := Nat.mod_lt _ (by omega)
    have l2 : n2 % m < m := Nat.mod_lt _ (by omega)
    have p1 : 2 ^ (n1 % m) < 2 ^ m := Nat.pow_lt_pow_right (by decide) l1
    have p2 : 2 ^ (n2 % m) < 2 ^ m := Nat.pow_lt_pow_right (by decide) l2
    refine ⟨_, rfl, _, rfl, n1, m, rfl, rfl, (by show 0 < m; omega), n1 % m, rfl, rfl, by omega, ?_⟩
    refine ⟨_, rfl, _, rfl, n2, m, rfl, rfl, (by show 0 < m; omega), n2 % m, rfl, rfl, by omega, ?_⟩
    refine ⟨_, rfl, _, rfl, _, rfl, n1, n2, rfl, rfl, _, rfl, _, rfl, _, rfl, 2 ^ (n1 % m), 2 ^ (n2 % m), rfl, rfl, _, rfl, _, rfl, _, rfl, 2 ^ (n1 % m), 2 ^ (n2 % m), rfl, rfl, _, rfl, _, rfl, n1, n2, rfl, rfl, (by show 8 ≤ sizeLine; decide), fun g hg => ?_⟩
    have hgs := (stf_fresh S2 (But.refl _ _) hg).2
    refine ⟨_, rfl, st, ns, k + 2, 8, rfl, S2.new hg, by omega, hl, by decide, fun r3 H3 a3 b3 S3 B3 => ?_⟩
    obtain ⟨n3, rfl, hn3⟩ := nat_of (n := 8) a3 b3
    obtain ⟨w, ew, hw⟩ : ∃ w : Nat, ([vN n1, vN (n1 &&& n2), vN (2 ^ (n1 % m)), vN (2 ^ (n1 % m) ||| 2 ^ (n2 % m)), vN (2 ^ (n1 % m)), vN (2 ^ (n1 % m) ||| 2 ^ (n2 % m)), vN (n1 &&& n2), vN 0] : List V)[n3]? = some (vN w) ∧ w < 2 ^ m := by
      have ha : n1 &&& n2 < 2 ^ m := and_lt hn1
      have ho : 2 ^ (n1 % m) ||| 2 ^ (n2 % m) < 2 ^ m := Nat.or_lt_two_pow p1 p2
      match n3, hn3 with
      | 0, _ => exact ⟨_, rfl, hn1⟩
      | 1, _ => exact ⟨_, rfl, ha⟩
      | 2, _ => exact ⟨_, rfl, p1⟩
      | 3, _ => exact ⟨_, rfl, ho⟩
      | 4, _ => exact ⟨_, rfl, p1⟩
      | 5, _ => exact ⟨_, rfl, ho⟩
      | 6, _ => exact ⟨_, rfl, ha⟩
      | 7, _ => exact ⟨0, rfl, pw⟩
    have hg3 := B3 _ _ (upd_same (H := H2) (a := g) (o := .lst [vN n1, vN (n1 &&& n2), vN (2 ^ (n1 % m)), vN (2 ^ (n1 % m) ||| 2 ^ (n2 % m)), vN (2 ^ (n1 % m)), vN (2 ^ (n1 % m) ||| 2 ^ (n2 % m)), vN (n1 &&& n2), vN 0])) hgs
    refine ⟨g, _, _, _, rfl, rfl, SqL.of hg3, atI_nat ew, ?_⟩
    exact q w _ _ hw (Nat.le_refl _) S3 ((B1.trans B2).trans ((But.new hg).trans B3))
noncomputable abbrev sPPair : Stmt := top 30
theorem scPPair : FnScope ["_law_pen", "_law_many", "_law_number", "_law_one"] ["_law_pen", "_law_many"] (defScope sPPair) := ⟨rfl, rfl, rfl, by decide +kernel, rfl, by decide +kernel, by decide +kernel⟩
theorem ok_ppair {f fPN : Addr} {fd fdPN : FuncData} (F : Fun K "_law_pair" "_law_pair" sPPair f fd) (GPN : FnOk P w K mg base CX0 2 fPN fdPN ["_law_pen", "_law_most"] (spTakeF K)) (mPN : mg "_law_next" = some (.ref fPN)) (kPN : PySem.W.keepIn K (.ref fPN) = true) (bPN : Binds K fdPN ["_law_pen", "_law_most"] []) (zint : mg "int" = none) : FnOk P w K mg base CX0 3 f fd ["_law_pen", "_law_many"] (spSetF K) := by
  refine F.ok scPPair (fun vs H Q E h => ?_) (fun cdv A outer s H vs Q E hr h => ?_)
  · obtain ⟨st, ns, k, m, rfl, _⟩ := h
    rfl
  · obtain ⟨st, ns, k, m, rfl, S, hk, hl, hm1, hm7, q⟩ := h
    have nd := scPPair.nd
    have hr2 : Room 2 _ := hr.mono (by decide)
    have mm : m * m ≤ 7 * 7 := Nat.mul_le_mul hm7 hm7
    have m3 : 0 < 3 * m * m := Nat.mul_pos (by omega) (by omega)
    refine ⟨_, (pss_cons (ps_set (i := 2) nd rfl (Or.inl rfl) (pe_call GPN hr2 rfl mPN kPN bPN .nil pass0 (pa_cons (pv 0) (pa_cons (pe_op op_mulN (pe_op op_mulN pe_int (pv 1)) (pv 1)) pa_nil))))
      (pss_cons (ps_set (i := 3) nd rfl (Or.inl rfl) (pe_op op_shl1 pe_int (pe_op op_modN' (pv 2) (pv 1))))
      (pss_one (ps_ret (pe_ix (ix_listK (K := K) rfl) (pe_lst (pa_cons (pv 3) (pa_cons (pe_op op_orN (pv 3) (pe_op op_shl1 pe_int (pe_op op_modN' (pe_op op_fdivN' (pv 2) (pv 1)) (pv 1)))) pa_nil))) (pe_callTy call_int1 (by rfl) zint PyProof.Rows.boot_int (pa_cons (pe_cmpR op_geN (pv 2) (pe_op op_mulN (pv 1) (pv 1)) (nomark _)) pa_nil)) (fun _ _ => rfl)))))), ?_⟩
    refine ⟨_, rfl, _, rfl, 3, m, rfl, rfl, (by show 3 < 2 ^ 64; decide), _, rfl, 3 * m, m, rfl, rfl, (by show 3 * m < 2 ^ 64; omega), st, ns, k, ((3 * m * m : Nat) : Int), rfl, S, by omega, hl, by omega, fun r1 H1 a1 b1 S1 B1 => ?_⟩
    obtain ⟨n1, rfl, hn1⟩ := nat_of a1 b1
    have l1 : n1 % m < m := Nat.mod_lt _ (by omega)
    have l2 : n1 / m % m < m := Nat.mod_lt _ (by omega)
    have p1 : 2 ^ (n1 % m) < 2 ^ m := Nat.pow_lt_pow_right (by decide) l1
    have p2 : 2 ^ (n1 / m % m) < 2 ^ m := Nat.pow_lt_pow_right (by decide) l2
    refine ⟨_, rfl, _, rfl, n1, m, rfl, rfl, (by show 0 < m; omega), n1 % m, rfl, rfl, by omega, ?_⟩
    refine ⟨_, rfl, _, rfl, _, rfl, _, rfl, n1, m, rfl, rfl, ⟨by omega, by omega⟩, _, rfl, n1 / m, m, rfl, rfl, (by show 0 < m; omega), n1 / m % m, rfl, rfl, by omega, 2 ^ (n1 % m), 2 ^ (n1 / m % m), rfl, rfl, (by show 2 ≤ sizeLine; decide), fun g hg => ?_⟩
    refine ⟨_, rfl, _, rfl, _, rfl, m, m, rfl, rfl, (by show m < 2 ^ 64; omega), n1, m * m, rfl, rfl, .inr ⟨_, rfl, ?_⟩⟩
    obtain ⟨j, ej, hj⟩ : ∃ j : Nat, (if decide (m * m ≤ n1) = true then (1 : Int) else 0) = (j : Int) ∧ j < 2 := by
      split
      · exact ⟨1, rfl, by decide⟩
      · exact ⟨0, rfl, by decide⟩
    obtain ⟨w, ew, hw⟩ : ∃ w : Nat, ([vN (2 ^ (n1 % m)), vN (2 ^ (n1 % m) ||| 2 ^ (n1 / m % m))] : List V)[j]? = some (vN w) ∧ w < 2 ^ m := by
      match j, hj with
      | 0, _ => exact ⟨_, rfl, p1⟩
      | 1, _ => exact ⟨_, rfl, Nat.or_lt_two_pow p1 p2⟩
    refine ⟨g, _, _, _, rfl, rfl, SqL.of upd_same, (by rw [ej]; exact atI_nat ew), ?_⟩
    exact q w (k + 1) _ hw (by omega) (S1.new hg) (B1.trans (But.new hg))
end
end Own

namespace Own
open PySem L2
section
variable {P : Program} {w : World} {K : PySem.W.Frag} {mg : Str → Option Value} {base : Heap}
seal PySem.wpAny
noncomputable abbrev sPRules : Stmt := top 31
theorem scPRules : FnScope ["_law_pen", "_law_many", "_law_most", "_law_rules_here", "_law_amount", "_law_k", "_law_word_here"] ["_law_pen", "_law_many", "_law_most"] (defScope sPRules) := ⟨rfl, rfl, rfl, by decide +kernel, rfl, by decide +kernel, by decide +kernel⟩
noncomputable def PPR (K : PySem.W.Frag) (st : Addr) (ns : List Int) (m mo k : Nat) (H : Hp) : St → Hp → Prop := fun σ H' => ∃ (g : Addr) (am : Nat) (v5 v6 : Option V) (rs : List Rl) (k2 : Nat), σ = [some (.ref st), some (vN m), some (vN mo), some (.ref g), some (vN am), v5, v6] ∧ am ≤ 4 ∧ PR K H st ns m g rs k2 H' ∧ rs.length ≤ 13 ∧ k2 ≤ k + 110
theorem ok_prules {f fPN fPS fPP : Addr} {fd fdPN fdPS fdPP : FuncData} (F : Fun K "_law_rules" "_law_rules" sPRules f fd) (GPN : FnOk P w K mg base CX0 2 fPN fdPN ["_law_pen", "_law_most"] (spTakeF K)) (mPN : mg "_law_next" = some (.ref fPN)) (kPN : PySem.W.keepIn K (.ref fPN) = true) (bPN : Binds K fdPN ["_law_pen", "_law_most"] []) (GPS : FnOk P w K mg base CX0 3 fPS fdPS ["_law_pen", "_law_many"] (spSetF K)) (mPS : mg "_law_some" = some (.ref fPS)) (kPS : PySem.W.keepIn K (.ref fPS) = true) (bPS : Binds K fdPS ["_law_pen", "_law_many"] []) (GPP : FnOk P w K mg base CX0 3 fPP fdPP ["_law_pen", "_law_many"] (spSetF K)) (mPP : mg "_law_pair" = some (.ref fPP)) (kPP : PySem.W.keepIn K (.ref fPP) = true) (bPP : Binds K fdPP ["_law_pen", "_law_many"] []) (zrange : mg "range" = none) (zint : mg "int" = none) : FnOk P w K mg base CX0 4 f fd ["_law_pen", "_law_many", "_law_most"] (spPRules K) := by
  refine F.ok scPRules (fun vs H Q E h => ?_) (fun cdv A outer s H vs Q E hr h => ?_)
  · obtain ⟨st, ns, k, m, mo, rfl, _⟩ := h
    rfl
  · obtain ⟨st, ns, k, m, mo, rfl, S, hk, hl, hm1, hm7, hmo, q⟩ := h
    have nd := scPRules.nd
    have hr2 : Room 2 _ := hr.mono (by decide)
    refine ⟨_, (pss_cons (ps_set (i := 3) nd rfl (Or.inl rfl) (pe_lst pa_nil)) (pss_cons (ps_set (i := 4) nd rfl (Or.inl rfl) (pe_call GPN hr2 rfl mPN kPN bPN .nil pass0 (pa_cons (pv 0) (pa_cons (pe_op op_addN (pv 2) pe_int) pa_nil)))) (pss_cut (PPR K st ns m mo k H) (ps_if (pt_cmpR op_eqN (pe_call GPN hr2 rfl mPN kPN bPN .nil pass0 (pa_cons (pv 0) (pa_cons pe_int pa_nil))) pe_int (nomark _)) (pss_cons (ps_set (i := 4) nd rfl (Or.inl rfl) pe_int)
      (pss_one (ps_for PassesOwn.never rfl (pi_range1 rfl zrange (pa_cons (pe_op op_addN pe_int (pe_call GPN hr2 rfl mPN kPN bPN .nil pass0 (pa_cons (pv 0) (pa_cons (pe_ix (ix_listK (K := K) rfl) (pe_lst (pa_cons pe_int (pa_cons pe_int pa_nil))) (pe_callTy call_int1 (by rfl) zint PyProof.Rows.boot_int (pa_cons (pe_cmpR op_gtN (pv 1) pe_int (nomark _)) pa_nil)) (fun _ _ => rfl)) pa_nil)))) pa_nil)) (pg_name (i := 5) nd rfl (Or.inl rfl)) (pss_cons (ps_set (i := 6) nd rfl (Or.inl rfl) (pe_ix (ix_listK (K := K) rfl) (pe_lst (pa_cons pe_str (pa_cons pe_str (pa_cons pe_str pa_nil)))) (pe_call GPN hr2 rfl mPN kPN bPN .nil pass0 (pa_cons (pv 0) (pa_cons pe_int pa_nil))) (fun _ _ => rfl)))
      (pss_one (ps_expr (pe_bm PySem.F.plainAttrs_list PySem.F.slot_list_append PySem.F.type_list_append mt_append (pv 3) (pa_cons (pe_tup (pa_cons (pv 6) (pa_cons (pe_call GPP hr rfl mPP kPP bPP .nil pass0 (pa_cons (pv 0) (pa_cons (pv 1) pa_nil))) (pa_cons (pe_call GPP hr rfl mPP kPP bPP .nil pass0 (pa_cons (pv 0) (pa_cons (pv 1) pa_nil))) pa_nil)))) pa_nil)))))))) pss_nil) (pss_cons (ps_for PassesOwn.never rfl (pi_range1 rfl zrange (pa_cons (pv 4) pa_nil)) (pg_name (i := 5) nd rfl (Or.inl rfl)) (pss_cons (ps_set (i := 6) nd rfl (Or.inl rfl) (pe_ix (ix_listK (K := K) rfl) (pe_lst (pa_cons pe_str (pa_cons pe_str (pa_cons pe_str pa_nil)))) (pe_call GPN hr2 rfl mPN kPN bPN .nil pass0 (pa_cons (pv 0) (pa_cons pe_int pa_nil))) (fun _ _ => rfl)))
      (pss_one (ps_expr (pe_bm PySem.F.plainAttrs_list PySem.F.slot_list_append PySem.F.type_list_append mt_append (pv 3) (pa_cons (pe_tup (pa_cons (pv 6) (pa_cons (pe_call GPS hr rfl mPS kPS bPS .nil pass0 (pa_cons (pv 0) (pa_cons (pv 1) pa_nil))) (pa_cons (pe_call GPS hr rfl mPS kPS bPS .nil pass0 (pa_cons (pv 0) (pa_cons (pv 1) pa_nil))) pa_nil)))) pa_nil)))))) (pss_one (ps_ret (pv 3))))))), ?_⟩
    refine ⟨(by show 0 ≤ sizeLine; exact Nat.zero_le _), fun g hg => ?_⟩
    obtain ⟨hgH, hgs⟩ := stf_fresh S (But.refl _ _) hg
    refine ⟨_, rfl, _, rfl, mo, 1, rfl, rfl, st, ns, k, ((mo + 1 : Nat) : Int), rfl, S.new hg, by omega, hl, by omega, fun r1 H1 a1 b1 S1 B1 => ?_⟩
    obtain ⟨am, rfl, ham⟩ := nat_of a1 b1
    have hg1 := B1 _ _ (upd_same (H := H) (a := g) (o := .lst [])) hgs
    refine ⟨⟨_, rfl, st, ns, k + 1, 8, rfl, S1, by omega, hl, by decide, fun r2 H2 a2 b2 S2 B2 => ?_⟩, ?_⟩
    · obtain ⟨n2, rfl, hn2⟩ := nat_of (n := 8) a2 b2
      have R2 : PR K H st ns m g [] (k + 2) H2 := ⟨fun r h => absurd h List.not_mem_nil, B2 _ _ hg1 hgs, S2, (((But.new hg).trans B1).trans B2), hgH, hgs⟩
      refine ⟨n2, 0, rfl, rfl, _, rfl, ite2 (fun _ => ?_) (fun _ => ⟨g, am, _, _, [], k + 2, rfl, by omega, R2, by decide, by omega⟩)⟩
      refine ⟨_, rfl, (by show 2 ≤ sizeLine; decide), fun l hl1 => ?_⟩
      have hls1 := (stf_fresh S2 (But.refl _ _) hl1).2
      refine ⟨_, rfl, m, 5, rfl, rfl, .inr ⟨_, rfl, ?_⟩⟩
      obtain ⟨j, ej, hj⟩ : ∃ j : Nat, (if decide (5 < m) = true then (1 : Int) else 0) = (j : Int) ∧ j < 2 := by
        split
        · exact ⟨1, rfl, by decide⟩
        · exact ⟨0, rfl, by decide⟩
      obtain ⟨w, ew, hw0, hw⟩ : ∃ w : Nat, ([vN 8, vN 4] : List V)[j]? = some (vN w) ∧ 0 < w ∧ w ≤ 8 := by
        match j, hj with
        | 0, _ => exact ⟨8, rfl, by decide, by decide⟩
        | 1, _ => exact ⟨4, rfl, by decide, by decide⟩
      refine ⟨l, _, _, _, rfl, rfl, SqL.of upd_same, (by rw [ej]; exact atI_nat ew), st, ns, k + 2, (w : Int), rfl, S2.new hl1, by omega, hl, by omega, fun r3 H3 a3 b3 S3 B3 => ?_⟩
      obtain ⟨n3, rfl, hn3⟩ := nat_of a3 b3
      have sl1 := Same.new (o := .lst [V.int 8, V.int 4]) hl1
      have R3 : PR K H st ns m g [] (k + 3) H3 := ⟨fun r h => absurd h List.not_mem_nil, B3 _ _ (sl1 _ _ R2.hg) hgs, S3, R2.B.trans ((But.new hl1).trans B3), hgH, hgs⟩
      refine ⟨5, n3, rfl, rfl, ((5 + n3 : Nat) : Int), rfl, by omega, by omega, for_rangeN (n := 5 + n3) (fun i σ H2 => (∃ v5 v6, σ = [some (.ref st), some (vN m), some (vN mo), some (.ref g), some (vN 0), v5, v6]) ∧ ∃ (rs : List Rl) (k2 : Nat), PR K H st ns m g rs k2 H2 ∧ rs.length ≤ 0 + i ∧ k2 ≤ (k + 3) + 7 * i) ⟨⟨_, _, rfl⟩, [], k + 3, R3, Nat.le_refl _, Nat.le_refl _⟩ ?_ ?_⟩
      · rintro i σ H2 hi ⟨⟨v5, v6, rfl⟩, rs, k2, R, hrl, hk2⟩
        refine ⟨(by show 3 ≤ sizeLine; decide), fun l hl2 => ?_⟩
        have hls := stf_fresh R.S R.B hl2
        have sl := Same.new (o := .lst [V.str "settle", V.str "settle", V.str "deal"]) hl2
        refine ⟨_, rfl, st, ns, k2, 3, rfl, R.S.new hl2, by omega, hl, by decide, fun r1 H3 a3 b3 S3 B3 => ?_⟩
        obtain ⟨n1, rfl, hn1⟩ := nat_of (n := 3) a3 b3
        have hl3 := B3 _ _ (show (upd H2 l (.lst [V.str "settle", V.str "settle", V.str "deal"])) l = some (.lst [V.str "settle", V.str "settle", V.str "deal"]) from upd_same) hls.2
        obtain ⟨sb, esb⟩ : ∃ sb : Bool, ([V.str "settle", V.str "settle", V.str "deal"] : List V)[n1]? = some (V.str (wordS sb)) := by
          match n1, hn1 with
          | 0, _ => exact ⟨true, rfl⟩
          | 1, _ => exact ⟨true, rfl⟩
          | 2, _ => exact ⟨false, rfl⟩
        refine ⟨l, _, _, _, rfl, rfl, SqL.of hl3, atI_nat esb, ?_⟩
        have hg3 : H3 g = some (.lst (rs.map fun r => V.ref r.r)) := B3 _ _ (sl _ _ R.hg) R.hgs
        have B03 : But st H H3 := R.B.trans ((But.new hl2).trans B3)
        have rk3 : RulesAt H3 m rs := fun r hr' => ⟨stf_tup (R.S.new hl2) B3 (sl _ _ (R.at_ r hr').1), (R.at_ r hr').2⟩
        refine ⟨_, rfl, .inl ⟨rfl, _, SqL.of hg3⟩, _, rfl, ?_⟩
        refine ⟨_, rfl, _, rfl, st, ns, k2 + 1, m, rfl, S3, by omega, hl, hm1, hm7, fun x k4 H4 hx hk4 S4 B4 => ?_⟩
        refine ⟨_, rfl, _, rfl, st, ns, k4, m, rfl, S4, by omega, hl, hm1, hm7, fun y k5 H5 hy hk5 S5 B5 => ?_⟩
        refine ⟨(by show 3 ≤ sizeLine; decide), fun t ht => ?_⟩
        have sn := Same.new (o := .tup [V.str (wordS sb), V.int (x : Int), V.int (y : Int)]) ht
        have hg5 := B5 _ _ (B4 _ _ hg3 R.hgs) R.hgs
        have hg6 := sn _ _ hg5
        have rk5 : RulesAt H5 m rs := fun r hr' => ⟨stf_tup S4 B5 (stf_tup S3 B4 (rk3 r hr').1), (rk3 r hr').2⟩
        refine ⟨g, _, _, rfl, rfl, hg6, by rw [List.length_map]; exact small1000 (by omega), ⟨_, _, rfl⟩, rs ++ [⟨t, sb, x, y⟩], k5, ⟨fun r hr' => ?_, by rw [upd_same, List.map_append]; rfl, (S5.new ht).put hg6 R.hgs, (((B03.trans B4).trans B5).trans (But.new ht)).own R.hg0, R.hg0, R.hgs⟩, by rw [List.length_append]; show _ + 1 ≤ _; omega, by omega⟩
        rcases List.mem_append.mp hr' with hr' | hr'
        · exact ((rk5.same sn).put hg6) r hr'
        · rw [List.mem_singleton.mp hr']
          exact ⟨tup_put hg6 _ _ upd_same, hx, hy⟩
      · rintro σ H4 ⟨⟨v5, v6, rfl⟩, rs, k2, R, hrl, hk2⟩
        exact ⟨g, 0, v5, v6, rs, k2, rfl, by omega, R, by omega, by omega⟩
    clear hg1 B1 S1 ham a1 b1 hg hgH hgs
    rintro _ H5 ⟨g, am, v5, v6, rs0, k0, rfl, ham, R0, hr0, hk0⟩
    refine ⟨_, rfl, (am : Int), rfl, by omega, by omega, for_rangeN (n := am) (fun i σ H2 => (∃ v5 v6, σ = [some (.ref st), some (vN m), some (vN mo), some (.ref g), some (vN am), v5, v6]) ∧ ∃ (rs : List Rl) (k2 : Nat), PR K H st ns m g rs k2 H2 ∧ rs.length ≤ rs0.length + i ∧ k2 ≤ k0 + 7 * i) ⟨⟨_, _, rfl⟩, rs0, k0, R0, Nat.le_refl _, Nat.le_refl _⟩ ?_ ?_⟩
    · rintro i σ H2 hi ⟨⟨v5, v6, rfl⟩, rs, k2, R, hrl, hk2⟩
      refine ⟨(by show 3 ≤ sizeLine; decide), fun l hl2 => ?_⟩
      have hls := stf_fresh R.S R.B hl2
      have sl := Same.new (o := .lst [V.str "settle", V.str "settle", V.str "deal"]) hl2
      refine ⟨_, rfl, st, ns, k2, 3, rfl, R.S.new hl2, by omega, hl, by decide, fun r1 H3 a3 b3 S3 B3 => ?_⟩
      obtain ⟨n1, rfl, hn1⟩ := nat_of (n := 3) a3 b3
      have hl3 := B3 _ _ (show (upd H2 l (.lst [V.str "settle", V.str "settle", V.str "deal"])) l = some (.lst [V.str "settle", V.str "settle", V.str "deal"]) from upd_same) hls.2
      obtain ⟨sb, esb⟩ : ∃ sb : Bool, ([V.str "settle", V.str "settle", V.str "deal"] : List V)[n1]? = some (V.str (wordS sb)) := by
        match n1, hn1 with
        | 0, _ => exact ⟨true, rfl⟩
        | 1, _ => exact ⟨true, rfl⟩
        | 2, _ => exact ⟨false, rfl⟩
      refine ⟨l, _, _, _, rfl, rfl, SqL.of hl3, atI_nat esb, ?_⟩
      have hg3 : H3 g = some (.lst (rs.map fun r => V.ref r.r)) := B3 _ _ (sl _ _ R.hg) R.hgs
      have B03 : But st H H3 := R.B.trans ((But.new hl2).trans B3)
      have rk3 : RulesAt H3 m rs := fun r hr' => ⟨stf_tup (R.S.new hl2) B3 (sl _ _ (R.at_ r hr').1), (R.at_ r hr').2⟩
      refine ⟨_, rfl, .inl ⟨rfl, _, SqL.of hg3⟩, _, rfl, ?_⟩
      refine ⟨_, rfl, _, rfl, st, ns, k2 + 1, m, rfl, S3, by omega, hl, hm1, hm7, fun x k4 H4 hx hk4 S4 B4 => ?_⟩
      refine ⟨_, rfl, _, rfl, st, ns, k4, m, rfl, S4, by omega, hl, hm1, hm7, fun y k5 H5 hy hk5 S5 B5 => ?_⟩
      refine ⟨(by show 3 ≤ sizeLine; decide), fun t ht => ?_⟩
      have sn := Same.new (o := .tup [V.str (wordS sb), V.int (x : Int), V.int (y : Int)]) ht
      have hg5 := B5 _ _ (B4 _ _ hg3 R.hgs) R.hgs
      have hg6 := sn _ _ hg5
      have rk5 : RulesAt H5 m rs := fun r hr' => ⟨stf_tup S4 B5 (stf_tup S3 B4 (rk3 r hr').1), (rk3 r hr').2⟩
      refine ⟨g, _, _, rfl, rfl, hg6, by rw [List.length_map]; exact small1000 (by omega), ⟨_, _, rfl⟩, rs ++ [⟨t, sb, x, y⟩], k5, ⟨fun r hr' => ?_, by rw [upd_same, List.map_append]; rfl, (S5.new ht).put hg6 R.hgs, (((B03.trans B4).trans B5).trans (But.new ht)).own R.hg0, R.hg0, R.hgs⟩, by rw [List.length_append]; show _ + 1 ≤ _; omega, by omega⟩
      rcases List.mem_append.mp hr' with hr' | hr'
      · exact ((rk5.same sn).put hg6) r hr'
      · rw [List.mem_singleton.mp hr']
        exact ⟨tup_put hg6 _ _ upd_same, hx, hy⟩
    · rintro σ H4 ⟨⟨v5, v6, rfl⟩, rs, k2, R, hrl, hk2⟩
      exact ⟨_, rfl, q rs g k2 H4 R (by omega) (by omega)⟩
noncomputable abbrev sLPart : Stmt := top 32
theorem scLPart : FnScope ["_law_pen", "_law_many", "_law_part_here"] ["_law_pen", "_law_many"] (defScope sLPart) := ⟨rfl, rfl, rfl, by decide +kernel, rfl, by decide +kernel, by decide +kernel⟩
theorem ok_lpart {f fPN : Addr} {fd fdPN : FuncData} (F : Fun K "_law_part" "_law_part" sLPart f fd) (GPN : FnOk P w K mg base CX0 2 fPN fdPN ["_law_pen", "_law_most"] (spTakeF K)) (mPN : mg "_law_next" = some (.ref fPN)) (kPN : PySem.W.keepIn K (.ref fPN) = true) (bPN : Binds K fdPN ["_law_pen", "_law_most"] []) : FnOk P w K mg base CX0 3 f fd ["_law_pen", "_law_many"] (spPart70 K) := by
  refine F.ok scLPart (fun vs H Q E h => ?_) (fun cdv A outer s H vs Q E hr h => ?_)
  · obtain ⟨st, ns, k, m, rfl, _⟩ := h
    rfl
  · obtain ⟨st, ns, k, m, rfl, S, hk, hl, hm1, hm7, q⟩ := h
    have nd := scLPart.nd
    have hr2 : Room 2 _ := hr.mono (by decide)
    have pw : 0 < 2 ^ m := Nat.two_pow_pos m
    refine ⟨_, (pss_cons (ps_set (i := 2) nd rfl (Or.inl rfl) (pe_call GPN hr2 rfl mPN kPN bPN .nil pass0 (pa_cons (pv 0) (pa_cons (pe_op op_shl1 pe_int (pv 1)) pa_nil))))
      (pss_one (ps_ret (pe_ix (ix_listK (K := K) rfl) (pe_lst (pa_cons (pv 2) (pa_cons (pe_op op_orN (pv 2) (pe_call GPN hr2 rfl mPN kPN bPN .nil pass0 (pa_cons (pv 0) (pa_cons (pe_op op_shl1 pe_int (pv 1)) pa_nil)))) (pa_cons (pe_op op_subN (pe_op op_shl1 pe_int (pv 1)) pe_int) pa_nil)))) (pe_call GPN hr2 rfl mPN kPN bPN .nil pass0 (pa_cons (pv 0) (pa_cons pe_int pa_nil))) (fun _ _ => rfl))))), ?_⟩
    refine ⟨_, rfl, _, rfl, m, rfl, rfl, by omega, st, ns, k, ((2 ^ m : Nat) : Int), rfl, S, by omega, hl, by omega, fun r1 H1 a1 b1 S1 B1 => ?_⟩
    obtain ⟨n1, rfl, hn1⟩ := nat_of a1 b1
    refine ⟨_, rfl, _, rfl, _, rfl, _, rfl, m, rfl, rfl, by omega, st, ns, k + 1, ((2 ^ m : Nat) : Int), rfl, S1, by omega, hl, by omega, fun r2 H2 a2 b2 S2 B2 => ?_⟩
    obtain ⟨n2, rfl, hn2⟩ := nat_of a2 b2
    refine ⟨n1, n2, rfl, rfl, _, rfl, m, rfl, rfl, by omega, 2 ^ m, 1, rfl, rfl, pw, (by show 3 ≤ sizeLine; decide), fun g hg => ?_⟩
    have hgs := (stf_fresh S2 (But.refl _ _) hg).2
    refine ⟨_, rfl, st, ns, k + 2, 3, rfl, S2.new hg, by omega, hl, by decide, fun r3 H3 a3 b3 S3 B3 => ?_⟩
    obtain ⟨n3, rfl, hn3⟩ := nat_of (n := 3) a3 b3
    obtain ⟨w, ew, hw⟩ : ∃ w : Nat, ([vN n1, vN (n1 ||| n2), vN (2 ^ m - 1)] : List V)[n3]? = some (vN w) ∧ w < 2 ^ m := by
      match n3, hn3 with
      | 0, _ => exact ⟨_, rfl, hn1⟩
      | 1, _ => exact ⟨_, rfl, Nat.or_lt_two_pow hn1 hn2⟩
      | 2, _ => exact ⟨_, rfl, by omega⟩
    have hg3 := B3 _ _ (upd_same (H := H2) (a := g) (o := .lst [vN n1, vN (n1 ||| n2), vN (2 ^ m - 1)])) hgs
    refine ⟨g, _, _, _, rfl, rfl, SqL.of hg3, atI_nat ew, ?_⟩
    exact q w _ _ hw (Nat.le_refl _) S3 ((B1.trans B2).trans ((But.new hg).trans B3))
noncomputable abbrev sLParts : Stmt := top 33
theorem scLParts : FnScope ["_law_pen", "_law_many", "_law_amount"] ["_law_pen", "_law_many"] (defScope sLParts) := ⟨rfl, rfl, rfl, by decide +kernel, rfl, by decide +kernel, by decide +kernel⟩
theorem ok_lparts {f fPN fPS : Addr} {fd fdPN fdPS : FuncData} (F : Fun K "_law_parts" "_law_parts" sLParts f fd) (GPN : FnOk P w K mg base CX0 2 fPN fdPN ["_law_pen", "_law_most"] (spTakeF K)) (mPN : mg "_law_next" = some (.ref fPN)) (kPN : PySem.W.keepIn K (.ref fPN) = true) (bPN : Binds K fdPN ["_law_pen", "_law_most"] []) (GPS : FnOk P w K mg base CX0 3 fPS fdPS ["_law_pen", "_law_many"] (spSetF K)) (mPS : mg "_law_some" = some (.ref fPS)) (kPS : PySem.W.keepIn K (.ref fPS) = true) (bPS : Binds K fdPS ["_law_pen", "_law_many"] []) (zrange : mg "range" = none) : FnOk P w K mg base CX0 4 f fd ["_law_pen", "_law_many"] (spLParts K) := by
  refine F.ok scLParts (fun vs H Q E h => ?_) (fun cdv A outer s H vs Q E hr h => ?_)
  · obtain ⟨st, ns, k, m, rfl, _⟩ := h
    rfl
  · obtain ⟨st, ns, k, m, rfl, S, hk, hl, m1, m7, q⟩ := h
    have nd := scLParts.nd
    have hr2 : Room 2 _ := hr.mono (by decide)
    have hr3 : Room 3 _ := hr.mono (by decide)
    refine ⟨_, (pss_cons (ps_set (i := 2) nd rfl (Or.inl rfl) (pe_ix (ix_listK (K := K) rfl) (pe_lst (pa_consC pe_int (pa_consC pe_int (pa_consC pe_int (pa_consC pe_int (pa_consC pe_int (pa_consC pe_int (pa_consC pe_int (pa_consC pe_int pa_nil))))))))) (pe_call GPN hr2 rfl mPN kPN bPN .nil pass0 (pa_cons (pv 0) (pa_cons pe_int pa_nil))) (fun _ _ => rfl)))
      (pss_one (ps_ret (pe_comp (xs := ["_law_k"]) (cs ["_law_pen", "_law_many", "_law_amount"] (defScope sLParts) rfl rfl (by decide +kernel)) rfl (pi_range1 rfl zrange (pa_cons (pv 2) pa_nil)) (fun _ _ _ => pg_name (i := 0) (show (["_law_k", "_law_pen", "_law_many", "_law_amount"] : List Str).Nodup by decide +kernel) rfl (Or.inl rfl)) (fun _ _ _ => pts_nil) (fun _ _ _ => (pe_op op_orN (pe_call GPS hr3 rfl mPS kPS bPS .nil pass0 (pa_cons (pv 1) (pa_cons (pv 2) pa_nil))) (pe_call GPS hr3 rfl mPS kPS bPS .nil pass0 (pa_cons (pv 1) (pa_cons (pv 2) pa_nil))))))))), ?_⟩
    refine ⟨(by show 8 ≤ sizeLine; decide), fun g hg => ?_⟩
    have hgs := (stf_fresh S (But.refl _ _) hg).2
    refine ⟨_, rfl, st, ns, k, 8, rfl, S.new hg, by omega, hl, by decide, fun r1 H1 a1 b1 S1 B1 => ?_⟩
    obtain ⟨n1, rfl, hn1⟩ := nat_of (n := 8) a1 b1
    obtain ⟨c, ec, c1, c10⟩ : ∃ c : Nat, ([vN 1, vN 2, vN 3, vN 5, vN 4, vN 7, vN 10, vN 9] : List V)[n1]? = some (vN c) ∧ 1 ≤ c ∧ c ≤ 10 := by
      match n1, hn1 with
      | 0, _ => exact ⟨1, rfl, by decide, by decide⟩
      | 1, _ => exact ⟨2, rfl, by decide, by decide⟩
      | 2, _ => exact ⟨3, rfl, by decide, by decide⟩
      | 3, _ => exact ⟨5, rfl, by decide, by decide⟩
      | 4, _ => exact ⟨4, rfl, by decide, by decide⟩
      | 5, _ => exact ⟨7, rfl, by decide, by decide⟩
      | 6, _ => exact ⟨10, rfl, by decide, by decide⟩
      | 7, _ => exact ⟨9, rfl, by decide, by decide⟩
    have hg1 := B1 _ _ (upd_same (H := H) (a := g) (o := .lst [vN 1, vN 2, vN 3, vN 5, vN 4, vN 7, vN 10, vN 9])) hgs
    refine ⟨g, _, _, _, rfl, rfl, SqL.of hg1, atI_nat ec, ?_⟩
    have B01 : But st H H1 := (But.new hg).trans B1
    refine ⟨_, rfl, (c : Int), rfl, by omega, by omega, lc_rangeN (k := c) (fun i acc H' => ∃ (ps : List Nat) (k' : Nat), acc = ps.map vN ∧ ps.length = i ∧ InM m ps ∧ k' ≤ k + 1 + 6 * i ∧ STF K H' st ns k' ∧ But st H H') (by omega) ⟨[], k + 1, rfl, rfl, (fun p h => absurd h List.not_mem_nil), by omega, S1, B01⟩ (fun i acc H' hi h => ?_) (fun i acc H' hi h => ?_) (fun acc H' h => ?_)⟩
    · obtain ⟨ps, k', rfl, e, _⟩ := h
      rw [List.length_map, e]
      exact Nat.le_refl _
    · obtain ⟨ps, k', rfl, e, hin, hk', S', B'⟩ := h
      refine ⟨rfl, _, rfl, _, rfl, st, ns, k', m, rfl, S', by omega, hl, m1, m7, fun x k2 H2 hx hk2 S2 B2 => ?_⟩
      refine ⟨_, rfl, _, rfl, st, ns, k2, m, rfl, S2, by omega, hl, m1, m7, fun y k3 H3 hy hk3 S3 B3 => ?_⟩
      refine ⟨x, y, rfl, rfl, ps ++ [x ||| y], k3, by rw [List.map_append]; rfl, by rw [List.length_append, e]; rfl, fun p hp => ?_, by omega, S3, (B'.trans B2).trans B3⟩
      rcases List.mem_append.mp hp with hp | hp
      · exact hin p hp
      · rw [List.mem_singleton.mp hp]; exact Nat.or_lt_two_pow hx hy
    · obtain ⟨ps, k', rfl, e, hin, hk', S', B'⟩ := h
      intro pp hpp
      obtain ⟨f0, f1⟩ := stf_fresh S' B' hpp
      exact q ps pp k' _ hin (by omega) (by omega) (by omega) (S'.new hpp) (B'.trans (But.new hpp)) f0 f1 upd_same
end
end Own

namespace Own
open PySem L2
section
variable {P : Program} {w : World} {K : PySem.W.Frag} {mg : Str → Option Value} {base : Heap}
seal PySem.wpAny
noncomputable abbrev sOrder : Stmt := top 34
theorem scOrder : FnScope ["_law_pen", "_law_many", "_law_order_here", "_law_k"] ["_law_pen", "_law_many"] (defScope sOrder) := ⟨rfl, rfl, rfl, by decide +kernel, rfl, by decide +kernel, by decide +kernel⟩
theorem ok_order {f fPN : Addr} {fd fdPN : FuncData} (F : Fun K "_law_order" "_law_order" sOrder f fd) (GPN : FnOk P w K mg base CX0 2 fPN fdPN ["_law_pen", "_law_most"] (spTakeF K)) (mPN : mg "_law_next" = some (.ref fPN)) (kPN : PySem.W.keepIn K (.ref fPN) = true) (bPN : Binds K fdPN ["_law_pen", "_law_most"] []) (zrange : mg "range" = none) : FnOk P w K mg base CX0 3 f fd ["_law_pen", "_law_many"] (spOrdQ K) := by
  refine F.ok scOrder (fun vs H Q E h => ?_) (fun cdv A outer s H vs Q E hr h => ?_)
  · obtain ⟨st, ns, k, m, rfl, _⟩ := h
    rfl
  · obtain ⟨st, ns, k, m, rfl, S, hk, hl, m7, q⟩ := h
    have nd := scOrder.nd
    have hr2 : Room 2 _ := hr.mono (by decide)
    refine ⟨_, (pss_cons (ps_set (i := 2) nd rfl (Or.inl rfl) (pe_lst pa_nil))
      (pss_cons (ps_for PassesOwn.never rfl (pi_range1 rfl zrange (pa_cons (pv 1) pa_nil)) (pg_name (i := 3) nd rfl (Or.inl rfl)) (pss_one (ps_expr (pe_bm PySem.F.plainAttrs_list PySem.F.slot_list_insert PySem.F.type_list_insert mt_insert (pv 2) (pa_cons (pe_call GPN hr2 rfl mPN kPN bPN .nil pass0 (pa_cons (pv 0) (pa_cons (pe_op op_addN (pv 3) pe_int) pa_nil))) (pa_cons (pv 3) pa_nil))))))
      (pss_one (ps_ret (pv 2))))), ?_⟩
    refine ⟨(by show 0 ≤ sizeLine; exact Nat.zero_le _), fun p hp => ?_⟩
    obtain ⟨hpH, hps⟩ := stf_fresh S (But.refl _ _) hp
    refine ⟨_, rfl, (m : Int), rfl, by omega, by omega, for_rangeN (n := m) (fun i σ H2 => (∃ v, σ = [some (.ref st), some (vN m), some (.ref p), v]) ∧ ∃ (o : List Nat) (k' : Nat), Ord i o ∧ H2 p = some (.lst (o.map vN)) ∧ STF K H2 st ns k' ∧ k' ≤ k + i ∧ But st H H2)
      ⟨⟨none, rfl⟩, [], k, ⟨rfl, List.nodup_nil, fun _ h => absurd h List.not_mem_nil⟩, upd_same, S.new hp, by omega, But.new hp⟩ ?_ ?_⟩
    · rintro i σ H2 hi ⟨⟨v, rfl⟩, o, k', hO, hp2, S2, hk', B2⟩
      refine ⟨_, rfl, .inl ⟨rfl, _, SqL.of hp2⟩, ?_⟩
      refine ⟨_, rfl, _, rfl, i, 1, rfl, rfl, st, ns, k', ((i + 1 : Nat) : Int), rfl, S2, by omega, hl, by omega, fun r H3 a3 b3 S3 B3 => ?_⟩
      obtain ⟨n3, rfl, hn3⟩ := nat_of a3 b3
      have hp3 := B3 _ _ hp2 hps
      refine ⟨_, rfl, p, _, n3, _, rfl, rfl, hp3, (by rw [List.length_map, hO.len]; exact small1000 (by omega)), (by rw [List.length_map, hO.len]; omega), ?_⟩
      rw [vN_insP]
      exact ⟨⟨_, rfl⟩, _, k' + 1, ord_ins hO, upd_same, S3.put hp3 hps, by omega, (B2.trans B3).own hpH⟩
    · rintro σ H2 ⟨⟨v, rfl⟩, o, k', hO, hp2, S2, hk', B2⟩
      exact ⟨_, rfl, q p o k' H2 hO hpH hp2 S2 B2 hps hk'⟩
noncomputable abbrev sPut : Stmt := top 35
theorem scPut : FnScope ["_law_some_here", "_law_order_here"] ["_law_some_here", "_law_order_here"] (defScope sPut) := ⟨rfl, rfl, rfl, by decide +kernel, rfl, by decide +kernel, by decide +kernel⟩
theorem ok_put {f : Addr} {fd : FuncData} (F : Fun K "_law_put" "_law_put" sPut f fd) (zrange : mg "range" = none) (zlen : mg "len" = none) (zsum : mg "sum" = none) : FnOk P w K mg base CX0 1 f fd ["_law_some_here", "_law_order_here"] (spBy K) := by
  refine F.ok scPut (fun vs H Q E h => ?_) (fun cdv A outer s H vs Q E hr h => ?_)
  · obtain ⟨a, m, p, o, rfl, _⟩ := h
    rfl
  · obtain ⟨a, m, p, o, rfl, m7, ha, hO, hp, q⟩ := h
    refine ⟨_, (pss_one (ps_ret (pe_callB (call_sumN (K := K) rfl rfl) (by rfl) zsum PyProof.Rows.boot_sum (pa_cons (pe_comp (xs := ["_law_k"]) (cs ["_law_some_here", "_law_order_here"] (defScope sPut) rfl rfl (by decide +kernel)) rfl (pi_range1 rfl zrange (pa_cons (pe_callB (call_lenK (K := K) rfl) (by rfl) zlen PySem.boot_len (pa_cons (pv 1) pa_nil)) pa_nil)) (fun _ _ _ => pg_name (i := 0) (show (["_law_k", "_law_some_here", "_law_order_here"] : List Str).Nodup by decide +kernel) rfl (Or.inl rfl)) (fun _ _ _ => (pts_one (pt_cmpR op_eqN (pe_op op_andN (pe_op op_shrN (pv 1) (pv 0)) pe_int) pe_int (nomark _)))) (fun _ _ _ => (pe_op op_shl1 pe_int (pe_ix (ix_listK (K := K) rfl) (pv 2) (pv 0) (fun _ _ => rfl))))) pa_nil)))), ?_⟩
    have lm : (o.map vN).length = m := by rw [List.length_map, hO.len]
    refine ⟨_, rfl, p, _, rfl, .inl hp, ((o.map vN).length : Int), rfl, by omega, by omega, lc_rangeN (k := (o.map vN).length) (n := 1) (fun i acc H' => H' = H ∧ acc = ((((List.range i).filter (hasB a)).map fun c => 2 ^ o.getD c 0).map vN)) (by omega) ⟨rfl, rfl⟩ (fun i acc H' hi h => ?_) (fun i acc H' hi h => ?_) (fun acc H' h => ?_)⟩
    · rw [h.2, List.length_map, List.length_map]
      exact Nat.le_trans (List.length_filter_le _ _) (by rw [List.length_range]; exact Nat.le_refl _)
    · obtain ⟨rfl, rfl⟩ := h
      rw [lm] at hi
      have hio : i < o.length := by rw [hO.len]; exact hi
      refine ⟨rfl, _, rfl, _, rfl, a, i, rfl, rfl, a / 2 ^ i, 1, rfl, rfl, a / 2 ^ i &&& 1, 1, rfl, rfl, _, rfl, ?_⟩
      have eb : decide (a / 2 ^ i &&& 1 = 1) = hasB a i := by rw [Nat.and_one_is_mod]; rfl
      show if decide (a / 2 ^ i &&& 1 = 1) = true then _ else _
      refine ite2 (fun hc => ?_) (fun hc => ?_)
      · rw [eb] at hc
        have ge : o[i]? = some (o.getD i 0) := by rw [List.getD_eq_getElem?_getD, List.getElem?_eq_getElem hio]; rfl
        have hl : o.getD i 0 < m := hO.lt _ (List.mem_of_getElem? ge)
        refine ⟨_, rfl, _, rfl, p, _, _, _, rfl, rfl, hp, atI_nat (j := i) (v := vN (o.getD i 0)) (by rw [List.getElem?_map, ge]; rfl), o.getD i 0, rfl, rfl, by omega, rfl, ?_⟩
        rw [filt_succ, if_pos hc, List.map_append, List.map_append]; rfl
      · rw [eb] at hc
        refine ⟨rfl, ?_⟩
        rw [filt_succ, if_neg hc, List.append_nil]
    · obtain ⟨rfl, rfl⟩ := h
      intro e he
      refine ⟨e, _, rfl, SqL.of upd_same, ?_⟩
      rw [lm, by_sum (by omega) ha]
      exact q _ (Same.new he)
noncomputable abbrev sPutRs : Stmt := top 36
theorem scPutRs : FnScope ["_law_rules_here", "_law_order_here"] ["_law_rules_here", "_law_order_here"] (defScope sPutRs) := ⟨rfl, rfl, rfl, by decide +kernel, rfl, by decide +kernel, by decide +kernel⟩
theorem ok_putrs {f fPU : Addr} {fd fdPU : FuncData} (F : Fun K "_law_put_rules" "_law_put_rules" sPutRs f fd) (GPU : FnOk P w K mg base CX0 1 fPU fdPU ["_law_some_here", "_law_order_here"] (spBy K)) (mPU : mg "_law_put" = some (.ref fPU)) (kPU : PySem.W.keepIn K (.ref fPU) = true) (bPU : Binds K fdPU ["_law_some_here", "_law_order_here"] []) : FnOk P w K mg base CX0 2 f fd ["_law_rules_here", "_law_order_here"] (spPutRs K) := by
  refine F.ok scPutRs (fun vs H Q E h => ?_) (fun cdv A outer s H vs Q E hr h => ?_)
  · obtain ⟨m, rl, op, rs, o, rfl, _⟩ := h
    rfl
  · obtain ⟨m, rl, op, rs, o, rfl, m7, hrl, hRs, lr, hO, hop, q⟩ := h
    have hr1 : Room 1 _ := hr.mono (by decide)
    have m8 : m < 8 := by omega
    refine ⟨_, (pss_one (ps_ret (pe_comp (xs := ["_law_word_here", "_law_left", "_law_right"]) (cs ["_law_rules_here", "_law_order_here"] (defScope sPutRs) rfl rfl (by decide +kernel)) rfl (pi_listK (K := K) rfl (pv 0)) (fun _ _ _ => pg_tupK (K := K) (n := 3) rfl rfl (pgs_cons (pg_name (i := 0) (show (["_law_word_here", "_law_left", "_law_right", "_law_rules_here", "_law_order_here"] : List Str).Nodup by decide +kernel) rfl (Or.inl rfl)) (pgs_cons (pg_name (i := 1) (show (["_law_word_here", "_law_left", "_law_right", "_law_rules_here", "_law_order_here"] : List Str).Nodup by decide +kernel) rfl (Or.inl rfl)) (pgs_cons (pg_name (i := 2) (show (["_law_word_here", "_law_left", "_law_right", "_law_rules_here", "_law_order_here"] : List Str).Nodup by decide +kernel) rfl (Or.inl rfl)) pgs_nil))) rfl rfl) (fun _ _ _ => pts_nil) (fun _ _ _ => (pe_tup (pa_cons (pv 0) (pa_cons (pe_call GPU hr1 rfl mPU kPU bPU .nil pass0 (pa_cons (pv 1) (pa_cons (pv 4) pa_nil))) (pa_cons (pe_call GPU hr1 rfl mPU kPU bPU .nil pass0 (pa_cons (pv 2) (pa_cons (pv 4) pa_nil))) pa_nil)))))))), ?_⟩
    refine ⟨_, rfl, rl, rfl, ⟨_, hrl⟩, lc_list (K := K) (xs := rs.map fun (r : Rl) => V.ref r.r) (fun i acc H' => ∃ os : List Rl, acc = (os.map fun (r : Rl) => V.ref r.r) ∧ os.length = i ∧ os.map Rl.d = ((rs.take i).map Rl.d).map (turnR o) ∧ RulesAt H' m os ∧ Same H H') (by rw [List.length_map]; omega) ⟨[], rfl, rfl, rfl, (fun r h => absurd h List.not_mem_nil), Same.refl _⟩ (fun i acc H' hi h => ?_) (fun i v acc H' hv h => ?_) (fun acc H' h => ?_)⟩
    · obtain ⟨os, rfl, e, _, _, s'⟩ := h
      exact ⟨s'.seq hrl, by rw [List.length_map, e]; exact Nat.le_refl _⟩
    · obtain ⟨os, rfl, e, ed, hOs, s'⟩ := h
      rw [List.getElem?_map] at hv
      cases er : rs[i]? with
      | none => rw [er] at hv; cases hv
      | some r =>
        rw [er] at hv
        obtain rfl := (Option.some.inj hv).symm
        obtain ⟨r1, r2, r3⟩ := hRs r (List.mem_of_getElem? er)
        refine ⟨r.r, _, rfl, SqT.of (s' _ _ r1), rfl, _, _, rfl, _, _, rfl, _, _, rfl, rfl, rfl, ?_⟩
        refine ⟨_, rfl, _, rfl, _, rfl, r.x, m, op, o, rfl, m7, r2, hO, s'.seq hop, fun H3 s3 => ?_⟩
        refine ⟨_, rfl, _, rfl, r.y, m, op, o, rfl, m7, r3, hO, (s'.trans s3).seq hop, fun H4 s4 => ⟨(by show 3 ≤ sizeLine; decide), fun t ht => ?_⟩⟩
        have s5 := (s3.trans s4).trans (Same.new (o := .tup [V.str (wordS r.st), vN (turnN r.x o), vN (turnN r.y o)]) ht)
        refine ⟨os ++ [⟨t, r.st, turnN r.x o, turnN r.y o⟩], by rw [List.map_append]; rfl, by rw [List.length_append, e]; rfl, ?_, fun r' hr' => ?_, s'.trans s5⟩
        · rw [List.map_append, ed, List.take_succ, er, List.map_append, List.map_append]; rfl
        · rcases List.mem_append.mp hr' with hr' | hr'
          · exact ⟨s5 _ _ (hOs r' hr').1, (hOs r' hr').2⟩
          · rw [List.mem_singleton.mp hr']
            exact ⟨upd_same, turn_small m8 r2 hO, turn_small m8 r3 hO⟩
    obtain ⟨os, rfl, el, ed, hOs, s'⟩ := h
    rw [List.length_map, List.take_length] at ed
    intro ol hol
    have sN := Same.new (o := .lst (os.map fun (r : Rl) => V.ref r.r)) hol
    exact q ol os _ (s'.trans sN) (s'.none hol) upd_same (hOs.same sN) ed
noncomputable abbrev sWordG : Stmt := top 37
theorem scWordG : FnScope ["_law_told"] ["_law_told"] (defScope sWordG) := ⟨rfl, rfl, rfl, by decide +kernel, rfl, by decide +kernel, by decide +kernel⟩
theorem ok_wordg {f : Addr} {fd : FuncData} (F : Fun K "_law_word" "_law_word" sWordG f fd) : FnOk P w K mg base CX0 1 f fd ["_law_told"] (spWordG K) := by
  refine F.ok scWordG (fun vs H Q E h => ?_) (fun cdv A outer s H vs Q E hr h => ?_)
  · obtain ⟨t, y, R, rfl, _⟩ := h
    rfl
  · obtain ⟨t, y, R, rfl, cv, q⟩ := h
    have nd := scWordG.nd
    refine ⟨_, (pss_cons (ps_if (pt_cmpR op_eq (pe_ix (ix_tupK (K := K) rfl) (pv 0) pe_int (fun _ _ => rfl)) pe_str (nomark _)) (pss_one (ps_ret (pv 0))) pss_nil)
      (pss_one (ps_ret (pe_tup (pa_cons pe_str (pa_cons pe_non pa_nil)))))), ?_⟩
    rcases cv with ⟨w1, gq, sw, hq, hst', esw, lsw, ht⟩ | ⟨w1, ht⟩
    · refine ⟨_, rfl, t, _, _, _, rfl, rfl, SqT.of ht, atI_nat (j := 0) rfl, rfl, _, rfl, ?_⟩
      refine ite2 (fun hc => absurd (of_decide_eq_true hc) (by intro z; injection z with z; revert z; decide)) (fun _ => ?_)
      refine ⟨(by show 2 ≤ sizeLine; decide), fun u hu => ?_⟩
      exact q u _ (Same.new hu) (.inl ⟨w1, upd_same⟩)
    · refine ⟨_, rfl, t, _, _, _, rfl, rfl, SqT.of ht, atI_nat (j := 0) rfl, rfl, _, rfl, ?_⟩
      refine ite2 (fun _ => ?_) (fun hc => absurd (decide_eq_true rfl) hc)
      exact ⟨_, rfl, q t H (Same.refl _) (.inr ⟨w1, ht⟩)⟩
end
end Own

namespace Own
open PySem L2
section
variable {P : Program} {w : World} {K : PySem.W.Frag} {mg : Str → Option Value} {base : Heap}
seal PySem.wpAny
noncomputable def spLaw (K : PySem.W.Frag) : Sp := fun vs H Q _ => ∃ (a : Addr) (ns : List Int), vs = [.ref a] ∧ SqF K H a ns ∧ ns.length ≤ 63 ∧ ∀ H', Q (.bl true) H'
noncomputable abbrev sLaw : Stmt := top 38
theorem scLaw : FnScope ["_law_script", "_law_pen", "_law_many", "_law_rules_here", "_law_order_here", "_law_part_here", "_law_parts_here", "_law_rule", "_law_put_here", "_law_due", "_law_told", "_law_put_parts", "_law_moved"] ["_law_script"] (defScope sLaw) := ⟨rfl, rfl, rfl, by decide +kernel, rfl, by decide +kernel, by decide +kernel⟩

theorem ok_law {f fPN fPR fPS fLQ fLP fOR fPU fPT fWD fOW fPB : Addr} {fd fdPN fdPR fdPS fdLQ fdLP fdOR fdPU fdPT fdWD fdOW fdPB : FuncData} (F : Fun K "law" "law" sLaw f fd) (GPN : FnOk P w K mg base CX0 2 fPN fdPN ["_law_pen", "_law_most"] (spTakeF K)) (mPN : mg "_law_next" = some (.ref fPN)) (kPN : PySem.W.keepIn K (.ref fPN) = true) (bPN : Binds K fdPN ["_law_pen", "_law_most"] []) (GPR : FnOk P w K mg base CX0 4 fPR fdPR ["_law_pen", "_law_many", "_law_most"] (spPRules K)) (mPR : mg "_law_rules" = some (.ref fPR)) (kPR : PySem.W.keepIn K (.ref fPR) = true) (bPR : Binds K fdPR ["_law_pen", "_law_many", "_law_most"] []) (GPS : FnOk P w K mg base CX0 3 fPS fdPS ["_law_pen", "_law_many"] (spSetF K)) (mPS : mg "_law_some" = some (.ref fPS)) (kPS : PySem.W.keepIn K (.ref fPS) = true) (bPS : Binds K fdPS ["_law_pen", "_law_many"] []) (GLQ : FnOk P w K mg base CX0 3 fLQ fdLQ ["_law_pen", "_law_many"] (spPart70 K)) (mLQ : mg "_law_part" = some (.ref fLQ)) (kLQ : PySem.W.keepIn K (.ref fLQ) = true) (bLQ : Binds K fdLQ ["_law_pen", "_law_many"] []) (GLP : FnOk P w K mg base CX0 4 fLP fdLP ["_law_pen", "_law_many"] (spLParts K)) (mLP : mg "_law_parts" = some (.ref fLP)) (kLP : PySem.W.keepIn K (.ref fLP) = true) (bLP : Binds K fdLP ["_law_pen", "_law_many"] []) (GOR : FnOk P w K mg base CX0 3 fOR fdOR ["_law_pen", "_law_many"] (spOrdQ K)) (mOR : mg "_law_order" = some (.ref fOR)) (kOR : PySem.W.keepIn K (.ref fOR) = true) (bOR : Binds K fdOR ["_law_pen", "_law_many"] []) (GPU : FnOk P w K mg base CX0 1 fPU fdPU ["_law_some_here", "_law_order_here"] (spBy K)) (mPU : mg "_law_put" = some (.ref fPU)) (kPU : PySem.W.keepIn K (.ref fPU) = true) (bPU : Binds K fdPU ["_law_some_here", "_law_order_here"] []) (GPT : FnOk P w K mg base CX0 2 fPT fdPT ["_law_rules_here", "_law_order_here"] (spPutRs K)) (mPT : mg "_law_put_rules" = some (.ref fPT)) (kPT : PySem.W.keepIn K (.ref fPT) = true) (bPT : Binds K fdPT ["_law_rules_here", "_law_order_here"] []) (GWD : FnOk P w K mg base CX0 1 fWD fdWD ["_law_told"] (spWordG K)) (mWD : mg "_law_word" = some (.ref fWD)) (kWD : PySem.W.keepIn K (.ref fWD) = true) (bWD : Binds K fdWD ["_law_told"] []) (GOW : FnOk P w K mg base CX0 8 fOW fdOW ["many", "rules", "part"] (spOwn K)) (mOW : mg "own_rules" = some (.ref fOW)) (kOW : PySem.W.keepIn K (.ref fOW) = true) (bOW : Binds K fdOW ["many", "rules", "part"] []) (GPB : FnOk P w K mg base CX0 6 fPB fdPB ["many", "rules", "parts", "rule"] (spPartBy K)) (mPB : mg "part_by_part" = some (.ref fPB)) (kPB : PySem.W.keepIn K (.ref fPB) = true) (bPB : Binds K fdPB ["many", "rules", "parts", "rule"] []) (zint : mg "int" = none) (zsorted : mg "sorted" = none) : FnOk P w K mg base CX0 9 f fd ["_law_script"] (spLaw K) := by
  refine F.ok scLaw (fun vs H Q E h => ?_) (fun cdv A outer s H vs Q E hr h => ?_)
  · obtain ⟨a, ns, rfl, _⟩ := h
    rfl
  · obtain ⟨a, ns, rfl, hS, hlen, q⟩ := h
    have nd := scLaw.nd
    have hr1 : Room 1 _ := hr.mono (by decide)
    have hr2 : Room 2 _ := hr.mono (by decide)
    have hr3 : Room 3 _ := hr.mono (by decide)
    have hr4 : Room 4 _ := hr.mono (by decide)
    have hr6 : Room 6 _ := hr.mono (by decide)
    have hr8 : Room 8 _ := hr.mono (by decide)
    refine ⟨_, (pss_cons (ps_set (i := 1) nd rfl (Or.inl rfl) (pe_lst (pa_cons (pv 0) (pa_cons pe_int pa_nil))))
      (pss_cons (ps_set (i := 2) nd rfl (Or.inl rfl) (pe_ix (ix_listK (K := K) rfl) (pe_lst (pa_consC pe_int (pa_consC pe_int (pa_consC pe_int (pa_consC pe_int (pa_consC pe_int (pa_consC pe_int (pa_consC pe_int (pa_consC pe_int pa_nil))))))))) (pe_call GPN hr2 rfl mPN kPN bPN .nil pass0 (pa_cons (pv 1) (pa_cons pe_int pa_nil))) (fun _ _ => rfl)))
      (pss_cons (ps_set (i := 3) nd rfl (Or.inl rfl) (pe_call GPR hr4 rfl mPR kPR bPR .nil pass0 (pa_cons (pv 1) (pa_cons (pv 2) (pa_cons (pe_ix (ix_listK (K := K) rfl) (pe_lst (pa_cons pe_int (pa_cons pe_int pa_nil))) (pe_callTy call_int1 (by rfl) zint PyProof.Rows.boot_int (pa_cons (pe_cmpR op_gtN (pv 2) pe_int (nomark _)) pa_nil)) (fun _ _ => rfl)) pa_nil)))))
      (pss_cons (ps_set (i := 4) nd rfl (Or.inr rfl) (pe_call GOR hr3 rfl mOR kOR bOR .nil pass0 (pa_cons (pv 1) (pa_cons (pv 2) pa_nil))))
      (pss_cons (ps_set (i := 5) nd rfl (Or.inl rfl) (pe_call GLQ hr3 rfl mLQ kLQ bLQ .nil pass0 (pa_cons (pv 1) (pa_cons (pv 2) pa_nil))))
      (pss_cons (ps_set (i := 6) nd rfl (Or.inl rfl) (pe_call GLP hr4 rfl mLP kLP bLP .nil pass0 (pa_cons (pv 1) (pa_cons (pv 2) pa_nil))))
      (pss_cons (ps_set (i := 7) nd rfl (Or.inl rfl) (pe_tup (pa_cons pe_str (pa_cons (pe_call GPS hr3 rfl mPS kPS bPS .nil pass0 (pa_cons (pv 1) (pa_cons (pv 2) pa_nil))) (pa_cons (pe_call GPS hr3 rfl mPS kPS bPS .nil pass0 (pa_cons (pv 1) (pa_cons (pv 2) pa_nil))) pa_nil)))))
      (pss_cons (ps_set (i := 8) nd rfl (Or.inl rfl) (pe_call GPT hr2 rfl mPT kPT bPT .nil pass0 (pa_cons (pv 3) (pa_cons (pv 4) pa_nil))))
      (pss_cons (ps_set (i := 9) nd rfl (Or.inl rfl) (pe_callB (call_sortedW (K := K) rfl) (by rfl) zsorted PyProof.Rows.boot_sorted (pa_cons (pe_call GPT hr2 rfl mPT kPT bPT .nil pass0 (pa_cons (pe_call GOW hr8 rfl mOW kOW bOW .nil pass0 (pa_cons (pv 2) (pa_cons (pv 3) (pa_cons (pv 5) pa_nil)))) (pa_cons (pv 4) pa_nil))) pa_nil)))
      (pss_cons (ps_if (pt_cmpR (op_neD (K := K) rfl hr.units) (pe_callB (call_sortedW (K := K) rfl) (by rfl) zsorted PyProof.Rows.boot_sorted (pa_cons (pe_call GOW hr8 rfl mOW kOW bOW .nil pass0 (pa_cons (pv 2) (pa_cons (pv 8) (pa_cons (pe_call GPU hr1 rfl mPU kPU bPU .nil pass0 (pa_cons (pv 5) (pa_cons (pv 4) pa_nil))) pa_nil)))) pa_nil)) (pv 9) (nomark _)) (pss_one (ps_ret pe_bl)) pss_nil)
      (pss_cons (ps_set (i := 10) nd rfl (Or.inl rfl) (pe_call GWD hr1 rfl mWD kWD bWD .nil pass0 (pa_cons (pe_call GPB hr6 rfl mPB kPB bPB .nil pass0 (pa_cons (pv 2) (pa_cons (pv 3) (pa_cons (pv 6) (pa_cons (pv 7) pa_nil))))) pa_nil)))
      (pss_cons (ps_comp (i := 11) (xs := ["_law_one"]) (cs ["_law_script", "_law_pen", "_law_many", "_law_rules_here", "_law_order_here", "_law_part_here", "_law_parts_here", "_law_rule", "_law_put_here", "_law_due", "_law_told", "_law_put_parts", "_law_moved"] (defScope sLaw) rfl rfl (by decide +kernel)) rfl nd rfl rfl (pi_listK (K := K) rfl (pv 6)) (fun _ _ _ => pg_name (i := 0) (show (["_law_one", "_law_script", "_law_pen", "_law_many", "_law_rules_here", "_law_order_here", "_law_part_here", "_law_parts_here", "_law_rule", "_law_put_here", "_law_due", "_law_told", "_law_put_parts", "_law_moved"] : List Str).Nodup by decide +kernel) rfl (Or.inl rfl)) (fun _ _ _ => pts_nil) (fun _ _ _ => (pe_call GPU hr1 rfl mPU kPU bPU .nil pass0 (pa_cons (pv 0) (pa_cons (pv 5) pa_nil)))))
      (pss_cons (ps_set (i := 12) nd rfl (Or.inl rfl) (pe_call GWD hr1 rfl mWD kWD bWD .nil pass0 (pa_cons (pe_call GPB hr6 rfl mPB kPB bPB .nil pass0 (pa_cons (pv 2) (pa_cons (pv 8) (pa_cons (pv 11) (pa_cons (pe_ix (ix_listK (K := K) rfl) (pe_call GPT hr2 rfl mPT kPT bPT .nil pass0 (pa_cons (pe_lst (pa_cons (pv 7) pa_nil)) (pa_cons (pv 4) pa_nil))) pe_int (fun _ _ => rfl)) pa_nil))))) pa_nil)))
      (pss_cons (ps_if (PW.pt (pw_or (pt_cmpR op_ne (pe_ix (ix_tupK (K := K) rfl) (pv 12) pe_int (fun _ _ => rfl)) (pe_ix (ix_tupK (K := K) rfl) (pv 10) pe_int (fun _ _ => rfl)) (nomark _)) (pw_or1 (PW.pt (pw_and (pt_cmpR op_eq (pe_ix (ix_tupK (K := K) rfl) (pv 10) pe_int (fun _ _ => rfl)) pe_str (nomark _)) (pw_and1 (pt_cmpR op_neN (pe_ix (ix_tupK (K := K) rfl) (pv 12) pe_int (fun _ _ => rfl)) (pe_call GPU hr1 rfl mPU kPU bPU .nil pass0 (pa_cons (pe_ix (ix_tupK (K := K) rfl) (pv 10) pe_int (fun _ _ => rfl)) (pa_cons (pv 4) pa_nil))) (nomark _)))))))) (pss_one (ps_ret pe_bl)) pss_nil)
      (pss_one (ps_ret (pe_cmpR (op_eqD (K := K) rfl hr.units) (pe_call GWD hr1 rfl mWD kWD bWD .nil pass0 (pa_cons (pe_call GPB hr6 rfl mPB kPB bPB .nil pass0 (pa_cons (pv 2) (pa_cons (pv 3) (pa_cons (pe_rev (K := K) rfl (pv 6) (po_some (pe_un un_neg pe_int))) (pa_cons (pv 7) pa_nil))))) pa_nil)) (pv 10) (nomark _)))))))))))))))))), ?_⟩
    refine ⟨_, rfl, (by show 2 ≤ sizeLine; decide), fun st hst => ?_⟩
    have S0 := STF.start hS hst
    generalize upd H st (.lst [.ref a, .int 0]) = H0 at S0
    refine ⟨(by show 8 ≤ sizeLine; decide), fun g hg => ?_⟩
    have hgs := (stf_fresh S0 (But.refl _ _) hg).2
    refine ⟨_, rfl, st, ns, 0, 8, rfl, S0.new hg, by omega, hlen, by decide, fun r1 H1 a1 b1 S1 B1 => ?_⟩
    obtain ⟨n1, rfl, hn1⟩ := nat_of (n := 8) a1 b1
    obtain ⟨m, em, m1, m7⟩ : ∃ m : Nat, ([vN 4, vN 5, vN 3, vN 6, vN 4, vN 2, vN 7, vN 1] : List V)[n1]? = some (vN m) ∧ 1 ≤ m ∧ m ≤ 7 := by
      match n1, hn1 with
      | 0, _ => exact ⟨4, rfl, by decide, by decide⟩
      | 1, _ => exact ⟨5, rfl, by decide, by decide⟩
      | 2, _ => exact ⟨3, rfl, by decide, by decide⟩
      | 3, _ => exact ⟨6, rfl, by decide, by decide⟩
      | 4, _ => exact ⟨4, rfl, by decide, by decide⟩
      | 5, _ => exact ⟨2, rfl, by decide, by decide⟩
      | 6, _ => exact ⟨7, rfl, by decide, by decide⟩
      | 7, _ => exact ⟨1, rfl, by decide, by decide⟩
    have hg1 := B1 _ _ (upd_same (H := H0) (a := g) (o := .lst [vN 4, vN 5, vN 3, vN 6, vN 4, vN 2, vN 7, vN 1])) hgs
    refine ⟨g, _, _, _, rfl, rfl, SqL.of hg1, atI_nat em, ?_⟩
    refine ⟨_, rfl, _, rfl, (by show 2 ≤ sizeLine; decide), fun l hl1 => ?_⟩
    refine ⟨_, rfl, m, 5, rfl, rfl, .inr ⟨_, rfl, ?_⟩⟩
    obtain ⟨j, ej, hj⟩ : ∃ j : Nat, (if decide (5 < m) = true then (1 : Int) else 0) = (j : Int) ∧ j < 2 := by
      split
      · exact ⟨1, rfl, by decide⟩
      · exact ⟨0, rfl, by decide⟩
    obtain ⟨mo, emo, hmo⟩ : ∃ w : Nat, ([vN 4, vN 3] : List V)[j]? = some (vN w) ∧ w ≤ 4 := by
      match j, hj with
      | 0, _ => exact ⟨4, rfl, by decide⟩
      | 1, _ => exact ⟨3, rfl, by decide⟩
    refine ⟨l, _, _, _, rfl, rfl, SqL.of upd_same, (by rw [ej]; exact atI_nat emo), st, ns, 1, m, mo, rfl, S1.new hl1, by omega, hlen, m1, m7, hmo, fun rs rp k2 H2 R lrs hk2 => ?_⟩
    have p7 := pow7 m7
    have m8 : m < 8 := by omega
    refine ⟨_, rfl, _, rfl, st, ns, k2, m, rfl, R.S, by omega, hlen, m7, fun op o k3 H3 hO hop0 hop S3 B3 hops hk3 => ?_⟩
    refine ⟨_, rfl, _, rfl, st, ns, k3, m, rfl, S3, by omega, hlen, m1, m7, fun p k4 H4 hp hk4 S4 B4 => ?_⟩
    refine ⟨_, rfl, _, rfl, st, ns, k4, m, rfl, S4, by omega, hlen, m1, m7, fun ps pp k5 H5 hin l1 l10 hk5 S5 B5 hpp0 hpps hpp => ?_⟩
    refine ⟨_, rfl, _, rfl, st, ns, k5, m, rfl, S5, by omega, hlen, m1, m7, fun x k6 H6 hx hk6 S6 B6 => ?_⟩
    refine ⟨_, rfl, _, rfl, st, ns, k6, m, rfl, S6, by omega, hlen, m1, m7, fun y k7 H7 hy hk7 S7 B7 => ?_⟩
    have R7 := ((((R.take S3 B3).take S4 B4).take S5 B5).take S6 B6).take S7 B7
    have B57 := B6.trans B7
    have hop7 := B57 _ _ (B5 _ _ (B4 _ _ hop hops) hops) hops
    have hpp7 := B57 _ _ hpp hpps
    refine ⟨(by show 3 ≤ sizeLine; decide), fun ru hru => ?_⟩
    have sR := Same.new (o := .tup [.str "settle", V.int (x : Int), V.int (y : Int)]) hru
    have hru8 : (upd H7 ru (.tup [.str "settle", V.int (x : Int), V.int (y : Int)])) ru = some (.tup [.str "settle", V.int (x : Int), V.int (y : Int)]) := upd_same
    have hop8 := sR _ _ hop7
    have hpp8 := sR _ _ hpp7
    have hrp8 := sR _ _ R7.hg
    have hRs8 := R7.at_.same sR
    generalize upd H7 ru (.tup [.str "settle", V.int (x : Int), V.int (y : Int)]) = H8 at hru8 hop8 hpp8 hrp8 hRs8
    clear R7 R sR hop7 hpp7 B57 B6 B7 hru hpp hop B3 B4 B5 S3 S4 S5 S6 S7
    have hlt : ∀ r ∈ rs.map Rl.d, RLt m r := fun r hr => by
      obtain ⟨r', h1, rfl⟩ := List.mem_map.mp hr
      exact (hRs8 r' h1).2
    refine ⟨_, rfl, _, rfl, m, rp, op, rs, o, rfl, m7, SqL.of hrp8, hRs8, by omega, hO, SqL.of hop8, fun ol os H9 s9 hol0 hol hOs eos => ?_⟩
    have los : os.length = rs.length := by have := congrArg List.length eos; simpa using this
    refine ⟨_, rfl, _, rfl, _, rfl, m, p, rp, rs, rfl, m7, hp, SqL.of (s9 _ _ hrp8), hRs8.same s9, by omega, fun fp fs HA sA hfp0 hfp hFs efs => ?_⟩
    have s8A := s9.trans sA
    have lfs : fs.length ≤ 896 := by have := own_len (rs := rs.map Rl.d) m7 (show p < 128 by omega); rw [← efs, List.length_map] at this; exact this
    refine ⟨_, rfl, m, fp, op, fs, o, rfl, m7, SqL.of hfp, hFs, by omega, hO, SqL.of (s8A _ _ hop8), fun gl gs HB sB hgl0 hgl hGs egs => ?_⟩
    have lgs : gs.length = fs.length := by have := congrArg List.length egs; simpa using this
    have tfs := own_st m7 efs
    have tgs := turn_st tfs egs
    refine ⟨gl, true, gs, rfl, SqL.of hgl, st_at hGs tgs, by omega, fun dl ds hdl pds uds => ?_⟩
    have sC := (s8A.trans sB).trans (Same.new (o := .lst (ds.map fun (r : Rl) => V.ref r.r)) hdl)
    have hdlC : (upd HB dl (.lst (ds.map fun (r : Rl) => V.ref r.r))) dl = some (.lst (ds.map fun (r : Rl) => V.ref r.r)) := upd_same
    have hDsC : RulesAt (upd HB dl (.lst (ds.map fun (r : Rl) => V.ref r.r))) m ds := fun r hr' => (hGs.same (Same.new hdl)) r (pds.mem_iff.mp hr')
    have holC := ((sA.trans sB).trans (Same.new (o := .lst (ds.map fun (r : Rl) => V.ref r.r)) hdl)) _ _ hol
    have hOsC := hOs.same ((sA.trans sB).trans (Same.new (o := .lst (ds.map fun (r : Rl) => V.ref r.r)) hdl))
    generalize upd HB dl (.lst (ds.map fun (r : Rl) => V.ref r.r)) = HC at sC hdlC hDsC holC hOsC
    have tds : ∀ r ∈ ds, r.st = true := fun r hr' => tgs r (pds.mem_iff.mp hr')
    clear hGs hgl hfp hFs sA sB s8A hdl hgl0 hfp0
    refine ⟨_, rfl, _, rfl, _, rfl, _, rfl, p, m, op, o, rfl, m7, hp, hO, SqL.of (sC _ _ hop8), fun HD sD => ?_⟩
    refine ⟨m, turnN p o, ol, os, rfl, m7, turn_small m8 hp hO, SqL.of (sD _ _ holC), hOsC.same sD, by omega, fun ep es HE sE hep0 hep hEs ees => ?_⟩
    have les : es.length ≤ 896 := by
      have := own_len (rs := os.map Rl.d) m7 (show turnN p o < 128 by have := turn_small m8 hp hO; omega)
      rw [← ees, List.length_map] at this
      exact this
    have tes := own_st m7 ees
    refine ⟨ep, true, es, rfl, SqL.of hep, st_at hEs tes, by omega, fun zl zs hzl pzs uzs => ?_⟩
    have sZ := Same.new (o := .lst (zs.map fun (r : Rl) => V.ref r.r)) hzl
    have sDZ := (sD.trans sE).trans sZ
    have hZs : RulesAt _ m zs := fun r hr' => (hEs.same sZ) r (pzs.mem_iff.mp hr')
    have tzs : ∀ r ∈ zs, r.st = true := fun r hr' => tes r (pzs.mem_iff.mp hr')
    have ew : zs.map Rl.d = ds.map Rl.d := by
      refine words_same uzs uds tzs tds ?_
      refine (pzs.map Rl.d).trans ?_
      rw [ees, eos]
      refine (own_turn m7 hO hlt hp).symm.trans ?_
      rw [← efs, ← egs]
      exact (pds.map Rl.d).symm
    refine ⟨_, rfl, .list ((zs.map Rl.d).map dR), .list ((ds.map Rl.d).map dR), DV.lst (SqL.of upd_same) (rules_dv hZs), DV.lst (SqL.of (sDZ _ _ hdlC)) (rules_dv (hDsC.same sDZ)), shaped_map canLay_dR depth_dR _, shaped_map canLay_dR depth_dR _, noMix_list noMix_dR _ _, _, rfl, ?_⟩
    rw [if_pos rfl, same_list same_dR, decide_eq_true ew]
    refine iteF ?_
    have sF := sC.trans sDZ
    have holF := sDZ _ _ holC
    have hOsF := hOsC.same sDZ
    generalize upd HE zl (.lst (zs.map fun (r : Rl) => V.ref r.r)) = HF at sF holF hOsF
    clear hZs sDZ sZ hep hEs hep0 hzl hOsC holC hDsC hdlC sC sD sE
    refine ⟨_, rfl, _, rfl, _, rfl, _, rfl, m, x, y, rp, pp, ru, rs, ps, rfl, m7, hx, SqL.of (sF _ _ hrp8), hRs8.same sF, by omega, SqL.of (sF _ _ hpp8), hin, l1, l10, sF _ _ hru8, fun t HG sG cv _ => ?_⟩
    refine ⟨t, y, _, rfl, cv, fun tt HH sH tv => ?_⟩
    have sFH := sG.trans sH
    have s8H := sF.trans sFH
    refine ⟨_, rfl, pp, rfl, ⟨_, SqL.of (s8H _ _ hpp8)⟩, lc_list (K := K) (xs := ps.map vN) (fun j acc H2 => Same HH H2 ∧ acc = ((ps.take j).map fun x => turnN x o).map vN) (by rw [List.length_map]; omega) ⟨Same.refl _, rfl⟩ (fun j acc H2 hj h => ?_) (fun j v acc H2 hx' h => ?_) (fun acc H2 h => ?_)⟩
    · obtain ⟨s2, rfl⟩ := h
      exact ⟨SqL.of ((s8H.trans s2) _ _ hpp8), by rw [List.length_map, List.length_map]; exact List.length_take_le _ _⟩
    · obtain ⟨s2, rfl⟩ := h
      rw [List.getElem?_map] at hx'
      cases ey : ps[j]? with
      | none => rw [ey] at hx'; cases hx'
      | some z =>
        rw [ey] at hx'
        obtain rfl := (Option.some.inj hx').symm
        refine ⟨rfl, _, rfl, _, rfl, z, m, op, o, rfl, m7, hin z (List.mem_of_getElem? ey), hO, SqL.of ((s8H.trans s2) _ _ hop8), fun H4 s4 => ⟨s2.trans s4, ?_⟩⟩
        rw [List.take_succ, ey, List.map_append, List.map_append]
        rfl
    obtain ⟨s2, rfl⟩ := h
    rw [List.length_map, List.take_length]
    intro wp hwp
    have sW := s2.trans (Same.new (o := .lst ((ps.map fun x => turnN x o).map vN)) hwp)
    have hwpI : (upd H2 wp (.lst ((ps.map fun x => turnN x o).map vN))) wp = some (.lst ((ps.map fun x => turnN x o).map vN)) := upd_same
    generalize upd H2 wp (.lst ((ps.map fun x => turnN x o).map vN)) = HI at sW hwpI
    have s8I := s8H.trans sW
    have tvI := tv.same sW
    have holI := (sFH.trans sW) _ _ holF
    have hOsI := hOsF.same (sFH.trans sW)
    clear tv cv hwp s2
    refine ⟨_, rfl, _, rfl, _, rfl, _, rfl, (by show 1 ≤ sizeLine; decide), fun nl hnl => ?_⟩
    have sN := Same.new (o := .lst [V.ref ru]) hnl
    have s8N := s8I.trans sN
    refine ⟨_, rfl, m, nl, op, [⟨ru, true, x, y⟩], o, rfl, m7, SqL.of upd_same, (fun r hr' => by rw [List.mem_singleton.mp hr']; exact ⟨s8N _ _ hru8, hx, hy⟩), (show 1 ≤ 1000 by decide), hO, SqL.of (s8N _ _ hop8), fun ql qs HJ sJ hql0 hql hQs eqs => ?_⟩
    obtain ⟨r', rfl, er'⟩ : ∃ r', qs = [r'] ∧ r'.d = (true, turnN x o, turnN y o) := by
      match qs, eqs with
      | [r'], e => exact ⟨r', rfl, (List.cons.inj e).1⟩
      | _ :: _ :: _, e => exact absurd (congrArg List.length e) (by simp)
    have hR' := (hQs r' (List.mem_singleton.mpr rfl)).1
    have e1 : r'.st = true := congrArg (fun d : RD => d.1) er'
    have e2 : r'.x = turnN x o := congrArg (fun d : RD => d.2.1) er'
    have e3 : r'.y = turnN y o := congrArg (fun d : RD => d.2.2) er'
    rw [e1, e2, e3] at hR'
    refine ⟨ql, _, _, _, rfl, rfl, SqL.of hql, atI_nat (j := 0) rfl, ?_⟩
    have sIJ := sN.trans sJ
    have s8J := s8I.trans sIJ
    have tx := turn_small m8 hx hO
    have ty := turn_small m8 hy hO
    have hin' : InM m (ps.map fun x => turnN x o) := fun z hz => by
      obtain ⟨z', h1, rfl⟩ := List.mem_map.mp hz
      exact turn_small m8 (hin z' h1) hO
    refine ⟨m, turnN x o, turnN y o, ol, wp, r'.r, os, ps.map fun x => turnN x o, rfl, m7, tx, SqL.of (sIJ _ _ holI), hOsI.same sIJ, by omega, SqL.of (sIJ _ _ hwpI), hin', by rw [List.length_map]; exact l1, by rw [List.length_map]; exact l10, hR', fun t2 HK sK cv2 _ => ?_⟩
    refine ⟨t2, _, _, rfl, cv2, fun tm HL sL tv2 => ?_⟩
    have sIL := sIJ.trans (sK.trans sL)
    have s8L := s8I.trans sIL
    have tvL := tvI.same sIL
    obtain ⟨zlt, _⟩ := clo_shut (rs := rs.map Rl.d) (ps := ps) m7 hx
    have ec : (runG m (os.map Rl.d) (ps.map fun x => turnN x o) 128 (turnN x o)).2 = turnN (cloN m (rs.map Rl.d) ps x) o := by
      rw [eos]
      exact clo_turn m7 hO hlt hin hx
    rw [ec] at tv2
    have tvL : WordV HL y (cloN m (rs.map Rl.d) ps x) tt := tvL
    have eyz : turnN y o &&& turnN (cloN m (rs.map Rl.d) ps x) o = turnN y o ↔ y &&& cloN m (rs.map Rl.d) ps x = y := by rw [← turn_and m8 hO hy zlt, turn_inj m8 hO (andlt hy) hy]
    have er : (runG m (rs.map Rl.d) ps.reverse 128 x).2 = cloN m (rs.map Rl.d) ps x := clo_same m7 hx fun p => List.mem_reverse
    generalize hz : cloN m (rs.map Rl.d) ps x = z at zlt tv2 tvL eyz er
    have last : ∀ HM, Same HL HM → ∀ (vp : Addr), HM vp = none → ∀ (t3 : Addr) (HN : Hp), Same (upd HM vp (.lst (ps.reverse.map vN))) HN → True := fun _ _ _ _ _ _ _ => trivial
    rcases tvL with ⟨y1, ht⟩ | ⟨n1, ht⟩
    · rcases tv2 with ⟨_, htm⟩ | ⟨n2, _⟩
      · refine ⟨_, rfl, tm, _, _, _, rfl, rfl, SqT.of htm, atI_nat (j := 0) rfl, _, rfl, tt, _, _, _, rfl, rfl, SqT.of ht, atI_nat (j := 0) rfl, rfl, _, rfl, ?_⟩
        refine ite2 (fun hc => absurd hc (by decide +kernel)) (fun _ => ?_)
        refine ⟨_, rfl, tt, _, _, _, rfl, rfl, SqT.of ht, atI_nat (j := 0) rfl, rfl, _, rfl, ?_⟩
        refine ite2 (fun hc => absurd (of_decide_eq_true hc) (by intro z; injection z with z; revert z; decide)) (fun _ => ?_)
        refine iteF ?_
        refine ⟨_, rfl, _, rfl, _, rfl, 1, rfl, -1, rfl, pp, _, rfl, rfl, SqL.of (s8L _ _ hpp8), fun vp hvp => ?_⟩
        rw [← List.map_reverse]
        have sV := Same.new (o := .lst (ps.reverse.map vN)) hvp
        have s8V := s8L.trans sV
        refine ⟨_, rfl, m, x, y, rp, vp, ru, rs, ps.reverse, rfl, m7, hx, SqL.of (s8V _ _ hrp8), hRs8.same s8V, by omega, SqL.of upd_same, (fun z hz => hin z (List.mem_reverse.mp hz)), by rw [List.length_reverse]; exact l1, by rw [List.length_reverse]; exact l10, s8V _ _ hru8, fun t3 HN sN3 cv3 _ => ?_⟩
        refine ⟨t3, y, _, rfl, cv3, fun tl HO sO tv3 => ?_⟩
        rw [er] at tv3
        have sLO := sV.trans (sN3.trans sO)
        rcases tv3 with ⟨_, htl⟩ | ⟨n3, _⟩
        · obtain ⟨g1, g2, g3⟩ := yes_eq
          refine ⟨_, rfl, .tuple [.str "yes", .none], .tuple [.str "yes", .none], DV.tup (SqT.of htl) (.cons (.str _) (.cons .non .nil)), DV.tup (SqT.of (sLO _ _ ht)) (.cons (.str _) (.cons .non .nil)), g3, g3, g2, ?_⟩
          rw [if_neg Bool.false_ne_true, g1]
          exact q _
        · exact absurd y1 n3
      · exact absurd (eyz.mpr y1) n2
    · rcases tv2 with ⟨y2, _⟩ | ⟨_, htm⟩
      · exact absurd (eyz.mp y2) n1
      · refine ⟨_, rfl, tm, _, _, _, rfl, rfl, SqT.of htm, atI_nat (j := 0) rfl, _, rfl, tt, _, _, _, rfl, rfl, SqT.of ht, atI_nat (j := 0) rfl, rfl, _, rfl, ?_⟩
        refine ite2 (fun hc => absurd hc (by decide +kernel)) (fun _ => ?_)
        refine ⟨_, rfl, tt, _, _, _, rfl, rfl, SqT.of ht, atI_nat (j := 0) rfl, rfl, _, rfl, ?_⟩
        refine ite2 (fun _ => ?_) (fun hc => absurd (decide_eq_true rfl) hc)
        refine ⟨_, rfl, tm, _, _, _, rfl, rfl, SqT.of htm, atI_nat (j := 1) rfl, _, rfl, tt, _, _, _, rfl, rfl, SqT.of ht, atI_nat (j := 1) rfl, _, rfl, z, m, op, o, rfl, m7, zlt, hO, SqL.of (s8L _ _ hop8), fun HM sM => ?_⟩
        refine ⟨turnN z o, turnN z o, rfl, rfl, _, rfl, ?_⟩
        rw [decide_eq_true rfl]
        refine iteF ?_
        have s8M := s8L.trans sM
        refine ⟨_, rfl, _, rfl, _, rfl, 1, rfl, -1, rfl, pp, _, rfl, rfl, SqL.of (s8M _ _ hpp8), fun vp hvp => ?_⟩
        rw [← List.map_reverse]
        have sV := Same.new (o := .lst (ps.reverse.map vN)) hvp
        have s8V := s8M.trans sV
        refine ⟨_, rfl, m, x, y, rp, vp, ru, rs, ps.reverse, rfl, m7, hx, SqL.of (s8V _ _ hrp8), hRs8.same s8V, by omega, SqL.of upd_same, (fun z hz => hin z (List.mem_reverse.mp hz)), by rw [List.length_reverse]; exact l1, by rw [List.length_reverse]; exact l10, s8V _ _ hru8, fun t3 HN sN3 cv3 _ => ?_⟩
        refine ⟨t3, y, _, rfl, cv3, fun tl HO sO tv3 => ?_⟩
        rw [er] at tv3
        have sLO := sM.trans (sV.trans (sN3.trans sO))
        rcases tv3 with ⟨y3, _⟩ | ⟨_, htl⟩
        · exact absurd y3 n1
        · obtain ⟨g1, g2, g3⟩ := no_eq (z : Int)
          refine ⟨_, rfl, .tuple [.str "no", .int z], .tuple [.str "no", .int z], DV.tup (SqT.of htl) (.cons (.str _) (.cons (.int _) .nil)), DV.tup (SqT.of (sLO _ _ ht)) (.cons (.str _) (.cons (.int _) .nil)), g3, g3, g2, ?_⟩
          rw [if_neg Bool.false_ne_true, g1]
          exact q _
end
end Own

namespace Own
open PySem L2
/-! what the top has written, and the law's own head -/
theorem all_mk {l : PySem.W.OpenLaw} {w : World} {K : PySem.W.Frag} {h : Heap} {mg : Str → Option Value} {fa fH fC fAL fIW fMO fSW fCU fI fUD fBG fFU fUN fSE fHO fOW fPC fPN fPS fPP fPR fLQ fFG fPB fLP fOR fPU fPT fWD fQ : Addr} (X : K.In h) (G : h.Ns mainGlobals mg) (hfa : mg "law" = some (.ref fa))
    {odH anH odC anC odAL anAL odIW anIW odMO anMO odSW anSW odCU anCU odI anI odUD anUD odBG anBG odFU anFU odUN anUN odSE anSE odHO anHO odOW anOW odPC anPC odPN anPN odPS anPS odPP anPP odPR anPR odLQ anLQ odFG anFG odPB anPB odLP anLP odOR anOR odPU anPU odPT anPT odWD anWD odQ anQ : Option Addr} {slH slC slAL slIW slMO slSW slCU slI slUD slBG slFU slUN slSE slHO slOW slPC slPN slPS slPP slPR slLQ slFG slPB slLP slOR slPU slPT slWD slQ : Array (Option Value)} {ocH kVH dcH pmH cdH ctH ocC kVC dcC pmC cdC ctC ocAL kVAL dcAL pmAL cdAL ctAL ocIW kVIW dcIW pmIW cdIW ctIW ocMO kVMO dcMO pmMO cdMO ctMO ocSW kVSW dcSW pmSW cdSW ctSW ocCU kVCU dcCU pmCU cdCU ctCU ocI kVI dcI pmI cdI ctI ocUD kVUD dcUD pmUD cdUD ctUD ocBG kVBG dcBG pmBG cdBG ctBG ocFU kVFU dcFU pmFU cdFU ctFU ocUN kVUN dcUN pmUN cdUN ctUN ocSE kVSE dcSE pmSE cdSE ctSE ocHO kVHO dcHO pmHO cdHO ctHO ocOW kVOW dcOW pmOW cdOW ctOW ocPC kVPC dcPC pmPC cdPC ctPC ocPN kVPN dcPN pmPN cdPN ctPN ocPS kVPS dcPS pmPS cdPS ctPS ocPP kVPP dcPP pmPP cdPP ctPP ocPR kVPR dcPR pmPR cdPR ctPR ocLQ kVLQ dcLQ pmLQ cdLQ ctLQ ocFG kVFG dcFG pmFG cdFG ctFG ocPB kVPB dcPB pmPB cdPB ctPB ocLP kVLP dcLP pmLP cdLP ctLP ocOR kVOR dcOR pmOR cdOR ctOR ocPU kVPU dcPU pmPU cdPU ctPU ocPT kVPT dcPT pmPT cdPT ctPT ocWD kVWD dcWD pmWD cdWD ctWD ocQ kVQ dcQ pmQ cdQ ctQ : Value}
    (aH : PySem.W.nsIn K mainGlobals "has_column" = some (some (.ref fH))) (lH : K.lookup fH = some ⟨ocH, odH, .func (PySem.W.fnOf "has_column" "has_column" (defArgs sHas) (defBody sHas) (defScope sHas) .none kVH dcH pmH anH cdH ctH), slH⟩) (cH : PySem.W.codeIn K cdH "has_column" = true) (kH : PySem.W.keepIn K (.ref fH) = true)
    (aC : PySem.W.nsIn K mainGlobals "columns_of" = some (some (.ref fC))) (lC : K.lookup fC = some ⟨ocC, odC, .func (PySem.W.fnOf "columns_of" "columns_of" (defArgs sCols) (defBody sCols) (defScope sCols) .none kVC dcC pmC anC cdC ctC), slC⟩) (cC : PySem.W.codeIn K cdC "columns_of" = true) (kC : PySem.W.keepIn K (.ref fC) = true)
    (aAL : PySem.W.nsIn K mainGlobals "all_of" = some (some (.ref fAL))) (lAL : K.lookup fAL = some ⟨ocAL, odAL, .func (PySem.W.fnOf "all_of" "all_of" (defArgs sAll) (defBody sAll) (defScope sAll) .none kVAL dcAL pmAL anAL cdAL ctAL), slAL⟩) (cAL : PySem.W.codeIn K cdAL "all_of" = true) (kAL : PySem.W.keepIn K (.ref fAL) = true)
    (aIW : PySem.W.nsIn K mainGlobals "is_within" = some (some (.ref fIW))) (lIW : K.lookup fIW = some ⟨ocIW, odIW, .func (PySem.W.fnOf "is_within" "is_within" (defArgs sWithin) (defBody sWithin) (defScope sWithin) .none kVIW dcIW pmIW anIW cdIW ctIW), slIW⟩) (cIW : PySem.W.codeIn K cdIW "is_within" = true) (kIW : PySem.W.keepIn K (.ref fIW) = true)
    (aMO : PySem.W.nsIn K mainGlobals "with_one_more" = some (some (.ref fMO))) (lMO : K.lookup fMO = some ⟨ocMO, odMO, .func (PySem.W.fnOf "with_one_more" "with_one_more" (defArgs sMore) (defBody sMore) (defScope sMore) .none kVMO dcMO pmMO anMO cdMO ctMO), slMO⟩) (cMO : PySem.W.codeIn K cdMO "with_one_more" = true) (kMO : PySem.W.keepIn K (.ref fMO) = true)
    (aSW : PySem.W.nsIn K mainGlobals "sets_within" = some (some (.ref fSW))) (lSW : K.lookup fSW = some ⟨ocSW, odSW, .func (PySem.W.fnOf "sets_within" "sets_within" (defArgs sSetsW) (defBody sSetsW) (defScope sSetsW) .none kVSW dcSW pmSW anSW cdSW ctSW), slSW⟩) (cSW : PySem.W.codeIn K cdSW "sets_within" = true) (kSW : PySem.W.keepIn K (.ref fSW) = true)
    (aCU : PySem.W.nsIn K mainGlobals "can_use" = some (some (.ref fCU))) (lCU : K.lookup fCU = some ⟨ocCU, odCU, .func (PySem.W.fnOf "can_use" "can_use" (defArgs sCanUse) (defBody sCanUse) (defScope sCanUse) .none kVCU dcCU pmCU anCU cdCU ctCU), slCU⟩) (cCU : PySem.W.codeIn K cdCU "can_use" = true) (kCU : PySem.W.keepIn K (.ref fCU) = true)
    (aI : PySem.W.nsIn K mainGlobals "listed" = some (some (.ref fI))) (lI : K.lookup fI = some ⟨ocI, odI, .func (PySem.W.fnOf "listed" "listed" (defArgs sListed) (defBody sListed) (defScope sListed) .none kVI dcI pmI anI cdI ctI), slI⟩) (cI : PySem.W.codeIn K cdI "listed" = true) (kI : PySem.W.keepIn K (.ref fI) = true)
    (aUD : PySem.W.nsIn K mainGlobals "used" = some (some (.ref fUD))) (lUD : K.lookup fUD = some ⟨ocUD, odUD, .func (PySem.W.fnOf "used" "used" (defArgs sUsed) (defBody sUsed) (defScope sUsed) .none kVUD dcUD pmUD anUD cdUD ctUD), slUD⟩) (cUD : PySem.W.codeIn K cdUD "used" = true) (kUD : PySem.W.keepIn K (.ref fUD) = true)
    (aBG : PySem.W.nsIn K mainGlobals "begun" = some (some (.ref fBG))) (lBG : K.lookup fBG = some ⟨ocBG, odBG, .func (PySem.W.fnOf "begun" "begun" (defArgs sBegun) (defBody sBegun) (defScope sBegun) .none kVBG dcBG pmBG anBG cdBG ctBG), slBG⟩) (cBG : PySem.W.codeIn K cdBG "begun" = true) (kBG : PySem.W.keepIn K (.ref fBG) = true)
    (aFU : PySem.W.nsIn K mainGlobals "first_use" = some (some (.ref fFU))) (lFU : K.lookup fFU = some ⟨ocFU, odFU, .func (PySem.W.fnOf "first_use" "first_use" (defArgs sFirst) (defBody sFirst) (defScope sFirst) .none kVFU dcFU pmFU anFU cdFU ctFU), slFU⟩) (cFU : PySem.W.codeIn K cdFU "first_use" = true) (kFU : PySem.W.keepIn K (.ref fFU) = true)
    (aUN : PySem.W.nsIn K mainGlobals "unfolded" = some (some (.ref fUN))) (lUN : K.lookup fUN = some ⟨ocUN, odUN, .func (PySem.W.fnOf "unfolded" "unfolded" (defArgs sUnf) (defBody sUnf) (defScope sUnf) .none kVUN dcUN pmUN anUN cdUN ctUN), slUN⟩) (cUN : PySem.W.codeIn K cdUN "unfolded" = true) (kUN : PySem.W.keepIn K (.ref fUN) = true)
    (aSE : PySem.W.nsIn K mainGlobals "settled" = some (some (.ref fSE))) (lSE : K.lookup fSE = some ⟨ocSE, odSE, .func (PySem.W.fnOf "settled" "settled" (defArgs sSettled) (defBody sSettled) (defScope sSettled) .none kVSE dcSE pmSE anSE cdSE ctSE), slSE⟩) (cSE : PySem.W.codeIn K cdSE "settled" = true) (kSE : PySem.W.keepIn K (.ref fSE) = true)
    (aHO : PySem.W.nsIn K mainGlobals "holds_one" = some (some (.ref fHO))) (lHO : K.lookup fHO = some ⟨ocHO, odHO, .func (PySem.W.fnOf "holds_one" "holds_one" (defArgs sHoldsOne) (defBody sHoldsOne) (defScope sHoldsOne) .none kVHO dcHO pmHO anHO cdHO ctHO), slHO⟩) (cHO : PySem.W.codeIn K cdHO "holds_one" = true) (kHO : PySem.W.keepIn K (.ref fHO) = true)
    (aOW : PySem.W.nsIn K mainGlobals "own_rules" = some (some (.ref fOW))) (lOW : K.lookup fOW = some ⟨ocOW, odOW, .func (PySem.W.fnOf "own_rules" "own_rules" (defArgs sOwn) (defBody sOwn) (defScope sOwn) .none kVOW dcOW pmOW anOW cdOW ctOW), slOW⟩) (cOW : PySem.W.codeIn K cdOW "own_rules" = true) (kOW : PySem.W.keepIn K (.ref fOW) = true)
    (aPC : PySem.W.nsIn K mainGlobals "_law_cell" = some (some (.ref fPC))) (lPC : K.lookup fPC = some ⟨ocPC, odPC, .func (PySem.W.fnOf "_law_cell" "_law_cell" (defArgs sPCell) (defBody sPCell) (defScope sPCell) .none kVPC dcPC pmPC anPC cdPC ctPC), slPC⟩) (cPC : PySem.W.codeIn K cdPC "_law_cell" = true) (kPC : PySem.W.keepIn K (.ref fPC) = true)
    (aPN : PySem.W.nsIn K mainGlobals "_law_next" = some (some (.ref fPN))) (lPN : K.lookup fPN = some ⟨ocPN, odPN, .func (PySem.W.fnOf "_law_next" "_law_next" (defArgs sPNext) (defBody sPNext) (defScope sPNext) .none kVPN dcPN pmPN anPN cdPN ctPN), slPN⟩) (cPN : PySem.W.codeIn K cdPN "_law_next" = true) (kPN : PySem.W.keepIn K (.ref fPN) = true)
    (aPS : PySem.W.nsIn K mainGlobals "_law_some" = some (some (.ref fPS))) (lPS : K.lookup fPS = some ⟨ocPS, odPS, .func (PySem.W.fnOf "_law_some" "_law_some" (defArgs sPSome) (defBody sPSome) (defScope sPSome) .none kVPS dcPS pmPS anPS cdPS ctPS), slPS⟩) (cPS : PySem.W.codeIn K cdPS "_law_some" = true) (kPS : PySem.W.keepIn K (.ref fPS) = true)
    (aPP : PySem.W.nsIn K mainGlobals "_law_pair" = some (some (.ref fPP))) (lPP : K.lookup fPP = some ⟨ocPP, odPP, .func (PySem.W.fnOf "_law_pair" "_law_pair" (defArgs sPPair) (defBody sPPair) (defScope sPPair) .none kVPP dcPP pmPP anPP cdPP ctPP), slPP⟩) (cPP : PySem.W.codeIn K cdPP "_law_pair" = true) (kPP : PySem.W.keepIn K (.ref fPP) = true)
    (aPR : PySem.W.nsIn K mainGlobals "_law_rules" = some (some (.ref fPR))) (lPR : K.lookup fPR = some ⟨ocPR, odPR, .func (PySem.W.fnOf "_law_rules" "_law_rules" (defArgs sPRules) (defBody sPRules) (defScope sPRules) .none kVPR dcPR pmPR anPR cdPR ctPR), slPR⟩) (cPR : PySem.W.codeIn K cdPR "_law_rules" = true) (kPR : PySem.W.keepIn K (.ref fPR) = true)
    (aLQ : PySem.W.nsIn K mainGlobals "_law_part" = some (some (.ref fLQ))) (lLQ : K.lookup fLQ = some ⟨ocLQ, odLQ, .func (PySem.W.fnOf "_law_part" "_law_part" (defArgs sLPart) (defBody sLPart) (defScope sLPart) .none kVLQ dcLQ pmLQ anLQ cdLQ ctLQ), slLQ⟩) (cLQ : PySem.W.codeIn K cdLQ "_law_part" = true) (kLQ : PySem.W.keepIn K (.ref fLQ) = true)
    (aFG : PySem.W.nsIn K mainGlobals "first_gain" = some (some (.ref fFG))) (lFG : K.lookup fFG = some ⟨ocFG, odFG, .func (PySem.W.fnOf "first_gain" "first_gain" (defArgs sFirstGain) (defBody sFirstGain) (defScope sFirstGain) .none kVFG dcFG pmFG anFG cdFG ctFG), slFG⟩) (cFG : PySem.W.codeIn K cdFG "first_gain" = true) (kFG : PySem.W.keepIn K (.ref fFG) = true)
    (aPB : PySem.W.nsIn K mainGlobals "part_by_part" = some (some (.ref fPB))) (lPB : K.lookup fPB = some ⟨ocPB, odPB, .func (PySem.W.fnOf "part_by_part" "part_by_part" (defArgs sPartBy) (defBody sPartBy) (defScope sPartBy) .none kVPB dcPB pmPB anPB cdPB ctPB), slPB⟩) (cPB : PySem.W.codeIn K cdPB "part_by_part" = true) (kPB : PySem.W.keepIn K (.ref fPB) = true)
    (aLP : PySem.W.nsIn K mainGlobals "_law_parts" = some (some (.ref fLP))) (lLP : K.lookup fLP = some ⟨ocLP, odLP, .func (PySem.W.fnOf "_law_parts" "_law_parts" (defArgs sLParts) (defBody sLParts) (defScope sLParts) .none kVLP dcLP pmLP anLP cdLP ctLP), slLP⟩) (cLP : PySem.W.codeIn K cdLP "_law_parts" = true) (kLP : PySem.W.keepIn K (.ref fLP) = true)
    (aOR : PySem.W.nsIn K mainGlobals "_law_order" = some (some (.ref fOR))) (lOR : K.lookup fOR = some ⟨ocOR, odOR, .func (PySem.W.fnOf "_law_order" "_law_order" (defArgs sOrder) (defBody sOrder) (defScope sOrder) .none kVOR dcOR pmOR anOR cdOR ctOR), slOR⟩) (cOR : PySem.W.codeIn K cdOR "_law_order" = true) (kOR : PySem.W.keepIn K (.ref fOR) = true)
    (aPU : PySem.W.nsIn K mainGlobals "_law_put" = some (some (.ref fPU))) (lPU : K.lookup fPU = some ⟨ocPU, odPU, .func (PySem.W.fnOf "_law_put" "_law_put" (defArgs sPut) (defBody sPut) (defScope sPut) .none kVPU dcPU pmPU anPU cdPU ctPU), slPU⟩) (cPU : PySem.W.codeIn K cdPU "_law_put" = true) (kPU : PySem.W.keepIn K (.ref fPU) = true)
    (aPT : PySem.W.nsIn K mainGlobals "_law_put_rules" = some (some (.ref fPT))) (lPT : K.lookup fPT = some ⟨ocPT, odPT, .func (PySem.W.fnOf "_law_put_rules" "_law_put_rules" (defArgs sPutRs) (defBody sPutRs) (defScope sPutRs) .none kVPT dcPT pmPT anPT cdPT ctPT), slPT⟩) (cPT : PySem.W.codeIn K cdPT "_law_put_rules" = true) (kPT : PySem.W.keepIn K (.ref fPT) = true)
    (aWD : PySem.W.nsIn K mainGlobals "_law_word" = some (some (.ref fWD))) (lWD : K.lookup fWD = some ⟨ocWD, odWD, .func (PySem.W.fnOf "_law_word" "_law_word" (defArgs sWordG) (defBody sWordG) (defScope sWordG) .none kVWD dcWD pmWD anWD cdWD ctWD), slWD⟩) (cWD : PySem.W.codeIn K cdWD "_law_word" = true) (kWD : PySem.W.keepIn K (.ref fWD) = true)
    (aQ : PySem.W.nsIn K mainGlobals "law" = some (some (.ref fQ))) (lQ : K.lookup fQ = some ⟨ocQ, odQ, .func (PySem.W.fnOf "law" "law" (defArgs sLaw) (defBody sLaw) (defScope sLaw) .none kVQ dcQ pmQ anQ cdQ ctQ), slQ⟩) (cQ : PySem.W.codeIn K cdQ "law" = true) (kQ : PySem.W.keepIn K (.ref fQ) = true)
    {tkMP : Tok} (aMP : PySem.W.nsIn K mainGlobals "MOST_PARTS" = some (some (.int 10 tkMP)))
    (ylen : PySem.W.nsIn K mainGlobals "len" = some none) (yrange : PySem.W.nsIn K mainGlobals "range" = some none) (yenumerate : PySem.W.nsIn K mainGlobals "enumerate" = some none) (yint : PySem.W.nsIn K mainGlobals "int" = some none) (ysorted : PySem.W.nsIn K mainGlobals "sorted" = some none) (yany : PySem.W.nsIn K mainGlobals "any" = some none) (ydict : PySem.W.nsIn K mainGlobals "dict" = some none) (ysum : PySem.W.nsIn K mainGlobals "sum" = some none) :
    ∃ fd : FuncData, (∀ (s : Shared) (v : Value), BindsTo s fd ⟨[v], []⟩ [("_law_script", v)]) ∧ ∀ base : Heap, K.In base → base.Ns mainGlobals mg → FnOk l.prog w K mg base CX0 9 fa fd ["_law_script"] (spLaw K) := by
  have e := hfa.symm.trans (PySem.W.mg_of X G aQ)
  cases e
  have FH := fun_mk (st := sHas) lH cH kH
  have mH := PySem.W.mg_of X G aH
  have bH := FH.binds (ps := ["some", "column"]) fun _ _ _ _ _ _ us hl => match us, hl with | [_, _], _ => rfl
  have FC := fun_mk (st := sCols) lC cC kC
  have mC := PySem.W.mg_of X G aC
  have bC := FC.binds (ps := ["some"]) fun _ _ _ _ _ _ us hl => match us, hl with | [_], _ => rfl
  have FAL := fun_mk (st := sAll) lAL cAL kAL
  have mAL := PySem.W.mg_of X G aAL
  have bAL := FAL.binds (ps := ["many"]) fun _ _ _ _ _ _ us hl => match us, hl with | [_], _ => rfl
  have FIW := fun_mk (st := sWithin) lIW cIW kIW
  have mIW := PySem.W.mg_of X G aIW
  have bIW := FIW.binds (ps := ["one", "other"]) fun _ _ _ _ _ _ us hl => match us, hl with | [_, _], _ => rfl
  have FMO := fun_mk (st := sMore) lMO cMO kMO
  have mMO := PySem.W.mg_of X G aMO
  have bMO := FMO.binds (ps := ["sets", "some"]) fun _ _ _ _ _ _ us hl => match us, hl with | [_, _], _ => rfl
  have FSW := fun_mk (st := sSetsW) lSW cSW kSW
  have mSW := PySem.W.mg_of X G aSW
  have bSW := FSW.binds (ps := ["some"]) fun _ _ _ _ _ _ us hl => match us, hl with | [_], _ => rfl
  have FCU := fun_mk (st := sCanUse) lCU cCU kCU
  have mCU := PySem.W.mg_of X G aCU
  have bCU := FCU.binds (ps := ["rule", "block"]) fun _ _ _ _ _ _ us hl => match us, hl with | [_, _], _ => rfl
  have FI := fun_mk (st := sListed) lI cI kI
  have mI := PySem.W.mg_of X G aI
  have bI := FI.binds (ps := ["block"]) fun _ _ _ _ _ _ us hl => match us, hl with | [_], _ => rfl
  have FUD := fun_mk (st := sUsed) lUD cUD kUD
  have mUD := PySem.W.mg_of X G aUD
  have bUD := FUD.binds (ps := ["rule", "fixed", "blocks", "at"]) fun _ _ _ _ _ _ us hl => match us, hl with | [_, _, _, _], _ => rfl
  have FBG := fun_mk (st := sBegun) lBG cBG kBG
  have mBG := PySem.W.mg_of X G aBG
  have bBG := FBG.binds (ps := ["many", "some"]) fun _ _ _ _ _ _ us hl => match us, hl with | [_, _], _ => rfl
  have FFU := fun_mk (st := sFirst) lFU cFU kFU
  have mFU := PySem.W.mg_of X G aFU
  have bFU := FFU.binds (ps := ["rules", "blocks"]) fun _ _ _ _ _ _ us hl => match us, hl with | [_, _], _ => rfl
  have FUN := fun_mk (st := sUnf) lUN cUN kUN
  have mUN := PySem.W.mg_of X G aUN
  have bUN := FUN.binds (ps := ["many", "rules", "some"]) fun _ _ _ _ _ _ us hl => match us, hl with | [_, _, _], _ => rfl
  have FSE := fun_mk (st := sSettled) lSE cSE kSE
  have mSE := PySem.W.mg_of X G aSE
  have bSE := FSE.binds (ps := ["many", "rules", "some"]) fun _ _ _ _ _ _ us hl => match us, hl with | [_, _, _], _ => rfl
  have FHO := fun_mk (st := sHoldsOne) lHO cHO kHO
  have mHO := PySem.W.mg_of X G aHO
  have bHO := FHO.binds (ps := ["some", "found"]) fun _ _ _ _ _ _ us hl => match us, hl with | [_, _], _ => rfl
  have FOW := fun_mk (st := sOwn) lOW cOW kOW
  have mOW := PySem.W.mg_of X G aOW
  have bOW := FOW.binds (ps := ["many", "rules", "part"]) fun _ _ _ _ _ _ us hl => match us, hl with | [_, _, _], _ => rfl
  have FPC := fun_mk (st := sPCell) lPC cPC kPC
  have mPC := PySem.W.mg_of X G aPC
  have bPC := FPC.binds (ps := ["_law_script", "_law_k"]) fun _ _ _ _ _ _ us hl => match us, hl with | [_, _], _ => rfl
  have FPN := fun_mk (st := sPNext) lPN cPN kPN
  have mPN := PySem.W.mg_of X G aPN
  have bPN := FPN.binds (ps := ["_law_pen", "_law_most"]) fun _ _ _ _ _ _ us hl => match us, hl with | [_, _], _ => rfl
  have FPS := fun_mk (st := sPSome) lPS cPS kPS
  have mPS := PySem.W.mg_of X G aPS
  have bPS := FPS.binds (ps := ["_law_pen", "_law_many"]) fun _ _ _ _ _ _ us hl => match us, hl with | [_, _], _ => rfl
  have FPP := fun_mk (st := sPPair) lPP cPP kPP
  have mPP := PySem.W.mg_of X G aPP
  have bPP := FPP.binds (ps := ["_law_pen", "_law_many"]) fun _ _ _ _ _ _ us hl => match us, hl with | [_, _], _ => rfl
  have FPR := fun_mk (st := sPRules) lPR cPR kPR
  have mPR := PySem.W.mg_of X G aPR
  have bPR := FPR.binds (ps := ["_law_pen", "_law_many", "_law_most"]) fun _ _ _ _ _ _ us hl => match us, hl with | [_, _, _], _ => rfl
  have FLQ := fun_mk (st := sLPart) lLQ cLQ kLQ
  have mLQ := PySem.W.mg_of X G aLQ
  have bLQ := FLQ.binds (ps := ["_law_pen", "_law_many"]) fun _ _ _ _ _ _ us hl => match us, hl with | [_, _], _ => rfl
  have FFG := fun_mk (st := sFirstGain) lFG cFG kFG
  have mFG := PySem.W.mg_of X G aFG
  have bFG := FFG.binds (ps := ["many", "rules", "parts", "some"]) fun _ _ _ _ _ _ us hl => match us, hl with | [_, _, _, _], _ => rfl
  have FPB := fun_mk (st := sPartBy) lPB cPB kPB
  have mPB := PySem.W.mg_of X G aPB
  have bPB := FPB.binds (ps := ["many", "rules", "parts", "rule"]) fun _ _ _ _ _ _ us hl => match us, hl with | [_, _, _, _], _ => rfl
  have FLP := fun_mk (st := sLParts) lLP cLP kLP
  have mLP := PySem.W.mg_of X G aLP
  have bLP := FLP.binds (ps := ["_law_pen", "_law_many"]) fun _ _ _ _ _ _ us hl => match us, hl with | [_, _], _ => rfl
  have FOR := fun_mk (st := sOrder) lOR cOR kOR
  have mOR := PySem.W.mg_of X G aOR
  have bOR := FOR.binds (ps := ["_law_pen", "_law_many"]) fun _ _ _ _ _ _ us hl => match us, hl with | [_, _], _ => rfl
  have FPU := fun_mk (st := sPut) lPU cPU kPU
  have mPU := PySem.W.mg_of X G aPU
  have bPU := FPU.binds (ps := ["_law_some_here", "_law_order_here"]) fun _ _ _ _ _ _ us hl => match us, hl with | [_, _], _ => rfl
  have FPT := fun_mk (st := sPutRs) lPT cPT kPT
  have mPT := PySem.W.mg_of X G aPT
  have bPT := FPT.binds (ps := ["_law_rules_here", "_law_order_here"]) fun _ _ _ _ _ _ us hl => match us, hl with | [_, _], _ => rfl
  have FWD := fun_mk (st := sWordG) lWD cWD kWD
  have mWD := PySem.W.mg_of X G aWD
  have bWD := FWD.binds (ps := ["_law_told"]) fun _ _ _ _ _ _ us hl => match us, hl with | [_], _ => rfl
  have FQ := fun_mk (st := sLaw) lQ cQ kQ
  have mQ := PySem.W.mg_of X G aQ
  have mMP := PySem.W.mg_of X G aMP
  have zlen := PySem.W.mg_none_of X G ylen
  have zrange := PySem.W.mg_none_of X G yrange
  have zenumerate := PySem.W.mg_none_of X G yenumerate
  have zint := PySem.W.mg_none_of X G yint
  have zsorted := PySem.W.mg_none_of X G ysorted
  have zany := PySem.W.mg_none_of X G yany
  have zdict := PySem.W.mg_none_of X G ydict
  have zsum := PySem.W.mg_none_of X G ysum
  refine ⟨PySem.W.fnOf "law" "law" (defArgs sLaw) (defBody sLaw) (defScope sLaw) .none kVQ dcQ pmQ anQ cdQ ctQ, fun s v => .of_eq rfl, fun base _ _ => ?_⟩
  have GH := ok_has (P := l.prog) (w := w) (mg := mg) (base := base) FH
  have GC := ok_cols FC GH mH kH bH zrange
  have GAL := ok_all (P := l.prog) (w := w) (mg := mg) (base := base) FAL
  have GIW := ok_within (P := l.prog) (w := w) (mg := mg) (base := base) FIW
  have GMO := ok_more FMO GC mC kC bC zsorted
  have GSW := ok_setsw FSW GMO mMO kMO bMO
  have GCU := ok_canuse (P := l.prog) (w := w) (mg := mg) (base := base) FCU
  have GI := ok_listed (P := l.prog) (w := w) (mg := mg) (base := base) FI
  have GUD := ok_used FUD GI mI kI bI
  have GBG := ok_begun FBG GI mI kI bI GAL mAL kAL bAL
  have GFU := ok_first FFU GCU mCU kCU bCU zenumerate
  have GUN := ok_unf FUN GBG mBG kBG bBG GFU mFU kFU bFU GUD mUD kUD bUD
  have GSE := ok_settled FSE GUN mUN kUN bUN
  have GHO := ok_holdsone FHO GIW mIW kIW bIW zany
  have GOW := ok_own FOW GC mC kC bC GSW mSW kSW bSW GSE mSE kSE bSE GHO mHO kHO bHO zdict
  have GPC := ok_pcell (P := l.prog) (w := w) (base := base) FPC zlen
  have GPN := ok_pnext FPN GPC mPC kPC bPC
  have GPS := ok_psome FPS GPN mPN kPN bPN
  have GPP := ok_ppair FPP GPN mPN kPN bPN zint
  have GPR := ok_prules FPR GPN mPN kPN bPN GPS mPS kPS bPS GPP mPP kPP bPP zrange zint
  have GLQ := ok_lpart FLQ GPN mPN kPN bPN
  have GFG := ok_firstgain FFG GSE mSE kSE bSE zenumerate
  have GPB := ok_partby FPB GFG mFG kFG bFG GIW mIW kIW bIW mMP zlen
  have GLP := ok_lparts FLP GPN mPN kPN bPN GPS mPS kPS bPS zrange
  have GOR := ok_order FOR GPN mPN kPN bPN zrange
  have GPU := ok_put (P := l.prog) (w := w) (base := base) FPU zrange zlen zsum
  have GPT := ok_putrs FPT GPU mPU kPU bPU
  have GWD := ok_wordg (P := l.prog) (w := w) (mg := mg) (base := base) FWD
  exact ok_law FQ GPN mPN kPN bPN GPR mPR kPR bPR GPS mPS kPS bPS GLQ mLQ kLQ bLQ GLP mLP kLP bLP GOR mOR kOR bOR GPU mPU kPU bPU GPT mPT kPT bPT GWD mWD kWD bWD GOW mOW kOW bOW GPB mPB kPB bPB zint zsorted
theorem walk {l : PySem.W.OpenLaw} {q : Program} {loose : List Str} {XP : (Str → Option Value) → Heap → Prop} {YP : World → Heap → Prop} {d : DefRec} {K : Params → PySem.W.Frag} (hn : l.most = some 63) (hdf : d.params.defaults = [])
    (hY : ∀ (w : World) (h : Heap), YP w h → (K w.params).In h)
    (F : ∀ (w : World) (mg : Str → Option Value) (fa : Addr) (h : Heap), (K w.params).In h → h.Ns mainGlobals mg → mg d.name = some (.ref fa) →
      ∃ fd : FuncData, (∀ (s : Shared) (u : Value), BindsTo s fd ⟨[u], []⟩ [("_law_script", u)]) ∧ ∀ base : Heap, (K w.params).In base → base.Ns mainGlobals mg → FnOk l.prog w (K w.params) mg base CX0 9 fa fd ["_law_script"] (spLaw (K w.params))) :
    PySem.W.WalkO q loose XP YP l.row.toRowW d [] (fun f vs => PySem.call f vs) :=
  L2.walk_of (n := 63) (k := 9) (x := "_law_script") (CX := fun _ => CX0) (sp := fun w => spLaw (K w.params)) hn (by decide) hdf ⟨rfl, by decide, by decide⟩ hY F (fun _ _ a ns hl hO hS => ⟨a, ns, rfl, SqF.of hO hS, hl, fun _ => rfl⟩) fun _ _ _ _ _ z => z
end Own
/-! names laid ahead, so that the head makes no twins of heaps, trees and the whole text: its own evaluation is quick without them -/
noncomputable def PySem.W.Fast.tw7471813676401561026 : Unit := ()
noncomputable def PySem.W.Fast.tw16849348130089185034 : Unit := ()
noncomputable def PySem.W.Fast.tw14191750263583001231 : Unit := ()
noncomputable def PySem.W.Fast.tw7242585008522307453 : Unit := ()
noncomputable def PySem.W.Fast.tw9040060943233312331 : Unit := ()
noncomputable def PySem.W.Fast.tw14357048755775297866 : Unit := ()
noncomputable def PySem.W.Fast.tw13947190452963847500 : Unit := ()
open PySem PySem.W PyProof.Rows
set_option maxRecDepth 100000 in
set_option maxHeartbeats 0 in
theorem PySem.Challenge.cw_splithouse_k78_whole_columns_exchanged_holds : PySem.Challenge.rw_splithouse_k78_whole_columns_exchanged.Holds := by
  w_on; o_law; k_head; (case hw => w_witness2)
  k_fill
  refine Own.walk (l := PySem.Challenge.rw_splithouse_k78_whole_columns_exchanged) rfl rfl (fun w h Y => PySem.W.kIn_of Y) ?F
  case F =>
    intro w mg fa h KX G hmg
    refine' Own.all_mk KX G hmg ?aH ?lH ?cH ?kH ?aC ?lC ?cC ?kC ?aAL ?lAL ?cAL ?kAL ?aIW ?lIW ?cIW ?kIW ?aMO ?lMO ?cMO ?kMO ?aSW ?lSW ?cSW ?kSW ?aCU ?lCU ?cCU ?kCU ?aI ?lI ?cI ?kI ?aUD ?lUD ?cUD ?kUD ?aBG ?lBG ?cBG ?kBG ?aFU ?lFU ?cFU ?kFU ?aUN ?lUN ?cUN ?kUN ?aSE ?lSE ?cSE ?kSE ?aHO ?lHO ?cHO ?kHO ?aOW ?lOW ?cOW ?kOW ?aPC ?lPC ?cPC ?kPC ?aPN ?lPN ?cPN ?kPN ?aPS ?lPS ?cPS ?kPS ?aPP ?lPP ?cPP ?kPP ?aPR ?lPR ?cPR ?kPR ?aLQ ?lLQ ?cLQ ?kLQ ?aFG ?lFG ?cFG ?kFG ?aPB ?lPB ?cPB ?kPB ?aLP ?lLP ?cLP ?kLP ?aOR ?lOR ?cOR ?kOR ?aPU ?lPU ?cPU ?kPU ?aPT ?lPT ?cPT ?kPT ?aWD ?lWD ?cWD ?kWD ?aQ ?lQ ?cQ ?kQ ?aMP ?ylen ?yrange ?yenumerate ?yint ?ysorted ?yany ?ydict ?ysum
    (case aH => k_is)
    (case lH => k_is)
    (case cH => k_is)
    (case kH => k_is)
    (case aC => k_is)
    (case lC => k_is)
    (case cC => k_is)
    (case kC => k_is)
    (case aAL => k_is)
    (case lAL => k_is)
    (case cAL => k_is)
    (case kAL => k_is)
    (case aIW => k_is)
    (case lIW => k_is)
    (case cIW => k_is)
    (case kIW => k_is)
    (case aMO => k_is)
    (case lMO => k_is)
    (case cMO => k_is)
    (case kMO => k_is)
    (case aSW => k_is)
    (case lSW => k_is)
    (case cSW => k_is)
    (case kSW => k_is)
    (case aCU => k_is)
    (case lCU => k_is)
    (case cCU => k_is)
    (case kCU => k_is)
    (case aI => k_is)
    (case lI => k_is)
    (case cI => k_is)
    (case kI => k_is)
    (case aUD => k_is)
    (case lUD => k_is)
    (case cUD => k_is)
    (case kUD => k_is)
    (case aBG => k_is)
    (case lBG => k_is)
    (case cBG => k_is)
    (case kBG => k_is)
    (case aFU => k_is)
    (case lFU => k_is)
    (case cFU => k_is)
    (case kFU => k_is)
    (case aUN => k_is)
    (case lUN => k_is)
    (case cUN => k_is)
    (case kUN => k_is)
    (case aSE => k_is)
    (case lSE => k_is)
    (case cSE => k_is)
    (case kSE => k_is)
    (case aHO => k_is)
    (case lHO => k_is)
    (case cHO => k_is)
    (case kHO => k_is)
    (case aOW => k_is)
    (case lOW => k_is)
    (case cOW => k_is)
    (case kOW => k_is)
    (case aPC => k_is)
    (case lPC => k_is)
    (case cPC => k_is)
    (case kPC => k_is)
    (case aPN => k_is)
    (case lPN => k_is)
    (case cPN => k_is)
    (case kPN => k_is)
    (case aPS => k_is)
    (case lPS => k_is)
    (case cPS => k_is)
    (case kPS => k_is)
    (case aPP => k_is)
    (case lPP => k_is)
    (case cPP => k_is)
    (case kPP => k_is)
    (case aPR => k_is)
    (case lPR => k_is)
    (case cPR => k_is)
    (case kPR => k_is)
    (case aLQ => k_is)
    (case lLQ => k_is)
    (case cLQ => k_is)
    (case kLQ => k_is)
    (case aFG => k_is)
    (case lFG => k_is)
    (case cFG => k_is)
    (case kFG => k_is)
    (case aPB => k_is)
    (case lPB => k_is)
    (case cPB => k_is)
    (case kPB => k_is)
    (case aLP => k_is)
    (case lLP => k_is)
    (case cLP => k_is)
    (case kLP => k_is)
    (case aOR => k_is)
    (case lOR => k_is)
    (case cOR => k_is)
    (case kOR => k_is)
    (case aPU => k_is)
    (case lPU => k_is)
    (case cPU => k_is)
    (case kPU => k_is)
    (case aPT => k_is)
    (case lPT => k_is)
    (case cPT => k_is)
    (case kPT => k_is)
    (case aWD => k_is)
    (case lWD => k_is)
    (case cWD => k_is)
    (case kWD => k_is)
    (case aQ => k_is)
    (case lQ => k_is)
    (case cQ => k_is)
    (case kQ => k_is)
    (case aMP => k_is)
    (case ylen => k_is)
    (case yrange => k_is)
    (case yenumerate => k_is)
    (case yint => k_is)
    (case ysorted => k_is)
    (case yany => k_is)
    (case ydict => k_is)
    (case ysum => k_is)


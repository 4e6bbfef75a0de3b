import PyProof.Rows.All
import Wide.All
import OpenK.AllK
import Wide.FinOn
import Lean
import PyProof.EqAt
import PyProof.EqKinds
import PyProof.TupleCall
import KE.KSortTup
import PySem.SetTable
import PyProof.SetScanFacts
import PyProof.Rows.SetFrom
import PyProof.TupleKey
import KE.KDictList
import PySem.Challenge.RW_splithouse_k15_whole_a_cut_of_a_book
-- CHANGE: your row's module here, as the last of these rows
set_option Elab.async false
set_option linter.all false
set_option maxRecDepth 100000
/-! THE HAND LAYER, for ints, bools, texts, own classes, LISTS and tuples (index, slices, in, append, pop ..), calls, loops. Paste it whole ahead of your own text; what your proof does not reach may be deleted. -/
namespace L2
open PySem PySem.Spec PyProof.Rows

/-- a key: an int or a str -/
noncomputable abbrev Key := Sum Int Str
noncomputable def keyIs : Key → Value → Bool
  | .inl k, v => Value.isInt k v
  | .inr x, v => Value.isStrOf x v
noncomputable def keyH (w : World) : Key → Int
  | .inl k => hashInt k
  | .inr x => hashStr w x
theorem keyIs_shape : ∀ {k : Key} {v : Value}, keyIs k v = true → (∃ i t, k = Sum.inl i ∧ v = Value.int i t) ∨ (∃ x t, k = Sum.inr x ∧ v = Value.str x t)
  | .inl i, v, h => by
    obtain ⟨t, e⟩ := Value.isInt_shape (k := i) (v := v) h
    exact .inl ⟨i, t, rfl, e⟩
  | .inr x, v, h => by
    obtain ⟨t, e⟩ := Value.isStrOf_shape (x := x) (v := v) h
    exact .inr ⟨x, t, rfl, e⟩
theorem keyIs_int (i : Int) (t : Tok) : keyIs (.inl i) (.int i t) = true := by simp [keyIs, Value.isInt]
theorem keyIs_str (x : Str) (t : Tok) : keyIs (.inr x) (.str x t) = true := by simp [keyIs, Value.isStrOf]
theorem key_ll (a b : Int) : decide ((Sum.inl a : Key) = Sum.inl b) = (a == b) := by
  by_cases e : a = b
  · subst e; simp
  · have h : ¬ (Sum.inl a : Key) = Sum.inl b := fun q => e (Sum.inl.inj q)
    rw [decide_eq_false h]
    exact (beq_eq_false_iff_ne.mpr e).symm
theorem key_rr (a b : Str) : decide ((Sum.inr a : Key) = Sum.inr b) = decide (a = b) := by
  by_cases e : a = b
  · subst e; simp
  · have h : ¬ (Sum.inr a : Key) = Sum.inr b := fun q => e (Sum.inr.inj q)
    rw [decide_eq_false h, decide_eq_false e]
theorem key_lr (a : Int) (b : Str) : decide ((Sum.inl a : Key) = Sum.inr b) = false := decide_eq_false (fun q => nomatch q)
theorem key_rl (a : Str) (b : Int) : decide ((Sum.inr a : Key) = Sum.inl b) = false := decide_eq_false (fun q => nomatch q)

noncomputable def mixKind (prog : Program) (w : World) : PySem.KeyKind prog w Key where
  is := keyIs
  hash := keyH w
  inj := fun v a b ha hb => by
    rcases keyIs_shape ha with ⟨i, t, rfl, rfl⟩ | ⟨x, t, rfl, rfl⟩
    · rcases keyIs_shape hb with ⟨j, u, rfl, e⟩ | ⟨y, u, rfl, e⟩
      · injection e with e1 _; rw [e1]
      · exact nomatch e
    · rcases keyIs_shape hb with ⟨j, u, rfl, e⟩ | ⟨y, u, rfl, e⟩
      · exact nomatch e
      · injection e with e1 _; rw [e1]
  byValue := fun k v h => by
    rcases keyIs_shape h with ⟨i, t, rfl, rfl⟩ | ⟨x, t, rfl, rfl⟩ <;> rfl
  pyHash := fun hv h => by
    rcases keyIs_shape hv with ⟨i, t, rfl, rfl⟩ | ⟨x, t, rfl, rfl⟩
    · exact wpAny_pyHash_int h
    · exact wpAny_pyHash_str h
  eqBool := fun hu hv h => by
    rcases keyIs_shape hu with ⟨i, t, rfl, rfl⟩ | ⟨x, t, rfl, rfl⟩
    · rcases keyIs_shape hv with ⟨j, u, rfl, rfl⟩ | ⟨y, u, rfl, rfl⟩
      · rw [key_ll] at h; exact wpAny_eqBool_int h
      · rw [key_lr] at h; exact SeqAt.EqAt.int_str i t y u _ _ _ _ h
    · rcases keyIs_shape hv with ⟨j, u, rfl, rfl⟩ | ⟨y, u, rfl, rfl⟩
      · rw [key_rl] at h; exact SeqAt.EqAt.str_int x t j u _ _ _ _ h
      · rw [key_rr] at h; exact wpAny_eqBool_str h
  «strs» := fun k x t v h => by
    rcases keyIs_shape h with ⟨i, u, rfl, e⟩ | ⟨y, u, rfl, e⟩
    · exact nomatch e
    · injection e with e1 _
      subst e1
      cases v <;> rfl

theorem mixKind_int (prog : Program) (w : World) (i : Int) (t : Tok) : (mixKind prog w).is (.inl i) (.int i t) = true := keyIs_int i t
theorem mixKind_str (prog : Program) (w : World) (x : Str) (t : Tok) : (mixKind prog w).is (.inr x) (.str x t) = true := keyIs_str x t
end L2

namespace L2
open PySem PySem.Spec PyProof.Rows

/-- a value, without the heap -/
inductive V where
  | non | bl (b : Bool) | int (i : Int) | str (x : Str) | byt (b : Array UInt8) | flt (b : UInt64) | ref (a : Addr) | ty (n : String)
  deriving DecidableEq

noncomputable def RelV : V → Value → Prop
  | .non, u => u = Value.none
  | .bl b, u => u = Value.bool b
  | .int i, u => ∃ t, u = Value.int i t
  | .str x, u => ∃ t, u = Value.str x t
  | .byt b, u => ∃ t, u = Value.bytes b t
  | .flt b, u => ∃ t, u = Value.float b t
  | .ref a, u => u = Value.ref a
  | .ty n, u => u = Value.type n

noncomputable abbrev Vals : List V → List Value → Prop := Paired RelV
theorem Vals.length {xs : List V} {us : List Value} (r : Vals xs us) : xs.length = us.length := Paired.length r
theorem Vals.get : ∀ {xs : List V} {us : List Value} {i : Nat} {x : V}, Vals xs us → xs[i]? = some x → ∃ u, us[i]? = some u ∧ RelV x u
  | _, _, _, _, .nil, e => by simp at e
  | _, _, 0, _, .cons r _, e => by simp at e; subst e; exact ⟨_, rfl, r⟩
  | _, _, i + 1, x, .cons _ t, e => by
    obtain ⟨u, h1, h2⟩ := Vals.get (i := i) (x := x) t (by simpa using e)
    exact ⟨u, by simpa using h1, h2⟩
theorem Vals.set {x : V} {u : Value} (r : RelV x u) : ∀ {xs : List V} {us : List Value} (i : Nat), Vals xs us → Vals (xs.set i x) (us.set i u)
  | _, _, _, .nil => .nil
  | _, _, 0, .cons _ t => .cons r t
  | _, _, i + 1, .cons q t => .cons q (Vals.set r i t)
theorem Vals.append : ∀ {xs ys : List V} {us ws : List Value}, Vals xs us → Vals ys ws → Vals (xs ++ ys) (us ++ ws)
  | _, _, _, _, .nil, s => s
  | _, _, _, _, .cons r t, s => .cons r (Vals.append t s)
noncomputable def RelO : Option V → Option Value → Prop
  | some v, some u => RelV v u
  | none, none => True
  | _, _ => False
noncomputable def KV {κ : Type} : List (κ × V) → List (κ × Value) → Prop := Paired fun (p : κ × V) (q : κ × Value) => p.1 = q.1 ∧ RelV p.2 q.2

/-- a key of a dict (00_mix): an int or a text -/
noncomputable def kV : Key → V
  | .inl i => .int i
  | .inr x => .str x

/-- what stands at a tracked address -/
inductive HO where
  /-- a list -/
  | lst (xs : List V)
  /-- a tuple (never changes) -/
  | tup (xs : List V)
  /-- a dict whose keys are ints and texts; one whose keys are tuples of ints and texts (the empty one is both) -/
  | dK (kvs : List (Key × V)) | dT (kvs : List (List Key × V))
  /-- a set of ints: its members, its size -/
  | set (S : Int → Bool) (n : Nat)
  /-- an instance of the class at C, its dict at dx, its attributes -/
  | ins (C dx : Addr) (fs : List (Str × V))
  /-- the dict of the instance at x -/
  | own (x : Addr)
  /-- the dict of an exception -/
  | xd (fs : List (Str × V))
  /-- a bound method, f of x -/
  | met (f x : Addr)
  /-- a range object lo, lo + 1, .. below hi -/
  | rng (lo hi : Int)
  /-- a thing that is known to the object (the script; a dict while a loop walks it): read, never written while it is so -/
  | frz (o : Obj) (u : HO)
  /-- a code object's table -/
  | tbl (ps : Array Value)
  /-- any other thing, by what is true of its one object (a def of one's own: SetO a S n := HO.ext fun h => ..) -/
  | ext (φ : Heap → Prop)

noncomputable abbrev Hp := Addr → Option HO
noncomputable def upd (H : Hp) (a : Addr) (o : HO) : Hp := fun b => if b = a then some o else H b
theorem upd_same {H : Hp} {a : Addr} {o : HO} : upd H a o a = some o := by unfold upd; rw [if_pos rfl]
theorem upd_ne {H : Hp} {a b : Addr} {o : HO} (h : b ≠ a) : upd H a o b = H b := by unfold upd; rw [if_neg h]
theorem upd_upd {H : Hp} {a : Addr} {o u : HO} : upd (upd H a o) a u = upd H a u := by
  funext b; unfold upd; split <;> rfl
/-- two objects of different content stand apart -/
theorem ne_of {H : Hp} {a b : Addr} {o u : HO} (h : H a = some o) (h' : H b = some u) (d : o ≠ u) : a ≠ b := by
  intro e; subst e; rw [h] at h'; exact d (Option.some.inj h')
theorem ne_of_none {H : Hp} {a b : Addr} {o : HO} (h : H a = some o) (h' : H b = none) : a ≠ b := by
  intro e; subst e; rw [h] at h'; cases h'

section
variable (P : Program) (w : World)
noncomputable def ObjOk (H : Hp) (h : Heap) (a : Addr) : HO → Prop
  | .lst xs => xs.length ≤ sizeLine ∧ ∃ (its : List Value) (n : Nat), Vals xs its ∧ h.get? a = some { cls := .type "list", data := .seq its.toArray n }
  | .tup xs => xs.length ≤ sizeLine ∧ ∃ its : List Value, Vals xs its ∧ IsTup h a its.toArray
  | .dK kvs => kvs.length ≤ sizeLine ∧ (a == sysModules) = false ∧ ∃ vs, KV kvs vs ∧ h.DictOf (mixKind P w) a vs
  | .dT kvs => kvs.length ≤ sizeLine ∧ (a == sysModules) = false ∧ ∃ xs : List (List Key × Addr × Value),
      Paired (fun (p : List Key × V) (q : List Key × Addr × Value) => p.1 = q.1 ∧ H q.2.1 = some (.tup (p.1.map kV)) ∧ RelV p.2 q.2.2) kvs xs ∧
      ∃ o es ep, h.get? a = some o ∧ o.ExactDict ∧ o.data = .dict es ep ∧ es.toList = xs.map (entryOfKey (tupleKind (mixKind P w))) ∧ (xs.map (·.1)).Nodup
  | .set S n => h.SetOf (intKind P w) a S n
  | .ins C dx fs => H dx = some (.own a) ∧ fs.length ≤ 1000 ∧ dx ≠ a ∧ h.get? a = some (PySem.W.instObj C dx) ∧
      ∃ mA, h.Ns1 dx mA ∧ (∀ f, RelO (fs.lookup f) (mA f)) ∧ PySem.Within mA (fs.map (·.1))
  | .own _ => ∃ o, h.get? a = some o
  | .xd fs => ∃ mA, h.Ns1 a mA ∧ ∀ f, RelO (fs.lookup f) (mA f)
  | .rng lo hi => ∃ t u v, h.get? a = some { cls := .type "range", data := .fields #[.int lo t, .int hi u, .int 1 v] }
  | .frz o u => h.get? a = some o ∧ ObjOk H h a u
  | .tbl ps => h.get? a = some { cls := .none, data := .fields ps }
  | .met f x => h.get? a = some (PySem.W.methodObj (.ref f) (.ref x))
  | .ext φ => φ h ∧ (∃ o, h.get? a = some o) ∧ ∀ h1 h2 : Heap, φ h1 → (∀ o, h1.get? a = some o → h2.get? a = some o) → φ h2
/-- the abstract heap is held -/
noncomputable def HOk (H : Hp) (h : Heap) : Prop := ∀ a o, H a = some o → ObjOk P w H h a o
end

section
variable {P : Program} {w : World} {H H' : Hp} {h h' : Heap} {a : Addr} {o : HO}
theorem ObjOk.lt (x : ObjOk P w H h a o) : a < h.objs.size := by
  cases o with
  | lst xs => obtain ⟨_, _, _, _, e⟩ := x; exact Heap.lt_size e
  | tup xs => obtain ⟨_, _, _, p⟩ := x; exact p.lt
  | dK kvs => obtain ⟨_, _, _, _, o, _, _, e, _⟩ := x; exact Heap.lt_size e
  | dT kvs => obtain ⟨_, _, _, _, o, _, _, e, _⟩ := x; exact Heap.lt_size e
  | set S n => obtain ⟨o, _, _, _, e, _⟩ := x; exact Heap.lt_size e
  | ins C dx fs => obtain ⟨_, _, _, e, _⟩ := x; exact Heap.lt_size e
  | own y => obtain ⟨_, e⟩ := x; exact Heap.lt_size e
  | xd fs => obtain ⟨_, ⟨_, _, _, e, _⟩, _⟩ := x; exact Heap.lt_size e
  | rng lo hi => obtain ⟨_, _, _, e⟩ := x; exact Heap.lt_size e
  | frz ob u => obtain ⟨e, _⟩ := x; exact Heap.lt_size e
  | tbl ps => exact Heap.lt_size (show h.get? a = some _ from x)
  | met f y => exact Heap.lt_size (show h.get? a = some _ from x)
  | ext φ => obtain ⟨_, ⟨_, e⟩, _⟩ := x; exact Heap.lt_size e
theorem Paired.mapP {α β : Type} {F G : α → β → Prop} : ∀ {l₁ : List α} {l₂ : List β}, Paired F l₁ l₂ → (∀ a b, F a b → G a b) → Paired G l₁ l₂
  | _, _, .nil, _ => .nil
  | _, _, .cons r t, f => .cons (f _ _ r) (Paired.mapP t f)
/-- what an object's description leans on: its own object, its own dict, the tuples -/
theorem ObjOk.stay (x : ObjOk P w H h a o) (k : ∀ b u, (b = a ∨ H b = some (.own a)) → h.get? b = some u → h'.get? b = some u)
    (ho : ∀ b, H b = some (.own a) → H' b = some (.own a)) (ht : ∀ b xs, H b = some (.tup xs) → H' b = some (.tup xs)) : ObjOk P w H' h' a o := by
  induction o with
  | lst xs => obtain ⟨z, its, n, r, e⟩ := x; exact ⟨z, its, n, r, k _ _ (.inl rfl) e⟩
  | tup xs => obtain ⟨z, its, r, ob, e, c⟩ := x; exact ⟨z, its, r, ob, k _ _ (.inl rfl) e, c⟩
  | dK kvs => obtain ⟨z, y, vs, r, ob, es, ep, e, c⟩ := x; exact ⟨z, y, vs, r, ob, es, ep, k _ _ (.inl rfl) e, c⟩
  | dT kvs =>
    obtain ⟨z, y, xs, r, ob, es, ep, e, c⟩ := x
    exact ⟨z, y, xs, Paired.mapP r fun p q z => ⟨z.1, ht _ _ z.2.1, z.2.2⟩, ob, es, ep, k _ _ (.inl rfl) e, c⟩
  | set S n => obtain ⟨ob, es, ep, t, e, c⟩ := x; exact ⟨ob, es, ep, t, k _ _ (.inl rfl) e, c⟩
  | ins C dx fs =>
    obtain ⟨d, z, ne, e, mA, ⟨od, es, ep, e2, c⟩, r⟩ := x
    exact ⟨ho _ d, z, ne, k _ _ (.inl rfl) e, mA, ⟨od, es, ep, k _ _ (.inr d) e2, c⟩, r⟩
  | own y => obtain ⟨ob, e⟩ := x; exact ⟨ob, k _ _ (.inl rfl) e⟩
  | xd fs => obtain ⟨mA, ⟨od, es, ep, e, c⟩, r⟩ := x; exact ⟨mA, ⟨od, es, ep, k _ _ (.inl rfl) e, c⟩, r⟩
  | rng lo hi => obtain ⟨t, u, v, e⟩ := x; exact ⟨t, u, v, k _ _ (.inl rfl) e⟩
  | frz ob u ih => obtain ⟨e, q⟩ := x; exact ⟨k _ _ (.inl rfl) e, ih q⟩
  | tbl ps =>
    have e : h.get? a = some { cls := .none, data := .fields ps } := x
    show h'.get? a = some { cls := .none, data := .fields ps }
    exact k a _ (.inl rfl) e
  | met f y =>
    have e : h.get? a = some (PySem.W.methodObj (.ref f) (.ref y)) := x
    show h'.get? a = some (PySem.W.methodObj (.ref f) (.ref y))
    exact k a _ (.inl rfl) e
  | ext φ => obtain ⟨p, ⟨o, e⟩, st⟩ := x; exact ⟨st _ _ p fun o q => k _ _ (.inl rfl) q, ⟨o, k _ _ (.inl rfl) e⟩, st⟩
theorem HOk.lt (x : HOk P w H h) (e : H a = some o) : a < h.objs.size := (x a o e).lt
theorem HOk.fresh (x : HOk P w H h) (e : h.objs.size ≤ a) : H a = none := by
  cases q : H a with
  | none => rfl
  | some u => exact absurd (Nat.lt_of_lt_of_le (x.lt q) e) (Nat.lt_irrefl _)
/-- every object of the heap is kept -/
theorem HOk.kept (x : HOk P w H h) (k : ∀ b u, h.get? b = some u → h'.get? b = some u) : HOk P w H h' := fun a o e =>
  (x a o e).stay (fun b u _ q => k b u q) (fun _ q => q) fun _ _ q => q
/-- a new object is laid and tracked -/
theorem HOk.laid (x : HOk P w H h) (k : ∀ b u, h.get? b = some u → h'.get? b = some u) (hp : h.objs.size ≤ a) (new : ObjOk P w (upd H a o) h' a o) : HOk P w (upd H a o) h' := fun b u e => by
  have hn := x.fresh hp
  by_cases hb : b = a
  · subst hb; rw [upd_same] at e; cases e; exact new
  · rw [upd_ne hb] at e
    exact (x b u e).stay (fun c v _ q => k c v q) (fun c q => by rw [upd_ne (ne_of_none q hn)]; exact q) fun c xs q => by rw [upd_ne (ne_of_none q hn)]; exact q
end

/-- what may be read as u: it is u, or a known u -/
noncomputable def Rd (H : Hp) (a : Addr) (u : HO) : Prop := H a = some u ∨ ∃ o, H a = some (.frz o u)
theorem Rd.ok {P : Program} {w : World} {H : Hp} {h : Heap} {a : Addr} {u : HO} (r : Rd H a u) (x : HOk P w H h) : ObjOk P w H h a u := by
  rcases r with r | ⟨o, r⟩
  · exact x a u r
  · obtain ⟨_, q⟩ := x a _ r
    exact q
/-- what may be written -/
noncomputable def Mut : Option HO → Prop
  | some (.lst _) => True
  | some (.dK _) => True
  | some (.dT _) => True
  | some (.set _ _) => True
  | some (.ins _ _ _) => True
  | some (.ext _) => True
  | _ => False
section
variable {P : Program} {w : World} {H : Hp} {h h' : Heap} {x e : Addr} {o' : HO}
/-- the object at e is changed: x itself, or the dict of the instance x -/
theorem HOk.write (ok : HOk P w H h) (mu : Mut (H x)) (he : e = x ∨ H e = some (.own x)) (k : ∀ b u, b ≠ e → h.get? b = some u → h'.get? b = some u) (heo : ∃ u, h'.get? e = some u)
    (new : ObjOk P w (upd H x o') h' x o') : HOk P w (upd H x o') h' := fun b u q => by
  have nown : ∀ c y, H c = some (.own y) → c ≠ x := fun c y r z => by subst z; rw [r] at mu; exact mu
  have ntup : ∀ c xs, H c = some (.tup xs) → c ≠ x := fun c xs r z => by subst z; rw [r] at mu; exact mu
  by_cases hb : b = x
  · subst hb; rw [upd_same] at q; cases q; exact new
  · rw [upd_ne hb] at q
    by_cases hbe : b = e
    · have q' : H b = some (.own x) := by
        rcases he with z | z
        · exact absurd (hbe.trans z) hb
        · rw [hbe]; exact z
      rw [q] at q'; cases q'
      obtain ⟨v, hv⟩ := heo
      exact ⟨v, by rw [hbe]; exact hv⟩
    · refine (ok b u q).stay (fun c v hc r => k c v ?_ r) (fun c r => by rw [upd_ne (nown c b r)]; exact r) fun c xs r => by rw [upd_ne (ntup c xs r)]; exact r
      rcases hc with rfl | hc
      · exact hbe
      · rintro rfl
        rcases he with z | z
        · exact nown c b hc z
        · rw [hc] at z; cases z; exact hb rfl
end

/-! ### kept unless tracked; of the frames at fs (the callers') the slots may change (an exception that passes writes there); of the records at ex (iterators) nothing is said -/
structure Un (fs ex : List Addr) (H H' : Hp) (h h' : Heap) : Prop where
  keep : ∀ b o, h.get? b = some o → H b = none → b ∉ fs → b ∉ ex → h'.get? b = some o
  slot : ∀ b o, h.get? b = some o → H b = none → b ∈ fs → b ∉ ex → ∃ sl, h'.get? b = some { o with slots := sl }
  free : ∀ b o, h.get? b = some o → H b = none → b ∉ ex → H' b = none
  there : ∀ b o, h.get? b = some o → b ∉ ex → ∃ o', h'.get? b = some o'
  tups : ∀ b xs, H b = some (.tup xs) → H' b = some (.tup xs)
  frzs : ∀ b o u, H b = some (.frz o u) → H' b = some (.frz o u)
  tbls : ∀ b ps, H b = some (.tbl ps) → ∃ more, H' b = some (.tbl (ps ++ more))
section
variable {fs fs' ex ex' : List Addr} {H H1 H2 : Hp} {h h1 h2 h' : Heap} {a x e : Addr} {o : HO}
theorem Un.any (u : Un fs ex H H1 h h1) {b : Addr} {ob : Obj} (q : h.get? b = some ob) (n : H b = none) (hx : b ∉ ex) : ∃ sl, h1.get? b = some { ob with slots := sl } := by
  by_cases hb : b ∈ fs
  · exact u.slot b ob q n hb hx
  · exact ⟨ob.slots, u.keep b ob q n hb hx⟩
theorem Un.kept (k : ∀ b u, h.get? b = some u → h'.get? b = some u) : Un fs ex H H h h' :=
  ⟨fun b ob q _ _ _ => k b ob q, fun b ob q _ _ _ => ⟨ob.slots, k b ob q⟩, fun _ _ _ n _ => n, fun b ob q _ => ⟨ob, k b ob q⟩, fun _ _ q => q, fun _ _ _ q => q, fun _ ps q => ⟨#[], by rw [q]; simp⟩⟩
theorem Un.refl : Un fs ex H H h h := Un.kept fun _ _ q => q
theorem Un.laid (k : ∀ b u, h.get? b = some u → h'.get? b = some u) (hp : h.objs.size ≤ a) (hn : H a = none) : Un fs ex H (upd H a o) h h' where
  keep := fun b u q _ _ _ => k b u q
  slot := fun b u q _ _ _ => ⟨u.slots, k b u q⟩
  free := fun b u q n _ => by rw [upd_ne (Nat.ne_of_lt (Nat.lt_of_lt_of_le (Heap.lt_size q) hp))]; exact n
  there := fun b u q _ => ⟨u, k b u q⟩
  tups := fun b xs q => by rw [upd_ne (ne_of_none q hn)]; exact q
  frzs := fun b u xs q => by rw [upd_ne (ne_of_none q hn)]; exact q
  tbls := fun b ps q => ⟨#[], by rw [upd_ne (ne_of_none q hn), q]; simp⟩
theorem Un.write (mu : Mut (H x)) (he : e = x ∨ H e = some (.own x)) (k : ∀ b u, b ≠ e → h.get? b = some u → h'.get? b = some u) (heo : ∃ u, h'.get? e = some u) : Un fs ex H (upd H x o) h h' := by
  have hx : ∀ b, H b = none → b ≠ x := fun b n z => by subst z; rw [n] at mu; exact mu
  have hb : ∀ b, H b = none → b ≠ e := fun b n z => by
    subst z
    rcases he with r | r
    · exact hx b n r
    · rw [n] at r; cases r
  have hm : ∀ b u, H b = some u → ¬ Mut (some u) → b ≠ x := fun b u q nm z => by subst z; rw [q] at mu; exact nm mu
  refine ⟨fun b u q n _ _ => k b u (hb b n) q, fun b u q n _ _ => ⟨u.slots, k b u (hb b n) q⟩, fun b u q n _ => by rw [upd_ne (hx b n)]; exact n, fun b u q _ => ?_,
    fun b xs q => by rw [upd_ne (hm b _ q fun z => z)]; exact q, fun b u xs q => by rw [upd_ne (hm b _ q fun z => z)]; exact q, fun b ps q => ⟨#[], by rw [upd_ne (hm b _ q fun z => z), q]; simp⟩⟩
  by_cases hbe : b = e
  · subst hbe; exact heo
  · exact ⟨u, k b u hbe q⟩
end

/-! ### the heap without what is tracked -/
noncomputable def trk (h : Heap) (H : Hp) : List Addr := (List.range h.objs.size).filter fun a => (H a).isSome
noncomputable def hidT (h : Heap) (H : Hp) : Heap := PySem.W.hideAll h (trk h H)
theorem hidT_size (h : Heap) (H : Hp) : (hidT h H).objs.size = h.objs.size := PySem.W.hideAll_size _ _
theorem hidT_get {h : Heap} {H : Hp} {b : Addr} {o : Obj} (e : h.get? b = some o) (n : H b = none) : (hidT h H).get? b = some o :=
  PySem.W.hideAll_get _ e fun hm => by
    have q : (H b).isSome = true := (List.mem_filter.mp hm).2
    rw [n] at q; simp at q
theorem of_hidT {h : Heap} {H : Hp} {b : Addr} {o : Obj} (e : (hidT h H).get? b = some o) : h.get? b = some o ∧ H b = none := by
  have e' : h.get? b = some o := PySem.W.of_hideAll (trk h H) e
  refine ⟨e', ?_⟩
  cases q : H b with
  | none => rfl
  | some x =>
    have hm : b ∈ trk h H := List.mem_filter.mpr ⟨List.mem_range.mpr (Heap.lt_size e'), by simp [q]⟩
    have z : (hidT h H).get? b = none := PySem.W.hideAll_none (trk h H) hm
    rw [z] at e; cases e

/-! ### OpenK's ledger, filled with every new object but one -/
end L2

namespace L2
open PySem PySem.Spec PyProof.Rows

/-- the module's facts, over the base: the heap at the law's entry without what is tracked there -/
structure Mod (K : PySem.W.Frag) (mg : Str → Option Value) (base : Heap) : Prop where
  kin : K.In base
  glob : base.Ns mainGlobals mg
  blt : ∃ mb, base.Ns builtinsNs mb ∧ ∀ x : Str, x ≠ "__name__" → mb x = bootBuiltins x
  nolimit : base.NoLimit

/-- the context: a def's body (or a comprehension's block) running. base: fixed through the whole law; s₀, H₀: the entry; outer: the frames whose slots others may change (a def's callers); stack: all frames that run;
   ex: iterators that were made ahead of the entry and are walked here (a comprehension's); fn: the names whose cells were made at the entry (a def: all; a comprehension's block: its own); calm: not within an except suite; pn: pins that every state bears; xe: what is wanted of an exception that leaves the code -/
structure Cx where
  prog : Program
  w : World
  K : PySem.W.Frag
  mg : Str → Option Value
  base : Heap
  A : Around
  N : List Str
  s₀ : Shared
  H₀ : Hp
  env : Env
  outer : List Env
  stack : List Env
  ex : List Addr
  fn : Str → Bool
  calm : Bool
  pn : List (Addr × Obj)
  xe : Value → Shared → Prop
/-- the callers' frames -/
noncomputable def frs (l : List Env) : List Addr := l.filterMap (·.frame)
noncomputable abbrev Cx.fs (X : Cx) : List Addr := frs X.outer

noncomputable def Vis (sc : Scope) (x : Str) : Prop := sc.names.lookup x = some .local ∨ sc.names.lookup x = some .cell ∨ sc.names.lookup x = some .free
noncomputable def Loc (sc : Scope) (x : Str) : Prop := sc.names.lookup x = some .local ∨ sc.names.lookup x = some .cell
noncomputable def Look (env : Env) (h : Heap) (m : Str → Option Value) (x : Str) (u : Value) : Prop :=
  (env.kindOf x = some .local ∧ m x = some u) ∨ ((env.kindOf x = some .cell ∨ env.kindOf x = some .free) ∧ ∃ c, env.cells.lookup x = some c ∧ h.IsCell c (some u))

structure Cx.Ok (X : Cx) : Prop where
  mod : Mod X.K X.mg X.base
  kind : X.env.scope.kind = .function
  glob : X.env.globals = mainGlobals
  blt : X.env.builtins = builtinsNs
  above : X.s₀.heap.objs.size ≤ X.env.locals
  inj : ∀ x y c, X.env.cells.lookup x = some c → X.env.cells.lookup y = some c → x = y
  has : ∀ x, (X.env.kindOf x = some .cell ∨ X.env.kindOf x = some .free) → ∃ c, X.env.cells.lookup x = some c
  cab : ∀ x c, X.fn x = true → X.env.cells.lookup x = some c → X.s₀.heap.objs.size ≤ c
  hd : X.calm = true → X.A.handled = none
  frames : X.A.frames = some X.stack
  stk : X.stack = X.outer ∨ (X.stack = X.env :: X.outer ∧ X.env.frame = some X.env.locals)
  exf : ∀ b ∈ X.ex, b ≠ X.env.locals ∧ ∀ x c, X.env.cells.lookup x = some c → c ≠ b
  bs : ∀ b o, X.base.get? b = some o → X.s₀.heap.get? b = some o ∧ X.H₀ b = none
  bsz : X.base.objs.size ≤ X.s₀.heap.objs.size
  noex : ∀ b o, X.base.get? b = some o → b ∉ X.ex
  exfs : ∀ b ∈ X.ex, b ∉ X.fs
  funs : X.s₀.heap.FunFrames X.base X.outer
  frf : ∀ b ∈ X.fs, X.H₀ b = none

structure Inv (X : Cx) (pins : List (Addr × Obj)) (σ : List (Option V)) (H : Hp) (s : Shared) : Prop where
  ok : X.Ok
  os : s.os = X.s₀.os
  bare : AllBare s.gens
  base : Un X.fs X.ex X.H₀ H X.s₀.heap s.heap
  loc : ∃ m, s.heap.Ns X.env.locals m ∧ ∀ (i : Nat) (x : Str) (v : V), X.N[i]? = some x → σ[i]? = some (some v) → Vis X.env.scope x → ∃ u, RelV v u ∧ Look X.env s.heap m x u
  cell : ∀ x c, X.env.cells.lookup x = some c → ∃ v, s.heap.IsCell c v
  free : H X.env.locals = none
  freeC : ∀ x c, X.env.cells.lookup x = some c → H c = none
  pin : ∀ p ∈ X.pn ++ pins, s.heap.get? p.1 = some p.2 ∧ H p.1 = none ∧ p.1 ≠ X.env.locals ∧ p.1 ∉ X.fs ∧ ∀ v, p.2.data ≠ .cell v
  hok : HOk X.prog X.w H s.heap
  len : σ.length = X.N.length

section
variable {X : Cx} {pins : List (Addr × Obj)} {σ : List (Option V)} {H H' : Hp} {s : Shared} {h' : Heap}

theorem Cx.Ok.nofr (ok : X.Ok) {b : Addr} {o : Obj} (e : X.base.get? b = some o) : b ∉ X.fs := fun hb => by
  have := (ok.funs.mem hb).1
  rw [e] at this; cases this
theorem Inv.bs (I : Inv X pins σ H s) : ∀ b o, X.base.get? b = some o → s.heap.get? b = some o ∧ H b = none := fun b o e =>
  ⟨I.base.keep b o (I.ok.bs b o e).1 (I.ok.bs b o e).2 (I.ok.nofr e) (I.ok.noex b o e), I.base.free b o (I.ok.bs b o e).1 (I.ok.bs b o e).2 (I.ok.noex b o e)⟩
theorem Inv.bk (I : Inv X pins σ H s) : ∀ b o, X.base.get? b = some o → s.heap.get? b = some o := fun b o e => (I.bs b o e).1
theorem Inv.mod (I : Inv X pins σ H s) : Mod X.K X.mg X.base := I.ok.mod
theorem Inv.kIn (I : Inv X pins σ H s) : X.K.In s.heap := I.ok.mod.kin.keeps I.bk
theorem Inv.lt (I : Inv X pins σ H s) : X.env.locals < s.heap.objs.size := let ⟨_, hn, _⟩ := I.loc; hn.lt
theorem Inv.sz (I : Inv X pins σ H s) : X.s₀.heap.objs.size ≤ s.heap.objs.size := Nat.le_trans I.ok.above (Nat.le_of_lt I.lt)
theorem Inv.nofs (I : Inv X pins σ H s) {a : Addr} (h : s.heap.objs.size ≤ a) : a ∉ X.fs := fun hb => by
  obtain ⟨_, o, ho, _⟩ := I.ok.funs.mem hb
  exact absurd (Nat.lt_of_lt_of_le (Heap.lt_size ho) (Nat.le_trans I.sz h)) (Nat.lt_irrefl _)
theorem Inv.cne (I : Inv X pins σ H s) : ∀ x c, X.env.cells.lookup x = some c → c ≠ X.env.locals := fun x c e z => by
  obtain ⟨v, o, ho, hd⟩ := I.cell x c e
  obtain ⟨m, ⟨o', es, ep, ho', hd', _⟩, _⟩ := I.loc
  rw [z, ho'] at ho; cases ho; rw [hd'] at hd; cases hd
theorem Inv.funs (I : Inv X pins σ H s) : s.heap.FunFrames X.base X.outer := by
  have all : ∀ (l : List Env), (∀ b ∈ frs l, b ∈ X.fs) → X.s₀.heap.FunFrames X.base l → s.heap.FunFrames X.base l := by
    intro l
    induction l with
    | nil => intro _ _; trivial
    | cons env r ih =>
      intro hs hl
      obtain ⟨hk, ⟨L, o, hf, hn, ho, hd⟩, hr⟩ := hl
      have hL : L ∈ X.fs := hs L (by unfold frs; rw [List.filterMap_cons, hf]; exact List.mem_cons_self)
      obtain ⟨sl, e⟩ := I.base.slot L o ho (I.ok.frf L hL) hL fun z => I.ok.exfs L z hL
      exact ⟨hk, ⟨L, _, hf, hn, e, hd⟩, ih (fun b hb => hs b (by unfold frs; rw [List.filterMap_cons, hf]; exact List.mem_cons_of_mem _ hb)) hr⟩
  exact all X.outer (fun _ hb => hb) I.ok.funs

/-- the frames that run, for a call -/
theorem Inv.stack (I : Inv X pins σ H s) : s.heap.FunFrames X.base X.stack := by
  rcases I.ok.stk with e | ⟨e, hf⟩
  · rw [e]; exact I.funs
  · rw [e]
    obtain ⟨m, hn, _⟩ := I.loc
    refine .cons (by rw [I.ok.kind]; decide) hf hn ?_ I.funs
    exact Heap.get?_none_of_le (Nat.le_trans I.ok.bsz I.ok.above)
theorem Inv.stkSub (I : Inv X pins σ H s) : ∀ b ∈ frs X.stack, b ∈ X.env.locals :: X.fs := fun b hb => by
  rcases I.ok.stk with e | ⟨e, hf⟩
  · rw [e] at hb; exact List.mem_cons_of_mem _ hb
  · rw [e] at hb
    unfold frs at hb
    rw [List.filterMap_cons, hf] at hb
    exact hb
theorem Inv.stkFree (I : Inv X pins σ H s) : ∀ b ∈ frs X.stack, H b = none := fun b hb => by
  rcases List.mem_cons.mp (I.stkSub b hb) with e | hb
  · rw [e]; exact I.free
  · obtain ⟨_, o, ho, _⟩ := I.ok.funs.mem hb
    exact I.base.free b o ho (I.ok.frf b hb) fun z => I.ok.exfs b z hb

/-- THE STEP: the untracked objects but the frame and the records at ch are kept (the callers' frames up to slots), the frame's map is kept, the new abstract heap is held -/
theorem Inv.step {g' : Array GenState} {t' : Nat} {d' : Drawn} {ch : List Addr} (I : Inv X pins σ H s)
    (hch : ∀ b ∈ ch, (b ∈ X.ex ∨ X.s₀.heap.objs.size ≤ b) ∧ b ≠ X.env.locals ∧ (∀ x c, X.env.cells.lookup x = some c → c ≠ b) ∧ ∀ p ∈ X.pn ++ pins, p.1 ≠ b)
    (keep : ∀ b o, b ≠ X.env.locals → b ∉ X.fs → b ∉ ch → s.heap.get? b = some o → H b = none → h'.get? b = some o)
    (slot : ∀ b o, b ≠ X.env.locals → b ∈ X.fs → b ∉ ch → s.heap.get? b = some o → H b = none → ∃ sl, h'.get? b = some { o with slots := sl }) (free : ∀ b o, b ∉ ch → s.heap.get? b = some o → H b = none → H' b = none)
    (there : ∀ b o, b ∉ ch → s.heap.get? b = some o → ∃ o', h'.get? b = some o')
    (tups : ∀ b xs, H b = some (.tup xs) → H' b = some (.tup xs)) (frzs : ∀ b o u, H b = some (.frz o u) → H' b = some (.frz o u)) (tbls : ∀ b ps, H b = some (.tbl ps) → ∃ more, H' b = some (.tbl (ps ++ more)))
    (ns : ∀ m, s.heap.Ns X.env.locals m → h'.Ns X.env.locals m) (hok : HOk X.prog X.w H' h') (hg : AllBare g') :
    Inv X pins σ H' { s with heap := h', gens := g', drawn := d', toks := t' } := by
  have neL : ∀ b o, X.s₀.heap.get? b = some o → b ≠ X.env.locals := fun b o e => Nat.ne_of_lt (Nat.lt_of_lt_of_le (Heap.lt_size e) I.ok.above)
  have neC : ∀ b o, X.s₀.heap.get? b = some o → b ∉ X.ex → b ∉ ch := fun b o e hx hb => by
    rcases (hch b hb).1 with z | z
    · exact hx z
    · exact absurd (Nat.lt_of_lt_of_le (Heap.lt_size e) z) (Nat.lt_irrefl _)
  have cellK : ∀ x c, X.env.cells.lookup x = some c → ∀ v, s.heap.IsCell c v → h'.IsCell c v := fun x c e v ⟨o, ho, hd⟩ => by
    have nch : c ∉ ch := fun z => (hch c z).2.2.1 x c e rfl
    by_cases hc : c ∈ X.fs
    · obtain ⟨sl, q⟩ := slot c o (I.cne x c e) hc nch ho (I.freeC x c e)
      exact ⟨_, q, hd⟩
    · exact ⟨o, keep c o (I.cne x c e) hc nch ho (I.freeC x c e), hd⟩
  refine ⟨I.ok, I.os, hg, ⟨fun b o e n hb hx => ?_, fun b o e n hb hx => ?_, fun b o e n hx => ?_, fun b o e hx => ?_, fun b xs e => tups b xs (I.base.tups b xs e), fun b o xs e => frzs b o xs (I.base.frzs b o xs e), fun b ps e => ?_⟩, ?_, fun x c e => ?_, ?_, fun x c e => ?_, fun p hp => ?_, hok, I.len⟩
  · exact keep b o (neL b o e) hb (neC b o e hx) (I.base.keep b o e n hb hx) (I.base.free b o e n hx)
  · obtain ⟨sl, e1⟩ := I.base.slot b o e n hb hx
    obtain ⟨sl', e2⟩ := slot b _ (neL b o e) hb (neC b o e hx) e1 (I.base.free b o e n hx)
    exact ⟨sl', e2⟩
  · obtain ⟨o', e1⟩ := I.base.there b o e hx
    exact free b o' (neC b o e hx) e1 (I.base.free b o e n hx)
  · obtain ⟨o', e1⟩ := I.base.there b o e hx
    exact there b o' (neC b o e hx) e1
  · obtain ⟨m1, e1⟩ := I.base.tbls b ps e
    obtain ⟨m2, e2⟩ := tbls b _ e1
    exact ⟨m1 ++ m2, by rw [e2, Array.append_assoc]⟩
  · obtain ⟨m, hn, hl⟩ := I.loc
    refine ⟨m, ns m hn, fun i x v e1 e2 e3 => ?_⟩
    obtain ⟨u, r, l⟩ := hl i x v e1 e2 e3
    refine ⟨u, r, ?_⟩
    rcases l with l | ⟨k, c, e, z⟩
    · exact .inl l
    · exact .inr ⟨k, c, e, cellK x c e _ z⟩
  · obtain ⟨v, z⟩ := I.cell x c e
    exact ⟨v, cellK x c e v z⟩
  · obtain ⟨m, ⟨o, _, _, ho, _⟩, _⟩ := I.loc
    exact free _ o (fun z => (hch _ z).2.1 rfl) ho I.free
  · obtain ⟨v, o, ho, hd⟩ := I.cell x c e
    exact free c o (fun z => (hch c z).2.2.1 x c e rfl) ho (I.freeC x c e)
  · obtain ⟨e, n, ne, nf, d⟩ := I.pin p hp
    have nch : p.1 ∉ ch := fun z => (hch p.1 z).2.2.2 p hp rfl
    exact ⟨keep p.1 p.2 ne nf nch e n, free p.1 p.2 nch e n, ne, nf, d⟩
/-- .. where the frame's own object is kept too -/
theorem Inv.un {t' : Nat} (I : Inv X pins σ H s) (u : Un X.fs [] H H' s.heap h') (hok : HOk X.prog X.w H' h') : Inv X pins σ H' { s with heap := h', toks := t' } := by
  obtain ⟨m, ⟨o, es, ep, ho, r⟩, _⟩ := id I.loc
  obtain ⟨sl, hL⟩ := u.any ho I.free (by simp)
  exact I.step (g' := s.gens) (d' := s.drawn) (ch := []) (fun _ z => nomatch z) (fun b o _ hb _ e n => u.keep b o e n hb (by simp)) (fun b o _ hb _ e n => u.slot b o e n hb (by simp)) (fun b o _ e n => u.free b o e n (by simp)) (fun b o _ e => u.there b o e (by simp)) u.tups u.frzs u.tbls (fun m' hm => by
    obtain ⟨o', es', ep', ho', r'⟩ := hm
    rw [ho] at ho'; cases ho'
    exact ⟨_, es', ep', hL, r'⟩) hok I.bare
/-- behind a call (or a comprehension's block): the slots of this frame may have changed too, the records at ch may have turned -/
theorem Inv.call {g' : Array GenState} {t' : Nat} {d' : Drawn} {ch : List Addr} (I : Inv X pins σ H s) (u : Un (frs X.stack) ch H H' s.heap h') (hok : HOk X.prog X.w H' h') (hg : AllBare g')
    (hch : ∀ b ∈ ch, (b ∈ X.ex ∨ X.s₀.heap.objs.size ≤ b) ∧ b ≠ X.env.locals ∧ (∀ x c, X.env.cells.lookup x = some c → c ≠ b) ∧ ∀ p ∈ X.pn ++ pins, p.1 ≠ b) :
    Inv X pins σ H' { s with heap := h', gens := g', drawn := d', toks := t' } := by
  obtain ⟨m, ⟨o, es, ep, ho, r⟩, _⟩ := id I.loc
  obtain ⟨sl, hL⟩ := u.any ho I.free fun z => (hch _ z).2.1 rfl
  exact I.step (ch := ch) hch (fun b o hL hb hc e n => u.keep b o e n (fun z => (List.mem_cons.mp (I.stkSub b z)).elim hL hb) hc) (fun b o _ _ hc e n => u.any e n hc) (fun b o hc e n => u.free b o e n hc) (fun b o hc e => u.there b o e hc) u.tups u.frzs u.tbls (fun m' hm => by
    obtain ⟨o', es', ep', ho', r'⟩ := hm
    rw [ho] at ho'; cases ho'
    exact ⟨_, es', ep', hL, r'⟩) hok hg
/-- an untracked record of ours (an iterator) has turned -/
theorem Inv.turned {t' : Nat} {it : Addr} (I : Inv X pins σ H s) (k : ∀ b o, b ≠ it → s.heap.get? b = some o → h'.get? b = some o) (hn : H it = none) (hL : it ≠ X.env.locals)
    (h1 : it ∈ X.ex ∨ X.s₀.heap.objs.size ≤ it) (h2 : ∀ x c, X.env.cells.lookup x = some c → c ≠ it) (h3 : ∀ p ∈ X.pn ++ pins, p.1 ≠ it) : Inv X pins σ H { s with heap := h', toks := t' } := by
  have nit : ∀ b u, H b = some u → b ≠ it := fun b u e z => by rw [z, hn] at e; cases e
  refine I.step (g' := s.gens) (d' := s.drawn) (ch := [it]) (fun b hb => ?_) (fun b o _ _ hc e _ => k b o (fun z => hc (by simp [z])) e) (fun b o _ _ hc e _ => ⟨o.slots, k b o (fun z => hc (by simp [z])) e⟩) (fun _ _ _ _ n => n)
    (fun b o hc e => ⟨o, k b o (fun z => hc (by simp [z])) e⟩) (fun _ _ e => e) (fun _ _ _ e => e) (fun b ps e => ⟨#[], by rw [e]; simp⟩) (fun m hm => ?_) (fun b u e => ?_) I.bare
  · have e : b = it := by simpa using hb
    subst e
    exact ⟨h1, hL, h2, h3⟩
  · obtain ⟨o, es, ep, ho, r⟩ := hm
    exact ⟨o, es, ep, k _ o (Ne.symm hL) ho, r⟩
  · refine (I.hok b u e).stay (fun c v hc q => k c v ?_ q) (fun _ q => q) fun _ _ q => q
    rcases hc with z | z
    · rw [z]; exact nit b u e
    · exact nit c _ z
theorem Inv.tok (I : Inv X pins σ H s) (t : Nat) : Inv X pins σ H { s with toks := t } := I.un (h' := s.heap) (t' := t) Un.refl I.hok
/-- all objects kept -/
theorem Inv.kept {t' : Nat} (I : Inv X pins σ H s) (k : ∀ b u, s.heap.get? b = some u → h'.get? b = some u) : Inv X pins σ H { s with heap := h', toks := t' } := I.un (Un.kept k) (I.hok.kept k)
/-- a new object laid and tracked -/
theorem Inv.laid {a : Addr} {o : HO} {t' : Nat} (I : Inv X pins σ H s) (k : ∀ b u, s.heap.get? b = some u → h'.get? b = some u) (hp : s.heap.objs.size ≤ a) (new : ObjOk X.prog X.w (upd H a o) h' a o) :
    Inv X pins σ (upd H a o) { s with heap := h', toks := t' } := I.un (Un.laid k hp (I.hok.fresh hp)) (I.hok.laid k hp new)
/-- an object written -/
theorem Inv.write {x e : Addr} {o : HO} {t' : Nat} (I : Inv X pins σ H s) (mu : Mut (H x)) (he : e = x ∨ H e = some (.own x)) (k : ∀ b u, b ≠ e → s.heap.get? b = some u → h'.get? b = some u) (heo : ∃ u, h'.get? e = some u)
    (new : ObjOk X.prog X.w (upd H x o) h' x o) : Inv X pins σ (upd H x o) { s with heap := h', toks := t' } := I.un (Un.write mu he k heo) (I.hok.write mu he k heo new)
/-- forgetting slots, pins -/
theorem Inv.weak {σ' : List (Option V)} (I : Inv X pins σ H s) (hl : σ'.length = σ.length) (w : ∀ (i : Nat) v, σ'[i]? = some (some v) → σ[i]? = some (some v)) : Inv X pins σ' H s :=
  ⟨I.ok, I.os, I.bare, I.base, let ⟨m, hn, hl'⟩ := I.loc; ⟨m, hn, fun i x v e1 e2 e3 => hl' i x v e1 (w i v e2) e3⟩, I.cell, I.free, I.freeC, I.pin, I.hok, hl.trans I.len⟩
theorem Inv.pins_of {pins' : List (Addr × Obj)} (I : Inv X pins σ H s) (h : ∀ p ∈ pins', s.heap.get? p.1 = some p.2 ∧ H p.1 = none ∧ p.1 ≠ X.env.locals ∧ p.1 ∉ X.fs ∧ ∀ v, p.2.data ≠ .cell v) : Inv X pins' σ H s :=
  ⟨I.ok, I.os, I.bare, I.base, I.loc, I.cell, I.free, I.freeC, fun p hp => (List.mem_append.mp hp).elim (fun z => I.pin p (List.mem_append_left _ z)) (h p), I.hok, I.len⟩

theorem nodup_ix {N : List Str} (hN : N.Nodup) {i j : Nat} {x : Str} (a : N[i]? = some x) (b : N[j]? = some x) : i = j := by
  obtain ⟨h1, e1⟩ := List.getElem?_eq_some_iff.mp a
  obtain ⟨h2, e2⟩ := List.getElem?_eq_some_iff.mp b
  exact (List.getElem_inj hN).mp (e1.trans e2.symm)

/-- a name is stored; what changed -/
theorem store_ok2 {M : Model} {A : Around} {E : Value → Shared → Prop} {i : Nat} {x : Str} {v : V} {u : Value} {Q : Unit → Shared → Prop} (I : Inv X pins σ H s) (hN : X.N.Nodup) (hi : X.N[i]? = some x) (hx : Loc X.env.scope x) (r : RelV v u)
    (h : ∀ s', Inv X pins (σ.set i (some v)) H s' → (∃ a, Heap.SameBut a s.heap s'.heap ∧ (a = X.env.locals ∨ X.env.cells.lookup x = some a)) → Q () s') (hf : X.fn x = true ∨ X.env.scope.names.lookup x = some .local := by first | exact .inl rfl | exact .inr rfl | assumption) : wpAny M A (storeName X.env x u) Q E s := by
  obtain ⟨m, hn, hl⟩ := id I.loc
  have hcls : (X.env.scope.kind == .class || (X.env.scope.kind == .module && X.env.locals != X.env.globals)) = false := by rw [I.ok.kind]; rfl
  have hiσ : i < σ.length := by rw [I.len]; exact (List.getElem?_eq_some_iff.mp hi).1
  have cne := I.cne
  have tracked : ∀ {a : Addr} {h' : Heap}, (∃ o, s.heap.get? a = some o ∧ H a = none) → Heap.SameBut a s.heap h' → HOk X.prog X.w H h' := fun {a h'} ha hs b ob e => by
    obtain ⟨_, _, hfree⟩ := ha
    refine (I.hok b ob e).stay (fun c w' hc q => (hs.2 c ?_).trans q) (fun _ q => q) fun _ _ q => q
    rintro rfl
    rcases hc with rfl | hc
    · rw [hfree] at e; cases e
    · rw [hfree] at hc; cases hc
  rcases hx with hk | hk
  · refine wpAny_storeName_local hk hn (fun h' hn' hs => ?_) hcls
    obtain ⟨oL, _, _, hoL, _⟩ := id hn
    refine h _ ⟨I.ok, I.os, I.bare, ⟨fun b o e n hb hx => ?_, fun b o e n hb hx => ?_, I.base.free, fun b o e hx => ?_, I.base.tups, I.base.frzs, I.base.tbls⟩, ⟨_, hn', fun j y v' e1 e2 e3 => ?_⟩, fun y c e => ?_, I.free, I.freeC, fun p hp => ?_, tracked ⟨oL, hoL, I.free⟩ hs, by simpa using I.len⟩ ⟨_, hs, .inl rfl⟩
    · exact (hs.2 b (Nat.ne_of_lt (Nat.lt_of_lt_of_le (Heap.lt_size e) I.ok.above))).trans (I.base.keep b o e n hb hx)
    · obtain ⟨sl, e1⟩ := I.base.slot b o e n hb hx
      exact ⟨sl, (hs.2 b (Nat.ne_of_lt (Nat.lt_of_lt_of_le (Heap.lt_size e) I.ok.above))).trans e1⟩
    · obtain ⟨o', e1⟩ := I.base.there b o e hx
      exact ⟨o', (hs.2 b (Nat.ne_of_lt (Nat.lt_of_lt_of_le (Heap.lt_size e) I.ok.above))).trans e1⟩
    · by_cases hj : j = i
      · subst hj
        rw [hi] at e1; cases e1
        rw [List.getElem?_set_self hiσ] at e2
        cases e2
        exact ⟨u, r, .inl ⟨hk, by simp⟩⟩
      · rw [List.getElem?_set_ne (Ne.symm hj)] at e2
        obtain ⟨u', r', q⟩ := hl j y v' e1 e2 e3
        refine ⟨u', r', ?_⟩
        rcases q with ⟨k, e⟩ | ⟨k, c, e, z⟩
        · refine .inl ⟨k, ?_⟩
          have : y ≠ x := fun e => hj (nodup_ix hN e1 (e ▸ hi))
          simp [this, e]
        · exact .inr ⟨k, c, e, z.sameBut hs (cne y c e)⟩
    · obtain ⟨w', z⟩ := I.cell y c e
      exact ⟨w', z.sameBut hs (cne y c e)⟩
    · obtain ⟨e, n, ne, nf, d⟩ := I.pin p hp
      exact ⟨(hs.2 p.1 ne).trans e, n, ne, nf, d⟩
  · have hfn : X.fn x = true := by
      rcases hf with z | z
      · exact z
      · rw [z] at hk; cases hk
    obtain ⟨c, hc⟩ := I.ok.has x (.inl hk)
    obtain ⟨w', z⟩ := I.cell x c hc
    refine wpAny_storeName_cell I.ok.kind hk hc z (fun h' hc' hs => ?_)
    obtain ⟨oc, hoc, hocd⟩ := id z
    refine h { s with heap := h' } ⟨I.ok, I.os, I.bare, ⟨fun b o e n hb hx => ?_, fun b o e n hb hx => ?_, I.base.free, fun b o e hx => ?_, I.base.tups, I.base.frzs, I.base.tbls⟩, ⟨m, hn.sameBut hs (Ne.symm (cne x c hc)), fun j y v' e1 e2 e3 => ?_⟩, fun y c' e => ?_, I.free, I.freeC, fun p hp => ?_, tracked ⟨oc, hoc, I.freeC x c hc⟩ hs, by simpa using I.len⟩ ⟨c, hs, .inr hc⟩
    · exact (hs.2 b (Nat.ne_of_lt (Nat.lt_of_lt_of_le (Heap.lt_size e) (I.ok.cab x c hfn hc)))).trans (I.base.keep b o e n hb hx)
    · obtain ⟨sl, e1⟩ := I.base.slot b o e n hb hx
      exact ⟨sl, (hs.2 b (Nat.ne_of_lt (Nat.lt_of_lt_of_le (Heap.lt_size e) (I.ok.cab x c hfn hc)))).trans e1⟩
    · obtain ⟨o', e1⟩ := I.base.there b o e hx
      exact ⟨o', (hs.2 b (Nat.ne_of_lt (Nat.lt_of_lt_of_le (Heap.lt_size e) (I.ok.cab x c hfn hc)))).trans e1⟩
    · by_cases hj : j = i
      · subst hj
        rw [hi] at e1; cases e1
        rw [List.getElem?_set_self hiσ] at e2
        cases e2
        exact ⟨u, r, .inr ⟨.inl hk, c, hc, hc'⟩⟩
      · rw [List.getElem?_set_ne (Ne.symm hj)] at e2
        obtain ⟨u', r', q⟩ := hl j y v' e1 e2 e3
        refine ⟨u', r', ?_⟩
        rcases q with q | ⟨k, c', e, z'⟩
        · exact .inl q
        · refine .inr ⟨k, c', e, z'.sameBut hs ?_⟩
          rintro rfl
          exact hj (nodup_ix hN e1 (I.ok.inj _ _ _ e hc ▸ hi))
    · by_cases hcc : c' = c
      · subst hcc; exact ⟨_, hc'⟩
      · obtain ⟨w2, z2⟩ := I.cell y c' e
        exact ⟨w2, z2.sameBut hs hcc⟩
    · obtain ⟨e, n, ne, nf, d⟩ := I.pin p hp
      refine ⟨(hs.2 p.1 ?_).trans e, n, ne, nf, d⟩
      intro q
      rw [q, hoc] at e
      have q' : oc = p.2 := Option.some.inj e
      exact d w' (by rw [← q']; exact hocd)
theorem store_ok {M : Model} {A : Around} {E : Value → Shared → Prop} {i : Nat} {x : Str} {v : V} {u : Value} {Q : Unit → Shared → Prop} (I : Inv X pins σ H s) (hN : X.N.Nodup) (hi : X.N[i]? = some x) (hx : Loc X.env.scope x) (r : RelV v u)
    (h : ∀ s', Inv X pins (σ.set i (some v)) H s' → Q () s') (hf : X.fn x = true ∨ X.env.scope.names.lookup x = some .local := by first | exact .inl rfl | exact .inr rfl | assumption) : wpAny M A (storeName X.env x u) Q E s :=
  store_ok2 I hN hi hx r (fun s' I' _ => h s' I') hf
/-- behind a call or a block, the state as it is -/
theorem Inv.call' {s' : Shared} {ch : List Addr} (I : Inv X pins σ H s) (ho : s'.os = s.os) (u : Un (frs X.stack) ch H H' s.heap s'.heap) (hok : HOk X.prog X.w H' s'.heap) (hg : AllBare s'.gens)
    (hch : ∀ b ∈ ch, (b ∈ X.ex ∨ X.s₀.heap.objs.size ≤ b) ∧ b ≠ X.env.locals ∧ (∀ x c, X.env.cells.lookup x = some c → c ≠ b) ∧ ∀ p ∈ X.pn ++ pins, p.1 ≠ b) : Inv X pins σ H' s' := by
  obtain ⟨h', g', d', t', o'⟩ := s'
  have e : o' = s.os := ho
  subst e
  exact I.call (g' := g') (t' := t') (d' := d') u hok hg hch
end

/-! ### the judgements -/
/-- an exception: its class, its own dict's address (where it has one), the abstract heap behind it -/
noncomputable abbrev XK := Value → Option Addr → Hp → Prop
noncomputable abbrev St := List (Option V)
noncomputable abbrev VK := V → Hp → Prop
/-- an expression's reading; a test's; an argument list's -/
noncomputable abbrev TE := St → Hp → VK → Prop
noncomputable abbrev TT := St → Hp → (Bool → Hp → Prop) → Prop
noncomputable abbrev TA := St → Hp → (List V → Hp → Prop) → Prop
/-- what is wanted behind a statement -/
structure Ends where
  nx : St → Hp → Prop
  rt : VK
  bk : St → Hp → Prop := fun _ _ => False
  ct : St → Hp → Prop := fun _ _ => False
noncomputable abbrev TS := Ends → St → Hp → Prop

noncomputable def EP (X : Cx) (pins : List (Addr × Obj)) (σ : St) (Q : VK) (u : Value) (s' : Shared) : Prop := ∃ v H', Inv X pins σ H' s' ∧ RelV v u ∧ Q v H'
noncomputable def TP (X : Cx) (pins : List (Addr × Obj)) (σ : St) (Q : Bool → Hp → Prop) (b : Bool) (s' : Shared) : Prop := ∃ H', Inv X pins σ H' s' ∧ Q b H'
noncomputable def AP (X : Cx) (pins : List (Addr × Obj)) (σ : St) (Q : List V → Hp → Prop) (us : List Value) (s' : Shared) : Prop := ∃ vs H', Inv X pins σ H' s' ∧ Vals vs us ∧ Q vs H'
noncomputable def SP (X : Cx) (pins : List (Addr × Obj)) (D : Ends) (f : Flow) (s' : Shared) : Prop :=
  match f with
  | .next => ∃ σ' H', Inv X pins σ' H' s' ∧ D.nx σ' H'
  | .brk => ∃ σ' H', Inv X pins σ' H' s' ∧ D.bk σ' H'
  | .cont => ∃ σ' H', Inv X pins σ' H' s' ∧ D.ct σ' H'
  | .ret u => ∃ v σ' H', Inv X pins σ' H' s' ∧ RelV v u ∧ D.rt v H'

noncomputable def PE (X : Cx) (e : Expr) (t : TE) : Prop :=
  ∀ (pins : List (Addr × Obj)) (s : Shared) (σ : St) (H : Hp) (Q : VK), Inv X pins σ H s → t σ H Q → wpAny (model X.prog X.w) X.A (eval e X.env) (EP X pins σ Q) X.xe s
noncomputable def PT (X : Cx) (e : Expr) (t : TT) : Prop :=
  ∀ (pins : List (Addr × Obj)) (s : Shared) (σ : St) (H : Hp) (Q : Bool → Hp → Prop), Inv X pins σ H s → t σ H Q → wpAny (model X.prog X.w) X.A (isTrue e X.env (eval e X.env)) (TP X pins σ Q) X.xe s
/-- a test whatever its 'whole' is (and, or) -/
noncomputable def PW (X : Cx) (e : Expr) (t : TT) : Prop :=
  ∀ (whole : Sem Value) (pins : List (Addr × Obj)) (s : Shared) (σ : St) (H : Hp) (Q : Bool → Hp → Prop), Inv X pins σ H s → t σ H Q → wpAny (model X.prog X.w) X.A (isTrue e X.env whole) (TP X pins σ Q) X.xe s
theorem PW.pt {X : Cx} {e : Expr} {t : TT} (h : PW X e t) : PT X e t := h _
/-- an argument list (no star), from the left -/
noncomputable def PA (X : Cx) (es : List Expr) (t : TA) : Prop :=
  ∀ (pos : Pos) (pins : List (Addr × Obj)) (s : Shared) (σ : St) (H : Hp) (Q : List V → Hp → Prop), Inv X pins σ H s → t σ H Q → wpAny (model X.prog X.w) X.A (spliced (backTo pos (starEach es X.env))) (AP X pins σ Q) X.xe s
noncomputable def PS (X : Cx) (st : Stmt) (t : TS) : Prop :=
  ∀ (pins : List (Addr × Obj)) (s : Shared) (σ : St) (H : Hp) (D : Ends), Inv X pins σ H s → t D σ H → wpAny (model X.prog X.w) X.A (exec st X.env) (SP X pins D) X.xe s
noncomputable def PSs (X : Cx) (st : List Stmt) (t : TS) : Prop :=
  ∀ (pins : List (Addr × Obj)) (s : Shared) (σ : St) (H : Hp) (D : Ends), Inv X pins σ H s → t D σ H → wpAny (model X.prog X.w) X.A (execs st X.env) (SP X pins D) X.xe s
/-- weaken the end -/
theorem thn {α : Type} {t : Sem α} {Q Q' : α → Shared → Prop} {M : Model} {A : Around} {E : Value → Shared → Prop} {s : Shared} (h : wpAny M A t Q E s) (hQ : ∀ a s, Q a s → Q' a s) : wpAny M A t Q' E s := wpAny_mono h hQ fun _ _ x => x
end L2

namespace L2
open PySem PySem.Spec PyProof.Rows
section
variable {X : Cx}

/-! ### names and constants -/
noncomputable def tVar (i : Nat) : TE := fun σ H Q => ∃ v, σ[i]? = some (some v) ∧ Q v H
noncomputable def tC (v : V) : TE := fun _ H Q => Q v H
theorem pe_var {i : Nat} {x : Str} {pos : Pos} (hN : X.N[i]? = some x) (hv : Vis X.env.scope x) (hd : (x == ("__debug__" : Str)) = false := by decide) (hcd : (x == ("__classdict__" : Str)) = false := by decide) : PE X (.Name x pos) (tVar i) := by
  intro pins s σ H Q I h
  obtain ⟨v, e, h⟩ := h
  obtain ⟨m, hn, hl⟩ := I.loc
  obtain ⟨u, r, l⟩ := hl i x v hN e hv
  have fin : EP X pins σ Q u s := ⟨v, H, I, r, h⟩
  rcases l with ⟨hk, hm⟩ | ⟨hk, c, hc, hcell⟩
  · exact wpAny_Name (wpAny_loadName_local I.ok.kind hk hn hm fin) hd
  · rcases hk with hk | hk
    · exact wpAny_Name (wpAny_loadName_cell I.ok.kind hk hc hcell fin) hd
    · exact wpAny_Name (wpAny_loadName_free I.ok.kind hk hc hcell fin hcd) hd
theorem pe_int {i j pos} : PE X (.Constant (.int i) j pos) (tC (.int i)) := fun _ _ _ H _ I h => wpAny_Constant_int ⟨.int i, H, I.tok _, ⟨_, rfl⟩, h⟩
theorem pe_bl {b j pos} : PE X (.Constant (.bool b) j pos) (tC (.bl b)) := fun _ _ _ H _ I h => Constant_bool ⟨.bl b, H, I, rfl, h⟩
theorem pe_non {j pos} : PE X (.Constant .none j pos) (tC .non) := fun _ _ _ H _ I h => Constant_none ⟨.non, H, I, rfl, h⟩
theorem pe_str {x j pos} : PE X (.Constant (.str x) j pos) (tC (.str x)) := fun _ _ _ H _ I h => Calls.Constant_str ⟨.str x, H, I.tok _, ⟨_, rfl⟩, h⟩

/-- a global name of the def -/
noncomputable def Gl (X : Cx) (x : Str) : Prop := X.env.kindOf x = some .globalImplicit
theorem ld_glob {E : Value → Shared → Prop} {pins : List (Addr × Obj)} {s : Shared} {σ : St} {H : Hp} {x : Str} {u : Value} {pos : Pos} {Q : Value → Shared → Prop} (I : Inv X pins σ H s) (hg : Gl X x) (hm : X.mg x = some u) (h : Q u s)
    (hd : (x == ("__debug__" : Str)) = false := by decide) : wpAny (model X.prog X.w) X.A (eval (.Name x pos) X.env) Q E s :=
  Calls.Name_function_global I.ok.kind hg (Calls.loadGlobal_global (by rw [I.ok.glob]; exact I.mod.glob.keeps I.bk) hm h) hd
theorem ld_blt {E : Value → Shared → Prop} {pins : List (Addr × Obj)} {s : Shared} {σ : St} {H : Hp} {x : Str} {u : Value} {pos : Pos} {Q : Value → Shared → Prop} (I : Inv X pins σ H s) (hg : Gl X x) (hm : X.mg x = none) (hv : bootBuiltins x = some u) (h : Q u s)
    (hn : x ≠ "__name__" := by decide) (hd : (x == ("__debug__" : Str)) = false := by decide) : wpAny (model X.prog X.w) X.A (eval (.Name x pos) X.env) Q E s := by
  obtain ⟨mb, h1, h2⟩ := I.mod.blt
  exact Calls.Name_function_global I.ok.kind hg (Calls.loadGlobal_builtin (by rw [I.ok.glob]; exact I.mod.glob.keeps I.bk) hm (by rw [I.ok.blt]; exact h1.keeps I.bk) ((h2 x hn).trans hv) h) hd
/-! ### arithmetic -/
variable {a b : Expr} {ta tb : TE} {pos : Pos}
/-! ### comparisons -/
noncomputable def PC (X : Cx) (op : CmpOp) (a b : Expr) (t : TE) : Prop :=
  ∀ (pins : List (Addr × Obj)) (s : Shared) (σ : St) (H : Hp) (Q : VK), Inv X pins σ H s → t σ H Q →
    wpAny (model X.prog X.w) X.A (eval a X.env) (fun v s₁ => wpAny (model X.prog X.w) X.A (eval b X.env) (fun u s₂ => wpAny (model X.prog X.w) X.A (compareOp op v u) (EP X pins σ Q) X.xe s₂) X.xe s₁) X.xe s
/-- a comparison as a value, as a test -/
noncomputable def tB (t : TE) : TT := fun σ H Q => t σ H fun x H1 => ∃ c, x = .bl c ∧ Q c H1
theorem pt_cmp {op : CmpOp} {t : TE} (h : PC X op a b t) (h1 : behindInMarks op b = false := by first | exact nobehind _ (by decide) (by decide) | rfl) : PT X (.Compare a [op] [b] pos) (tB t) := by
  intro pins s σ H Q I hw
  refine wpAny_isTrue_Compare1 (thn (h pins s σ H _ I hw) fun v s1 h1 => thn h1 fun u s2 h2 => thn h2 fun c s3 ⟨x, H1, I1, r1, q1⟩ => ?_) h1
  obtain ⟨d, rfl, q⟩ := q1
  cases r1
  exact wpAny_truthy_bool ⟨H1, I1, q⟩
/-- an expression whose value is a bool, as a test -/
theorem pt_val {e : Expr} {t : TE} (h : PE X e t) (he : ∀ whole, isTrue e X.env whole = (do let v ← whole; standAt e.pos; holding [v] (truthy v)) := by intro _; rfl) : PT X e (tB t) := by
  intro pins s σ H Q I hw
  refine isTrue_plain (thn (h pins s σ H _ I hw) fun v s1 ⟨x, H1, I1, r1, q1⟩ => ?_) (he _)
  obtain ⟨d, rfl, q⟩ := q1
  cases r1
  exact wpAny_truthy_bool ⟨H1, I1, q⟩

/-! ### and, or, not -/
variable {tA tB' : TT} {rest : List Expr}
noncomputable def tAnd (t u : TT) : TT := fun σ H Q => t σ H fun c H1 => if c = true then u σ H1 Q else Q false H1
noncomputable def tNot (t : TT) : TT := fun σ H Q => t σ H fun c H1 => Q (!c) H1
theorem pw_and1 (ha : PT X a tA) : PW X (.BoolOp .And [a] pos) tA := by
  intro wh pins s σ H Q I h
  refine isTrue_and (thn (ha pins s σ H Q I h) fun c s1 e => ?_)
  cases c with
  | true => exact isTrue_and_nil e
  | false => exact e
theorem pw_and (ha : PT X a tA) (hb : PW X (.BoolOp .And (b :: rest) pos) tB') : PW X (.BoolOp .And (a :: b :: rest) pos) (tAnd tA tB') := by
  intro wh pins s σ H Q I h
  refine isTrue_and (thn (ha pins s σ H _ I h) fun c s1 ⟨H1, I1, q1⟩ => ?_)
  cases c with
  | true => exact hb wh pins s1 σ H1 Q I1 q1
  | false => exact ⟨H1, I1, q1⟩
theorem pt_not (ha : PT X a tA) : PT X (.UnaryOp .Not a pos) (tNot tA) := by
  intro pins s σ H Q I h
  exact isTrue_not (ha pins s σ H (fun c H1 => Q (!c) H1) I h)
/-- .. as values (bools) -/
noncomputable def tAndV (ta tb : TE) : TE := fun σ H Q => ta σ H fun x H1 => ∃ c, x = .bl c ∧ if c = true then tb σ H1 Q else Q (.bl false) H1
theorem pe_one {op} {t : TE} (h : PE X a t) : PE X (.BoolOp op [a] pos) t := fun pins s σ H Q I hw => BoolOp_one (h pins s σ H Q I hw)
theorem pe_and (ha : PE X a ta) (hb : PE X (.BoolOp .And (b :: rest) pos) tb) : PE X (.BoolOp .And (a :: b :: rest) pos) (tAndV ta tb) := by
  intro pins s σ H Q I h
  refine BoolOp_and (thn (ha pins s σ H _ I h) fun v s1 ⟨x, H1, I1, r1, q1⟩ => ?_)
  obtain ⟨c, rfl, q1⟩ := q1
  cases r1
  refine wpAny_truthy_bool ?_
  cases c with
  | true => exact hb pins s1 σ H1 Q I1 q1
  | false => exact ⟨.bl false, H1, I1, rfl, q1⟩
/-- a if t else b -/
noncomputable def tIf (t : TT) (ta tb : TE) : TE := fun σ H Q => t σ H fun c H1 => if c = true then ta σ H1 Q else tb σ H1 Q
theorem pe_ifExp {c : Expr} (hc : PT X c tA) (ha : PE X a ta) (hb : PE X b tb) : PE X (.IfExp c a b pos) (tIf tA ta tb) := by
  intro pins s σ H Q I h
  refine wpAny_IfExp (thn (hc pins s σ H _ I h) fun d s1 ⟨H1, I1, q1⟩ => ?_)
  cases d with
  | true => exact ha pins s1 σ H1 Q I1 q1
  | false => exact hb pins s1 σ H1 Q I1 q1
end
end L2

namespace L2
open PySem PySem.Spec PyProof.Rows

/-! ### a list, a tuple that is read: tracked, frozen, or an object of the module -/
noncomputable def SqL (K : PySem.W.Frag) (H : Hp) (a : Addr) (xs : List V) : Prop :=
  Rd H a (.lst xs) ∨
    ∃ (o : Obj) (its : Array Value) (n : Nat), K.lookup a = some o ∧ o.cls = .type "list" ∧ o.dict = none ∧ o.data = .seq its n ∧ its.size ≤ sizeLine ∧ Vals xs its.toList
noncomputable def SqT (K : PySem.W.Frag) (H : Hp) (a : Addr) (xs : List V) : Prop :=
  Rd H a (.tup xs) ∨
    ∃ (o : Obj) (its : Array Value) (n : Nat), K.lookup a = some o ∧ o.cls = .type "tuple" ∧ o.data = .seq its n ∧ its.size ≤ sizeLine ∧ Vals xs its.toList
noncomputable def absV : Value → Option V
  | .none => some .non
  | .bool b => some (.bl b)
  | .int i _ => some (.int i)
  | .str x _ => some (.str x)
  | .bytes b _ => some (.byt b)
  | .float b _ => some (.flt b)
  | .ref a => some (.ref a)
  | .type n => some (.ty n)
  | _ => none
theorem RelV.abs {x : V} {u : Value} (r : RelV x u) : absV u = some x := by
  cases x with
  | non => cases r; rfl
  | bl _ => cases r; rfl
  | int _ => obtain ⟨t, rfl⟩ := r; rfl
  | str _ => obtain ⟨t, rfl⟩ := r; rfl
  | byt _ => obtain ⟨t, rfl⟩ := r; rfl
  | flt _ => obtain ⟨t, rfl⟩ := r; rfl
  | ref _ => cases r; rfl
  | ty _ => cases r; rfl
theorem RelV.inj {x y : V} {u : Value} (r : RelV x u) (q : RelV y u) : x = y := Option.some.inj (r.abs.symm.trans q.abs)
theorem Vals.inj : ∀ {xs ys : List V} {us : List Value}, Vals xs us → Vals ys us → xs = ys
  | _, _, _, .nil, .nil => rfl
  | _, _, _, .cons r t, .cons r' t' => by rw [r.inj r', Vals.inj t t']
section
variable {X : Cx} {pins : List (Addr × Obj)} {σ : St} {H : Hp} {s : Shared} {a : Addr} {xs ys : List V}
theorem SqL.of {K : PySem.W.Frag} (h : H a = some (.lst xs)) : SqL K H a xs := .inl (.inl h)
theorem SqT.of {K : PySem.W.Frag} (h : H a = some (.tup xs)) : SqT K H a xs := .inl (.inl h)
theorem Inv.list (I : Inv X pins σ H s) (h : SqL X.K H a xs) : ∃ its : List Value, Vals xs its ∧ PlainL s.heap a its.toArray ∧ xs.length ≤ sizeLine := by
  rcases h with h | ⟨o, its, n, hk, hc, hd, hs, hz, r⟩
  · obtain ⟨z, its, n, r, e⟩ := h.ok I.hok
    exact ⟨its, r, ⟨_, n, e, rfl, rfl, rfl⟩, z⟩
  · refine ⟨its.toList, r, ⟨o, n, I.kIn a o hk, hc, hd, by simpa using hs⟩, ?_⟩
    have e := r.length
    simp only [Array.length_toList] at e
    omega
theorem Inv.tuple (I : Inv X pins σ H s) (h : SqT X.K H a xs) : ∃ its : List Value, Vals xs its ∧ IsTup s.heap a its.toArray ∧ xs.length ≤ sizeLine := by
  rcases h with h | ⟨o, its, n, hk, hc, hs, hz, r⟩
  · obtain ⟨z, its, r, p⟩ := h.ok I.hok
    exact ⟨its, r, p, z⟩
  · refine ⟨its.toList, r, ⟨o, I.kIn a o hk, hc, n, by simpa using hs⟩, ?_⟩
    have e := r.length
    simp only [Array.length_toList] at e
    omega
theorem Inv.list_inj (I : Inv X pins σ H s) (h : SqL X.K H a xs) (h' : SqL X.K H a ys) : xs = ys := by
  obtain ⟨its, r, ⟨o, n, e, _, _, d⟩, _⟩ := I.list h
  obtain ⟨its', r', ⟨o', n', e', _, _, d'⟩, _⟩ := I.list h'
  rw [e] at e'; cases e'
  rw [d] at d'
  injection d' with d1 _
  have : its = its' := by simpa using congrArg Array.toList d1
  subst this
  exact r.inj r'
end

/-! ### another wish about exceptions -/
noncomputable abbrev Cx.wish (X : Cx) (E : Value → Shared → Prop) : Cx := { X with xe := E }
/-- no exception leaves -/
noncomputable abbrev Cx.nox (X : Cx) : Cx := X.wish fun _ _ => False
theorem Cx.Ok.wish {X : Cx} (ok : X.Ok) (E : Value → Shared → Prop) : (X.wish E).Ok :=
  ⟨ok.mod, ok.kind, ok.glob, ok.blt, ok.above, ok.inj, ok.has, ok.cab, ok.hd, ok.frames, ok.stk, ok.exf, ok.bs, ok.bsz, ok.noex, ok.exfs, ok.funs, ok.frf⟩
theorem Cx.Ok.unwish {X : Cx} {E : Value → Shared → Prop} (ok : (X.wish E).Ok) : X.Ok :=
  ⟨ok.mod, ok.kind, ok.glob, ok.blt, ok.above, ok.inj, ok.has, ok.cab, ok.hd, ok.frames, ok.stk, ok.exf, ok.bs, ok.bsz, ok.noex, ok.exfs, ok.funs, ok.frf⟩
section
variable {X : Cx} {pins : List (Addr × Obj)} {σ : St} {H : Hp} {s : Shared} {E : Value → Shared → Prop}
theorem Inv.wish (I : Inv X pins σ H s) (E : Value → Shared → Prop) : Inv (X.wish E) pins σ H s := ⟨I.ok.wish E, I.os, I.bare, I.base, I.loc, I.cell, I.free, I.freeC, I.pin, I.hok, I.len⟩
theorem Inv.unwish (I : Inv (X.wish E) pins σ H s) : Inv X pins σ H s := ⟨I.ok.unwish, I.os, I.bare, I.base, I.loc, I.cell, I.free, I.freeC, I.pin, I.hok, I.len⟩
theorem SP.unwish {D : Ends} {f : Flow} {s' : Shared} (h : SP (X.wish E) pins D f s') : SP X pins D f s' := by
  cases f with
  | next => obtain ⟨σ', H', I, q⟩ := h; exact ⟨σ', H', I.unwish, q⟩
  | brk => obtain ⟨σ', H', I, q⟩ := h; exact ⟨σ', H', I.unwish, q⟩
  | cont => obtain ⟨σ', H', I, q⟩ := h; exact ⟨σ', H', I.unwish, q⟩
  | ret u => obtain ⟨v, σ', H', I, r, q⟩ := h; exact ⟨v, σ', H', I.unwish, r, q⟩
theorem PSs.nox {st : List Stmt} {t : TS} (h : PSs X.nox st t) : PSs X st t := fun pins s σ H D I hw =>
  wpAny_mono (h pins s σ H D (I.wish _) hw) (fun _ _ q => q.unwish) fun _ _ z => False.elim z
end

/-! ### blocks and small statements -/
section
variable {X : Cx} {st : Stmt} {rest : List Stmt} {t u : TS} {e : Expr} {te : TE} {pos : Pos}
noncomputable def tNext : TS := fun D σ H => D.nx σ H
noncomputable def tSeq (t u : TS) : TS := fun D σ H => t { D with nx := u D } σ H
theorem pss_nil : PSs X [] tNext := fun _ _ σ H _ I h => wpAny_execs_nil ⟨σ, H, I, h⟩
theorem pss_cons (h1 : PS X st t) (h2 : PSs X rest u) : PSs X (st :: rest) (tSeq t u) := by
  intro pins s σ H D I h
  refine wpAny_execs_cons (thn (h1 pins s σ H { D with nx := u D } I h) fun f s1 q => ?_)
  cases f with
  | next =>
    obtain ⟨σ', H', I', q⟩ := q
    exact h2 pins s1 σ' H' D I' q
  | ret v => exact q
  | brk => exact q
  | cont => exact q
theorem pss_one (h1 : PS X st t) : PSs X [st] t := by
  intro pins s σ H D I h
  refine wpAny_execs_cons (thn (h1 pins s σ H D I h) fun f s1 q => ?_)
  cases f with
  | next => exact wpAny_execs_nil q
  | ret v => exact q
  | brk => exact q
  | cont => exact q
/-- in a def's body nothing is shown -/
theorem Inv.quiet {pins : List (Addr × Obj)} {σ : St} {H : Hp} {s : Shared} (I : Inv X pins σ H s) : interactive X.env = false := by simp [interactive, I.ok.kind]
/-- an expression whose value is dropped -/
noncomputable def tDrop (te : TE) : TS := fun D σ H => te σ H fun _ H1 => D.nx σ H1
theorem ps_expr (he : PE X e te) (hs : swapsWith e none pos.line X.env = pure false := by rfl) : PS X (.Expr e pos) (tDrop te) := by
  intro pins s σ H D I h
  exact wpAny_Expr_any (thn (he pins s σ H _ I h) fun v s1 ⟨x, H1, I1, r1, q1⟩ => ⟨σ, H1, I1, q1⟩) I.quiet hs
noncomputable def tRet (te : TE) : TS := fun D σ H => te σ H D.rt
theorem ps_ret (he : PE X e te) : PS X (.Return (some e) pos) (tRet te) := by
  intro pins s σ H D I h
  exact wpAny_Return_some (thn (he pins s σ H _ I h) fun v s1 ⟨x, H1, I1, r1, q1⟩ => ⟨x, σ, H1, I1, r1, q1⟩)
noncomputable def tIfS (c : TT) (t u : TS) : TS := fun D σ H => c σ H fun b H1 => if b = true then t D σ H1 else u D σ H1
theorem ps_if {c : Expr} {a b : List Stmt} {tc : TT} (hc : PT X c tc) (ha : PSs X a t) (hb : PSs X b u) : PS X (.If c a b pos) (tIfS tc t u) := by
  intro pins s σ H D I h
  refine wpAny_If (thn (hc pins s σ H _ I h) fun d s1 ⟨H1, I1, q1⟩ => ?_)
  cases d with
  | true => exact ha pins s1 σ H1 D I1 q1
  | false => exact hb pins s1 σ H1 D I1 q1
end

/-! ### targets -/
noncomputable abbrev TG := V → St → Hp → (St → Hp → Prop) → Prop
noncomputable def PG (X : Cx) (target : Expr) (t : TG) : Prop :=
  ∀ (pins : List (Addr × Obj)) (s : Shared) (σ : St) (H : Hp) (v : V) (u : Value) (Q : St → Hp → Prop), Inv X pins σ H s → RelV v u → t v σ H Q →
    wpAny (model X.prog X.w) X.A (assign target X.env u) (fun _ s' => ∃ σ' H', Inv X pins σ' H' s' ∧ Q σ' H') X.xe s
/-- o[i] = v, by values -/
noncomputable abbrev TSet := V → V → V → Hp → (Hp → Prop) → Prop
noncomputable def PSet (X : Cx) (t : TSet) : Prop :=
  ∀ (pins : List (Addr × Obj)) (s : Shared) (σ : St) (H : Hp) (o i v : V) (ov iv u : Value) (Q : Hp → Prop), Inv X pins σ H s → RelV o ov → RelV i iv → RelV v u → t o i v H Q →
    wpAny (model X.prog X.w) X.A (setItem ov iv u) (fun _ s' => ∃ H', Inv X pins σ H' s' ∧ Q H') X.xe s
section
variable {X : Cx} {pos : Pos}
noncomputable def gName (i : Nat) : TG := fun v σ H Q => Q (σ.set i (some v)) H
theorem pg_name {i : Nat} {x : Str} (hN : X.N.Nodup) (hi : X.N[i]? = some x) (hx : Loc X.env.scope x) (hf : X.fn x = true ∨ X.env.scope.names.lookup x = some .local := by first | exact .inl rfl | exact .inr rfl | assumption) : PG X (.Name x pos) (gName i) := by
  intro pins s σ H v u Q I r h
  exact wpAny_assign_Name (store_ok I hN hi hx r (fun s' I' => ⟨_, H, I', h⟩) hf)
/-- o[i] = .. -/
noncomputable def gSub (to ti : TE) (t : TSet) : TG := fun v σ H Q => to σ H fun o H1 => ti σ H1 fun i H2 => t o i v H2 fun H3 => Q σ H3
theorem pg_sub {o i : Expr} {to ti : TE} {t : TSet} (ho : PE X o to) (hi : PE X i ti) (hs : PSet X t)
    (ha : ∀ v, assign (.Subscript o i pos) X.env v = (do
      let ov ← holding [v] (eval o X.env)
      let iv ← holding [v, ov] (eval i X.env)
      standAt pos
      holding [v, ov, iv] (setItem ov iv v)
      release [v, ov, iv] []) := by intro _; rfl) : PG X (.Subscript o i pos) (gSub to ti t) := by
  intro pins s σ H v u Q I r h
  rw [ha]
  refine wpAny_bind (wpAny_holding (thn (ho pins s σ H _ I h) fun ov s1 ⟨x, H1, I1, r1, q1⟩ => ?_))
  refine wpAny_bind (wpAny_holding (thn (hi pins s1 σ H1 _ I1 q1) fun iv s2 ⟨y, H2, I2, r2, q2⟩ => ?_))
  refine wpAny_bind (wpAny_standAt (wpAny_bind (wpAny_holding (thn (hs pins s2 σ H2 x y v ov iv u _ I2 r1 r2 r q2) fun _ s3 ⟨H3, I3, q3⟩ => ?_))))
  exact wpAny_release ⟨σ, H3, I3, q3⟩
/-- target = value -/
noncomputable def tAsg (te : TE) (g : TG) : TS := fun D σ H => te σ H fun x H1 => g x σ H1 D.nx
theorem ps_asg {tg e : Expr} {te : TE} {g : TG} (he : PE X e te) (hg : PG X tg g) (hs : swapsWithSole [tg] e pos.line X.env = pure false := by rfl) (hw : swappedStores [tg] e X.env = pure none := by rfl)
    (h1 : (assignEach [tg] X.env).map (·.2) = [assign tg X.env] := by rfl) : PS X (.Assign [tg] e pos) (tAsg te g) := by
  intro pins s σ H D I h
  refine wpAny_Assign_stores (thn (he pins s σ H _ I h) fun v s1 ⟨x, H1, I1, r1, q1⟩ => ?_) hs hw
  rw [h1]
  exact thn (hg pins s1 σ H1 x v _ I1 r1 q1) fun _ s2 q => q
/-- name = value -/
theorem ps_set {i : Nat} {x : Str} {e : Expr} {te : TE} {pos' : Pos} (hN : X.N.Nodup) (hi : X.N[i]? = some x) (hx : Loc X.env.scope x) (he : PE X e te) (hs : swapsWith e (some (.Name x pos')) pos.line X.env = pure false := by rfl) (hf : X.fn x = true ∨ X.env.scope.names.lookup x = some .local := by first | exact .inl rfl | exact .inr rfl | assumption) :
    PS X (.Assign [.Name x pos'] e pos) (tAsg te (gName i)) := by
  intro pins s σ H D I h
  refine wpAny_Assign_Name (thn (he pins s σ H _ I h) fun v s1 ⟨y, H1, I1, r1, q1⟩ => ?_) hs
  exact store_ok I1 hN hi hx r1 (fun s2 I2 => ⟨_, H1, I2, q1⟩) hf
end

/-! ### while -/
section
variable {X : Cx} {pos : Pos}
end

/-! ### what a loop or a comprehension walks -/
/-- at turn i: it yields x (the heap may grow), or it stops -/
structure It where
  go : Nat → Hp → Prop
  yld : Nat → Hp → V → Hp → Prop
  stop : Nat → Hp → Prop
/-- the iterator's own objects may turn: they are not the frame's, not pinned, younger than the entry (or a comprehension's own) -/
noncomputable def FpOk (X : Cx) (pins : List (Addr × Obj)) (H : Hp) (b : Addr) : Prop :=
  H b = none ∧ b ≠ X.env.locals ∧ b ∉ X.fs ∧ (b ∈ X.ex ∨ X.s₀.heap.objs.size ≤ b) ∧ (∀ x c, X.env.cells.lookup x = some c → c ≠ b) ∧ ∀ p ∈ X.pn ++ pins, p.1 ≠ b
theorem Inv.fpOk {X : Cx} {pins : List (Addr × Obj)} {σ : St} {H H' : Hp} {s : Shared} {b : Addr} (I : Inv X pins σ H s) (hb : s.heap.objs.size ≤ b) (hn : H' b = none) : FpOk X pins H' b := by
  refine ⟨hn, Nat.ne_of_gt (Nat.lt_of_lt_of_le I.lt hb), I.nofs hb, .inr (Nat.le_trans I.sz hb), fun x c e z => ?_, fun p hp z => ?_⟩
  · obtain ⟨v, q⟩ := I.cell x c e
    exact absurd (Nat.lt_of_lt_of_le q.lt (by rw [z]; exact hb)) (Nat.lt_irrefl _)
  · exact absurd (Nat.lt_of_lt_of_le (Heap.lt_size (I.pin p hp).1) (by rw [z]; exact hb)) (Nat.lt_irrefl _)
structure Turn (P : Program) (w : World) (K : PySem.W.Frag) (tg : Expr) (J : It) (fp : List Addr) (it : Addr) (tn : Nat → Heap → Prop) : Prop where
  mem : it ∈ fp
  obj : ∀ i h, tn i h → ∀ b ∈ fp, ∃ o, h.get? b = some o ∧ ∀ v, o.data ≠ .cell v
  keep : ∀ i h h', tn i h → (∀ b ∈ fp, ∀ o, h.get? b = some o → h'.get? b = some o) → tn i h'
  item : ∀ (X : Cx), X.prog = P → X.w = w → X.K = K → X.calm = true → ∀ (i : Nat) (pins : List (Addr × Obj)) (s : Shared) (σ : St) (H : Hp) (E : Value → Shared → Prop), Inv X pins σ H s → (∀ b ∈ fp, FpOk X pins H b) → tn i s.heap → J.go i H →
    wpAny (model P w) X.A (pyNext (.ref it)) (fun r s1 => ∃ u, r = some u ∧
      wpAny (model P w) X.A (letOwnedTupleGo tg (.ref it) u) (fun _ s2 => ∃ x H', Inv X pins σ H' s2 ∧ RelV x u ∧ J.yld i H x H' ∧ tn (i + 1) s2.heap ∧ ∀ b ∈ fp, H' b = none) E s1) E s
  done : ∀ (X : Cx), X.prog = P → X.w = w → X.K = K → X.calm = true → ∀ (i : Nat) (pins : List (Addr × Obj)) (s : Shared) (σ : St) (H : Hp) (E : Value → Shared → Prop), Inv X pins σ H s → (∀ b ∈ fp, FpOk X pins H b) → tn i s.heap → J.stop i H →
    wpAny (model P w) X.A (pyNext (.ref it)) (fun r s1 => r = none ∧ Inv X pins σ H s1) E s
  self : ∀ (A : Around) (i : Nat) (s : Shared) (Q : Value → Shared → Prop) (E : Value → Shared → Prop), tn i s.heap → Q (.ref it) s → wpAny (model P w) A (pyIter (.ref it)) Q E s
noncomputable abbrev TI := St → Hp → (It → Hp → Prop) → Prop
/-- an iterator has come -/
noncomputable def PIE (X : Cx) (pins : List (Addr × Obj)) (σ : St) (tg : Expr) (R : It → Hp → Prop) (itv : Value) (s2 : Shared) : Prop :=
  ∃ (it : Addr) (fp : List Addr) (tn : Nat → Heap → Prop) (J : It) (H' : Hp), itv = .ref it ∧ Inv X pins σ H' s2 ∧ Turn X.prog X.w X.K tg J fp it tn ∧ tn 0 s2.heap ∧ (∀ b ∈ fp, FpOk X pins H' b) ∧ R J H'
noncomputable def PI (X : Cx) (tg iter : Expr) (wi : TI) : Prop :=
  ∀ (pins : List (Addr × Obj)) (s : Shared) (σ : St) (H : Hp) (R : It → Hp → Prop), Inv X pins σ H s → wi σ H R →
    wpAny (model X.prog X.w) X.A (eval iter X.env) (fun v s1 => wpAny (model X.prog X.w) X.A (pyIter v) (PIE X pins σ tg R) X.xe s1) X.xe s

/-- the step ahead of the store is nothing for an iterator that keeps no tuple -/
theorem go_of {M : Model} {A : Around} {E : Value → Shared → Prop} {s : Shared} {tg : Expr} {it : Addr} {u : Value} {o : Obj} {n : String} {vs : Array Value} {Q : Unit → Shared → Prop} (ho : s.heap.get? it = some o) (hc : o.cls = .type n) (hd : o.data = .fields vs)
    (hn : ["enumerate", "zip", "dict_itemiterator", "dict_reverseitemiterator", "odict_iterator", "itertools.zip_longest", "itertools.pairwise"].contains n = false) (hQ : Q () s) : wpAny M A (letOwnedTupleGo tg (.ref it) u) Q E s := by
  unfold letOwnedTupleGo
  cases tg <;> first
    | exact wpAny_pure hQ
    | (cases u <;> first
        | exact wpAny_pure hQ
        | (refine wpAny_bind (wpAny_load ho ?_)
           rw [hc, hd]
           show wpAny M A (if (["enumerate", "zip", "dict_itemiterator", "dict_reverseitemiterator", "odict_iterator", "itertools.zip_longest", "itertools.pairwise"].contains n && vs[0]? == some (rawInt _)) = true then _ else _) Q E s
           rw [if_neg (by intro h; rw [hn, Bool.false_and] at h; cases h)]
           exact wpAny_pure hQ))

/-- the list at a, as it stands at each turn (a loop may append to it) -/
noncomputable def Itl (K : PySem.W.Frag) (a : Addr) : It :=
  ⟨fun i H => ∃ xs x, SqL K H a xs ∧ xs[i]? = some x, fun i H x H' => H' = H ∧ ∀ xs, SqL K H a xs → xs[i]? = some x, fun i H => ∃ xs, SqL K H a xs ∧ xs.length ≤ i⟩
/-- lo, lo + 1, .. (n of them) -/
noncomputable def Itr (lo : Int) (n : Nat) : It := ⟨fun i _ => i < n, fun i H x H' => H' = H ∧ x = .int (lo + i), fun i _ => n ≤ i⟩
theorem turn_list {P : Program} {w : World} {K : PySem.W.Frag} {tg : Expr} (a it : Addr) : Turn P w K tg (Itl K a) [it] it (fun i h => h.IsListIter it a i) where
  mem := by simp
  obj := fun i h st b hb => by
    have e : b = it := by simpa using hb
    subst e
    obtain ⟨o, e, c, d⟩ := st
    exact ⟨o, e, fun v z => by rw [d] at z; cases z⟩
  keep := fun i h h' st k => st.at fun o e => k it (by simp) o e
  item := by
    intro X hP hw hK hc i pins s σ H E I hf st hg
    subst hP hw hK
    obtain ⟨xs, x, hq, hx⟩ := hg
    obtain ⟨its, rv, p, hz⟩ := I.list hq
    obtain ⟨u, hu, ru⟩ := rv.get hx
    obtain ⟨f0, f1, f2, f3, f4, f5⟩ := hf it (by simp)
    refine wpAny_pyNext_list_item st p.isList (x := u) (by simpa using hu) fun h' st' sb => ?_
    have I1 : Inv X pins σ H { s with heap := h' } := I.turned (t' := s.toks) (fun b o hb e => (sb.2 b hb).trans e) f0 f1 f3 f4 f5
    obtain ⟨o, e, c, d⟩ := id st'
    exact ⟨u, rfl, go_of (s := { s with heap := h' }) e c d (by decide) ⟨x, H, I1, ru, ⟨rfl, fun ys hy => by rw [I.list_inj hy hq]; exact hx⟩, st', fun b hb => (hf b hb).1⟩⟩
  done := by
    intro X hP hw hK hc i pins s σ H E I hf st hg
    subst hP hw hK
    obtain ⟨xs, hq, hx⟩ := hg
    obtain ⟨its, rv, p, hz⟩ := I.list hq
    obtain ⟨f0, f1, f2, f3, f4, f5⟩ := hf it (by simp)
    have hl := rv.length
    exact wpAny_pyNext_list_end (I.ok.hd hc) st p.isList (by simp; omega) fun h' eb => ⟨rfl, I.turned (t' := s.toks) (fun b o hb e => eb b o hb e) f0 f1 f3 f4 f5⟩
  self := fun _ _ _ _ _ st h => wpAny_pyIter_listiter st h
theorem turn_range {P : Program} {w : World} {K : PySem.W.Frag} {tg : Expr} (it : Addr) (lo : Int) (n : Nat) : Turn P w K tg (Itr lo n) [it] it (fun i h => IsRangeIter h it (lo + (i : Nat) * 1) ((n : Int) - (i : Nat)) 1) where
  mem := by simp
  obj := fun i h st b hb => by
    have e : b = it := by simpa using hb
    subst e
    exact ⟨_, st, fun v z => by
      have z' : Data.fields _ = Data.cell v := z
      cases z'⟩
  keep := fun i h h' st k => k it (by simp) _ st
  item := by
    intro X hP hw hK hc i pins s σ H E I hf st hg
    subst hP hw hK
    obtain ⟨f0, f1, f2, f3, f4, f5⟩ := hf it (by simp)
    have W := Walks.range (prog := X.prog) (w := X.w) (I.ok.hd hc) it lo 1 n
    refine W.item i s _ _ hg st fun v h' tk hv st' kk => ?_
    obtain ⟨t, rfl⟩ := hv
    have I1 : Inv X pins σ H { s with heap := h', toks := tk } := I.turned (fun b o hb e => kk b o (by simpa using hb) e) f0 f1 f3 f4 f5
    refine ⟨_, rfl, go_of (s := { s with heap := h', toks := tk }) (n := "range_iterator") st' rfl rfl (by decide) ⟨.int (lo + i), H, I1, ⟨t, ?_⟩, ⟨rfl, rfl⟩, st', fun b hb => (hf b hb).1⟩⟩
    rw [Int.mul_one]
  done := by
    intro X hP hw hK hc i pins s σ H E I hf st hg
    subst hP hw hK
    obtain ⟨f0, f1, f2, f3, f4, f5⟩ := hf it (by simp)
    exact wpAny_pyNext_range_end (I.ok.hd hc) st (by have : n ≤ i := hg; omega) fun h' eb => ⟨rfl, I.turned (t' := s.toks) (fun b o hb e => eb b o hb e) f0 f1 f3 f4 f5⟩
  self := fun _ _ _ _ _ st h => wpAny_pyIter_rangeiter st h
end L2

namespace L2
open PySem PySem.Spec PyProof.Rows
section
variable {X : Cx} {tg : Expr}
noncomputable def iList (K : PySem.W.Frag) (tl : TE) : TI := fun σ H R => tl σ H fun x H1 => ∃ a, x = .ref a ∧ (∃ xs, SqL K H1 a xs) ∧ R (Itl K a) H1
theorem pi_list {l : Expr} {tl : TE} (hl : PE X l tl) : PI X tg l (iList X.K tl) := by
  intro pins s σ H R I h
  refine thn (hl pins s σ H _ I h) fun v s1 ⟨x, H1, I1, r1, q1⟩ => ?_
  obtain ⟨a, e, ⟨xs, hq⟩, q⟩ := q1
  subst e
  cases r1
  obtain ⟨its, rv, p, hz⟩ := I1.list hq
  refine wpAny_pyIter_list p.isList ?_
  refine ⟨s1.heap.objs.size, [s1.heap.objs.size], _, _, H1, rfl, I1.kept (t' := s1.toks) fun b o e => Heap.get?_push_of_some _ e, turn_list a _, ⟨_, Heap.get?_push_size _ rfl, rfl, rfl⟩, fun b hb => ?_, q⟩
  have e : b = s1.heap.objs.size := by simpa using hb
  subst e
  exact I1.fpOk (Nat.le_refl _) (I1.hok.fresh (Nat.le_refl _))
/-- a range object just made, walked -/
theorem range_it {pins : List (Addr × Obj)} {σ : St} {H : Hp} {s : Shared} {R : It → Hp → Prop} {E : Value → Shared → Prop} {lo hi : Int} {t u v : Tok} {tk : Nat} (I : Inv X pins σ H s) (h1 : -(2 ^ 62) ≤ lo) (h2 : lo < 2 ^ 62) (h3 : -(2 ^ 62) ≤ hi) (h4 : hi < 2 ^ 62)
    (q : R (Itr lo (hi - lo).toNat) H) : wpAny (model X.prog X.w) X.A (pyIter (.ref s.heap.objs.size)) (PIE X pins σ tg R) E { s with heap := s.heap.push { cls := .type "range", data := .fields #[.int lo t, .int hi u, .int 1 v] }, toks := tk } := by
  refine wpAny_pyIter_range (IsRange.new ..) (small_one h1 h2 h3 h4) ?_
  have I1 : Inv X pins σ H { s with heap := s.heap.push { cls := .type "range", data := .fields #[.int lo t, .int hi u, .int 1 v] }, toks := tk } := I.kept fun b o e => Heap.get?_push_of_some _ e
  refine ⟨(s.heap.push { cls := .type "range", data := .fields #[.int lo t, .int hi u, .int 1 v] }).objs.size, [(s.heap.push { cls := .type "range", data := .fields #[.int lo t, .int hi u, .int 1 v] }).objs.size], _, _, H, rfl,
    I1.kept (t' := tk) fun b o e => Heap.get?_push_of_some _ e, turn_range _ lo (hi - lo).toNat, ?_, fun b hb => ?_, q⟩
  · have e1 : lo + ((0 : Nat) : Int) * 1 = lo := by simp
    have e2 : (((hi - lo).toNat : Nat) : Int) - ((0 : Nat) : Int) = Builtin.Range.rangeSize lo hi 1 := by rw [rangeSize_one]; split <;> omega
    show IsRangeIter _ _ (lo + ((0 : Nat) : Int) * 1) ((((hi - lo).toNat : Nat) : Int) - ((0 : Nat) : Int)) 1
    rw [e1, e2]
    exact Heap.get?_push_size _ rfl
  · have e : b = (s.heap.push { cls := .type "range", data := .fields #[.int lo t, .int hi u, .int 1 v] }).objs.size := by simpa using hb
    subst e
    exact I1.fpOk (Nat.le_refl _) (I1.hok.fresh (Nat.le_refl _))
noncomputable def iRng1 (ta : TA) : TI := fun σ H R => ta σ H fun vs H1 => ∃ j : Int, vs = [.int j] ∧ -(2 ^ 62) ≤ j ∧ j < 2 ^ 62 ∧ R (Itr 0 j.toNat) H1
theorem pi_range1 {a : Expr} {ta : TA} {p pos : Pos} (hg : Gl X "range") (hm : X.mg "range" = none) (ha : PA X [a] ta) (hs : starEach [a] X.env = [(false, eval a X.env)] := by rfl) : PI X tg (.Call (.Name "range" p) [a] [] pos) (iRng1 ta) := by
  intro pins s σ H R I h
  refine Call_ (ld_blt I hg hm boot_range (PyProof.Rows.callWith_type1 (thn (ha pos pins s σ H _ I h) fun us s1 ⟨vs, H1, I1, r1, q1⟩ => ?_) hs rfl))
  obtain ⟨j, e, q1, q2, q⟩ := q1
  subst e
  cases r1 with
  | cons r rr =>
    cases rr
    obtain ⟨t, rfl⟩ := r
    exact call_range_1 (range_it I1 (by omega) (by omega) q1 q2 (by simpa using q))
/-! ### for -/
/-- W: the invariant by the turn and a measure; N: what the body is to reach -/
noncomputable def tFor (wi : TI) (g : TG) (tb : TS) : TS := fun D σ H => wi σ H fun J H1 => ∃ W : Nat → Nat → St → Hp → Prop, (∃ m, W 0 m σ H1) ∧ ∀ i m σ H, W i m σ H →
  (J.stop i H ∧ D.nx σ H) ∨ (J.go i H ∧ ∃ N : St → Hp → Prop, (∀ σ' H', N σ' H' → ∃ m', m' < m ∧ W (i + 1) m' σ' H') ∧ ∀ x H', J.yld i H x H' → g x σ H' fun σ2 H2 => tb { D with nx := N, ct := N, bk := D.nx } σ2 H2)
/-- the records at fp as they stand -/
noncomputable def pinsAt (fp : List Addr) (h : Heap) : List (Addr × Obj) := fp.filterMap fun b => (h.get? b).map fun o => (b, o)
theorem mem_pinsAt {fp : List Addr} {h : Heap} {b : Addr} {o : Obj} (hb : b ∈ fp) (e : h.get? b = some o) : (b, o) ∈ pinsAt fp h := List.mem_filterMap.mpr ⟨b, hb, by rw [e]; rfl⟩
theorem of_pinsAt {fp : List Addr} {h : Heap} {p : Addr × Obj} (hp : p ∈ pinsAt fp h) : p.1 ∈ fp ∧ h.get? p.1 = some p.2 := by
  obtain ⟨b, hb, e⟩ := List.mem_filterMap.mp hp
  cases q : h.get? b with
  | none => rw [q] at e; cases e
  | some o =>
    rw [q] at e
    have e' : (b, o) = p := Option.some.inj e
    subst e'
    exact ⟨hb, q⟩
theorem Inv.pinned {pins : List (Addr × Obj)} {σ : St} {H : Hp} {s : Shared} {fp : List Addr} (I : Inv X pins σ H s) (hf : ∀ b ∈ fp, FpOk X pins H b) (ho : ∀ b ∈ fp, ∃ o, s.heap.get? b = some o ∧ ∀ v, o.data ≠ .cell v) : Inv X (pins ++ pinsAt fp s.heap) σ H s :=
  I.pins_of fun p hp => (List.mem_append.mp hp).elim (fun z => I.pin p (List.mem_append_right _ z)) fun z => by
    obtain ⟨hb, e⟩ := of_pinsAt z
    obtain ⟨f0, f1, f2, _⟩ := hf p.1 hb
    obtain ⟨o, e', d⟩ := ho p.1 hb
    rw [e] at e'; cases e'
    exact ⟨e, f0, f1, f2, d⟩
theorem Inv.unpinned {pins pl : List (Addr × Obj)} {σ : St} {H : Hp} {s : Shared} (I : Inv X (pins ++ pl) σ H s) : Inv X pins σ H s := I.pins_of fun p hp => I.pin p (List.mem_append_right _ (List.mem_append_left _ hp))
theorem ps_for {iter : Expr} {body : List Stmt} {wi : TI} {g : TG} {tb : TS} {pos : Pos} (hp : PassesOwn (model X.prog X.w) X.A X.env X.xe) (hc : X.calm = true) (hi : PI X tg iter wi) (hg : PG X tg g) (hb : PSs X body tb)
    (hs : ∀ x, foldedSetIterable iter X.env x = pure x := by intro _; rfl) : PS X (.For tg iter body [] pos) (tFor wi g tb) := by
  intro pins s σ H D I h
  refine wpAny_For (thn (hi pins s σ H _ I h) fun v s1 h1 => thn h1 fun itv s2 h2 => ?_) hs
  obtain ⟨it, fp, tn, J, H2, e, I2, T, st2, f2, W, ⟨m0, w0⟩, turn⟩ := h2
  subst e
  -- what stays true of the iterator's objects through the loop
  have stat : ∀ {H' : Hp}, (∀ b ∈ fp, H' b = none) → ∀ b ∈ fp, FpOk X pins H' b := fun hn b hb => ⟨hn b hb, (f2 b hb).2⟩
  refine codeAny_forLoop_any (fun n s' => ∃ i σ' H', Inv X pins σ' H' s' ∧ tn i s'.heap ∧ (∀ b ∈ fp, H' b = none) ∧ W i n σ' H') ?_ m0 ⟨0, σ, H2, I2, st2, fun b hb => (f2 b hb).1, w0⟩
  rintro n s3 ⟨i, σ3, H3, I3, st3, fr3, w3⟩
  rcases turn i n σ3 H3 w3 with ⟨stop, qn⟩ | ⟨go, N, hN, step⟩
  · refine wpAny_passesOwn hp (thn (T.done X rfl rfl rfl hc i pins s3 σ3 H3 X.xe I3 (stat fr3) st3 stop) fun r s4 ⟨hr, I4⟩ => ?_)
    subst hr
    exact wpAny_execs_nil ⟨σ3, H3, I4, qn⟩
  · refine wpAny_passesOwn hp (thn (T.item X rfl rfl rfl hc i pins s3 σ3 H3 X.xe I3 (stat fr3) st3 go) fun r s4 ⟨u, hr, h4⟩ => ?_)
    subst hr
    refine wpAny_passesOwn hp (thn h4 fun _ s5 ⟨x, H5, I5, r5, y5, st5, fr5⟩ => ?_)
    have I5' := I5.pinned (stat fr5) (T.obj _ _ st5)
    refine wpAny_passesOwn hp (thn (hg _ s5 σ3 H5 x u _ I5' r5 (step x H5 y5)) fun _ s6 ⟨σ6, H6, I6, q6⟩ => ?_)
    refine wpAny_passesOwn hp (thn (hb _ s6 σ6 H6 _ I6 q6) fun f s7 q7 => ?_)
    have again : ∀ {σ7 : St} {H7 : Hp}, Inv X (pins ++ pinsAt fp s5.heap) σ7 H7 s7 → N σ7 H7 → ∃ m, m < n ∧ ∃ i σ' H', Inv X pins σ' H' s7 ∧ tn i s7.heap ∧ (∀ b ∈ fp, H' b = none) ∧ W i m σ' H' := fun {σ7 H7} I7 n7 => by
      obtain ⟨m', hm, w7⟩ := hN σ7 H7 n7
      refine ⟨m', hm, i + 1, σ7, H7, I7.unpinned, T.keep _ _ _ st5 fun b hb o e => (I7.pin (b, o) (List.mem_append_right _ (List.mem_append_right _ (mem_pinsAt hb e)))).1, fun b hb => ?_, w7⟩
      obtain ⟨o, e, d⟩ := T.obj _ _ st5 b hb
      exact (I7.pin (b, o) (List.mem_append_right _ (List.mem_append_right _ (mem_pinsAt hb e)))).2.1
    cases f with
    | next => obtain ⟨σ7, H7, I7, n7⟩ := q7; exact again I7 n7
    | cont => obtain ⟨σ7, H7, I7, n7⟩ := q7; exact again I7 n7
    | brk => obtain ⟨σ7, H7, I7, q7⟩ := q7; exact ⟨σ7, H7, I7.unpinned, q7⟩
    | ret v => obtain ⟨x7, σ7, H7, I7, r7, q7⟩ := q7; exact ⟨x7, σ7, H7, I7.unpinned, r7, q7⟩
end

/-! ### the forms one uses -/
/-- over a list that the body leaves as it is -/
theorem for_list {K : PySem.W.Frag} {a : Addr} {xs : List V} {g : TG} {tb : TS} {D : Ends} {σ : St} {H : Hp} (Pv : Nat → St → Hp → Prop) (h0 : Pv 0 σ H) (hl : ∀ i σ H, i ≤ xs.length → Pv i σ H → SqL K H a xs)
    (hs : ∀ i x σ H, xs[i]? = some x → Pv i σ H → g x σ H fun σ2 H2 => tb { D with nx := Pv (i + 1), ct := Pv (i + 1), bk := D.nx } σ2 H2) (hd : ∀ σ H, Pv xs.length σ H → D.nx σ H) :
    ∃ W : Nat → Nat → St → Hp → Prop, (∃ m, W 0 m σ H) ∧ ∀ i m σ H, W i m σ H →
      ((Itl K a).stop i H ∧ D.nx σ H) ∨ ((Itl K a).go i H ∧ ∃ N : St → Hp → Prop, (∀ σ' H', N σ' H' → ∃ m', m' < m ∧ W (i + 1) m' σ' H') ∧ ∀ x H', (Itl K a).yld i H x H' → g x σ H' fun σ2 H2 => tb { D with nx := N, ct := N, bk := D.nx } σ2 H2) := by
  refine ⟨fun i m σ H => m = xs.length - i ∧ i ≤ xs.length ∧ Pv i σ H, ⟨xs.length, by simp, Nat.zero_le _, h0⟩, ?_⟩
  rintro i m σ H ⟨rfl, hi, p⟩
  have q := hl i σ H hi p
  by_cases hlt : i < xs.length
  · refine .inr ⟨⟨xs, xs[i], q, by simp [hlt]⟩, Pv (i + 1), fun σ' H' p' => ⟨xs.length - (i + 1), by omega, rfl, hlt, p'⟩, fun x H' y => ?_⟩
    obtain ⟨e, y⟩ := y
    subst e
    exact hs i x σ _ (y xs q) p
  · have e : i = xs.length := by omega
    subst e
    exact .inl ⟨⟨xs, q, Nat.le_refl _⟩, hd σ H p⟩
theorem for_range {lo : Int} {n : Nat} {g : TG} {tb : TS} {D : Ends} {σ : St} {H : Hp} (Pv : Nat → St → Hp → Prop) (h0 : Pv 0 σ H)
    (hs : ∀ i σ H, i < n → Pv i σ H → g (.int (lo + i)) σ H fun σ2 H2 => tb { D with nx := Pv (i + 1), ct := Pv (i + 1), bk := D.nx } σ2 H2) (hd : ∀ σ H, Pv n σ H → D.nx σ H) :
    ∃ W : Nat → Nat → St → Hp → Prop, (∃ m, W 0 m σ H) ∧ ∀ i m σ H, W i m σ H →
      ((Itr lo n).stop i H ∧ D.nx σ H) ∨ ((Itr lo n).go i H ∧ ∃ N : St → Hp → Prop, (∀ σ' H', N σ' H' → ∃ m', m' < m ∧ W (i + 1) m' σ' H') ∧ ∀ x H', (Itr lo n).yld i H x H' → g x σ H' fun σ2 H2 => tb { D with nx := N, ct := N, bk := D.nx } σ2 H2) := by
  refine ⟨fun i m σ H => m = n - i ∧ i ≤ n ∧ Pv i σ H, ⟨n, by simp, Nat.zero_le _, h0⟩, ?_⟩
  rintro i m σ H ⟨rfl, hi, p⟩
  by_cases hlt : i < n
  · refine .inr ⟨hlt, Pv (i + 1), fun σ' H' p' => ⟨n - (i + 1), by omega, rfl, hlt, p'⟩, fun x H' y => ?_⟩
    obtain ⟨e, y⟩ := y
    subst e y
    exact hs i σ _ hlt p
  · have e : i = n := by omega
    subst e
    exact .inl ⟨Nat.le_refl _, hd σ H p⟩
end L2

namespace L2
open PySem PySem.Spec PyProof.Rows

noncomputable abbrev R2 := V → V → Hp → VK → Prop
/-- a two-place operation on values: f is binaryOp op, inplaceOp op or compareOp op -/
noncomputable def OpR (X : Cx) (f : Value → Value → Sem Value) (r : R2) : Prop :=
  ∀ (pins : List (Addr × Obj)) (s : Shared) (σ : St) (H : Hp) (x y : V) (v u : Value) (Q : VK), Inv X pins σ H s → RelV x v → RelV y u → r x y H Q →
    wpAny (model X.prog X.w) X.A (f v u) (EP X pins σ Q) X.xe s
/-- a one-place operation -/
noncomputable def UnR (X : Cx) (f : Value → Sem Value) (r : V → Hp → VK → Prop) : Prop :=
  ∀ (pins : List (Addr × Obj)) (s : Shared) (σ : St) (H : Hp) (x : V) (v : Value) (Q : VK), Inv X pins σ H s → RelV x v → r x H Q →
    wpAny (model X.prog X.w) X.A (f v) (EP X pins σ Q) X.xe s
/-- a call of a value that is known (a builtin, a type) with values -/
noncomputable def CallR (X : Cx) (f : Value) (r : List V → Hp → VK → Prop) : Prop :=
  ∀ (pins : List (Addr × Obj)) (s : Shared) (σ : St) (H : Hp) (xs : List V) (us : List Value) (Q : VK), Inv X pins σ H s → Vals xs us → r xs H Q →
    wpAny (model X.prog X.w) X.A (call f us) (EP X pins σ Q) X.xe s
noncomputable def tOp (r : R2) (ta tb : TE) : TE := fun σ H Q => ta σ H fun x H1 => tb σ H1 fun y H2 => r x y H2 Q
noncomputable def tUn (r : V → Hp → VK → Prop) (ta : TE) : TE := fun σ H Q => ta σ H fun x H1 => r x H1 Q
/-- ints in, under C, and a value out -/
noncomputable def rI (C : Int → Int → Prop) (g : Int → Int → V) : R2 := fun x y H Q => ∃ i j, x = .int i ∧ y = .int j ∧ C i j ∧ Q (g i j) H
noncomputable def rI0 (g : Int → Int → V) : R2 := fun x y H Q => ∃ i j, x = .int i ∧ y = .int j ∧ Q (g i j) H
noncomputable def rU (g : Int → V) : V → Hp → VK → Prop := fun x H Q => ∃ i, x = .int i ∧ Q (g i) H

section
variable {X : Cx} {a b c : Expr} {ta tb tc : TE} {pos : Pos}

theorem binT (ha : PE X a ta) (hb : PE X b tb) {pins : List (Addr × Obj)} {s : Shared} {σ : St} {H : Hp} {R : V → V → Hp → Prop} (I : Inv X pins σ H s)
    (h : ta σ H fun x H1 => tb σ H1 fun y H2 => R x y H2) {Q : Value → Shared → Prop} {f : Value → Value → Sem Value}
    (hf : ∀ v u s2 x y H2, Inv X pins σ H2 s2 → RelV x v → RelV y u → R x y H2 → wpAny (model X.prog X.w) X.A (f v u) Q X.xe s2) :
    wpAny (model X.prog X.w) X.A (eval a X.env) (fun v s₁ => wpAny (model X.prog X.w) X.A (eval b X.env) (fun u s₂ => wpAny (model X.prog X.w) X.A (f v u) Q X.xe s₂) X.xe s₁) X.xe s := by
  refine thn (ha pins s σ H _ I h) fun v s1 ⟨x, H1, I1, r1, q1⟩ => ?_
  refine thn (hb pins s1 σ H1 _ I1 q1) fun u s2 ⟨y, H2, I2, r2, q2⟩ => ?_
  exact hf v u s2 x y H2 I2 r1 r2 q2

theorem pe_op {op : Operator} {r : R2} (ho : OpR X (binaryOp op) r) (ha : PE X a ta) (hb : PE X b tb) : PE X (.BinOp a op b pos) (tOp r ta tb) := by
  intro pins s σ H Q I h
  exact wpAny_BinOp (binT ha hb I h fun v u s2 x y H2 I2 rx ry q => ho pins s2 σ H2 x y v u Q I2 rx ry q)
theorem pe_un {op : UnaryOp} {r : V → Hp → VK → Prop} (ho : UnR X (unaryOp op) r) (ha : PE X a ta) : PE X (.UnaryOp op a pos) (tUn r ta) := by
  intro pins s σ H Q I h
  exact UnaryOp_ (thn (ha pins s σ H _ I h) fun v s1 ⟨x, H1, I1, r1, q1⟩ => ho pins s1 σ H1 x v Q I1 r1 q1)
/-! ### ints -/
theorem opI {f : Value → Value → Sem Value} {C : Int → Int → Prop} {g : Int → Int → Int}
    (rule : ∀ (i j : Int) (t u : Tok) (s : Shared) (Q : Value → Shared → Prop) (E : Value → Shared → Prop), C i j → Q (.int (g i j) s.toks) { s with toks := s.toks + 1 } → wpAny (model X.prog X.w) X.A (f (.int i t) (.int j u)) Q E s) :
    OpR X f (rI C fun i j => .int (g i j)) := by
  intro pins s σ H x y v u Q I rx ry h
  obtain ⟨i, j, rfl, rfl, hc, q⟩ := h
  obtain ⟨t, rfl⟩ := rx
  obtain ⟨t', rfl⟩ := ry
  exact rule i j t t' s _ _ hc ⟨.int (g i j), H, I.tok _, ⟨_, rfl⟩, q⟩
theorem opI0 {f : Value → Value → Sem Value} {g : Int → Int → Int}
    (rule : ∀ (i j : Int) (t u : Tok) (s : Shared) (Q : Value → Shared → Prop) (E : Value → Shared → Prop), Q (.int (g i j) s.toks) { s with toks := s.toks + 1 } → wpAny (model X.prog X.w) X.A (f (.int i t) (.int j u)) Q E s) :
    OpR X f (rI0 fun i j => .int (g i j)) := by
  intro pins s σ H x y v u Q I rx ry h
  obtain ⟨i, j, rfl, rfl, q⟩ := h
  obtain ⟨t, rfl⟩ := rx
  obtain ⟨t', rfl⟩ := ry
  exact rule i j t t' s _ _ ⟨.int (g i j), H, I.tok _, ⟨_, rfl⟩, q⟩
theorem opB0 {f : Value → Value → Sem Value} {g : Int → Int → Bool}
    (rule : ∀ (i j : Int) (t u : Tok) (s : Shared) (Q : Value → Shared → Prop) (E : Value → Shared → Prop), Q (.bool (g i j)) s → wpAny (model X.prog X.w) X.A (f (.int i t) (.int j u)) Q E s) :
    OpR X f (rI0 fun i j => .bl (g i j)) := by
  intro pins s σ H x y v u Q I rx ry h
  obtain ⟨i, j, rfl, rfl, q⟩ := h
  obtain ⟨t, rfl⟩ := rx
  obtain ⟨t', rfl⟩ := ry
  exact rule i j t t' s _ _ ⟨.bl (g i j), H, I, rfl, q⟩

noncomputable def CDiv (i j : Int) : Prop := 0 < j ∧ j < 1073741824
noncomputable def CPow (i j : Int) : Prop := 0 ≤ j ∧ j ≤ 1000000 ∧ i.natAbs < 2 ^ 64
noncomputable def CMul (i j : Int) : Prop := (-(2 ^ 64) < i ∧ i < 2 ^ 64) ∨ (-(2 ^ 64) < j ∧ j < 2 ^ 64)
theorem CMul.ok {i j : Int} (h : CMul i j) : IntMulOk i j := by
  rcases h with ⟨h1, h2⟩ | ⟨h1, h2⟩
  · exact .of_left (intBits_le_64 h1 h2)
  · exact .of_right (intBits_le_64 h1 h2)
theorem two_pow_nn (k : Nat) : (0 : Int) ≤ 2 ^ k := by
  rw [two_pow_cast]
  exact Int.natCast_nonneg _

theorem op_add : OpR X (binaryOp .Add) (rI0 fun i j => .int (i + j)) := opI0 fun _ _ _ _ _ _ _ q => add_int q
theorem op_sub : OpR X (binaryOp .Sub) (rI0 fun i j => .int (i - j)) := opI0 fun _ _ _ _ _ _ _ q => sub_int q
theorem op_mul : OpR X (binaryOp .Mult) (rI CMul fun i j => .int (i * j)) := opI fun _ _ _ _ _ _ _ hc q => mul_int q hc.ok
/-- // by a positive divisor -/
theorem op_fdiv : OpR X (binaryOp .FloorDiv) (rI CDiv fun i j => .int (i / j)) := opI fun i j _ _ _ _ _ hc q => by
  have h1 : (0 : Int) < j := hc.1
  have h2 : j < 1073741824 := hc.2
  exact floordiv_int (by omega) (by rw [Int.fdiv_eq_ediv_of_nonneg i (by omega)]; exact q) (.inl (PyProof.noPylong_small (by omega)))
/-- % by a positive divisor of any size -/
theorem op_mod : OpR X (binaryOp .Mod) (rI (fun _ j => 0 < j) fun i j => .int (i % j)) := opI fun i j _ _ _ _ _ hc q => by
  have h1 : (0 : Int) < j := hc
  exact mod_int' (by omega) (by rw [Int.fmod_eq_emod_of_nonneg i (by omega)]; exact q)
theorem op_pow : OpR X (binaryOp .Pow) (rI CPow fun i j => .int (i ^ j.toNat)) := opI fun _ _ _ _ _ _ _ hc q => pow_int_small hc.1 hc.2.1 hc.2.2 q
theorem op_shl : OpR X (binaryOp .LShift) (rI CPow fun i j => .int (i * 2 ^ j.toNat)) := opI fun _ _ _ _ _ _ _ hc q => lshift_int_small hc.1 hc.2.1 hc.2.2 q
theorem op_shr : OpR X (binaryOp .RShift) (rI (fun _ j => 0 ≤ j) fun i j => .int (i / 2 ^ j.toNat)) := opI fun i j _ _ _ _ _ hc q =>
  rshift_int hc (by rw [Int.fdiv_eq_ediv_of_nonneg i (two_pow_nn _)]; exact q)
theorem op_and : OpR X (binaryOp .BitAnd) (rI0 fun i j => .int (Builtin.bitAnd i j)) := opI0 fun _ _ _ _ _ _ _ q => and_int q
theorem op_or : OpR X (binaryOp .BitOr) (rI0 fun i j => .int (Builtin.bitOr i j)) := opI0 fun _ _ _ _ _ _ _ q => or_int q
theorem unI {f : Value → Sem Value} {g : Int → Int}
    (rule : ∀ (i : Int) (t : Tok) (s : Shared) (Q : Value → Shared → Prop) (E : Value → Shared → Prop), Q (.int (g i) s.toks) { s with toks := s.toks + 1 } → wpAny (model X.prog X.w) X.A (f (.int i t)) Q E s) :
    UnR X f (rU fun i => .int (g i)) := by
  intro pins s σ H x v Q I rx h
  obtain ⟨i, rfl, q⟩ := h
  obtain ⟨t, rfl⟩ := rx
  exact rule i t s _ _ ⟨.int (g i), H, I.tok _, ⟨_, rfl⟩, q⟩
theorem un_inv : UnR X (unaryOp .Invert) (rU fun i => .int (Builtin.bitNot i)) := unI fun _ _ _ _ _ q => invert_int q

/-! ### bools among ints: n += (a < b) -/
end

/-! ### comparisons -/
/-- the scalars that == tells apart as data does -/
noncomputable def scal : V → V → Bool
  | .non, .non => true | .non, .int _ => true | .int _, .non => true | .non, .bl _ => true | .bl _, .non => true | .non, .str _ => true | .str _, .non => true
  | .int _, .int _ => true | .bl _, .bl _ => true | .str _, .str _ => true | .byt _, .byt _ => true
  | .int _, .str _ => true | .str _, .int _ => true | .bl _, .str _ => true | .str _, .bl _ => true
  | _, _ => false
noncomputable def rEq : R2 := fun x y H Q => scal x y = true ∧ Q (.bl (decide (x = y))) H
noncomputable def rNe : R2 := fun x y H Q => scal x y = true ∧ Q (.bl (!decide (x = y))) H

theorem dec_int {i j : Int} : decide (V.int i = V.int j) = (i == j) := by
  rw [Bool.eq_iff_iff]
  simp
theorem dec_bl {i j : Bool} : decide (V.bl i = V.bl j) = (i == j) := by
  rw [Bool.eq_iff_iff]
  simp
theorem dec_str {i j : Str} : decide (V.str i = V.str j) = (i == j) := by
  rw [Bool.eq_iff_iff]
  simp
theorem dec_byt {i j : Array UInt8} : decide (V.byt i = V.byt j) = (i.toList == j.toList) := by
  rw [Bool.eq_iff_iff]
  cases i
  cases j
  simp

section
variable {X : Cx} {a b c : Expr} {ta tb tc : TE} {pos : Pos}
theorem fin_bl {pins : List (Addr × Obj)} {σ : St} {H : Hp} {s : Shared} {Q : VK} {k k' : Bool} (I : Inv X pins σ H s) (q : Q (.bl k) H) (e : k = k') : EP X pins σ Q (.bool k') s := by
  subst e
  exact ⟨.bl k, H, I, rfl, q⟩
theorem op_eq : OpR X (compareOp .Eq) rEq := by
  intro pins s σ H x y v u Q I rx ry h
  obtain ⟨hs, q⟩ := h
  cases x with
  | non =>
    cases rx
    cases y with
    | non => cases ry; exact PySem.EqNone.eq_none_none (fin_bl I q (by simp))
    | bl j => cases ry; exact PySem.EqNone.eq_none_bool (fin_bl I q (by simp))
    | int j => obtain ⟨t', rfl⟩ := ry; exact PySem.EqNone.eq_none_int (fin_bl I q (by simp))
    | str j => obtain ⟨t', rfl⟩ := ry; exact PySem.EqNone.eq_none_str (fin_bl I q (by simp))
    | _ => exact absurd (show false = true from hs) Bool.false_ne_true
  | bl i =>
    cases rx
    cases y with
    | non => cases ry; exact PySem.EqNone.eq_bool_none (fin_bl I q (by simp))
    | bl j => cases ry; exact eq_bool (fin_bl I q dec_bl)
    | str j => obtain ⟨t', rfl⟩ := ry; exact PySem.EqMixed.eq_bool_str (fin_bl I q (by simp))
    | _ => exact absurd (show false = true from hs) Bool.false_ne_true
  | int i =>
    obtain ⟨t, rfl⟩ := rx
    cases y with
    | non => cases ry; exact PySem.EqNone.eq_int_none (fin_bl I q (by simp))
    | int j => obtain ⟨t', rfl⟩ := ry; exact eq_int (fin_bl I q dec_int)
    | str j => obtain ⟨t', rfl⟩ := ry; exact PySem.EqMixed.eq_int_str (fin_bl I q (by simp))
    | _ => exact absurd (show false = true from hs) Bool.false_ne_true
  | str i =>
    obtain ⟨t, rfl⟩ := rx
    cases y with
    | non => cases ry; exact PySem.EqNone.eq_str_none (fin_bl I q (by simp))
    | bl j => cases ry; exact PySem.EqMixed.eq_str_bool (fin_bl I q (by simp))
    | int j => obtain ⟨t', rfl⟩ := ry; exact PySem.EqMixed.eq_str_int (fin_bl I q (by simp))
    | str j => obtain ⟨t', rfl⟩ := ry; exact eq_str (fin_bl I q dec_str)
    | _ => exact absurd (show false = true from hs) Bool.false_ne_true
  | byt i =>
    obtain ⟨t, rfl⟩ := rx
    cases y with
    | byt j => obtain ⟨t', rfl⟩ := ry; exact PySem.W.eq_bytes (fin_bl I q dec_byt)
    | _ => exact absurd (show false = true from hs) Bool.false_ne_true
  | _ => cases y <;> exact absurd (show false = true from hs) Bool.false_ne_true
theorem op_ne : OpR X (compareOp .NotEq) rNe := by
  intro pins s σ H x y v u Q I rx ry h
  obtain ⟨hs, q⟩ := h
  cases x with
  | non =>
    cases rx
    cases y with
    | non => cases ry; exact PySem.EqNone.ne_none_none (fin_bl I q (by simp))
    | bl j => cases ry; exact PySem.EqNone.ne_none_bool (fin_bl I q (by simp))
    | int j => obtain ⟨t', rfl⟩ := ry; exact PySem.EqNone.ne_none_int (fin_bl I q (by simp))
    | str j => obtain ⟨t', rfl⟩ := ry; exact PySem.EqNone.ne_none_str (fin_bl I q (by simp))
    | _ => exact absurd (show false = true from hs) Bool.false_ne_true
  | bl i =>
    cases rx
    cases y with
    | non => cases ry; exact PySem.EqNone.ne_bool_none (fin_bl I q (by simp))
    | bl j => cases ry; exact ne_bool (fin_bl I q (congrArg not dec_bl))
    | str j => obtain ⟨t', rfl⟩ := ry; exact PySem.EqMixed.ne_bool_str (fin_bl I q (by simp))
    | _ => exact absurd (show false = true from hs) Bool.false_ne_true
  | int i =>
    obtain ⟨t, rfl⟩ := rx
    cases y with
    | non => cases ry; exact PySem.EqNone.ne_int_none (fin_bl I q (by simp))
    | int j => obtain ⟨t', rfl⟩ := ry; exact ne_int (fin_bl I q (congrArg not dec_int))
    | str j => obtain ⟨t', rfl⟩ := ry; exact PySem.EqMixed.ne_int_str (fin_bl I q (by simp))
    | _ => exact absurd (show false = true from hs) Bool.false_ne_true
  | str i =>
    obtain ⟨t, rfl⟩ := rx
    cases y with
    | non => cases ry; exact PySem.EqNone.ne_str_none (fin_bl I q (by simp))
    | bl j => cases ry; exact PySem.EqMixed.ne_str_bool (fin_bl I q (by simp))
    | int j => obtain ⟨t', rfl⟩ := ry; exact PySem.EqMixed.ne_str_int (fin_bl I q (by simp))
    | str j => obtain ⟨t', rfl⟩ := ry; exact ne_str (fin_bl I q (congrArg not dec_str))
    | _ => exact absurd (show false = true from hs) Bool.false_ne_true
  | byt i =>
    obtain ⟨t, rfl⟩ := rx
    cases y with
    | byt j => obtain ⟨t', rfl⟩ := ry; exact PySem.W.ne_bytes (fin_bl I q (congrArg not dec_byt))
    | _ => exact absurd (show false = true from hs) Bool.false_ne_true
  | _ => cases y <;> exact absurd (show false = true from hs) Bool.false_ne_true

theorem op_lt : OpR X (compareOp .Lt) (rI0 fun i j => .bl (decide (i < j))) := opB0 fun _ _ _ _ _ _ _ q => lt_int q
theorem op_le : OpR X (compareOp .LtE) (rI0 fun i j => .bl (decide (i ≤ j))) := opB0 fun _ _ _ _ _ _ _ q => le_int q
theorem op_gt : OpR X (compareOp .Gt) (rI0 fun i j => .bl (decide (j < i))) := opB0 fun _ _ _ _ _ _ _ q => gt_int q
/-- is None, is not None: the right side a value none -/
theorem op_isN : OpR X (compareOp .Is) (fun x y H Q => y = .non ∧ Q (.bl (decide (x = .non))) H) := by
  intro pins s σ H x y v u Q I rx ry h
  obtain ⟨rfl, q⟩ := h
  cases ry
  refine is_none_gen (fin_bl I q ?_)
  cases x <;> first
    | (cases rx; rfl)
    | (obtain ⟨t, rfl⟩ := rx; rfl)
theorem op_notN : OpR X (compareOp .IsNot) (fun x y H Q => y = .non ∧ Q (.bl (!decide (x = .non))) H) := by
  intro pins s σ H x y v u Q I rx ry h
  obtain ⟨rfl, q⟩ := h
  cases ry
  refine isnot_none_gen (fin_bl I q ?_)
  cases x <;> first
    | (cases rx; rfl)
    | (obtain ⟨t, rfl⟩ := rx; rfl)

theorem nomark (b : Expr) {op : CmpOp} (h : op ≠ .In := by decide) (h2 : op ≠ .NotIn := by decide) : behindInMarks op b = false := by
  have e1 : (op == CmpOp.In) = false := by cases op <;> first | rfl | exact absurd rfl h
  have e2 : (op == CmpOp.NotIn) = false := by cases op <;> first | rfl | exact absurd rfl h2
  cases b <;> simp [behindInMarks, e1, e2]
/-- a comparison as a value; hm: nomark b, or (for in, not in) by with_unfolding_all rfl -/
theorem pe_cmpR {op : CmpOp} {r : R2} (ho : OpR X (compareOp op) r) (ha : PE X a ta) (hb : PE X b tb) (hm : behindInMarks op b = false) : PE X (.Compare a [op] [b] pos) (tOp r ta tb) := by
  intro pins s σ H Q I h
  exact wpAny_Compare1 (binT ha hb I h fun v u s2 x y H2 I2 rx ry q => ho pins s2 σ H2 x y v u Q I2 rx ry q) hm
/-- a reading of a value as a test -/
noncomputable def tTest (t : TE) : TT := fun σ H Q => t σ H fun x H' => ∃ k, x = .bl k ∧ Q k H'
theorem pt_cmpR {op : CmpOp} {r : R2} (ho : OpR X (compareOp op) r) (ha : PE X a ta) (hb : PE X b tb) (hm : behindInMarks op b = false) : PT X (.Compare a [op] [b] pos) (tTest (tOp r ta tb)) := by
  intro pins s σ H Q I h
  refine wpAny_isTrue_Compare1 (thn (ha pins s σ H _ I h) fun v s1 ⟨x, H1, I1, r1, q1⟩ => thn (hb pins s1 σ H1 _ I1 q1) fun u s2 ⟨y, H2, I2, r2, q2⟩ =>
    thn (ho pins s2 σ H2 x y v u _ I2 r1 r2 q2) fun c s3 ⟨z, H3, I3, r3, k, e, q3⟩ => ?_) hm
  subst e
  cases r3
  exact wpAny_truthy_bool ⟨H3, I3, q3⟩
/-! ### truth -/
theorem line63 : (sizeLine : Nat) < 2 ^ 63 := by rw [sizeLine_eq]; decide
/-! ### strs and bytes -/
/-! ### scalar builtins, by CallR -/
theorem vals1 {x : V} {us : List Value} (r : Vals [x] us) : ∃ u, us = [u] ∧ RelV x u := by
  cases r with
  | cons r1 r2 => cases r2; exact ⟨_, rfl, r1⟩
theorem vals2 {x y : V} {us : List Value} (r : Vals [x, y] us) : ∃ u w', us = [u, w'] ∧ RelV x u ∧ RelV y w' := by
  cases r with
  | cons r1 r2 =>
    cases r2 with
    | cons r3 r4 => cases r4; exact ⟨_, _, rfl, r1, r3⟩
theorem call_int1 : CallR X (.type "int") (fun xs H Q => (∃ i, xs = [.int i] ∧ Q (.int i) H) ∨ ∃ k, xs = [.bl k] ∧ Q (.int (if k then 1 else 0)) H) := by
  intro pins s σ H xs us Q I r h
  rcases h with ⟨i, rfl, q⟩ | ⟨k, rfl, q⟩
  · obtain ⟨u, rfl, t, rfl⟩ := vals1 r
    exact call_int_int ⟨.int i, H, I, ⟨_, rfl⟩, q⟩
  · obtain ⟨u, rfl, r1⟩ := vals1 r
    cases r1
    exact call_int_bool ⟨.int (if k then 1 else 0), H, I.tok _, ⟨_, rfl⟩, q⟩
end
end L2

namespace L2
open PySem PySem.Spec PyProof.Rows

/-! ### an instance, its attributes a map -/
section
variable {prog : Program} {w : World} {A : Around} {E : Value → Shared → Prop} {s : Shared} {K : PySem.W.Frag} {x dx C f : Addr} {mA : Str → Option Value} {name : Str} {v : Value}

end

/-! ### the attributes as a list of pairs -/
section
variable {P : Program} {w : World} {H H' : Hp} {h h' : Heap} {a C dx : Addr} {fs fs' : List (Str × V)}
end

/-! ### what of the text a class must have -/
section
variable {X : Cx} {pins : List (Addr × Obj)} {σ : St} {H : Hp} {s : Shared} {a C dx : Addr} {fs : List (Str × V)} {f : Str} {v : V} {A : Around} {E : Value → Shared → Prop}

end

/-! ### readings and rules -/
section
variable {X : Cx} {o e value : Expr} {f : Str} {pos pos' tpos : Pos} {ta tv : TE}
end

/-! ### isinstance -/
section
variable {X : Cx} {pins : List (Addr × Obj)} {σ : St} {H : Hp} {s : Shared} {A : Around} {E : Value → Shared → Prop} {Q : Value → Shared → Prop} {c : Value} {b : Bool}
end
end L2

namespace L2
open PySem PySem.Spec PyProof.Rows

/-! ### room -/
structure Room (k : Nat) (A : Around) : Prop where
  hd : A.handled = none
  dp : A.depth + 3 * k + 5 < recursionLimit
  un : A.units + 16 * k + 200 < cLine
theorem Room.mono {j k : Nat} {A : Around} (r : Room k A) (h : j ≤ k) : Room j A := ⟨r.hd, by have := r.dp; omega, by have := r.un; omega⟩
theorem Room.deeper {k : Nat} {A : Around} (r : Room (k + 1) A) (env : Env) : Room k (A.deeper env) :=
  ⟨r.hd, by have := r.dp; show A.depth + 1 + 3 * k + 5 < _; omega, by have := r.un; show A.units + 3 + 16 * k + 200 < _; omega⟩
theorem Room.depth {k : Nat} {A : Around} (r : Room k A) : A.depth < recursionLimit := by have := r.dp; omega
theorem Room.units {k : Nat} {A : Around} (r : Room k A) : A.units + 64 < cLine := by have := r.un; omega
theorem Room.units0 {k : Nat} {A : Around} (r : Room k A) : A.units < cLine := by have := r.un; omega

/-! ### argument lists and displays -/
noncomputable def tNil : TA := fun _ H Q => Q [] H
noncomputable def tCons (ta : TE) (tr : TA) : TA := fun σ H Q => ta σ H fun x H1 => tr σ H1 fun xs H2 => Q (x :: xs) H2
section
variable {X : Cx} {e : Expr} {es : List Expr} {te : TE} {t : TA} {pos : Pos}
theorem pa_nil : PA X [] tNil := fun _ _ _ _ H Q I h => Calls.spliced_nil ⟨[], H, I, .nil, h⟩
theorem pa_cons (ha : PE X e te) (hr : PA X es t) (hs : starEach (e :: es) X.env = (false, eval e X.env) :: starEach es X.env := by rfl) : PA X (e :: es) (tCons te t) := by
  intro pos pins s σ H Q I h
  rw [hs]
  show wpAny _ _ (spliced ((false, eval e X.env) :: backTo pos (starEach es X.env))) _ _ s
  refine Calls.spliced_cons (thn (ha pins s σ H _ I h) fun u s1 ⟨x, H1, I1, r1, q1⟩ => ?_)
  exact thn (hr pos pins s1 σ H1 _ I1 q1) fun us s2 ⟨xs, H2, I2, r2, q2⟩ => ⟨x :: xs, H2, I2, .cons r1 r2, q2⟩

/-- a tuple, a list of written items -/
noncomputable def tTup (t : TA) : TE := fun σ H Q => t σ H fun xs H1 => xs.length ≤ sizeLine ∧ ∀ p, H1 p = none → Q (.ref p) (upd H1 p (.tup xs))
noncomputable def tLst (t : TA) : TE := fun σ H Q => t σ H fun xs H1 => xs.length ≤ sizeLine ∧ ∀ p, H1 p = none → Q (.ref p) (upd H1 p (.lst xs))
theorem pe_tup {x1} (h : PA X es t) : PE X (.Tuple es x1 pos) (tTup t) := by
  intro pins s σ H Q I hq
  refine wpAny_Tuple_spliced (thn (h pos pins s σ H _ I hq) fun us s1 ⟨xs, H1, I1, r, z, q⟩ => ⟨by rw [← r.length]; exact z, ?_⟩)
  have hf : H1 s1.heap.objs.size = none := I1.hok.fresh (Nat.le_refl _)
  refine ⟨.ref s1.heap.objs.size, upd H1 s1.heap.objs.size (.tup xs), I1.laid (t' := s1.toks) (fun b u e => Heap.get?_push_of_some _ e) (Nat.le_refl _) ?_, rfl, q _ hf⟩
  exact ⟨z, us, r, ⟨_, Heap.get?_push_size _ rfl, rfl, _, rfl⟩⟩
theorem pe_lst (h : PA X es t) : PE X (.List es pos) (tLst t) := by
  intro pins s σ H Q I hq
  refine wpAny_List_spliced (thn (h pos pins s σ H _ I hq) fun us s1 ⟨xs, H1, I1, r, z, q⟩ => ⟨by rw [← r.length]; exact z, ?_⟩)
  have hf : H1 s1.heap.objs.size = none := I1.hok.fresh (Nat.le_refl _)
  refine ⟨.ref s1.heap.objs.size, upd H1 s1.heap.objs.size (.lst xs), I1.laid (t' := s1.toks) (fun b u e => Heap.get?_push_of_some _ e) (Nat.le_refl _) ?_, rfl, q _ hf⟩
  exact ⟨z, us, 0, r, Heap.get?_push_size _ rfl⟩
end

/-! ### what a def promises -/
/-- a def's promise: the bound arguments in the parameters' order, the heap, the wanted end, the wanted exception -/
noncomputable abbrev Sp := List V → Hp → VK → XK → Prop
/-- how an exception lies behind a call (file 08 gives it): the callers' frames, abstract heap and state ahead of the call, the wish, the exception, the state -/
noncomputable abbrev CXT := List Env → Hp → Shared → XK → Value → Shared → Prop

/-- the state at a call -/
structure Env0 (P : Program) (w : World) (K : PySem.W.Frag) (mg : Str → Option Value) (base : Heap) (A : Around) (outer : List Env) (s : Shared) (H : Hp) : Prop where
  frames : A.frames = some outer
  mod : Mod K mg base
  bs : ∀ b o, base.get? b = some o → s.heap.get? b = some o ∧ H b = none
  bsz : base.objs.size ≤ s.heap.objs.size
  funs : s.heap.FunFrames base outer
  frf : ∀ b ∈ frs outer, H b = none
  hok : HOk P w H s.heap
  bare : AllBare s.gens
/-- a call's end -/
noncomputable def CE (outer : List Env) (P : Program) (w : World) (H : Hp) (s : Shared) (Q : VK) (u : Value) (s' : Shared) : Prop :=
  ∃ v H', s'.os = s.os ∧ AllBare s'.gens ∧ Un (frs outer) [] H H' s.heap s'.heap ∧ HOk P w H' s'.heap ∧ RelV v u ∧ Q v H'
noncomputable def CR (CX : CXT) (outer : List Env) (P : Program) (w : World) (H : Hp) (s : Shared) (Q : VK) (E : XK) (r : Result) (s' : Shared) : Prop :=
  match r with
  | .ok (.ret u) => CE outer P w H s Q u s'
  | .ok _ => False
  | .error e => CX outer H s E e s'
structure FnOk (P : Program) (w : World) (K : PySem.W.Frag) (mg : Str → Option Value) (base : Heap) (CX : CXT) (k : Nat) (f : Addr) (fd : FuncData) (ps : List Str) (sp : Sp) : Prop where
  len : ∀ vs H Q E, sp vs H Q E → vs.length = ps.length
  run : ∀ (A : Around) (outer : List Env) (s : Shared) (H : Hp) (args : Args) (us : List Value) (vs : List V) (Q : VK) (E : XK), Room k A → Env0 P w K mg base A outer s H → BindsTo s fd args (ps.zip us) → Vals vs us → sp vs H Q E →
    codeAny (model P w) A (.call (.ref f) args) (CR CX outer P w H s Q E) s
section
variable {X : Cx} {pins : List (Addr × Obj)} {σ : St} {H : Hp} {s s' : Shared}
/-- from a body: what a callee wants -/
theorem Inv.env0 (I : Inv X pins σ H s) : Env0 X.prog X.w X.K X.mg X.base X.A X.stack s H :=
  ⟨I.ok.frames, I.ok.mod, I.bs, Nat.le_trans I.ok.bsz I.sz, I.stack, I.stkFree, I.hok, I.bare⟩
/-- behind a call -/
theorem Inv.after {Q : VK} {u : Value} (I : Inv X pins σ H s) (h : CE X.stack X.prog X.w H s Q u s') : EP X pins σ Q u s' := by
  obtain ⟨v, H', os, bare, un, hok, r, q⟩ := h
  obtain ⟨hh, g, d, t, os'⟩ := s'
  obtain rfl : os' = s.os := os
  exact ⟨v, H', I.call (h' := hh) (g' := g) (d' := d) (t' := t) (ch := []) un hok bare (fun b z => absurd z (by simp)), r, q⟩
end

/-! ### calls -/
/-- f(..): the written arguments, then the defaults dvs; E: what is wanted of an exception -/
noncomputable def tCall (sp : Sp) (dvs : List V) (E : XK) (t : TA) : TE := fun σ H Q => t σ H fun vs H1 => sp (vs ++ dvs) H1 Q E
/-- how the parameters are bound: us the positional arguments, kw the keywords' values by name, ds the defaults that fill up -/
noncomputable def Binds (K : PySem.W.Frag) (fd : FuncData) (ps : List Str) (ds : List Value) : Prop :=
  ∀ (s : Shared) (us : List Value), K.In s.heap → (us ++ ds).length = ps.length → BindsTo s fd ⟨us, []⟩ (ps.zip (us ++ ds))
/-- every parameter is given -/
theorem Binds.all {K : PySem.W.Frag} {fd : FuncData} {ps : List Str} (h : ∀ us : List Value, us.length = ps.length → bindArgs fd ⟨us, []⟩ = pure (ps.zip us)) : Binds K fd ps [] := fun s us _ hl => by
  rw [List.append_nil] at hl ⊢
  exact .of_eq (h us hl)

/-- an exception of a callee reaches what this body wants of exceptions -/
noncomputable def Passes (CX : CXT) (X : Cx) (E : XK) : Prop := ∀ (pins : List (Addr × Obj)) (σ : St) (H : Hp) (s : Shared) (e : Value) (s' : Shared), Inv X pins σ H s → CX X.stack H s E e s' → X.xe e s'

section
variable {X : Cx} {CX : CXT} {k : Nat} {f C : Addr} {fd : FuncData} {ps : List Str} {sp : Sp} {dvs : List V} {ds : List Value} {E : XK} {x m : Str} {p pos apos : Pos} {e o : Expr} {es : List Expr} {ta : TE} {t : TA}

/-- the callee runs -/
theorem run_fn {pins : List (Addr × Obj)} {σ : St} {H : Hp} {s : Shared} {Q : VK} {us : List Value} {vs : List V} (F : FnOk X.prog X.w X.K X.mg X.base CX k f fd ps sp) (hr : Room k X.A) (hb : Binds X.K fd ps ds) (hd : Vals dvs ds) (hx : Passes CX X E)
    (I : Inv X pins σ H s) (r : Vals vs us) (h : sp (vs ++ dvs) H Q E) : wpAny (model X.prog X.w) X.A (call (.ref f) us) (EP X pins σ Q) X.xe s := by
  have r2 : Vals (vs ++ dvs) (us ++ ds) := r.append hd
  have hl : (us ++ ds).length = ps.length := by rw [← r2.length]; exact F.len _ _ _ _ h
  refine wpAny_call (codeAny_mono (F.run X.A X.stack s H ⟨us, []⟩ (us ++ ds) (vs ++ dvs) Q E hr I.env0 (hb s us I.kIn hl) r2 h) fun r s' hq => ?_)
  cases r with
  | error e => exact hx pins σ H s e s' I hq
  | ok fl =>
    cases fl with
    | ret u => exact I.after hq
    | next => exact False.elim hq
    | brk => exact False.elim hq
    | cont => exact False.elim hq

theorem pe_call (F : FnOk X.prog X.w X.K X.mg X.base CX k f fd ps sp) (hr : Room k X.A) (hg : Gl X x) (hm : X.mg x = some (.ref f)) (hk : PySem.W.keepIn X.K (.ref f) = true) (hb : Binds X.K fd ps ds) (hd : Vals dvs ds) (hx : Passes CX X E)
    (ha : PA X (e :: es) t) (hdb : (x == ("__debug__" : Str)) = false := by decide) (he : starEach (e :: es) X.env = (false, eval e X.env) :: starEach es X.env := by rfl) (hpl : (backTo pos (starEach es X.env)).any (·.1) = false := by rfl) :
    PE X (.Call (.Name x p) (e :: es) [] pos) (tCall sp dvs E t) := by
  intro pins s σ H Q I h
  refine wpAny_Call_Name_kw (ld_glob I hg hm ?_ hdb)
  refine PySem.W.callWith_K (h₀ := X.base) I.ok.mod.kin hk (thn (ha pos pins s σ H _ I h) fun us s1 ⟨vs, H1, I1, r, q⟩ => ⟨I1.kIn, ?_⟩) he hpl
  exact run_fn F hr hb hd hx I1 r q
end

/-! ### keywords -/
section
variable {X : Cx} {CX : CXT} {k : Nat} {f C : Addr} {fd : FuncData} {ps ks : List Str} {sp : Sp} {E : XK} {x m : Str} {p pos apos kpos : Pos} {e o : Expr} {es : List Expr} {kws : List Keyword} {te ta : TE} {t tk : TA} {nm : Option Str}
variable {g : List Value → List Value → List Value} {gV : List V → List V → List V}
end

/-! ### a def's body keeps its promise -/
/-- names: the parameters first -/
structure FnScope (N P : List Str) (sc : Scope) : Prop where
  kind : sc.kind = .function
  co : sc.isCoroutine = false
  gen : sc.isGenerator = false
  nd : N.Nodup
  pre : N.take P.length = P
  par : ∀ x ∈ P, sc.names.lookup x = some .local ∨ sc.names.lookup x = some .cell
  nofree : ∀ y ∈ sc.names, y.2 ≠ .free

theorem bindL_out {kindOf : Str → Option NameKind} {x : Str} : ∀ {binds : List (Str × Value)} {m : Str → Option Value}, (∀ v, (x, v) ∉ binds) → bindL kindOf binds m x = m x
  | [], _, _ => rfl
  | (n, v) :: r, m, h => by
    unfold bindL
    rw [bindL_out fun w hw => h w (List.mem_cons_of_mem _ hw)]
    split
    · have : x ≠ n := by rintro rfl; exact h v List.mem_cons_self
      simp [this]
    · rfl
theorem bindC_out {kindOf : Str → Option NameKind} {x : Str} : ∀ {binds : List (Str × Value)} {m : Str → Option Value}, (∀ v, (x, v) ∉ binds) → bindC kindOf binds m x = m x
  | [], _, _ => rfl
  | (n, v) :: r, m, h => by
    unfold bindC
    rw [bindC_out fun w hw => h w (List.mem_cons_of_mem _ hw)]
    split
    · rfl
    · have : x ≠ n := by rintro rfl; exact h v List.mem_cons_self
      simp [this]
theorem bindL_get {kindOf : Str → Option NameKind} {x : Str} {v : Value} : ∀ {P : List Str} {vs : List Value} {i : Nat} {m : Str → Option Value}, P.Nodup → P[i]? = some x → vs[i]? = some v → kindOf x = some .local →
    bindL kindOf (P.zip vs) m x = some v
  | [], _, _, _, _, h, _, _ => by simp at h
  | _ :: _, [], _, _, _, _, h, _ => by simp at h
  | p :: P, w :: vs, 0, m, nd, h1, h2, hk => by
    simp at h1 h2; subst h1; subst h2
    show bindL kindOf ((p, w) :: P.zip vs) m p = _
    unfold bindL
    rw [bindL_out fun v hv => (List.nodup_cons.mp nd).1 (List.of_mem_zip hv).1, if_pos hk]
    simp
  | p :: P, w :: vs, i + 1, m, nd, h1, h2, hk => by
    show bindL kindOf ((p, w) :: P.zip vs) m x = _
    unfold bindL
    exact bindL_get (i := i) (List.nodup_cons.mp nd).2 (by simpa using h1) (by simpa using h2) hk
theorem bindC_get {kindOf : Str → Option NameKind} {x : Str} {v : Value} : ∀ {P : List Str} {vs : List Value} {i : Nat} {m : Str → Option Value}, P.Nodup → P[i]? = some x → vs[i]? = some v → kindOf x ≠ some .local →
    bindC kindOf (P.zip vs) m x = some v
  | [], _, _, _, _, h, _, _ => by simp at h
  | _ :: _, [], _, _, _, _, h, _ => by simp at h
  | p :: P, w :: vs, 0, m, nd, h1, h2, hk => by
    simp at h1 h2; subst h1; subst h2
    show bindC kindOf ((p, w) :: P.zip vs) m p = _
    unfold bindC
    rw [bindC_out fun v hv => (List.nodup_cons.mp nd).1 (List.of_mem_zip hv).1, if_neg hk]
    simp
  | p :: P, w :: vs, i + 1, m, nd, h1, h2, hk => by
    show bindC kindOf ((p, w) :: P.zip vs) m x = _
    unfold bindC
    exact bindC_get (i := i) (List.nodup_cons.mp nd).2 (by simpa using h1) (by simpa using h2) hk

/-- the names' values at the entry -/
noncomputable def start (N : List Str) (vs : List V) : St := vs.map some ++ List.replicate (N.length - vs.length) none

/-- the context of a def's body, at its entry; an exception leaves the frame, then lies as CX says -/
noncomputable def cxOf (CX : CXT) (P : Program) (w : World) (K : PySem.W.Frag) (mg : Str → Option Value) (base : Heap) (N : List Str) (qual : Str) (scope : Scope) (f : Addr) (cd : Value) (A : Around) (outer : List Env) (s : Shared) (H : Hp) (E : XK) : Cx where
  prog := P
  w := w
  K := K
  mg := mg
  base := base
  A := A.deeper (envOfC qual scope s.heap.objs.size f cd)
  N := N
  s₀ := s
  H₀ := H
  env := envOfC qual scope s.heap.objs.size f cd
  outer := outer
  stack := envOfC qual scope s.heap.objs.size f cd :: outer
  ex := []
  calm := true
  fn := fun _ => true
  pn := []
  xe := fun e s' => wpAny (model P w) (A.deeper (envOfC qual scope s.heap.objs.size f cd)) (leaving (envOfC qual scope s.heap.objs.size f cd) e) (fun _ s'' => CX outer H s E e s'') (fun e' s'' => CX outer H s E e' s'') s'

theorem cell_has {sc : Scope} {n : Nat} {x : Str} (h : sc.names.lookup x = some .cell) : ∃ c, (cellsFrom n sc.names []).lookup x = some c := by
  have q := PySem.W.cellsFrom_some sc.names n [] (.inl h)
  exact Option.isSome_iff_exists.mp q

theorem inv_start {CX : CXT} {P : Program} {w : World} {K : PySem.W.Frag} {mg : Str → Option Value} {base : Heap} {N ps : List Str} {qual : Str} {scope : Scope} {f : Addr} {cd : Value} {A : Around} {outer : List Env} {s s1 : Shared} {H : Hp} {E : XK} {us : List Value} {vs : List V}
    (S : FnScope N ps scope) (hd : A.handled = none) (e0 : Env0 P w K mg base A outer s H) (hl : vs.length = ps.length) (r : Vals vs us)
    (x : InCallC s s.heap.objs.size (bindL (envOfC qual scope s.heap.objs.size f cd).kindOf (ps.zip us) fun _ => none) (cellsFrom (s.heap.objs.size + 1) scope.names []) (bindC (envOfC qual scope s.heap.objs.size f cd).kindOf (ps.zip us) fun _ => none) s1) :
    Inv (cxOf CX P w K mg base N qual scope f cd A outer s H E) [] (start N vs) H s1 := by
  have hpl : ps.length ≤ N.length := by have := congrArg List.length S.pre; rw [List.length_take] at this; omega
  obtain ⟨h1, tk, rfl, hk⟩ := x.done
  have noA : ∀ b : Addr, b ∉ (cxOf CX P w K mg base N qual scope f cd A outer s H E).ex := fun b z => absurd (show b ∈ ([] : List Addr) from z) (by simp)
  refine ⟨⟨e0.mod, S.kind, rfl, rfl, Nat.le_refl _, fun y z c h1 h2 => ?_, fun y hy => ?_, fun y c _ h => ?_, fun _ => hd, Around.frames_deeper e0.frames, .inr ⟨rfl, rfl⟩, fun b z => absurd z (noA b), e0.bs, e0.bsz, fun b _ _ => noA b, fun b z => absurd z (noA b), e0.funs, e0.frf⟩,
    rfl, e0.bare, Un.kept hk, ⟨_, x.toInCall.ns, fun i y v h1 h2 h3 => ?_⟩, fun y c h => ⟨_, x.cell y c h⟩, e0.hok.fresh (Nat.le_refl _), fun y c h => ?_, fun p hp => absurd (show p ∈ ([] : List (Addr × Obj)) from hp) (by simp), e0.hok.kept hk, ?_⟩
  · exact name_of_addr x.apart (PySem.mem_of_lookup h1) (PySem.mem_of_lookup h2)
  · have hy : scope.names.lookup y = some .cell ∨ scope.names.lookup y = some .free := hy
    rcases hy with hy | hy
    · exact cell_has hy
    · exact absurd rfl (S.nofree _ (PySem.mem_of_lookup hy))
  · exact Nat.le_of_lt (x.above y c (PySem.mem_of_lookup h))
  · have hi : i < vs.length := by
      unfold start at h2
      by_cases hi : i < vs.length
      · exact hi
      · rw [List.getElem?_append_right (by simpa using hi)] at h2
        rw [List.getElem?_replicate] at h2
        split at h2 <;> cases h2
    have ha : vs[i]? = some v := by
      unfold start at h2
      rw [List.getElem?_append_left (by simpa using hi), List.getElem?_map] at h2
      cases e : vs[i]? with
      | none => rw [e] at h2; cases h2
      | some a => rw [e] at h2; cases h2; rfl
    obtain ⟨u, hu, rv⟩ := r.get ha
    have hp : ps[i]? = some y := by
      rw [← S.pre, List.getElem?_take_of_lt (by omega)]; exact h1
    have ndP : ps.Nodup := by rw [← S.pre]; exact S.nd.sublist (List.take_sublist _ _)
    refine ⟨u, rv, ?_⟩
    rcases S.par y (List.mem_of_getElem? hp) with k | k
    · exact .inl ⟨k, bindL_get ndP hp hu k⟩
    · obtain ⟨c, e⟩ := cell_has (n := s.heap.objs.size + 1) k
      refine .inr ⟨.inl k, c, e, ?_⟩
      have q := x.cell y c e
      rw [bindC_get ndP hp hu (by show scope.names.lookup y ≠ _; rw [k]; decide)] at q
      exact q
  · exact e0.hok.fresh (Nat.le_of_lt (x.above y c (PySem.mem_of_lookup h)))
  · unfold start
    show _ = N.length
    rw [List.length_append, List.length_map, List.length_replicate]
    omega

/-- THE RULE: a def (or a method) of the text, by its body. The body's reading t is chosen for each entry; it is run at the parameters' values -/
theorem fn_of {CX : CXT} {P : Program} {w : World} {K : PySem.W.Frag} {mg : Str → Option Value} {base : Heap} {k : Nat} {f : Addr} {name qual : Str} {params : Arguments} {body : List Stmt} {scope : Scope} {dV kV doc pm cdv ct oc : Value} {an od : Option Addr}
    {osl : Array (Option Value)} {N ps : List Str} {sp : Sp} (lk : K.lookup f = some ⟨oc, od, .func (PySem.W.fnOf name qual params body scope dV kV doc pm an cdv ct), osl⟩) (hcd : PySem.W.codeIn K cdv qual = true) (S : FnScope N ps scope)
    (len : ∀ vs H Q E, sp vs H Q E → vs.length = ps.length)
    (hbody : ∀ (A : Around) (outer : List Env) (s : Shared) (H : Hp) (vs : List V) (Q : VK) (E : XK), Room k (A.deeper (envOfC qual scope s.heap.objs.size f cdv)) → sp vs H Q E →
      ∃ t, PSs (cxOf CX P w K mg base N qual scope f cdv A outer s H E) body t ∧ t { nx := fun _ H' => Q .non H', rt := Q } (start N vs) H) :
    FnOk P w K mg base CX (k + 1) f (PySem.W.fnOf name qual params body scope dV kV doc pm an cdv ct) ps sp := by
  refine ⟨len, fun A outer s H args us vs Q E hr e0 hb r hsp => ?_⟩
  have hl := len _ _ _ _ hsp
  have KX : K.In s.heap := e0.mod.kin.keeps fun b o e => (e0.bs b o e).1
  have lim : s.heap.NoLimit := e0.mod.nolimit.keeps fun b o e => (e0.bs b o e).1
  have hkind : ∀ y ∈ ps.zip us, scope.names.lookup y.1 = some .local ∨ (scope.names.lookup y.1 = some .cell ∧ ((cellsFrom (s.heap.objs.size + 1) scope.names []).lookup y.1).isSome = true) := fun ⟨n, v⟩ hy => by
    rcases S.par n (List.of_mem_zip hy).1 with q | q
    · exact .inl q
    · exact .inr ⟨q, PySem.W.cellsFrom_some _ _ _ (.inl q)⟩
  refine codeAny_call_function hr.depth (KX _ _ lk) rfl S.co S.gen rfl (PySem.W.codeRec_of KX hcd) (hb _ _ _ _ ?_)
  refine wpAny_newFunctionEnv_cells S.kind hkind fun env he s1 x => ?_
  subst he
  refine ⟨lim.keeps x.toInCall.keep, codeAny_func ?_⟩
  obtain ⟨t, ht, hq⟩ := hbody A outer s H vs Q E (hr.deeper _) hsp
  have I : Inv (cxOf CX P w K mg base N qual scope f cdv A outer s H E) [] (start N vs) H s1 := inv_start S hr.hd e0 hl r x
  refine wpAny_mono (ht [] s1 (start N vs) H _ I hq) (fun fl s' hs => ?_) fun e s' hs => hs
  have fin : ∀ {σ' : St} {H' : Hp} {v : V} {u : Value}, Inv (cxOf CX P w K mg base N qual scope f cdv A outer s H E) [] σ' H' s' → RelV v u → Q v H' → CE outer P w H s Q u s' :=
    fun {σ' H' v u} J rv q => ⟨v, H', J.os, J.bare, J.base, J.hok, rv, q⟩
  cases fl with
  | ret u =>
    obtain ⟨v, σ', H', J, rv, q⟩ := hs
    exact fin J rv q
  | next =>
    obtain ⟨σ', H', J, q⟩ := hs
    exact fin (v := V.non) (u := Value.none) J rfl q
  | brk =>
    obtain ⟨_, _, _, q⟩ := hs
    exact False.elim q
  | cont =>
    obtain ⟨_, _, _, q⟩ := hs
    exact False.elim q
end L2

namespace L2
open PySem PySem.Spec PyProof.Rows
section
variable {X : Cx} {x : Str} {p pos : Pos} {e : Expr} {es : List Expr} {t : TA} {id T : String} {r : List V → Hp → VK → Prop}

noncomputable def tCB (r : List V → Hp → VK → Prop) (t : TA) : TE := fun σ H Q => t σ H fun vs H1 => r vs H1 Q
/-- f(e, ..), f a built-in function -/
theorem pe_callB (hc : CallR X (.builtin id) r) (hg : Gl X x) (hm : X.mg x = none) (hv : bootBuiltins x = some (.builtin id)) (ha : PA X (e :: es) t) (hn : x ≠ "__name__" := by decide) (hdb : (x == ("__debug__" : Str)) = false := by decide)
    (he : starEach (e :: es) X.env = (false, eval e X.env) :: starEach es X.env := by rfl) (hpl : (backTo pos (starEach es X.env)).any (·.1) = false := by rfl) : PE X (.Call (.Name x p) (e :: es) [] pos) (tCB r t) := by
  intro pins s σ H Q I h
  refine wpAny_Call_Name_kw (ld_blt I hg hm hv ?_ hn hdb)
  exact PyProof.Rows.callWith_builtin1 (thn (ha pos pins s σ H _ I h) fun us s1 ⟨vs, H1, I1, r1, q1⟩ => hc pins s1 σ H1 vs us Q I1 r1 q1) he hpl
/-- T(e, ..), T a built-in type -/
theorem pe_callTy (hc : CallR X (.type T) r) (hg : Gl X x) (hm : X.mg x = none) (hv : bootBuiltins x = some (.type T)) (ha : PA X (e :: es) t) (hn : x ≠ "__name__" := by decide) (hdb : (x == ("__debug__" : Str)) = false := by decide)
    (he : starEach (e :: es) X.env = (false, eval e X.env) :: starEach es X.env := by rfl) (hpl : (backTo pos (starEach es X.env)).any (·.1) = false := by rfl) : PE X (.Call (.Name x p) (e :: es) [] pos) (tCB r t) := by
  intro pins s σ H Q I h
  refine wpAny_Call_Name_kw (ld_blt I hg hm hv ?_ hn hdb)
  exact PyProof.Rows.callWith_type1 (thn (ha pos pins s σ H _ I h) fun us s1 ⟨vs, H1, I1, r1, q1⟩ => hc pins s1 σ H1 vs us Q I1 r1 q1) he hpl
end
end L2

namespace HT
open PySem PyProof.Rows

section
open PySem.SeqAt
open PySem.AutoSeq1 (wpAny_loadPart')
open PySem.MeetsSeq PySem.MeetsSeq2 PySem.MeetsSeq3

end

section
variable {prog : Program} {w : World} {A : Around} {E : Value → Shared → Prop} {s : Shared}

/-! ### t[a:b], not the whole -/
end
end HT

namespace L2
open PySem PySem.Spec PyProof.Rows

/-! ### the parts of a slice -/
theorem intsAre_of {ns : List Int} : ∀ {us : List Value}, Vals (ns.map V.int) us → IntsAre us ns := by
  induction ns with
  | nil => intro us r; rw [List.map_nil] at r; cases r; exact .nil
  | cons n ns ih =>
    intro us r
    rw [List.map_cons] at r
    cases r with
    | cons r1 r2 =>
      obtain ⟨t, e⟩ := r1
      subst e
      exact .cons n t (ih r2)

section
variable {X : Cx} {e : Expr} {te : TE} {lo hi : Option Expr} {tl th : TO} {pos p2 : Pos}

/-! ### t < u, t + u -/
end
end L2

namespace L2
open PySem PySem.Spec PyProof.Rows

/-! ### places -/
/-- the place that an index of any sign means -/
noncomputable def ixN (n : Nat) (i : Int) : Option Nat := if 0 ≤ i then (if i < n then some i.toNat else none) else if -(n : Int) ≤ i then some (i + n).toNat else none
noncomputable def atI {α : Type} (xs : List α) (i : Int) : Option α := (ixN xs.length i).bind fun j => xs[j]?
theorem ixN_seq {n : Nat} {i : Int} {j : Nat} (h : ixN n i = some j) : seqIndex? i n = some j ∧ j < n ∧ -(n : Int) ≤ i ∧ i < n := by
  unfold ixN at h
  by_cases h0 : 0 ≤ i
  · rw [if_pos h0] at h
    by_cases h1 : i < n
    · rw [if_pos h1] at h
      have e : i.toNat = j := Option.some.inj h
      exact ⟨by rw [seqIndex_of h0 h1, e], by omega, by omega, h1⟩
    · rw [if_neg h1] at h; cases h
  · rw [if_neg h0] at h
    by_cases h1 : -(n : Int) ≤ i
    · rw [if_pos h1] at h
      have e : (i + n).toNat = j := Option.some.inj h
      exact ⟨by rw [seqIndex_neg (by omega) h1, e], by omega, h1, by omega⟩
    · rw [if_neg h1] at h; cases h
theorem atI_get {α : Type} {xs : List α} {i : Int} {v : α} (h : atI xs i = some v) : ∃ j, seqIndex? i xs.length = some j ∧ xs[j]? = some v ∧ j < xs.length ∧ -(xs.length : Int) ≤ i ∧ i < xs.length := by
  unfold atI at h
  cases e : ixN xs.length i with
  | none => rw [e] at h; cases h
  | some j =>
    rw [e] at h
    obtain ⟨h1, h2, h3, h4⟩ := ixN_seq e
    exact ⟨j, h1, h, h2, h3, h4⟩
theorem atI_nat {α : Type} {xs : List α} {j : Nat} {v : α} (h : xs[j]? = some v) : atI xs (j : Int) = some v := by
  have hj : j < xs.length := (List.getElem?_eq_some_iff.mp h).1
  have e : ixN xs.length (j : Int) = some j := by
    unfold ixN
    rw [if_pos (by omega), if_pos (by omega)]; simp
  unfold atI; rw [e]; exact h
/-! ### what may be subscripted -/
/-- what stands as an index of a plain subscript -/
noncomputable def PlainIx (b : Expr) : Prop := ∀ o i, subscripted b false o i = operate [o, i] (getItem o i)
/-- a subscript by values -/
noncomputable def IxR (X : Cx) (r : R2) : Prop :=
  ∀ (value slice : Expr) (pins : List (Addr × Obj)) (s : Shared) (σ : St) (H : Hp) (x y : V) (v u : Value) (Q : VK), Inv X pins σ H s → RelV x v → RelV y u → r x y H Q →
    subscripted slice false v u = operate [v, u] (getItem v u) → wpAny (model X.prog X.w) X.A (subscriptTail value slice v u) (EP X pins σ Q) X.xe s
/-- a call of a builtin's method by values: the receiver, the arguments -/
noncomputable def MtR (X : Cx) (id : String) (r : V → List V → Hp → VK → Prop) : Prop :=
  ∀ (pins : List (Addr × Obj)) (s : Shared) (σ : St) (H : Hp) (x : V) (xs : List V) (v : Value) (us : List Value) (Q : VK), Inv X pins σ H s → RelV x v → Vals xs us → r x xs H Q →
    wpAny (model X.prog X.w) X.A (call (.builtin id) (v :: us)) (EP X pins σ Q) X.xe s
section
variable {X : Cx} {a b : Expr} {ta tb : TE} {pos : Pos}
/-- a[b] -/
theorem pe_ix {r : R2} (hr : IxR X r) (ha : PE X a ta) (hb : PE X b tb) (hs : PlainIx b) : PE X (.Subscript a b pos) (tOp r ta tb) := by
  intro pins s σ H Q I h
  exact Subscript_ (binT ha hb I h fun v u s2 x y H2 I2 rx ry q => hr a b pins s2 σ H2 x y v u Q I2 rx ry q (hs _ _))

noncomputable def rIxL (K : PySem.W.Frag) : R2 := fun x y H Q => ∃ p xs i v, x = .ref p ∧ y = .int i ∧ SqL K H p xs ∧ atI xs i = some v ∧ Q v H
noncomputable def rIxT (K : PySem.W.Frag) : R2 := fun x y H Q => ∃ p xs i v, x = .ref p ∧ y = .int i ∧ SqT K H p xs ∧ atI xs i = some v ∧ Q v H
theorem ix_list : IxR X (rIxL X.K) := by
  intro value slice pins s σ H x y v u Q I rx ry h hs
  obtain ⟨p, xs, i, z, rfl, rfl, hq, he, q⟩ := h
  cases rx
  obtain ⟨t, rfl⟩ := ry
  obtain ⟨its, r, pl, hz⟩ := I.list hq
  obtain ⟨j, h1, h2, h3, h4, h5⟩ := atI_get he
  obtain ⟨w, ew, rw'⟩ := r.get h2
  have hl := r.length
  have hn := line63
  have fin : EP X pins σ Q w s := ⟨z, H, I, rw', q⟩
  by_cases h0 : 0 ≤ i
  · have hj : i.toNat = j := by
      rw [seqIndex_of h0 h5] at h1
      exact Option.some.inj h1
    exact item_listR pl.isList h0 (by omega) (by rw [hj]; simpa using ew) fin hs
  · have hj : (i + (its.toArray.size : Int)).toNat = j := by
      rw [seqIndex_neg (by omega) h4] at h1
      rw [List.size_toArray, ← hl]
      exact Option.some.inj h1
    exact subscriptTail_builtinR (x := w) pl.isList.typeIs slot_list_getitem.lookup
      (wpAny_getItem_list_neg (Q := fun r s' => r = w ∧ EP X pins σ Q r s') pl.isList (by omega) (by rw [List.size_toArray] <;> omega) (by omega) (by rw [hj]; simpa using ew) ⟨rfl, fin⟩) hs
theorem ix_tup : IxR X (rIxT X.K) := by
  intro value slice pins s σ H x y v u Q I rx ry h hs
  obtain ⟨p, xs, i, z, rfl, rfl, hq, he, q⟩ := h
  cases rx
  obtain ⟨t, rfl⟩ := ry
  obtain ⟨its, r, pl, hz⟩ := I.tuple hq
  obtain ⟨j, h1, h2, h3, h4, h5⟩ := atI_get he
  obtain ⟨w, ew, rw'⟩ := r.get h2
  have hl := r.length
  have hn := line63
  have fin : EP X pins σ Q w s := ⟨z, H, I, rw', q⟩
  exact subscriptTail_builtinR (x := w) pl.typeIs slot_tuple_getitem.lookup
    (getItem_tuple (j := j) (Q := fun r s' => r = w ∧ EP X pins σ Q r s') pl (by omega) (by omega) (by rw [List.size_toArray, ← hl]; exact h1) (by simpa using ew) ⟨rfl, fin⟩) hs
/-! ### xs[i] = v, any sign -/
/-- the list's object behind a store -/
theorem mapSeq_set (its : List Value) (n j : Nat) (u : Value) : Obj.mapSeq (·.setIfInBounds j u) { cls := .type "list", data := .seq its.toArray n } = { cls := .type "list", data := .seq (its.set j u).toArray n } := by
  simp [Obj.mapSeq]
theorem Inv.lst {pins : List (Addr × Obj)} {σ : St} {H : Hp} {s : Shared} {p : Addr} {xs : List V} (I : Inv X pins σ H s) (h : H p = some (.lst xs)) :
    ∃ (its : List Value) (n : Nat), Vals xs its ∧ s.heap.get? p = some { cls := .type "list", data := .seq its.toArray n } ∧ xs.length ≤ sizeLine := by
  obtain ⟨z, its, n, r, e⟩ := I.hok p _ h
  exact ⟨its, n, r, e, z⟩
/-- the list at p is written by an update of its object -/
theorem Inv.lstUpd {pins : List (Addr × Obj)} {σ : St} {H : Hp} {s : Shared} {p : Addr} {xs ys : List V} {its its' : List Value} {n n' : Nat} {f : Obj → Obj} (I : Inv X pins σ H s) (h : H p = some (.lst xs))
    (ho : s.heap.get? p = some { cls := .type "list", data := .seq its.toArray n }) (hf : f { cls := .type "list", data := .seq its.toArray n } = { cls := .type "list", data := .seq its'.toArray n' }) (r : Vals ys its') (hz : ys.length ≤ sizeLine) (t : Nat) :
    Inv X pins σ (upd H p (.lst ys)) { s with heap := s.heap.update p f, toks := t } := by
  have e : (s.heap.update p f).get? p = some { cls := .type "list", data := .seq its'.toArray n' } := by
    rw [Heap.get?_update_self f ho (by rw [hf] <;> rfl), hf]
  refine I.write (x := p) (e := p) (by rw [h]; trivial) (.inl rfl) (fun b u hb q => (Heap.get?_update_other _ _ (Ne.symm hb)).trans q) ⟨_, e⟩ ?_
  exact ⟨hz, its', n', r, e⟩
noncomputable def rSetL : V → V → V → Hp → (Hp → Prop) → Prop := fun o i v H Q => ∃ p xs k j, o = .ref p ∧ i = .int k ∧ H p = some (.lst xs) ∧ ixN xs.length k = some j ∧ Q (upd H p (.lst (xs.set j v)))
theorem set_list : PSet X rSetL := by
  intro pins s σ H o i v ov iv u Q I ro ri rv h
  obtain ⟨p, xs, k, j, rfl, rfl, hp, hj, q⟩ := h
  cases ro
  obtain ⟨t, rfl⟩ := ri
  obtain ⟨its, n, r, ho, hz⟩ := I.lst hp
  obtain ⟨h1, h2, h3, h4⟩ := ixN_seq hj
  have hl := r.length
  have hn := line63
  have I' : Inv X pins σ (upd H p (.lst (xs.set j v))) { s with heap := s.heap.update p (Obj.mapSeq (·.setIfInBounds j u)) } :=
    I.lstUpd hp ho (mapSeq_set its n j u) (r.set rv j) (by rw [List.length_set]; exact hz) s.toks
  by_cases h0 : 0 ≤ k
  · have hk : k.toNat = j := by
      rw [seqIndex_of h0 h4] at h1
      exact Option.some.inj h1
    exact PySem.W.ki_setAt ho h0 (by omega) (by rw [List.size_toArray, ← hl]; exact h4) (by rw [hk]; exact ⟨_, I', q⟩)
  · have hk : (k + (its.toArray.size : Int)).toNat = j := by
      rw [seqIndex_neg (by omega) h3] at h1
      rw [List.size_toArray, ← hl]
      exact Option.some.inj h1
    exact PySem.W.ki_setBack ho (by omega) (by rw [List.size_toArray, ← hl]; exact h3) (by omega) (by rw [hk]; exact ⟨_, I', q⟩)

/-! ### slices -/
/-! ### in, not in: flat items -/
noncomputable def flatV : V → Bool
  | .non => true
  | .bl _ => true
  | .int _ => true
  | .str _ => true
  | _ => false
/-- == of flat values -/
noncomputable def eqV : V → V → Bool
  | .non, .non => true
  | .bl a, .bl b => a == b
  | .bl a, .int b => (if a then 1 else 0) == b
  | .int a, .bl b => a == (if b then 1 else 0)
  | .int a, .int b => a == b
  | .str a, .str b => a == b
  | _, _ => false
theorem eqAt_V {A : Around} {s : Shared} {y x : V} {u v : Value} (ry : RelV y u) (rx : RelV x v) (fy : flatV y = true) (fx : flatV x = true) : SeqAt.EqAt A s u v (eqV y x) := by
  cases y with
  | non =>
    cases ry
    cases x with
    | non => cases rx; exact SeqAt.EqAt.same _
    | bl b => cases rx; exact SeqAt.EqAt.none_bool b
    | int b => obtain ⟨t, rfl⟩ := rx; exact SeqAt.EqAt.none_int b t
    | str b => obtain ⟨t, rfl⟩ := rx; exact SeqAt.EqAt.none_str b t
    | _ => exact absurd (show false = true from fx) Bool.false_ne_true
  | bl a =>
    cases ry
    cases x with
    | non => cases rx; exact SeqAt.EqAt.bool_none a
    | bl b => cases rx; exact SeqAt.EqAt.bool_bool a b
    | int b => obtain ⟨t, rfl⟩ := rx; exact SeqAt.EqAt.bool_int a b t
    | str b => obtain ⟨t, rfl⟩ := rx; exact SeqAt.EqAt.bool_str a b t
    | _ => exact absurd (show false = true from fx) Bool.false_ne_true
  | int a =>
    obtain ⟨t', rfl⟩ := ry
    cases x with
    | non => cases rx; exact SeqAt.EqAt.int_none a t'
    | bl b => cases rx; exact SeqAt.EqAt.int_bool a t' b
    | int b => obtain ⟨t, rfl⟩ := rx; exact SeqAt.EqAt.int_int a t' b t
    | str b => obtain ⟨t, rfl⟩ := rx; exact SeqAt.EqAt.int_str a t' b t
    | _ => exact absurd (show false = true from fx) Bool.false_ne_true
  | str a =>
    obtain ⟨t', rfl⟩ := ry
    cases x with
    | non => cases rx; exact SeqAt.EqAt.str_none a t'
    | bl b => cases rx; exact SeqAt.EqAt.str_bool a t' b
    | int b => obtain ⟨t, rfl⟩ := rx; exact SeqAt.EqAt.str_int a t' b t
    | str b => obtain ⟨t, rfl⟩ := rx; exact SeqAt.EqAt.str_str a t' b t
    | _ => exact absurd (show false = true from fx) Bool.false_ne_true
  | _ => exact absurd (show false = true from fy) Bool.false_ne_true
/-! ### len, list(x), tuple(x) of any list or tuple that is read -/
theorem call_len_seq : CallR X (.builtin "len") (fun xs H Q => ∃ p ys, xs = [.ref p] ∧ (SqL X.K H p ys ∨ SqT X.K H p ys) ∧ Q (.int ys.length) H) := by
  intro pins s σ H xs us Q I r h
  obtain ⟨p, ys, rfl, hq, q⟩ := h
  obtain ⟨u, rfl, rx⟩ := vals1 r
  cases rx
  have hn := line63
  rcases hq with hq | hq
  · obtain ⟨its, r', pl, hz⟩ := I.list hq
    have hlen := r'.length
    exact Calls.call_len_list pl.isList (by simp only [List.size_toArray] <;> omega) ⟨.int ys.length, H, I.tok _, ⟨s.toks + 1, by rw [List.size_toArray, hlen]⟩, q⟩
  · obtain ⟨its, r', pl, hz⟩ := I.tuple hq
    have hlen := r'.length
    exact len_tuple pl (by simp only [List.size_toArray] <;> omega) ⟨.int ys.length, H, I.tok _, ⟨s.toks + 1, by rw [List.size_toArray, hlen]⟩, q⟩
theorem call_list_of : CallR X (.type "list") (fun xs H Q => ∃ p ys, xs = [.ref p] ∧ (SqL X.K H p ys ∨ SqT X.K H p ys) ∧ ∀ l, H l = none → Q (.ref l) (upd H l (.lst ys))) := by
  intro pins s σ H xs us Q I r h
  obtain ⟨p, ys, rfl, hq, q⟩ := h
  obtain ⟨u, rfl, rx⟩ := vals1 r
  cases rx
  have fin : ∀ (its : List Value), Vals ys its → ys.length ≤ sizeLine → ∀ (h' : Heap) (c' : Nat), (∀ b o', s.heap.get? b = some o' → h'.get? b = some o') →
      h'.get? s.heap.objs.size = some { cls := .type "list", dict := none, data := .seq its.toArray c', slots := #[] } → EP X pins σ Q (.ref s.heap.objs.size) { s with heap := h' } := fun its r' hz h' c' kp e =>
    ⟨.ref s.heap.objs.size, _, I.laid (t' := s.toks) kp (Nat.le_refl _) (show ObjOk X.prog X.w _ h' _ (.lst ys) from ⟨hz, its, c', r', e⟩), rfl, q _ (I.hok.fresh (Nat.le_refl _))⟩
  rcases hq with hq | hq
  · obtain ⟨its, r', pl, hz⟩ := I.list hq
    have hlen := r'.length
    obtain ⟨o, ho, hc, n, hd⟩ := pl.isList
    exact call_list_seq p (.inl rfl) ho hc hd (fun h' c' kp e => fin its r' hz h' c' kp e) (by simp only [List.size_toArray] <;> omega)
  · obtain ⟨its, r', pl, hz⟩ := I.tuple hq
    have hlen := r'.length
    obtain ⟨o, ho, hc, n, hd⟩ := pl
    exact call_list_seq p (.inr rfl) ho hc hd (fun h' c' kp e => fin its r' hz h' c' kp e) (by simp only [List.size_toArray] <;> omega)
theorem call_tuple_of : CallR X (.type "tuple") (fun xs H Q => ∃ p ys, xs = [.ref p] ∧ ((SqL X.K H p ys ∧ ∀ l, H l = none → Q (.ref l) (upd H l (.tup ys))) ∨ (SqT X.K H p ys ∧ Q (.ref p) H))) := by
  intro pins s σ H xs us Q I r h
  obtain ⟨p, ys, rfl, h⟩ := h
  obtain ⟨u, rfl, rx⟩ := vals1 r
  cases rx
  rcases h with ⟨hq, q⟩ | ⟨hq, q⟩
  · obtain ⟨its, r', pl, hz⟩ := I.list hq
    have hlen := r'.length
    refine call_tuple_list pl.isList (fun h' kp => ?_) (by simp only [List.size_toArray] <;> omega)
    have I1 : Inv X pins σ H { s with heap := h' } := I.kept (t' := s.toks) kp
    have I2 : Inv X pins σ (upd H h'.objs.size (.tup ys)) { s with heap := h'.push { cls := .type "tuple", data := .seq its.toArray } } :=
      I1.laid (t' := s.toks) (fun b o e => Heap.get?_push_of_some _ e) (Nat.le_refl _) (show ObjOk X.prog X.w _ _ _ (.tup ys) from ⟨hz, its, r', IsTup.new _ _⟩)
    exact ⟨.ref h'.objs.size, _, I2, rfl, q _ (I1.hok.fresh (Nat.le_refl _))⟩
  · obtain ⟨its, r', pl, hz⟩ := I.tuple hq
    exact call_tuple_same pl ⟨.ref p, H, I, rfl, q⟩

/-! ### the call of a builtin's method: o.m(..) -/
/-- the value is of that builtin type -/
noncomputable def tyV (K : PySem.W.Frag) (T : String) (x : V) (H : Hp) : Prop := match x with
  | .str _ => T = "str"
  | .int _ => T = "int"
  | .ref p => (T = "list" ∧ ∃ xs, SqL K H p xs) ∨ (T = "tuple" ∧ ∃ o, K.lookup p = some o ∧ o.cls = .type "tuple" ∧ o.dict = none) ∨
      (T = "dict" ∧ ((∃ kvs, H p = some (.dK kvs)) ∨ ∃ kvs, H p = some (.dT kvs))) ∨ (T = "set" ∧ ∃ S n, H p = some (.set S n))
  | _ => False
theorem tyV_is {pins : List (Addr × Obj)} {σ : St} {H : Hp} {s : Shared} {T : String} {x : V} {v : Value} (I : Inv X pins σ H s) (r : RelV x v) (ty : tyV X.K T x H) :
    s.TypeIs v T ∧ ∀ a, v = .ref a → ∃ ob, s.heap.get? a = some ob ∧ ob.dict = none := by
  cases x with
  | str z =>
    obtain ⟨t, rfl⟩ := r
    cases (show T = "str" from ty)
    exact ⟨typeIs_str s z t, fun _ e => nomatch e⟩
  | int i =>
    obtain ⟨t, rfl⟩ := r
    cases (show T = "int" from ty)
    exact ⟨typeIs_int s i t, fun _ e => nomatch e⟩
  | ref p =>
    cases r
    rcases ty with ⟨rfl, xs, hq⟩ | ⟨rfl, o, hk, hc, hd⟩ | ⟨rfl, hk⟩ | ⟨rfl, S, n, hk⟩
    · obtain ⟨its, _, pl, _⟩ := I.list hq
      refine ⟨pl.isList.typeIs, fun a e => ?_⟩
      cases e
      obtain ⟨o, n, e, c, hd, _⟩ := pl
      exact ⟨o, e, hd⟩
    · refine ⟨⟨o, I.kIn p o hk, hc⟩, fun a e => ?_⟩
      cases e
      exact ⟨o, I.kIn _ o hk, hd⟩
    · have z : ∃ o, s.heap.get? p = some o ∧ o.ExactDict := by
        rcases hk with ⟨kvs, hk⟩ | ⟨kvs, hk⟩
        · obtain ⟨_, _, _, _, o, _, _, e, ex, _⟩ := I.hok p _ hk
          exact ⟨o, e, ex⟩
        · obtain ⟨_, _, _, _, o, _, _, e, ex, _⟩ := I.hok p _ hk
          exact ⟨o, e, ex⟩
      obtain ⟨o, e, ex⟩ := z
      refine ⟨⟨o, e, ex.1⟩, fun a e2 => ?_⟩
      cases e2
      exact ⟨o, e, ex.2.1⟩
    · obtain ⟨o, _, _, _, e, ex, _⟩ := I.hok p _ hk
      refine ⟨⟨o, e, ex.1⟩, fun a e2 => ?_⟩
      cases e2
      exact ⟨o, e, ex.2.1⟩
  | _ => exact False.elim ty
noncomputable def tBM0 (K : PySem.W.Frag) (T : String) (r : V → List V → Hp → VK → Prop) (to : TE) : TE := fun σ H Q => to σ H fun x H1 => tyV K T x H1 ∧ r x [] H1 Q
noncomputable def tBM (K : PySem.W.Frag) (T : String) (r : V → List V → Hp → VK → Prop) (to : TE) (t : TA) : TE := fun σ H Q => to σ H fun x H1 => tyV K T x H1 ∧ t σ H1 fun xs H2 => r x xs H2 Q
variable {o e : Expr} {es : List Expr} {to : TE} {t : TA} {name : Str} {apos cpos : Pos} {T id : String} {r : V → List V → Hp → VK → Prop}
theorem pe_bm0 (pa : PlainAttrs T) (slot : Slot T name id) (hty : typeOf (.builtin id) = pure (.type "method_descriptor")) (hm : MtR X id r) (ho : PE X o to)
    (hbase : attributeBase o name X.env (eval o X.env) = eval o X.env := by rfl) (hline : (apos.endLine == cpos.line) = true := by rfl) : PE X (.Call (.Attribute o name apos) [] [] cpos) (tBM0 X.K T r to) := by
  intro pins s σ H Q I h
  refine wpAny_Call_method0_late hbase hline (thn (ho pins s σ H _ I h) fun v s1 ⟨x, H1, I1, r1, ty, q1⟩ => ?_)
  obtain ⟨h1, h2⟩ := tyV_is I1 r1 ty
  exact ⟨T, id, pa, slot, hty, h1, h2, Calls.callWith_builtin rfl (PySem.evalArgs_none (hm pins s1 σ H1 x [] v [] Q I1 r1 .nil q1))⟩
theorem pe_bm (pa : PlainAttrs T) (slot : Slot T name id) (hty : typeOf (.builtin id) = pure (.type "method_descriptor")) (hm : MtR X id r) (ho : PE X o to) (ha : PA X (e :: es) t)
    (hbase : attributeBase o name X.env (eval o X.env) = eval o X.env := by rfl)
    (hfew : ((backTo cpos (starEach (e :: es) X.env)).all (fun x => !x.1) && (backToKw cpos (keywordEach [] X.env)).all (fun x => x.1.isSome)
      && decide ((e :: es).length + ([] : List Keyword).length + (if ([] : List Keyword).isEmpty then 0 else 1) < 30)) = true := by rfl)
    (hline : (apos.endLine == cpos.line) = true := by rfl) (hs : starEach (e :: es) X.env = (false, eval e X.env) :: starEach es X.env := by rfl) (hplain : (backTo cpos (starEach es X.env)).any (·.1) = false := by rfl) :
    PE X (.Call (.Attribute o name apos) (e :: es) [] cpos) (tBM X.K T r to t) := by
  intro pins s σ H Q I h
  refine wpAny_Call_method_late hbase hfew hline rfl (thn (ho pins s σ H _ I h) fun v s1 ⟨x, H1, I1, r1, ty, q1⟩ => ?_)
  obtain ⟨h1, h2⟩ := tyV_is I1 r1 ty
  refine ⟨T, id, pa, slot, hty, h1, h2, ?_⟩
  have hA := ha cpos pins s1 σ H1 _ I1 q1
  rw [hs] at hA ⊢
  refine Calls.callWith_builtin (by show (false || (backTo cpos (starEach es X.env)).any (·.1)) = false; rw [hplain] <;> rfl) (Calls.evalArgs_plain ?_)
  exact thn hA fun us s2 ⟨vs, H2, I2, r2, q2⟩ => hm pins s2 σ H2 x vs v us Q I2 r1 r2 q2
/- xs.append(e), list.index on a module's tuple .. are MtR facts of 06m -/
end
end L2

namespace L2
open PySem PySem.Spec PyProof.Rows

noncomputable def MtM (X : Cx) (id : String) (r : V → List V → Hp → VK → Prop) : Prop :=
  ∀ (pins : List (Addr × Obj)) (s : Shared) (σ : St) (H : Hp) (x : V) (xs : List V) (v : Value) (us : List Value) (Q : VK), Inv X pins σ H s → RelV x v → Vals xs us → r x xs H Q →
    wpAny (model X.prog X.w) X.A (call (.builtin id) (v :: us)) (EP X pins σ Q) X.xe s

/-! ### lists of values -/
theorem Vals.one : ∀ {x : V} {us : List Value}, Vals [x] us → ∃ u, us = [u] ∧ RelV x u
  | _, _, .cons r .nil => ⟨_, rfl, r⟩
theorem foldl_rep (its : List Value) : ∀ (k : Nat) (acc : List Value),
    List.foldl (fun x1 x2 => x1 ++ x2) acc.toArray (List.replicate k its.toArray) = (acc ++ (List.replicate k its).flatten).toArray
  | 0, acc => by simp
  | k + 1, acc => by
    have e : acc.toArray ++ its.toArray = (acc ++ its).toArray := by simp
    have e2 : (acc ++ its) ++ (List.replicate k its).flatten = acc ++ (List.replicate (k + 1) its).flatten := by
      rw [List.replicate_succ, List.flatten_cons, List.append_assoc]
    rw [← e2, ← foldl_rep its k (acc ++ its), ← e, List.replicate_succ, List.foldl_cons]

section
variable {X : Cx} {pins : List (Addr × Obj)} {σ : St} {H : Hp} {s : Shared} {l b : Addr} {xs ys zs : List V}

/-! ### the two steps: a tracked list is rewritten, a new list is laid -/
theorem Inv.lset {its its' : List Value} {n : Nat} {f : Array Value → Array Value} {t' : Nat} (I : Inv X pins σ H s) (hH : H l = some (.lst xs))
    (e : s.heap.get? l = some { cls := .type "list", data := .seq its.toArray n }) (hf : f its.toArray = its'.toArray) (hv : Vals ys its') (hz : ys.length ≤ sizeLine) :
    Inv X pins σ (upd H l (.lst ys)) { s with heap := s.heap.update l (Obj.mapSeq f), toks := t' } := by
  have q := PySem.IsL.update e f
  rw [hf] at q
  refine I.write (x := l) (e := l) (by rw [hH]; exact trivial) (.inl rfl) (fun b' u hb hu => (Heap.get?_update_other s.heap (Obj.mapSeq f) (Ne.symm hb)).trans hu) ⟨_, q⟩ ?_
  exact ⟨hz, its', _, hv, q⟩
theorem Inv.fresh (I : Inv X pins σ H s) : H s.heap.objs.size = none := I.hok.fresh (Nat.le_refl _)
theorem Inv.lstM (I : Inv X pins σ H s) (hH : H l = some (.lst xs)) : xs.length ≤ sizeLine ∧ ∃ (its : List Value) (n : Nat), Vals xs its ∧ xs.length = its.length ∧ s.heap.get? l = some { cls := .type "list", data := .seq its.toArray n } := by
  obtain ⟨z, its, n, r, e⟩ := I.hok l _ hH
  exact ⟨z, its, n, r, r.length, e⟩

end

section
variable {X : Cx}

/-! ### methods -/
noncomputable def rAppend : V → List V → Hp → VK → Prop := fun x vs H Q => ∃ l xs y, x = .ref l ∧ vs = [y] ∧ H l = some (.lst xs) ∧ xs.length < sizeLine ∧ Q .non (upd H l (.lst (xs ++ [y])))
theorem mt_append : MtM X "list.append" rAppend := by
  intro pins s σ H x vs v us Q I rx rv h
  obtain ⟨l, xs, y, rfl, rfl, hH, hz, q⟩ := h
  cases rx
  obtain ⟨u, rfl, ru⟩ := rv.one
  obtain ⟨z, its, n, r, hl, e⟩ := I.lstM hH
  refine call_meets F.slot_list_append ⟨_, e, rfl⟩ F.entry_list_append (F.args_list_append_2 _ _) (PySem.list_append l its.toArray n u (by rw [List.size_toArray]; omega)) ⟨e, ?_⟩
  refine ⟨.non, _, I.lset (its' := its ++ [u]) hH e (by simp) (r.append (.cons ru .nil)) ?_, rfl, q⟩
  rw [List.length_append, List.length_singleton]
  omega

/-! ### list + list, list += list, list * int -/
/-! ### del xs[i] -/
end

/-! ### xs[a:b] = ys -/
section
variable {prog : Program} {w : World} {A : Around} {E : Value → Shared → Prop} {s : Shared}
end

section
variable {X : Cx}
end
end L2

namespace Att
open PySem PySem.W PySem.Calls PyProof.Rows

/-! ### the script -/
theorem ints_of_wellAll {P : Params} {h : Heap} : ∀ (ns : List Int) (vs : List Value), WellAll P h vs (ns.map WData.int) → IntsAre vs ns := by
  intro ns
  induction ns with
  | nil =>
    intro vs w
    rw [List.map_nil] at w
    cases w
    exact .nil
  | cons n ns ih =>
    intro vs w
    rw [List.map_cons] at w
    cases w with
    | cons a b =>
      cases a
      exact .cons _ _ (ih _ b)

theorem script_of {l : OpenLaw} {n : Nat} (hn : l.most = some n) {P : Params} {h : Heap} {args : List WData} {vals : List Value}
    (hpre : l.row.toRowW.claim.pre args = true) (hwl : WellAll P h vals args) :
    ∃ a vs ns, vals = [Value.ref a] ∧ args = [WData.list (ns.map WData.int)] ∧ h.get? a = some { cls := .type "list", data := .seq vs.toArray } ∧ IntsAre vs ns ∧ ns.length ≤ n := by
  have hsh : WShape.hasAll [] args [.list .int] = true := (pre_splitW hpre).1
  have hc : l.pre.holds [] { args := args } = true := (pre_splitW hpre).2
  obtain ⟨d, r, rfl, h1, h2⟩ := hasAllW_cons hsh
  obtain rfl := hasAllW_nil h2
  obtain ⟨xs, rfl, h3⟩ := hasW_list h1
  obtain ⟨ns, rfl⟩ := items_int h3
  have hlen : ns.length ≤ n := by
    unfold OpenLaw.pre at hc
    have h4 : (WTm.not (.lt (.lit (.int (n : Int))) (.len (.arg 0)))).holds [] { args := [.list (ns.map .int)] } = true := by
      have h4 := (holds_andW hc).1
      rw [hn] at h4
      exact h4
    have h5 := condW_of h4 (w_not (w_lt w_lit (w_len_list (w_arg rfl))))
    rw [List.length_map] at h5
    refine Nat.le_of_not_lt fun q => ?_
    have q' : (n : Int) < ((ns.length : Nat) : Int) := by omega
    first
      | (rw [decide_eq_true q'] at h5; exact absurd h5 (by decide))
      | (simp at h5; omega)
  cases hwl with
  | cons w1 w2 =>
    cases w2
    cases w1 with
    | list ho hall => exact ⟨_, _, ns, rfl, rfl, ho, ints_of_wellAll ns _ hall, hlen⟩

theorem post_true (l : OpenLaw) (args : List WData) : l.row.toRowW.claim.post args (.bool true) args = true :=
  postW_of (r := l.row.toRowW) (X := (true == true))
    (show WShape.has [] (.bool true) .bool = true by first | rfl | decide | simp [WShape.has, WShape.arms, WShape.armsAll])
    (show (WTm.eq .res (.lit (.bool true))).value [] { args := args, res := some (.bool true), after := args } = some (.bool (true == true)) from w_eq_bool (w_res rfl) w_lit) rfl

/-! ### the attachment: holds_open's last premise (the goal 'hc' behind k_head) from a wpAny of the law's body -/
/-- the same from a codeAny of the CALL (for a layer whose function contracts speak of calls) -/
theorem attach_call {l : OpenLaw} {n : Nat} {q : Program} {loose : List Str} {XP : (Str → Option Value) → Heap → Prop} {YP : World → Heap → Prop} {d : DefRec}
    (hn : l.most = some n) (hdf : d.params.defaults = [])
    (call : ∀ (w : World) (s₀ s₁ : Shared) (mg mb : Str → Option Value) (fa : Addr) (o : Obj) (pm cd doc : Value) (a : Addr) (vs : List Value) (ns : List Int),
      Ground q loose [] XP w s₀ mg mb s₁.heap → YP w s₁.heap →
      s₁.heap.get? fa = some o → o.data = .func (docDef d.name d.params d.body d.scope pm cd doc) → s₁.heap.CodeRec cd d.name → mg d.name = some (.ref fa) →
      s₁.heap.get? a = some { cls := .type "list", data := .seq vs.toArray } → IntsAre vs ns → ns.length ≤ n → s₁.gens = #[] →
      codeAny (model l.prog w) callerA (.call (.ref fa) ⟨[.ref a], []⟩) (fun r s' => r = .ok (.ret (.bool true)) ∧ OldK s₁.heap s'.heap ∧ s'.os = s₁.os ∧ AllBare s'.gens) s₁) :
    WalkO q loose XP YP l.row.toRowW d [] (fun f vs => PySem.call f vs) := by
  intro w s₀ s₁ mg mb G Y fa o pm cd doc dV kV ho hd hcd hD hmg hg args vals as hpre hlay hrd hwl hlo
  obtain rfl : dV = .none := Dflts.none hD hdf
  obtain rfl : kV = .none := Dflts.noKw hD
  obtain ⟨a, vs, ns, rfl, rfl, hobj, hints, hlen⟩ := script_of hn hpre hwl
  refine enter_call (codeAny_mono (call w s₀ s₁ mg mb fa o pm cd doc a vs ns G Y ho (fd_plain hd) hcd hmg hobj hints hlen hg) fun r s' hq => ?_)
  obtain ⟨rfl, h2, h3, h4⟩ := hq
  exact ⟨.inl ⟨.bool true, .bool true, [], rfl, fun _ => rfl, .bool true, post_true l _, fun _ => ⟨List.Pairwise.nil, fun _ hm => (nomatch hm)⟩⟩, h2, h3, h4⟩

/-! ### rules over ANY heap (no ledger) from facts about the written part K: the library's own take a ledger (News) for what they write -/
section
variable {prog : Program} {w : World} {A : Around} {E : Value → Shared → Prop} {s : Shared} {K : Frag}

/-! the whole heap as the ledger: makes every rule that writes through a ledger a rule over any heap -/
end
end Att

namespace L2
open PySem PySem.Spec PyProof.Rows

theorem vals_ints : ∀ {vs : List Value} {ns : List Int}, IntsAre vs ns → Vals (ns.map V.int) vs
  | _, _, .nil => .nil
  | _, _, .cons n t h => .cons ⟨t, rfl⟩ (vals_ints h)

/-- nothing is tracked but the script, known to the object (or it is an object of the module) -/
noncomputable def Only (H : Hp) : Prop := ∀ b, H b = none ∨ ∃ o xs, H b = some (.frz o (.lst xs))

/-- THE HEAD: the law's promise, at the heap behind the top. F, the promise of the law's def, may use that base is part of the heap (so K.In base, base.Ns mainGlobals mg stand in Mod) -/
theorem law_call {P : Program} {w : World} {K : PySem.W.Frag} {mg mb : Str → Option Value} {CX : CXT} {k : Nat} {fa a : Addr} {fd : FuncData} {x : Str} {sp : Sp} {s₁ : Shared} {vs : List Value} {ns : List Int}
    (KX : K.In s₁.heap) (hns : s₁.heap.Ns mainGlobals mg) (hb : s₁.heap.Ns builtinsNs mb) (hbb : ∀ x : Str, x ≠ "__name__" → mb x = bootBuiltins x) (hlim : s₁.heap.NoLimit) (hg : s₁.gens = #[])
    (ha : s₁.heap.get? a = some { cls := .type "list", data := .seq vs.toArray }) (hi : IntsAre vs ns) (hl : ns.length ≤ sizeLine) (hr : Room k callerA)
    (F : ∀ base : Heap, K.In base → base.Ns mainGlobals mg → FnOk P w K mg base CX k fa fd [x] sp) (hbind : ∀ (s : Shared) (u : Value), BindsTo s fd ⟨[u], []⟩ [(x, u)])
    (hsp : ∀ H : Hp, Only H → SqL K H a (ns.map V.int) → sp [.ref a] H (fun v _ => v = .bl true) fun _ _ _ => False)
    (hCX : ∀ H e s', CX [] H s₁ (fun _ _ _ => False) e s' → False) :
    codeAny (model P w) callerA (.call (.ref fa) ⟨[.ref a], []⟩) (fun r s' => r = .ok (.ret (.bool true)) ∧ OldK s₁.heap s'.heap ∧ s'.os = s₁.os ∧ AllBare s'.gens) s₁ := by
  have rv := vals_ints hi
  have lenV := hi.length
  -- from an abstract heap in which nothing but the script may be tracked
  have core : ∀ H : Hp, Only H → SqL K H a (ns.map V.int) → HOk P w H s₁.heap → (∀ b, H b ≠ none → b = a) → (H a ≠ none → K.lookup a = none) →
      codeAny (model P w) callerA (.call (.ref fa) ⟨[.ref a], []⟩) (fun r s' => r = .ok (.ret (.bool true)) ∧ OldK s₁.heap s'.heap ∧ s'.os = s₁.os ∧ AllBare s'.gens) s₁ := by
    intro H hO hS hok hA hK
    have base_of : ∀ {b : Addr} {o : Obj}, s₁.heap.get? b = some o → H b = none → (hidT s₁.heap H).get? b = some o := fun e n => hidT_get e n
    have noA : ∀ {b : Addr} {o : Obj} {es : Array DictEntry} {ep : Nat}, s₁.heap.get? b = some o → o.data = .dict es ep → H b = none := fun {b o es ep} e d => by
      cases q : H b with
      | none => rfl
      | some u =>
        have e' : b = a := hA b (by rw [q]; simp)
        subst e'
        rw [ha] at e; cases e
        have d' : Data.seq vs.toArray _ = Data.dict es ep := d
        cases d'
    have nsK : ∀ {b : Addr} {m : Str → Option Value}, s₁.heap.Ns b m → (hidT s₁.heap H).Ns b m := fun {b m} ⟨o, es, ep, e, d, r⟩ => ⟨o, es, ep, base_of e (noA e d), d, r⟩
    have hKb : K.In (hidT s₁.heap H) := fun b o e => base_of (KX b o e) (by
      cases q : H b with
      | none => rfl
      | some u =>
        have e' : b = a := hA b (by rw [q]; simp)
        subst e'
        rw [hK (by rw [q]; simp)] at e; cases e)
    have hM : Mod K mg (hidT s₁.heap H) := ⟨hKb, nsK hns, ⟨mb, nsK hb, hbb⟩, let ⟨mc, h1, h2⟩ := hlim; ⟨mc, nsK h1, h2⟩⟩
    have e0 : Env0 P w K mg (hidT s₁.heap H) callerA [] s₁ H := ⟨rfl, hM, fun b o e => of_hidT e, Nat.le_of_eq (hidT_size _ _), trivial, fun b hb => absurd (show b ∈ ([] : List Addr) from hb) (by simp), hok, .of_eq hg⟩
    refine codeAny_mono ((F _ hKb (nsK hns)).run callerA [] s₁ H ⟨[.ref a], []⟩ [.ref a] [.ref a] _ _ hr e0 (hbind s₁ (.ref a)) (.cons rfl .nil) (hsp H hO hS)) fun r s' h => ?_
    cases r with
    | error e => exact (hCX H e s' h).elim
    | ok fl =>
      cases fl with
      | next => exact False.elim h
      | brk => exact False.elim h
      | cont => exact False.elim h
      | ret u =>
        obtain ⟨v, H', os, bare, un, hok', r', q⟩ := h
        have q' : v = .bl true := q
        subst q'
        obtain rfl : u = Value.bool true := r'
        refine ⟨rfl, OldK.of_keep fun b o e => ?_, os, bare⟩
        cases q : H b with
        | none => exact un.keep b o e q (by intro z; exact absurd (show b ∈ ([] : List Addr) from z) (by simp)) (by simp)
        | some u =>
          rcases hO b with z | ⟨ob, xs, z⟩
          · rw [q] at z; cases z
          · have z2 := un.frzs b ob _ z
            obtain ⟨e1, _⟩ := hok b _ z
            obtain ⟨e2, _⟩ := hok' b _ z2
            rw [e] at e1; cases e1
            exact e2
  cases hk : K.lookup a with
  | some o =>
    -- the script is one of the module's own objects
    have e := KX a o hk
    rw [ha] at e
    cases e
    refine core (fun _ => none) (fun _ => .inl rfl) (.inr ⟨_, vs.toArray, _, hk, rfl, rfl, rfl, by rw [List.size_toArray, lenV]; exact hl, by simpa using rv⟩) (fun b u z => by have z' : (none : Option HO) = some u := z; cases z') (fun b z => absurd rfl z) fun z => absurd rfl z
  | none =>
    refine core (fun b => if b = a then some (.frz { cls := .type "list", data := .seq vs.toArray } (.lst (ns.map V.int))) else none) (fun b => ?_) (.inl (.inr ⟨{ cls := .type "list", data := .seq vs.toArray }, if_pos rfl⟩)) (fun b u z => ?_) (fun b z => ?_) fun _ => hk
    · by_cases hb : b = a
      · exact .inr ⟨_, _, if_pos hb⟩
      · exact .inl (if_neg hb)
    · by_cases hb : b = a
      · have z' := (if_pos hb).symm.trans z
        cases z'
        subst hb
        exact ⟨ha, by rw [List.length_map]; exact hl, vs, _, rv, ha⟩
      · have z' := (if_neg hb).symm.trans z
        cases z'
    · by_cases hb : b = a
      · exact hb
      · exact absurd (if_neg hb) z
end L2

namespace L2
open PySem PySem.Spec PyProof.Rows

/-- the goal that k_head leaves (case hc), from the law's promise. F gives the function object fd (K's own) once, then the promise over every base -/
theorem walk_of {l : PySem.W.OpenLaw} {n k : Nat} {q : Program} {loose : List Str} {XP : (Str → Option Value) → Heap → Prop} {YP : World → Heap → Prop} {d : DefRec} {K : Params → PySem.W.Frag} {CX : World → CXT} {sp : World → Sp} {x : Str}
    (hn : l.most = some n) (hn2 : n ≤ sizeLine) (hdf : d.params.defaults = []) (hr : Room k callerA)
    (hY : ∀ (w : World) (h : Heap), YP w h → (K w.params).In h)
    (F : ∀ (w : World) (mg : Str → Option Value) (fa : Addr) (h : Heap), (K w.params).In h → h.Ns mainGlobals mg → mg d.name = some (.ref fa) →
      ∃ fd : FuncData, (∀ (s : Shared) (u : Value), BindsTo s fd ⟨[u], []⟩ [(x, u)]) ∧
        ∀ base : Heap, (K w.params).In base → base.Ns mainGlobals mg → FnOk l.prog w (K w.params) mg base (CX w) k fa fd [x] (sp w))
    (hsp : ∀ (w : World) (H : Hp) (a : Addr) (ns : List Int), ns.length ≤ n → Only H → SqL (K w.params) H a (ns.map V.int) → sp w [.ref a] H (fun v _ => v = .bl true) fun _ _ _ => False)
    (hCX : ∀ (w : World) (H : Hp) (s : Shared) (e : Value) (s' : Shared), CX w [] H s (fun _ _ _ => False) e s' → False) :
    PySem.W.WalkO q loose XP YP l.row.toRowW d [] (fun f vs => PySem.call f vs) := by
  refine Att.attach_call hn hdf fun w s₀ s₁ mg mb fa o pm cd doc a vs ns G Y ho hd hcd hmg hobj hints hlen hg => ?_
  have KX := hY w _ Y
  obtain ⟨fd, hb, hF⟩ := F w mg fa _ KX G.T.g hmg
  exact law_call KX G.T.g G.T.b G.T.builtins G.T.nolimit hg hobj hints (Nat.le_trans hlen hn2) hr hF hb (fun H hO hS => hsp w H a ns hlen hO hS) fun H e s' => hCX w H s₁ e s'
end L2

/- THE LAST THEOREM (shape; LID, My.* are yours):
   My.Adr: a structure of the addresses that your layer names (classes, functions); My.Txt K t: a structure (Prop) of the equations over K;
   My.txt_mk : {K} {implicit addresses ..} (e1 : nsIn K mainGlobals "law" = some (some (.ref f))) (e2 : K.lookup f = some ⟨oc, od, .func (fnOf "law" "law" params body scope dV kV doc pm an cdv ct), sl⟩) (e3 : codeIn K cdv "law" = true) .. : ∃ t, My.Txt K t

set_option maxRecDepth 100000 in
set_option maxHeartbeats 0 in
theorem PySem.Challenge.cw_LID_holds : PySem.Challenge.rw_LID.Holds := by
  w_on; o_law; k_head; (case hw => w_witness2)
  k_fill
  refine L2.walk_of (l := PySem.Challenge.rw_LID) (n := 63) (k := 40) (x := "script") (CX := fun w => ..) (sp := fun _ => My.sp_law) rfl (by decide) rfl ⟨rfl, by decide, by decide⟩ (fun w h Y => PySem.W.kIn_of Y) ?F ?S ?C
  case F =>
    intro w mg fa h KX G hmg
    have T : ∃ t, My.Txt (L2.KOf KX) t := by
      dsimp only [L2.KOf]                          -- K must stand as «<heap const> w.params» for k_is
      refine' My.txt_mk ?e1 ?e2 ?e3 ..
      (case e1 => PySem.W.k_is)                    -- in the order: a name -> its address -> its object -> its parts
      (case e2 => PySem.W.k_is)
      ..
    obtain ⟨t, T⟩ := T
    have e0 := hmg.symm.trans (PySem.W.mg_of KX G T.law)
    cases e0                                       -- fa is the law's own address
    exact ⟨_, fun s u => .of_eq rfl, fun base kb nb => My.law_fn T kb nb⟩     -- if «.of_eq rfl» comes too early: refine' ⟨_, ?b, fun base kb nb => My.law_fn T kb nb⟩; exact fun s u => .of_eq rfl
  case S => exact fun w H a ns hl hO hS => ..
  case C => exact ..
(the tactic k_is has no namespace: write k_is) -/

/-! SHORT WORDS over the layer: a def of the text, its body, what a loop and a test want. -/
namespace L2
open PySem PySem.Spec PyProof.Rows

/-! ### the text by places -/
noncomputable def defArgs (s : Stmt) : Arguments := match s with
  | .FunctionDef _ a _ _ _ _ _ _ _ _ => a
  | _ => { posonlyargs := [], args := [], vararg := none, kwonlyargs := [], kw_defaults := [], kwarg := none, defaults := [] }
noncomputable def defBody (s : Stmt) : List Stmt := match s with
  | .FunctionDef _ _ b _ _ _ _ _ _ _ => b
  | _ => []
noncomputable def defScope (s : Stmt) : Scope := match s with
  | .FunctionDef _ _ _ _ _ _ sc _ _ _ => sc
  | _ => { kind := .function, names := [], isGenerator := false, isCoroutine := false }

/-! ### no exception leaves a def -/
noncomputable abbrev CX0 : CXT := fun _ _ _ _ _ _ => False
noncomputable abbrev E0 : XK := fun _ _ _ => False
theorem pass0 {X : Cx} : Passes CX0 X E0 := fun _ _ _ _ _ _ _ h => h.elim

/-! ### a def (or method) of the text as it stands behind the top -/
structure Fun (K : PySem.W.Frag) (x qual : Str) (st : Stmt) (f : Addr) (fd : FuncData) : Prop where
  ex : ∃ (oc : Value) (od : Option Addr) (kV doc pm : Value) (an : Option Addr) (cdv ct : Value) (osl : Array (Option Value)),
    fd = PySem.W.fnOf x qual (defArgs st) (defBody st) (defScope st) .none kV doc pm an cdv ct ∧ K.lookup f = some ⟨oc, od, .func fd, osl⟩ ∧ PySem.W.codeIn K cdv qual = true
  kp : PySem.W.keepIn K (.ref f) = true
section
variable {P : Program} {w : World} {K : PySem.W.Frag} {mg : Str → Option Value} {base : Heap}
/-- THE RULE for a def: its body as a term of rules, and the reading of that term -/
theorem Fun.ok {x qual : Str} {st : Stmt} {f : Addr} {fd : FuncData} {N ps : List Str} {k : Nat} {sp : Sp} (F : Fun K x qual st f fd) (S : FnScope N ps (defScope st)) (len : ∀ vs H Q E, sp vs H Q E → vs.length = ps.length)
    (hbody : ∀ (cdv : Value) (A : Around) (outer : List Env) (s : Shared) (H : Hp) (vs : List V) (Q : VK) (E : XK), Room k (A.deeper (envOfC qual (defScope st) s.heap.objs.size f cdv)) → sp vs H Q E →
      ∃ t, PSs (cxOf CX0 P w K mg base N qual (defScope st) f cdv A outer s H E).nox (defBody st) t ∧ t { nx := fun _ H' => Q .non H', rt := Q } (start N vs) H) : FnOk P w K mg base CX0 (k + 1) f fd ps sp := by
  obtain ⟨oc, od, kV, doc, pm, an, cdv, ct, osl, rfl, lk, hcd⟩ := F.ex
  refine fn_of lk hcd S len fun A outer s H vs Q E hr hsp => ?_
  obtain ⟨t, h, q⟩ := hbody cdv A outer s H vs Q E hr hsp
  exact ⟨t, h.nox, q⟩
/-- how its arguments bind (no defaults): h is «fun _ _ _ _ _ _ us hl => match us, hl with | [_, _], _ => rfl», one _ a parameter -/
theorem Fun.binds {x qual : Str} {st : Stmt} {f : Addr} {fd : FuncData} {ps : List Str} (F : Fun K x qual st f fd)
    (h : ∀ (kV doc pm : Value) (an : Option Addr) (cdv ct : Value) (us : List Value), us.length = ps.length → bindArgs (PySem.W.fnOf x qual (defArgs st) (defBody st) (defScope st) .none kV doc pm an cdv ct) ⟨us, []⟩ = pure (ps.zip us)) : Binds K fd ps [] := by
  obtain ⟨oc, od, kV, doc, pm, an, cdv, ct, osl, rfl, lk, hcd⟩ := F.ex
  exact .all (h kV doc pm an cdv ct)
theorem fun_mk {x qual : Str} {st : Stmt} {f : Addr} {oc : Value} {od an : Option Addr} {osl : Array (Option Value)} {kV doc pm cdv ct : Value} (l : K.lookup f = some ⟨oc, od, .func (PySem.W.fnOf x qual (defArgs st) (defBody st) (defScope st) .none kV doc pm an cdv ct), osl⟩)
    (c : PySem.W.codeIn K cdv qual = true) (k : PySem.W.keepIn K (.ref f) = true) : Fun K x qual st f (PySem.W.fnOf x qual (defArgs st) (defBody st) (defScope st) .none kV doc pm an cdv ct) := ⟨⟨oc, od, kV, doc, pm, an, cdv, ct, osl, rfl, l, c⟩, k⟩
end
theorem hu_of {A : Around} {k : Nat} (hr : Room k A) : A.units + 1 < cLine := Nat.lt_of_le_of_lt (Nat.add_le_add_left (by decide : 1 ≤ 64) _) hr.units
theorem small1000 {n : Nat} (h : n ≤ 1000) : n < sizeLine := Nat.lt_of_le_of_lt h (by decide)

/-! ### expressions in short: the name that stands in the i-th slot -/
section
variable {X : Cx}
theorem pv (i : Nat) {x : Str} {pos : Pos} (hN : X.N[i]? = some x := by rfl) (hv : Vis X.env.scope x := by first | exact Or.inl rfl | exact Or.inr (Or.inl rfl) | exact Or.inr (Or.inr rfl)) (hd : (x == ("__debug__" : Str)) = false := by decide)
    (hcd : (x == ("__classdict__" : Str)) = false := by decide) : PE X (.Name x pos) (tVar i) := pe_var hN hv hd hcd
end

/-! ### tests -/
theorem iteF {A B : Prop} (h : B) : if false = true then A else B := by
  rw [if_neg Bool.false_ne_true]
  exact h
theorem iteT {A B : Prop} (h : A) : if true = true then A else B := by
  rw [if_pos rfl]
  exact h
theorem ite2 {c A B : Prop} [Decidable c] (h1 : c → A) (h2 : ¬ c → B) : if c then A else B := by
  by_cases h : c
  · rw [if_pos h]
    exact h1 h
  · rw [if_neg h]
    exact h2 h
/-! ### heaps -/
/-- all that was tracked is as it was -/
noncomputable def Same (H H' : Hp) : Prop := ∀ b o, H b = some o → H' b = some o
theorem Same.refl (H : Hp) : Same H H := fun _ _ h => h
theorem Same.trans {H H1 H2 : Hp} (a : Same H H1) (b : Same H1 H2) : Same H H2 := fun c o h => b c o (a c o h)
theorem Same.free {H H' : Hp} (e : Same H H') {l : Addr} (h : H' l = Option.none) : H l = Option.none := by
  cases q : H l with
  | none => rfl
  | some o =>
    rw [e l o q] at h
    cases h
theorem Same.seq {K : PySem.W.Frag} {H H' : Hp} {a : Addr} {xs : List V} (e : Same H H') (h : SqL K H a xs) : SqL K H' a xs := by
  rcases h with (h | ⟨o, h⟩) | h
  · exact .inl (.inl (e _ _ h))
  · exact .inl (.inr ⟨o, e _ _ h⟩)
  · exact .inr h

end L2

set_option maxHeartbeats 4000000
namespace L2
open PySem PySem.Spec PyProof.Rows

/-! ### the cells that a comprehension's block is handed -/
noncomputable def clF (cells : List (Str × Addr)) : List (Str × NameKind) → List (Str × Addr) → List (Str × Addr)
  | [], cs => cs
  | (n, k) :: r, cs => clF cells r (if k == .free then (match cells.lookup n with | some c => (n, c) :: cs | none => cs) else cs)

theorem clF_mem {cells : List (Str × Addr)} : ∀ (names : List (Str × NameKind)) (cs : List (Str × Addr)) (n : Str) (c : Addr), (n, c) ∈ clF cells names cs → (n, c) ∈ cs ∨ (cells.lookup n = some c ∧ (n, NameKind.free) ∈ names)
  | [], cs, n, c, h => .inl h
  | (m, k) :: r, cs, n, c, h => by
    rcases clF_mem r _ n c h with q | ⟨q, z⟩
    · by_cases hk : (k == NameKind.free) = true
      · rw [if_pos hk] at q
        have hk' : k = .free := by simpa using hk
        cases e : cells.lookup m with
        | none => rw [e] at q; exact .inl q
        | some d =>
          rw [e] at q
          rcases List.mem_cons.mp q with z | z
          · cases z; exact .inr ⟨e, by rw [hk']; exact List.mem_cons_self⟩
          · exact .inl z
      · rw [if_neg hk] at q; exact .inl q
    · exact .inr ⟨q, List.mem_cons_of_mem _ z⟩
theorem clF_sub {cells : List (Str × Addr)} : ∀ (names : List (Str × NameKind)) (cs : List (Str × Addr)), ∀ p ∈ cs, p ∈ clF cells names cs
  | [], cs, p, h => h
  | (m, k) :: r, cs, p, h => by
    refine clF_sub r _ p ?_
    by_cases hk : (k == NameKind.free) = true
    · rw [if_pos hk]
      cases cells.lookup m with
      | none => exact h
      | some d => exact List.mem_cons_of_mem _ h
    · rw [if_neg hk]; exact h
theorem clF_has {cells : List (Str × Addr)} : ∀ (names : List (Str × NameKind)) (cs : List (Str × Addr)) (n : Str) (c : Addr), (n, NameKind.free) ∈ names → cells.lookup n = some c → (n, c) ∈ clF cells names cs
  | [], _, _, _, h, _ => nomatch h
  | (m, k) :: r, cs, n, c, h, e => by
    rcases List.mem_cons.mp h with z | z
    · cases z
      refine clF_sub r _ _ ?_
      rw [if_pos (by rfl), e]
      exact List.mem_cons_self
    · exact clF_has r _ n c z e
theorem lookup_isSome_of_mem {β : Type} : ∀ {l : List (Str × β)} {n : Str} {c : β}, (n, c) ∈ l → ∃ d, l.lookup n = some d
  | (m, d) :: r, n, c, h => by
    cases e : n == m with
    | true => exact ⟨d, by simp [List.lookup_cons, e]⟩
    | false =>
      have e' : n ≠ m := by simpa using e
      rcases List.mem_cons.mp h with z | z
      · cases z; exact absurd rfl e'
      · obtain ⟨q, hq⟩ := lookup_isSome_of_mem z
        exact ⟨q, by simp [List.lookup_cons, e, hq]⟩
theorem clF_lookup {cells : List (Str × Addr)} {names : List (Str × NameKind)} {n : Str} {c : Addr} (h : (clF cells names []).lookup n = some c) : cells.lookup n = some c ∧ (n, NameKind.free) ∈ names := by
  rcases clF_mem names [] n c (PySem.mem_of_lookup h) with z | z
  · cases z
  · exact z
theorem closure_eq {env : Env} {scope : Scope} (hf : ∀ n, (n, NameKind.free) ∈ scope.names → ∃ c, env.cells.lookup n = some c) : closureFor scope env = pure (clF env.cells scope.names []) := by
  have go : ∀ (l : List (Str × NameKind)) (cs : List (Str × Addr)), (∀ n, (n, NameKind.free) ∈ l → ∃ c, env.cells.lookup n = some c) →
      (forIn l cs (fun x r => match x with | (name, kind) => if (kind == NameKind.free) = true then do
        let y ← cellOf env name
        pure (ForInStep.yield ((name, y) :: r)) else pure (ForInStep.yield r)) : Sem (List (Str × Addr))) = pure (clF env.cells l cs) := by
    intro l
    induction l with
    | nil => intro cs _; rfl
    | cons x r ih =>
      intro cs h
      obtain ⟨n, k⟩ := x
      rw [List.forIn_cons]
      by_cases hk : (k == NameKind.free) = true
      · have hk' : k = .free := by simpa using hk
        obtain ⟨c, e⟩ := h n (by rw [hk']; exact List.mem_cons_self)
        have ec : cellOf env n = pure c := by unfold cellOf; rw [e]
        simp only [hk, if_true, ec, pure_bind]
        rw [ih _ fun m hm => h m (List.mem_cons_of_mem _ hm)]
        show _ = pure (clF env.cells r _)
        rw [if_pos hk, e]
      · have hk' : (k == NameKind.free) = false := by simpa using hk
        have e1 := ih cs fun m hm => h m (List.mem_cons_of_mem _ hm)
        show (((if (k == NameKind.free) = true then _ else pure (ForInStep.yield cs)) : Sem _) >>= _) = _
        rw [if_neg hk, pure_bind]
        refine Eq.trans e1 ?_
        show _ = pure (clF env.cells r _)
        rw [if_neg hk]
  unfold closureFor
  have := go scope.names [] hf
  rw [bind_pure]
  exact this
end L2

namespace L2
open PySem PySem.Spec PyProof.Rows

/-- a comprehension's own scope against the block around it -/
structure CScope (X : Cx) (xs : List Str) (sc : Scope) : Prop where
  kind : sc.kind = .function
  nocell : ∀ y ∈ sc.names, y.2 ≠ .cell
  names : ∀ y ∈ sc.names, y.2 = .local → sc.names.lookup y.1 = some .local
  own : ∀ x ∈ xs, sc.names.lookup x = some .local
  sep : ∀ y ∈ X.N, sc.names.lookup y ≠ some .local
  frees : ∀ y ∈ sc.names, y.2 = .free → X.env.kindOf y.1 = some .cell ∨ X.env.kindOf y.1 = some .free
  nd : (xs ++ X.N).Nodup

/-- the context of a comprehension's block -/
noncomputable def cxC (X : Cx) (xs : List Str) (sc : Scope) (ex : List Addr) (s : Shared) (H : Hp) : Cx where
  prog := X.prog
  w := X.w
  K := X.K
  mg := X.mg
  base := X.base
  A := X.A
  N := xs ++ X.N
  s₀ := s
  H₀ := H
  env := compEnvC sc (clF X.env.cells sc.names []) s.heap.objs.size X.env
  outer := X.stack
  stack := X.stack
  ex := ex
  fn := fun _ => false
  calm := X.calm
  pn := []
  xe := fun _ _ => False

theorem lookup_relabel (env : Env) (x : Str) : ∀ names : List (Str × NameKind),
    (names.map fun (n, k) => if (k == NameKind.free && env.scope.kind == .function && env.kindOf n == some .cell) then (n, NameKind.cell) else (n, k)).lookup x =
      (names.lookup x).map fun k => if (k == NameKind.free && env.scope.kind == .function && env.kindOf x == some .cell) then NameKind.cell else k
  | [] => rfl
  | (n, k) :: r => by
    have ih := lookup_relabel env x r
    show List.lookup x ((if (k == NameKind.free && env.scope.kind == .function && env.kindOf n == some .cell) = true then (n, NameKind.cell) else (n, k)) :: _) = _
    cases hx : x == n with
    | true =>
      have e : x = n := by simpa using hx
      subst e
      by_cases hc : (k == NameKind.free && env.scope.kind == .function && env.kindOf x == some .cell) = true
      · rw [if_pos hc]
        simp only [List.lookup_cons, hx, Option.map_some]
        rw [if_pos hc]
      · rw [if_neg hc]
        simp only [List.lookup_cons, hx, Option.map_some]
        rw [if_neg hc]
    | false =>
      by_cases hc : (k == NameKind.free && env.scope.kind == .function && env.kindOf n == some .cell) = true
      · rw [if_pos hc]; simp only [List.lookup_cons, hx]; exact ih
      · rw [if_neg hc]; simp only [List.lookup_cons, hx]; exact ih

/-- a name of the block around, seen in the comprehension, is a free one -/
theorem vis_relabel {sc : Scope} {env : Env} {x : Str} (h : Vis (relabel sc env) x) (hl : sc.names.lookup x ≠ some .local) (hc : ∀ y ∈ sc.names, y.2 ≠ .cell) :
    (x, NameKind.free) ∈ sc.names ∧ ((relabel sc env).names.lookup x = some .cell ∨ (relabel sc env).names.lookup x = some .free) := by
  have e : (relabel sc env).names.lookup x = _ := lookup_relabel env x sc.names
  unfold Vis at h
  rw [e] at h
  cases k : sc.names.lookup x with
  | none => rw [k] at h; simp at h
  | some v =>
    have mem := PySem.mem_of_lookup k
    have nl : v ≠ .local := fun z => hl (by rw [k, z])
    have ncl : v ≠ .cell := fun z => hc _ mem z
    rw [k] at h
    rw [e, k]
    simp only [Option.map_some] at h ⊢
    by_cases hv : v = .free
    · subst hv
      refine ⟨mem, ?_⟩
      split
      · exact .inl rfl
      · exact .inr rfl
    · have : (v == NameKind.free) = false := by simpa using hv
      simp only [this, Bool.false_and] at h
      rcases h with h | h | h
      · exact absurd (Option.some.inj h) nl
      · exact absurd (Option.some.inj h) ncl
      · exact absurd (Option.some.inj h) hv

section
variable {X : Cx} {pins : List (Addr × Obj)} {σ : St} {H : Hp} {s : Shared} {xs : List Str} {sc : Scope} {ex : List Addr}
theorem CScope.cells (S : CScope X xs sc) (ok : X.Ok) : ∀ n, (n, NameKind.free) ∈ sc.names → ∃ c, X.env.cells.lookup n = some c := fun n h => ok.has n (S.frees _ h rfl)
theorem cxC_ok (S : CScope X xs sc) (I : Inv X pins σ H s) (he : ∀ b ∈ ex, b < s.heap.objs.size ∧ b ∉ frs X.stack ∧ (∀ x c, X.env.cells.lookup x = some c → c ≠ b) ∧ X.base.get? b = none) : (cxC X xs sc ex s H).Ok := by
  refine ⟨I.ok.mod, S.kind, I.ok.glob, I.ok.blt, Nat.le_refl _, fun x y c h1 h2 => ?_, fun x hx => ?_, fun _ _ h => (by cases h), I.ok.hd, I.ok.frames, .inl rfl, fun b hb => ⟨Nat.ne_of_lt (he b hb).1, fun x c h => (he b hb).2.2.1 x c (clF_lookup h).1⟩, fun b o e => ?_, ?_, fun b o e hb => ?_, fun b hb => (he b hb).2.1, I.stack, I.stkFree⟩
  · exact I.ok.inj x y c (clF_lookup h1).1 (clF_lookup h2).1
  · have hv : (relabel sc X.env).names.lookup x = some .cell ∨ (relabel sc X.env).names.lookup x = some .free := hx
    have q : (x, NameKind.free) ∈ sc.names := by
      have e : (relabel sc X.env).names.lookup x = _ := lookup_relabel X.env x sc.names
      rw [e] at hv
      cases k : sc.names.lookup x with
      | none => rw [k] at hv; simp at hv
      | some v =>
        have mem := PySem.mem_of_lookup k
        rw [k] at hv
        simp only [Option.map_some] at hv
        by_cases hvf : v = .free
        · rw [hvf] at mem; exact mem
        · have : (v == NameKind.free) = false := by simpa using hvf
          simp only [this, Bool.false_and] at hv
          rcases hv with h | h
          · exact absurd (Option.some.inj h) (S.nocell _ mem)
          · exact absurd (Option.some.inj h) hvf
    obtain ⟨c, e⟩ := S.cells I.ok x q
    exact lookup_isSome_of_mem (clF_has sc.names [] x c q e)
  · exact I.bs b o e
  · exact Nat.le_trans I.ok.bsz I.sz
  · have q : X.base.get? b = none := (he b hb).2.2.2
    have e' : X.base.get? b = some o := e
    rw [q] at e'; cases e'

/-- the block's first state -/
theorem inv_comp {h₁ : Heap} {tk : Nat} (S : CScope X xs sc) (I : Inv X pins σ H s) (he : ∀ b ∈ ex, b < s.heap.objs.size ∧ b ∉ frs X.stack ∧ (∀ x c, X.env.cells.lookup x = some c → c ≠ b) ∧ X.base.get? b = none)
    (hn : h₁.Ns s.heap.objs.size (fun _ => none)) (hk : ∀ b o, s.heap.get? b = some o → h₁.get? b = some o) :
    Inv (cxC X xs sc ex s H) [] (List.replicate xs.length none ++ σ) H { s with heap := h₁, toks := tk } := by
  have I1 : Inv X pins σ H { s with heap := h₁, toks := tk } := I.kept hk
  refine ⟨cxC_ok S I he, rfl, I.bare, Un.kept hk, ⟨_, hn, fun i x v h1 h2 h3 => ?_⟩, fun x c h => I1.cell x c (clF_lookup h).1, I.hok.fresh (Nat.le_refl _), fun x c h => I.freeC x c (clF_lookup h).1, fun p hp => absurd (show p ∈ ([] : List (Addr × Obj)) from hp) (by simp), I.hok.kept hk, ?_⟩
  · have h1' : (xs ++ X.N)[i]? = some x := h1
    by_cases hi : i < xs.length
    · rw [List.getElem?_append_left (by simpa using hi), List.getElem?_replicate, if_pos hi] at h2
      cases h2
    · have hi' : xs.length ≤ i := Nat.le_of_not_lt hi
      rw [List.getElem?_append_right (by simpa using hi')] at h2
      rw [List.getElem?_append_right hi'] at h1'
      rw [List.length_replicate] at h2
      have hm : x ∈ X.N := List.mem_of_getElem? h1'
      obtain ⟨hf, hkd⟩ := vis_relabel h3 (S.sep x hm) S.nocell
      have hko := S.frees _ hf rfl
      obtain ⟨m, _, hl⟩ := I1.loc
      obtain ⟨u, r, l⟩ := hl (i - xs.length) x v h1' h2 (by
        rcases hko with z | z
        · exact .inr (.inl z)
        · exact .inr (.inr z))
      refine ⟨u, r, .inr ⟨hkd, ?_⟩⟩
      rcases l with ⟨z, _⟩ | ⟨_, c, ec, hc⟩
      · rcases hko with q | q <;> (rw [q] at z; cases z)
      · obtain ⟨d, ed⟩ := lookup_isSome_of_mem (clF_has sc.names [] x c hf ec)
        have : c = d := by
          have := (clF_lookup ed).1
          rw [ec] at this
          exact Option.some.inj this
        subst this
        exact ⟨c, ed, hc⟩
  · show (List.replicate xs.length none ++ σ).length = (xs ++ X.N).length
    rw [List.length_append, List.length_append, List.length_replicate, I.len]
end
end L2

namespace L2
open PySem PySem.Spec PyProof.Rows

section
variable {prog : Program} {w : World} {A : Around} {R : Result → Shared → Prop} {s : Shared}
/-- a comprehension's loop, no exception leaving it -/
theorem compLoop_of {elt target iter : Expr} {ifs : List Expr} {scope : Scope} {pos : Pos} {it acc : Value} {env : Env} (I : Nat → Shared → Prop)
    (turn : ∀ n s, I n s → wpAny (model prog w) A (pyNext it) (fun r s₁ => match r with
      | none => R (.ok .next) s₁
      | some v => wpAny (model prog w) A (letOwnedTupleGo target it v) (fun _ s₁' => wpAny (model prog w) A (assign target env v) (fun _ s₂ =>
          wpAny (model prog w) A (forIn ifs true fun c r => if r = true then do let ok ← isTrue c env (eval c env); pure (ForInStep.yield ok) else pure (ForInStep.yield r)) (fun ok s₃ =>
            if ok = true then wpAny (model prog w) A (eval elt env) (fun x s₄ =>
              wpAny (model prog w) A (call (.builtin "list.append") [acc, x]) (fun _ s₅ => ∃ m, m < n ∧ I m s₅) (fun _ _ => False) s₄) (fun _ _ => False) s₃
            else ∃ m, m < n ∧ I m s₃) (fun _ _ => False) s₂) (fun _ _ => False) s₁') (fun _ _ => False) s₁) (fun _ _ => False) s)
    (n : Nat) (h : I n s) :
    codeAny (model prog w) A (.compLoop (.ListComp elt [⟨target, iter, ifs, 0⟩] scope pos) 0 it acc env) R s := by
  refine codeAny_loop rfl I (fun n s hI => ?_) n h
  show wpAny _ A ((compTurn (.ListComp elt [⟨target, iter, ifs, 0⟩] scope pos) 0 it acc env).onRaise (fun x => do noteFrame x env; theTreesLotGoes x)) _ _ s
  refine wpAny_noted ?_
  rw [compTurn_list]
  refine wpAny_bind (wpAny_standAt (wpAny_bind (wpAny_mono (turn n s hI) (fun r s₁ h₁ => ?_) fun _ _ h' => h'.elim)))
  cases r with
  | none => exact wpAny_pure h₁
  | some v =>
    refine wpAny_bind (wpAny_mono h₁ (fun _ s₁' h₁' => ?_) fun _ _ h' => h'.elim)
    refine wpAny_bind (wpAny_mono h₁' (fun _ s₂ h₂ => wpAny_bind (wpAny_mono h₂ (fun ok s₃ h₃ => ?_) fun _ _ h' => h'.elim)) fun _ _ h' => h'.elim)
    cases ok with
    | false => exact wpAny_pure ⟨rfl, h₃⟩
    | true =>
      exact wpAny_bind (wpAny_bind (wpAny_mono h₃ (fun x s₄ h₄ => wpAny_bind (wpAny_mono h₄ (fun _ s₅ h₅ => wpAny_pure (wpAny_pure ⟨rfl, h₅⟩)) fun _ _ h' => h'.elim)) fun _ _ h' => h'.elim))
end

/-- the tests of a clause -/
noncomputable def PTs (X : Cx) (ifs : List Expr) (t : TT) : Prop :=
  ∀ (pins : List (Addr × Obj)) (s : Shared) (σ : St) (H : Hp) (Q : Bool → Hp → Prop), Inv X pins σ H s → t σ H Q →
    wpAny (model X.prog X.w) X.A (forIn ifs true fun c r => if r = true then do let ok ← isTrue c X.env (eval c X.env); pure (ForInStep.yield ok) else pure (ForInStep.yield r)) (TP X pins σ Q) X.xe s
noncomputable def tYes : TT := fun _ H Q => Q true H
theorem pts_nil {X : Cx} : PTs X [] tYes := fun _ _ _ H _ I h => wpAny_tests_nil ⟨H, I, h⟩
theorem pts_one {X : Cx} {c : Expr} {t : TT} (h : PT X c t) : PTs X [c] t := fun pins s σ H Q I q => wpAny_tests_one (h pins s σ H Q I q)

section
variable {X : Cx} {pins : List (Addr × Obj)} {σ : St} {H : Hp} {s2 : Shared} {tg iter elt : Expr} {ifs : List Expr} {sc : Scope} {pos : Pos} {xs : List Str} {g : TG} {tc : TT} {te : TE} {J : It} {fp : List Addr} {it : Addr} {tn : Nat → Heap → Prop}
/-- a list object that stands untracked is taken into the tracked ones -/
theorem HOk.adopt {P : Program} {w : World} {H : Hp} {h : Heap} {a : Addr} {xs : List V} {its : List Value} {n : Nat} (x : HOk P w H h) (hn : H a = none) (hz : xs.length ≤ sizeLine) (r : Vals xs its) (e : h.get? a = some { cls := .type "list", data := .seq its.toArray n }) :
    HOk P w (upd H a (.lst xs)) h := fun b u q => by
  by_cases hb : b = a
  · subst hb; rw [upd_same] at q; cases q; exact ⟨hz, its, n, r, e⟩
  · rw [upd_ne hb] at q
    exact (x b u q).stay (fun c v _ q => q) (fun c q => by rw [upd_ne (ne_of_none q hn)]; exact q) fun c xs q => by rw [upd_ne (ne_of_none q hn)]; exact q

theorem comp_core {E : Value → Shared → Prop} {RR : Value → Addr → Result → Shared → Prop} (S : CScope X xs sc) (hcalm : X.calm = true)
    (hg : ∀ ex s3 H3, PG (cxC X xs sc ex s3 H3) tg g) (ht : ∀ ex s3 H3, PTs (cxC X xs sc ex s3 H3) ifs tc) (he : ∀ ex s3 H3, PE (cxC X xs sc ex s3 H3) elt te)
    (I : Inv X pins σ H s2) (T : Turn X.prog X.w X.K tg J fp it tn) (st : tn 0 s2.heap) (f2 : ∀ b ∈ fp, FpOk X pins H b)
    (W : Nat → Nat → List V → Hp → Prop) (w0 : ∃ m, W 0 m [] H) (F : List V → Hp → Prop)
    (turn : ∀ i m acc H, W i m acc H → (J.stop i H ∧ acc.length ≤ sizeLine ∧ F acc H) ∨
      (J.go i H ∧ acc.length < sizeLine ∧ ∃ N : List V → Hp → Prop, (∀ acc' H', N acc' H' → ∃ m', m' < m ∧ W (i + 1) m' acc' H') ∧ ∀ x H', J.yld i H x H' → g x (List.replicate xs.length none ++ σ) H' fun σ2 H2 => σ2.drop xs.length = σ ∧ tc σ2 H2 fun c H3 =>
        if c = true then te σ2 H3 fun y H4 => N (acc ++ [y]) H4 else N acc H3))
    (fin : ∀ D C s' acc H', (∃ m, s'.heap.Ns C m) → FpOk X pins (upd H' D (.lst acc)) C → F acc H' → H' D = none → Inv X pins σ (upd H' D (.lst acc)) s' → RR (.ref D) C (.ok .next) s') :
    wpAny (model X.prog X.w) X.A (newList []) (fun acc s3 => wpAny (model X.prog X.w) X.A (newFunctionEnv sc X.env.globals (clF X.env.cells sc.names []) [] X.env.qual none .none (some X.env)) (fun cenv s4 =>
      codeAny (model X.prog X.w) X.A (.compStart (.ListComp elt [⟨tg, iter, ifs, 0⟩] sc pos) 0 (.ref it) acc { cenv with scope := relabel sc X.env }) (RR acc cenv.locals) s4) E s3) E s2 := by
  refine wpAny_newObj_type (wpAny_newFunctionEnv S.nocell (by intro y hy; simp at hy) (fun h₁ hns₁ hsb₁ => ?_) S.kind)
  dsimp only at hns₁ hsb₁ ⊢
  generalize hH3 : s2.heap.push { cls := .type "list", dict := none, data := .seq ([] : List Value).toArray } = H3 at hns₁ hsb₁ ⊢
  have hC : H3.objs.size = s2.heap.objs.size + 1 := by rw [← hH3, Heap.size_push]
  have hDC : s2.heap.objs.size ≠ H3.objs.size := by rw [hC]; exact Nat.ne_of_lt (Nat.lt_succ_self _)
  have old3 : ∀ b o, s2.heap.get? b = some o → H3.get? b = some o := fun b o e => hH3 ▸ Heap.get?_push_of_some _ e
  have k1 : ∀ b o, H3.get? b = some o → h₁.get? b = some o := fun b o e => hsb₁.extBut b o (Nat.ne_of_lt (Heap.lt_size e)) (Heap.get?_push_of_some _ e)
  have I3 : Inv X pins σ H { s2 with heap := H3 } := I.kept old3
  have fpLt : ∀ b ∈ fp, b < s2.heap.objs.size := fun b hb => by
    obtain ⟨o, e, _⟩ := T.obj _ _ st b hb
    exact Heap.lt_size e
  have hnofr : ∀ b, s2.heap.objs.size ≤ b → b ∉ frs X.stack := fun b hb z => by
    rcases List.mem_cons.mp (I.stkSub b z) with q | q
    · exact absurd (Nat.lt_of_lt_of_le I.lt hb) (by rw [q]; exact Nat.lt_irrefl _)
    · exact I.nofs hb q
  have hnocell : ∀ b, s2.heap.objs.size ≤ b → ∀ x c, X.env.cells.lookup x = some c → c ≠ b := fun b hb x c e z => by
    obtain ⟨v, q⟩ := I.cell x c e
    exact absurd (Nat.lt_of_lt_of_le q.lt (by rw [z]; exact hb)) (Nat.lt_irrefl _)
  have hnobase : ∀ b, s2.heap.objs.size ≤ b → X.base.get? b = none := fun b hb => Heap.get?_none_of_le (Nat.le_trans (Nat.le_trans I.ok.bsz I.sz) hb)
  have fpfr : ∀ b ∈ fp, b ∉ frs X.stack := fun b hb z => by
    rcases List.mem_cons.mp (I.stkSub b z) with q | q
    · exact (f2 b hb).2.1 q
    · exact (f2 b hb).2.2.1 q
  have fpbase : ∀ b ∈ fp, X.base.get? b = none := fun b hb => by
    rcases (f2 b hb).2.2.2.1 with z | z
    · cases e : X.base.get? b with
      | none => rfl
      | some o => exact absurd z (I.ok.noex b o e)
    · exact Heap.get?_none_of_le (Nat.le_trans I.ok.bsz z)
  have hex : ∀ b ∈ (s2.heap.objs.size :: fp), b < H3.objs.size ∧ b ∉ frs X.stack ∧ (∀ x c, X.env.cells.lookup x = some c → c ≠ b) ∧ X.base.get? b = none := fun b hb => by
    rcases List.mem_cons.mp hb with z | z
    · subst z
      exact ⟨by rw [hC]; exact Nat.lt_succ_self _, hnofr _ (Nat.le_refl _), hnocell _ (Nat.le_refl _), hnobase _ (Nat.le_refl _)⟩
    · exact ⟨by rw [hC]; exact Nat.lt_succ_of_lt (fpLt b z), fpfr b z, (f2 b z).2.2.2.2.1, fpbase b z⟩
  have I4 := inv_comp (ex := s2.heap.objs.size :: fp) (tk := s2.toks + ([] : List (Str × Value)).length) S I3 hex hns₁ k1
  generalize hX' : cxC X xs sc (s2.heap.objs.size :: fp) { s2 with heap := H3 } H = X' at I4
  have hDn : H s2.heap.objs.size = none := I.hok.fresh (Nat.le_refl _)
  have hDobj : h₁.get? s2.heap.objs.size = some { cls := .type "list", data := .seq (([] : List Value)).toArray 0 } := k1 _ _ (hH3 ▸ Heap.get?_push_size _ rfl)
  have st1 : tn 0 h₁ := T.keep _ _ _ st fun b _ o e => k1 b o (old3 b o e)
  obtain ⟨m0, w0⟩ := w0
  -- the block's facts about D and the iterator, whatever the state
  have eXex : X'.ex = s2.heap.objs.size :: fp := by rw [← hX']; rfl
  have eXloc : X'.env.locals = H3.objs.size := by rw [← hX']; rfl
  have eXfs : X'.fs = frs X.stack := by rw [← hX']; rfl
  have eXcl : X'.env.cells = clF X.env.cells sc.names [] := by rw [← hX']; rfl
  have eXpn : X'.pn = [] := by rw [← hX']; rfl
  have eXm : X'.prog = X.prog ∧ X'.w = X.w ∧ X'.K = X.K ∧ X'.calm = true ∧ X'.A = X.A ∧ X'.xe = fun _ _ => False := by rw [← hX']; exact ⟨rfl, rfl, rfl, hcalm, rfl, rfl⟩
  obtain ⟨eP, ew, eK, ec, eA, exe⟩ := eXm
  have envE : X'.env = { newEnv sc H3.objs.size X.env.globals (clF X.env.cells sc.names []) X.env.qual none .none (some X.env) builtinsNs with scope := relabel sc X.env } := by rw [← hX']; rfl
  have hg' : PG X' tg g := hX' ▸ hg _ _ _
  have ht' : PTs X' ifs tc := hX' ▸ ht _ _ _
  have he' : PE X' elt te := hX' ▸ he _ _ _
  have hs0 : X'.s₀.heap = H3 := by rw [← hX']; rfl
  have hH0 : X'.H₀ = H := by rw [← hX']; rfl
  have hos : X'.s₀.os = s2.os := by rw [← hX']; rfl
  have loop : ∀ s₃ : Shared, s₃ = { s2 with heap := h₁, toks := s2.toks + ([] : List (Str × Value)).length } →
      codeAny (model X.prog X.w) X.A (.compLoop (.ListComp elt [⟨tg, iter, ifs, 0⟩] sc pos) 0 (.ref it) (.ref s2.heap.objs.size) X'.env) (RR (.ref s2.heap.objs.size) H3.objs.size) s₃ := by
    rintro s₃ rfl
    refine compLoop_of (fun n s' => ∃ i acc its k H', Inv X' [] (List.replicate xs.length none ++ σ) H' s' ∧ tn i s'.heap ∧ (∀ b ∈ fp, H' b = none) ∧ H' s2.heap.objs.size = none ∧ Vals acc its ∧
      s'.heap.get? s2.heap.objs.size = some { cls := .type "list", data := .seq its.toArray k } ∧ W i n acc H') ?_ m0
      ⟨0, [], [], 0, H, I4, st1, fun b hb => (f2 b hb).1, hDn, .nil, hDobj, w0⟩
    rintro n s' ⟨i, acc, its, k, H', I', st', fr', hD', rv, hobj, w'⟩
    have fpok : ∀ {o : Obj} {H'' : Hp}, (∀ b ∈ fp, H'' b = none) → ∀ b ∈ fp, FpOk X' [(s2.heap.objs.size, o)] H'' b := fun {o H''} hn b hb => by
      refine ⟨hn b hb, by rw [eXloc, hC]; exact Nat.ne_of_lt (Nat.lt_succ_of_lt (fpLt b hb)), by rw [eXfs]; exact fpfr b hb, .inl (by rw [eXex]; exact List.mem_cons_of_mem _ hb), fun x c e => ?_, fun p hp => ?_⟩
      · rw [eXcl] at e
        exact (f2 b hb).2.2.2.2.1 x c (clF_lookup e).1
      · rw [eXpn] at hp
        have : p = (s2.heap.objs.size, o) := by simpa using hp
        rw [this]
        exact Nat.ne_of_gt (fpLt b hb)
    have pinD : ∀ {H'' : Hp} {s'' : Shared} {σ'' : St} {o : Obj}, Inv X' [] σ'' H'' s'' → s''.heap.get? s2.heap.objs.size = some o → (∀ v, o.data ≠ .cell v) → H'' s2.heap.objs.size = none → Inv X' [(s2.heap.objs.size, o)] σ'' H'' s'' := fun {H'' s'' σ'' o} J e d hn =>
      J.pins_of fun p hp => by
        have : p = (s2.heap.objs.size, o) := by simpa using hp
        rw [this]
        exact ⟨e, hn, by rw [eXloc]; exact hDC, by rw [eXfs]; exact hnofr _ (Nat.le_refl _), d⟩
    have J := pinD I' hobj (fun v => by intro z; cases z) hD'
    rw [← eP, ← ew, ← eA]
    rcases turn i n acc H' w' with ⟨stop, hz, hF⟩ | ⟨go, hz, N, hN, step⟩
    · have q1 : wpAny (model X'.prog X'.w) X'.A (pyNext (.ref it)) (fun r s1 => r = none ∧ Inv X' [(s2.heap.objs.size, { cls := .type "list", data := .seq its.toArray k })] (List.replicate xs.length none ++ σ) H' s1) (fun _ _ => False) s' := by
        have := T.done X' eP ew eK ec i _ s' _ H' (fun _ _ => False) J (fpok fr') st' stop
        rw [eP, ew]; exact this
      refine thn q1 fun r s1 h1 => ?_
      obtain ⟨hr, J1⟩ := h1
      subst hr
      have e1 := J1.pin (s2.heap.objs.size, { cls := .type "list", data := .seq its.toArray k }) (List.mem_append_right _ List.mem_cons_self)
      -- back to the block around
      have un : Un (frs X.stack) (s2.heap.objs.size :: fp) H H' H3 s1.heap := by
        have := J1.base
        rw [eXfs, eXex, hH0, hs0] at this
        exact this
      have hok1 : HOk X.prog X.w H' s1.heap := by have := J1.hok; rw [eP, ew] at this; exact this
      obtain ⟨mC, hmC, _⟩ := J1.loc
      have hmC' : s1.heap.Ns H3.objs.size mC := by rw [eXloc] at hmC; exact hmC
      have hCfree : H' H3.objs.size = none := by have := J1.free; rw [eXloc] at this; exact this
      refine fin _ _ s1 acc H' ⟨mC, hmC'⟩ ?_ hF e1.2.1 ?_
      · refine I.fpOk (by rw [hC]; exact Nat.le_succ _) ?_
        rw [upd_ne (Ne.symm hDC)]
        exact hCfree
      · refine I.call' (ch := fp) (J1.os.trans hos) ?_ (hok1.adopt e1.2.1 hz rv e1.1) J1.bare fun b hb => ⟨(f2 b hb).2.2.2.1, (f2 b hb).2.1, (f2 b hb).2.2.2.2.1, (f2 b hb).2.2.2.2.2⟩
        have below : ∀ b o, s2.heap.get? b = some o → b ≠ s2.heap.objs.size := fun b o e => Nat.ne_of_lt (Heap.lt_size e)
        have nin : ∀ b o, s2.heap.get? b = some o → b ∉ fp → b ∉ s2.heap.objs.size :: fp := fun b o e hb z => (List.mem_cons.mp z).elim (below b o e) hb
        have trkne : ∀ b u, H b = some u → b ≠ s2.heap.objs.size := fun b u e z => by rw [z, hDn] at e; cases e
        refine ⟨fun b o e n hf hb => un.keep b o (old3 b o e) n hf (nin b o e hb), fun b o e n hf hb => un.slot b o (old3 b o e) n hf (nin b o e hb), fun b o e n hb => ?_, fun b o e hb => un.there b o (old3 b o e) (nin b o e hb), fun b ys e => ?_, fun b o u e => ?_, fun b ps e => ?_⟩
        · rw [upd_ne (below b o e)]; exact un.free b o (old3 b o e) n (nin b o e hb)
        · rw [upd_ne (trkne b _ e)]; exact un.tups b ys e
        · rw [upd_ne (trkne b _ e)]; exact un.frzs b o u e
        · rw [upd_ne (trkne b _ e)]; exact un.tbls b ps e
    · have q1 := T.item X' eP ew eK ec i _ s' _ H' (fun _ _ => False) J (fpok fr') st' go
      rw [← eP, ← ew] at q1
      have q2 := q1
      refine thn q2 fun r s1 h1 => ?_
      obtain ⟨u, hr, h4⟩ := h1
      subst hr
      dsimp only
      refine thn h4 fun _ s5 ⟨x, H5, J5, r5, y5, st5, fr5⟩ => ?_
      have J5' := J5.pinned (fpok fr5) (T.obj _ _ st5)
      have q5 := hg' _ s5 _ H5 x u _ J5' r5 (step x H5 y5)
      rw [exe] at q5
      refine thn q5 fun _ s6 ⟨σ6, H6, J6, hσ, q6⟩ => ?_
      have q7 := ht' _ s6 σ6 H6 _ J6 q6
      rw [exe] at q7
      refine thn q7 fun ok s7 ⟨H7, J7, q7⟩ => ?_
      -- the state behind a turn
      have lenσ : ∀ {H8 : Hp} {s8 : Shared} {pl : List (Addr × Obj)}, Inv X' pl σ6 H8 s8 → (List.replicate xs.length none ++ σ).length = σ6.length := fun {H8 s8 pl} J8 => J6.len.symm ▸ I4.len
      have weak : ∀ {H8 : Hp} {s8 : Shared} {pl : List (Addr × Obj)}, Inv X' pl σ6 H8 s8 → Inv X' pl (List.replicate xs.length none ++ σ) H8 s8 := fun {H8 s8 pl} J8 => by
        refine J8.weak (lenσ J8) fun j v e => ?_
        by_cases hj : j < xs.length
        · rw [List.getElem?_append_left (by simpa using hj), List.getElem?_replicate, if_pos hj] at e
          cases e
        · have hj' : xs.length ≤ j := Nat.le_of_not_lt hj
          rw [List.getElem?_append_right (by simpa using hj'), List.length_replicate, ← hσ, List.getElem?_drop] at e
          rw [← e]
          congr 1
          omega
      have back : ∀ {H8 : Hp} {s8 : Shared}, Inv X' ([(s2.heap.objs.size, { cls := .type "list", data := .seq its.toArray k })] ++ pinsAt fp s5.heap) σ6 H8 s8 →
          Inv X' [] (List.replicate xs.length none ++ σ) H8 s8 ∧ tn (i + 1) s8.heap ∧ (∀ b ∈ fp, H8 b = none) ∧ H8 s2.heap.objs.size = none ∧ s8.heap.get? s2.heap.objs.size = some { cls := .type "list", data := .seq its.toArray k } := fun {H8 s8} J8 => by
        have eD := J8.pin (s2.heap.objs.size, { cls := .type "list", data := .seq its.toArray k }) (List.mem_append_right _ (List.mem_append_left _ List.mem_cons_self))
        refine ⟨(weak J8).pins_of fun p hp => absurd hp (by simp), T.keep _ _ _ st5 fun b hb o e => (J8.pin (b, o) (List.mem_append_right _ (List.mem_append_right _ (mem_pinsAt hb e)))).1, fun b hb => ?_, eD.2.1, eD.1⟩
        obtain ⟨o, e, d⟩ := T.obj _ _ st5 b hb
        exact (J8.pin (b, o) (List.mem_append_right _ (List.mem_append_right _ (mem_pinsAt hb e)))).2.1
      cases ok with
      | false =>
        simp only [Bool.false_eq_true, if_false] at q7 ⊢
        obtain ⟨m', hm, w7⟩ := hN _ _ q7
        obtain ⟨a1, a2, a3, a4, a5⟩ := back J7
        exact ⟨m', hm, i + 1, acc, its, k, H7, a1, a2, a3, a4, rv, a5, w7⟩
      | true =>
        simp only [if_true] at q7 ⊢
        have q8 := he' _ s7 σ6 H7 _ J7 q7
        rw [exe] at q8
        refine thn q8 fun u8 s8 ⟨y, H8, J8, r8, q9⟩ => ?_
        obtain ⟨m', hm, w8⟩ := hN _ _ q9
        obtain ⟨a1, a2, a3, a4, a5⟩ := back J8
        have hits : its.length = acc.length := rv.length.symm
        refine wpAny_list_append_plain (hsz := by show its.toArray.size ≤ sizeLine; rw [List.size_toArray, hits]; exact Nat.le_of_lt hz) ⟨k, a5⟩ fun h9 hl9 hs9 => ?_
        obtain ⟨k9, e9⟩ := hl9
        refine ⟨m', hm, i + 1, acc ++ [y], its ++ [u8], k9, H8, ?_, ?_, a3, a4, rv.append (.cons r8 .nil), ?_, w8⟩
        · exact a1.turned (t' := s8.toks) (fun b o hb e => hs9.extBut b o hb e) a4 (by rw [eXloc]; exact hDC) (.inl (by rw [eXex]; exact List.mem_cons_self)) (fun x c e => by rw [eXcl] at e; exact hnocell _ (Nat.le_refl _) x c (clF_lookup e).1) (fun p hp => by rw [eXpn] at hp; simp at hp)
        · exact T.keep _ _ _ a2 fun b hb o e => hs9.extBut b o (Nat.ne_of_lt (fpLt b hb)) e
        · rw [e9]
          congr 2
          simp
  rw [show { newEnv sc H3.objs.size X.env.globals (clF X.env.cells sc.names []) X.env.qual none .none (some X.env) builtinsNs with scope := relabel sc X.env } = X'.env from envE.symm]
  exact codeAny_compStart_list (loop _ rfl) (T.self X.A 0 _ _ _ st1 (loop _ rfl))
end
end L2

namespace L2
open PySem PySem.Spec PyProof.Rows

/-- [elt for tg in iter if ..]: W the word by the turn, a measure, and what is gathered -/
noncomputable def LCW (n : Nat) (J : It) (g : TG) (tc : TT) (te : TE) (σ : St) (H1 : Hp) (F : List V → Hp → Prop) : Prop :=
  ∃ W : Nat → Nat → List V → Hp → Prop, (∃ m, W 0 m [] H1) ∧ ∀ i m acc H, W i m acc H → (J.stop i H ∧ acc.length ≤ sizeLine ∧ F acc H) ∨
    (J.go i H ∧ acc.length < sizeLine ∧ ∃ N : List V → Hp → Prop, (∀ acc' H', N acc' H' → ∃ m', m' < m ∧ W (i + 1) m' acc' H') ∧ ∀ x H', J.yld i H x H' → g x (List.replicate n none ++ σ) H' fun σ2 H2 => σ2.drop n = σ ∧ tc σ2 H2 fun c H3 =>
      if c = true then te σ2 H3 fun y H4 => N (acc ++ [y]) H4 else N acc H3)
noncomputable def tLC (n : Nat) (wi : TI) (g : TG) (tc : TT) (te : TE) : TE := fun σ H Q => wi σ H fun J H1 => LCW n J g tc te σ H1 fun acc H => ∀ p, H p = none → Q (.ref p) (upd H p (.lst acc))

section
variable {X : Cx} {tg iter elt : Expr} {ifs : List Expr} {sc : Scope} {pos : Pos} {xs : List Str} {wi : TI} {g : TG} {tc : TT} {te : TE}
theorem FpOk.turn {pins : List (Addr × Obj)} {σ : St} {H : Hp} {s : Shared} {C : Addr} {h' : Heap} (f : FpOk X pins H C) (I : Inv X pins σ H s) (hs : Heap.SameBut C s.heap h') : Inv X pins σ H { s with heap := h' } :=
  I.turned (t' := s.toks) (fun b o hb e => hs.extBut b o hb e) f.1 f.2.1 f.2.2.2.1 f.2.2.2.2.1 f.2.2.2.2.2
theorem pe_comp (S : CScope X xs sc) (hc : X.calm = true) (hi : PI X tg iter wi) (hg : ∀ ex s3 H3, PG (cxC X xs sc ex s3 H3) tg g) (ht : ∀ ex s3 H3, PTs (cxC X xs sc ex s3 H3) ifs tc) (he : ∀ ex s3 H3, PE (cxC X xs sc ex s3 H3) elt te)
    (hs : ∀ x, foldedSetIterable iter X.env x = pure x := by intro _; rfl) : PE X (.ListComp elt [⟨tg, iter, ifs, 0⟩] sc pos) (tLC xs.length wi g tc te) := by
  intro pins s σ H Q I h
  rw [eval_ListComp]
  refine wpAny_comprehension_free (use := none) rfl hs (closure_eq (S.cells I.ok)) S.kind S.names (thn (hi pins s σ H _ I h) fun v s1 h1 => thn h1 fun itv s2 h2 => ?_)
  obtain ⟨it, fp, tn, J, H2, e, I2, T, st2, f2, W, w0, turn⟩ := h2
  subst e
  refine comp_core (RR := fun acc C => compPost (model X.prog X.w) X.A X.xe none (EP X pins σ Q) acc C) S hc hg ht he I2 T st2 f2 W w0 _ turn fun D C s' acc H' hns fC hF hD IF => ?_
  obtain ⟨m, hm⟩ := hns
  exact ⟨m, hm, fun h' hs' => ⟨.ref D, _, fC.turn IF hs', rfl, hF D hD⟩⟩
/-- x = [..], the name stored ahead of the block's own names let go -/
theorem ps_comp {i : Nat} {y : Str} {pos' spos : Pos} (S : CScope X xs sc) (hc : X.calm = true) (hN : X.N.Nodup) (hy : X.N[i]? = some y) (hk : X.env.scope.names.lookup y = some .local)
    (hi : PI X tg iter wi) (hg : ∀ ex s3 H3, PG (cxC X xs sc ex s3 H3) tg g) (ht : ∀ ex s3 H3, PTs (cxC X xs sc ex s3 H3) ifs tc) (he : ∀ ex s3 H3, PE (cxC X xs sc ex s3 H3) elt te)
    (hsw : swapsWith (.ListComp elt [⟨tg, iter, ifs, 0⟩] sc pos) (some (.Name y pos')) spos.line X.env = pure true := by rfl)
    (hs : ∀ x, foldedSetIterable iter X.env x = pure x := by intro _; rfl) : PS X (.Assign [.Name y pos'] (.ListComp elt [⟨tg, iter, ifs, 0⟩] sc pos) spos) (tAsg (tLC xs.length wi g tc te) (gName i)) := by
  intro pins s σ H D I h
  rw [exec_Assign_Name_used _ _ _ _ hsw]
  refine wpAny_bind (wpAny_standAt (wpAny_bind ?_))
  show wpAny _ X.A (do let _ ← comprehension (.ListComp elt [⟨tg, iter, ifs, 0⟩] sc pos) sc X.env _ (newList []) false (eval iter X.env) (some (assign (.Name y pos') X.env))) _ _ s
  refine wpAny_bind (wpAny_mono (wpAny_comprehension_free (use := some (assign (.Name y pos') X.env)) (Q := fun _ s' => SP X pins D .next s') rfl hs (closure_eq (S.cells I.ok)) S.kind S.names
    (thn (hi pins s σ H _ I h) fun v s1 h1 => thn h1 fun itv s2 h2 => ?_)) (fun _ s' hq => wpAny_pure (wpAny_pure hq)) fun _ _ e => e)
  obtain ⟨it, fp, tn, J, H2, e, I2, T, st2, f2, W, w0, turn⟩ := h2
  subst e
  refine comp_core (RR := fun acc C => compPost (model X.prog X.w) X.A X.xe (some (assign (.Name y pos') X.env)) (fun _ s' => SP X pins D .next s') acc C) S hc hg ht he I2 T st2 f2 W w0 _ turn fun D' C s' acc H' hns fC hF hD IF => ?_
  obtain ⟨m, hm⟩ := hns
  refine wpAny_assign_Name (store_ok2 (v := .ref D') IF hN hy (.inl hk) rfl (fun s'' I'' hsb => ?_) (.inr hk))
  obtain ⟨a, hsb, ha⟩ := hsb
  have hne : C ≠ a := by
    rcases ha with z | z
    · rw [z]; exact fC.2.1
    · exact fun q => fC.2.2.2.2.1 y a z q.symm
  refine ⟨m, hm.sameBut hsb hne, fun h' hs' => ⟨_, _, fC.turn I'' hs', hF D' hD⟩⟩
end

/-! ### the forms one uses -/
theorem lc_list {K : PySem.W.Frag} {a : Addr} {xs : List V} {n : Nat} {g : TG} {tc : TT} {te : TE} {σ : St} {H : Hp} {F : List V → Hp → Prop} (Pv : Nat → List V → Hp → Prop) (hn : xs.length ≤ 1000000) (h0 : Pv 0 [] H)
    (hl : ∀ i acc H, i ≤ xs.length → Pv i acc H → SqL K H a xs ∧ acc.length ≤ i)
    (hs : ∀ i x acc H, xs[i]? = some x → Pv i acc H → g x (List.replicate n none ++ σ) H fun σ2 H2 => σ2.drop n = σ ∧ tc σ2 H2 fun c H3 => if c = true then te σ2 H3 fun y H4 => Pv (i + 1) (acc ++ [y]) H4 else Pv (i + 1) acc H3)
    (hd : ∀ acc H, Pv xs.length acc H → F acc H) : LCW n (Itl K a) g tc te σ H F := by
  have sz : (1000000 : Nat) < sizeLine := by rw [sizeLine_eq]; decide
  refine ⟨fun i m acc H => m = xs.length - i ∧ i ≤ xs.length ∧ Pv i acc H, ⟨xs.length, by simp, Nat.zero_le _, h0⟩, ?_⟩
  rintro i m acc H ⟨rfl, hi, p⟩
  have q := hl i acc H hi p
  by_cases hlt : i < xs.length
  · refine .inr ⟨⟨xs, xs[i], q.1, by simp [hlt]⟩, by omega, Pv (i + 1), fun acc' H' p' => ⟨xs.length - (i + 1), by omega, rfl, hlt, p'⟩, fun x H' y => ?_⟩
    obtain ⟨e, y⟩ := y
    subst e
    exact hs i x acc _ (y xs q.1) p
  · have e : i = xs.length := by omega
    subst e
    exact .inl ⟨⟨xs, q.1, Nat.le_refl _⟩, by omega, hd acc H p⟩
theorem lc_range {lo : Int} {k : Nat} {n : Nat} {g : TG} {tc : TT} {te : TE} {σ : St} {H : Hp} {F : List V → Hp → Prop} (Pv : Nat → List V → Hp → Prop) (hn : k ≤ 1000000) (h0 : Pv 0 [] H)
    (hl : ∀ i acc H, i ≤ k → Pv i acc H → acc.length ≤ i)
    (hs : ∀ i acc H, i < k → Pv i acc H → g (.int (lo + i)) (List.replicate n none ++ σ) H fun σ2 H2 => σ2.drop n = σ ∧ tc σ2 H2 fun c H3 => if c = true then te σ2 H3 fun y H4 => Pv (i + 1) (acc ++ [y]) H4 else Pv (i + 1) acc H3)
    (hd : ∀ acc H, Pv k acc H → F acc H) : LCW n (Itr lo k) g tc te σ H F := by
  have sz : (1000000 : Nat) < sizeLine := by rw [sizeLine_eq]; decide
  refine ⟨fun i m acc H => m = k - i ∧ i ≤ k ∧ Pv i acc H, ⟨k, by simp, Nat.zero_le _, h0⟩, ?_⟩
  rintro i m acc H ⟨rfl, hi, p⟩
  have q := hl i acc H hi p
  by_cases hlt : i < k
  · refine .inr ⟨hlt, by omega, Pv (i + 1), fun acc' H' p' => ⟨k - (i + 1), by omega, rfl, hlt, p'⟩, fun x H' y => ?_⟩
    obtain ⟨e, y⟩ := y
    subst e y
    exact hs i acc _ hlt p
  · have e : i = k := by omega
    subst e
    exact .inl ⟨Nat.le_refl _, by omega, hd acc H p⟩
end L2

namespace L2
open PySem PySem.Spec PyProof.Rows

section
variable {prog : Program} {w : World} {A : Around} {E : Value → Shared → Prop} {s : Shared}
end

section
variable {X : Cx} {pos : Pos}
/-- n.bit_length() -/
theorem mt_bitlen : MtR X "int.bit_length" (fun x xs H Q => ∃ i, x = .int i ∧ xs = [] ∧ Q (.int ((Builtin.Int.intBits i : Nat) : Int)) H) := by
  intro pins s σ H x xs v us Q I rx rs h
  obtain ⟨i, rfl, rfl, q⟩ := h
  obtain ⟨t, rfl⟩ := rx
  cases rs
  exact call_int_bit_length ⟨.int _, H, I.tok _, ⟨_, rfl⟩, q⟩
/-- two lists of ints compared -/
noncomputable def rEqL (K : PySem.W.Frag) (neg : Bool) : R2 := fun x y H Q => ∃ (a b : Addr) (ns ms : List Int), x = .ref a ∧ y = .ref b ∧ SqL K H a (ns.map V.int) ∧ SqL K H b (ms.map V.int) ∧ Q (.bl (if neg then !decide (ns = ms) else decide (ns = ms))) H
theorem op_eqL (hu : X.A.units + 64 < cLine) : OpR X (compareOp .Eq) (rEqL X.K false) := by
  intro pins s σ H x y v u Q I rx ry h
  obtain ⟨a, b, ns, ms, rfl, rfl, h1, h2, q⟩ := h
  cases rx; cases ry
  obtain ⟨its, rv, pl, _⟩ := I.list h1
  obtain ⟨its', rv', pl', _⟩ := I.list h2
  exact PySem.W.eq_intsK pl.isList (intsAre_of rv) pl'.isList (intsAre_of rv') hu ⟨.bl _, H, I, rfl, q⟩
theorem op_neL (hu : X.A.units + 64 < cLine) : OpR X (compareOp .NotEq) (rEqL X.K true) := by
  intro pins s σ H x y v u Q I rx ry h
  obtain ⟨a, b, ns, ms, rfl, rfl, h1, h2, q⟩ := h
  cases rx; cases ry
  obtain ⟨its, rv, pl, _⟩ := I.list h1
  obtain ⟨its', rv', pl', _⟩ := I.list h2
  exact PySem.W.ne_intsK pl.isList (intsAre_of rv) pl'.isList (intsAre_of rv') hu ⟨.bl _, H, I, rfl, q⟩
end
end L2

namespace L2
open PySem PySem.Spec PyProof.Rows

/-! ### small words -/
/-- all but what stands at st is as it was -/
noncomputable def But (st : Addr) (H H' : Hp) : Prop := ∀ b o, H b = some o → b ≠ st → H' b = some o
theorem But.refl (st : Addr) (H : Hp) : But st H H := fun _ _ h _ => h
theorem But.trans {st : Addr} {H H1 H2 : Hp} (a : But st H H1) (b : But st H1 H2) : But st H H2 := fun c o h n => b c o (a c o h n) n
theorem But.put (st : Addr) (H : Hp) (o : HO) : But st H (upd H st o) := fun b u e n => by rw [upd_ne n]; exact e
theorem Same.but {st : Addr} {H H' : Hp} (e : Same H H') : But st H H' := fun b o h _ => e b o h
theorem Same.new {H : Hp} {p : Addr} {o : HO} (h : H p = none) : Same H (upd H p o) := fun b u e => by rw [upd_ne (ne_of_none e h)]; exact e
theorem But.new {st : Addr} {H : Hp} {p : Addr} {o : HO} (h : H p = none) : But st H (upd H p o) := (Same.new h).but

theorem nat_of {x : Int} {n : Nat} (h0 : 0 ≤ x) (h1 : x < (n : Int)) : ∃ r : Nat, x = (r : Int) ∧ r < n := ⟨x.toNat, by omega, by omega⟩
theorem shl1 (m : Nat) : (1 : Int) * 2 ^ (m : Int).toNat = ((2 ^ m : Nat) : Int) := by simp
theorem cpow1 {m : Nat} (h : m ≤ 1000) : CPow 1 (m : Int) := ⟨by omega, by omega, by decide⟩
theorem and_lt {a b n : Nat} (h : a < n) : a &&& b < n := Nat.lt_of_le_of_lt Nat.and_le_left h
/-! ### sets as naturals -/
theorem bitAnd_nat (a b : Nat) : Builtin.bitAnd (a : Int) (b : Int) = ((a &&& b : Nat) : Int) := by
  simp [Builtin.bitAnd]
theorem bitNot_not (x : Int) : Builtin.bitNot (Builtin.bitNot x) = x := by unfold Builtin.bitNot; omega
theorem bitOr_nat (a b : Nat) : Builtin.bitOr (a : Int) (b : Int) = ((a ||| b : Nat) : Int) := by
  have ha : ¬ 0 ≤ Builtin.bitNot (a : Int) := by unfold Builtin.bitNot; omega
  have hb : ¬ 0 ≤ Builtin.bitNot (b : Int) := by unfold Builtin.bitNot; omega
  unfold Builtin.bitOr
  simp only [Builtin.bitAnd, ha, hb, decide_false, bitNot_not, Int.toNat_natCast]
theorem two_pow_int (k : Nat) : ((2 : Int) ^ k) = ((2 ^ k : Nat) : Int) := by simp
end L2

namespace L2
open PySem PySem.Spec PyProof.Rows
/-- what is asked of a comprehension's scope, reckoned -/
noncomputable def cscB (N xs : List Str) (osc sc : Scope) : Bool :=
  decide (sc.kind = .function) && sc.names.all (fun y => decide (y.2 ≠ .cell)) && sc.names.all (fun y => decide (y.2 ≠ .local) || decide (sc.names.lookup y.1 = some .local)) && xs.all (fun x => decide (sc.names.lookup x = some .local)) &&
    N.all (fun y => decide (sc.names.lookup y ≠ some .local)) && sc.names.all (fun y => decide (y.2 ≠ .free) || (decide (osc.names.lookup y.1 = some .cell) || decide (osc.names.lookup y.1 = some .free))) && decide ((xs ++ N).Nodup)
theorem cs {X : Cx} {xs : List Str} {sc : Scope} (N : List Str) (osc : Scope) (hN : X.N = N) (ho : X.env.scope = osc) (h : cscB N xs osc sc = true) : CScope X xs sc := by
  unfold cscB at h
  simp only [Bool.and_eq_true, List.all_eq_true, decide_eq_true_eq, Bool.or_eq_true] at h
  obtain ⟨⟨⟨⟨⟨⟨h1, h2⟩, h3⟩, h4⟩, h5⟩, h6⟩, h7⟩ := h
  refine ⟨h1, h2, fun y hy e => ?_, h4, by rw [hN]; exact h5, fun y hy e => ?_, by rw [hN]; exact h7⟩
  · rcases h3 y hy with z | z
    · exact absurd e z
    · exact z
  · rcases h6 y hy with z | z
    · exact absurd e z
    · show X.env.scope.names.lookup y.1 = _ ∨ X.env.scope.names.lookup y.1 = _
      rw [ho]; exact z
end L2

namespace L2
open PySem PySem.Spec PyProof.Rows
theorem mod_lo (x : Int) {m : Int} (h : 0 < m) : 0 ≤ x % m := Int.emod_nonneg _ (by omega)
theorem mod_hi (x : Int) {m : Int} (h : 0 < m) : x % m < m := Int.emod_lt_of_pos _ h
/-! ### columns of a set, as naturals -/
noncomputable def vN (k : Nat) : V := V.int (k : Int)
noncomputable def hasB (a k : Nat) : Bool := decide (a / 2 ^ k % 2 = 1)
noncomputable def bitsN (a : Nat) : Nat := Builtin.Int.intBits (a : Int)
noncomputable def colsN (a : Nat) : List Nat := (List.range (bitsN a)).filter (hasB a)
theorem map_int (l : List Nat) : (l.map fun (k : Nat) => (k : Int)).map V.int = l.map vN := by rw [List.map_map]; rfl
theorem bitsN_le {a : Nat} (h : a < 2 ^ 20) : bitsN a ≤ 20 := by
  unfold bitsN Builtin.Int.intBits
  split
  · omega
  · rename_i z
    have h0 : a ≠ 0 := by intro e; subst e; exact z rfl
    have : a.log2 < 20 := (Nat.log2_lt h0).mpr h
    show (a : Int).natAbs.log2 + 1 ≤ 20
    rw [Int.natAbs_natCast]
    omega
theorem dec_nat (a b : Nat) : decide (V.int (a : Int) = V.int (b : Int)) = decide (a = b) := by
  rw [dec_int, Bool.eq_iff_iff, beq_iff_eq, decide_eq_true_iff]
  exact Int.ofNat_inj
noncomputable def spHas : Sp := fun vs H Q _ => ∃ a k : Nat, vs = [vN a, vN k] ∧ Q (.bl (hasB a k)) H
noncomputable def spCols : Sp := fun vs H Q _ => ∃ a : Nat, vs = [vN a] ∧ a < 2 ^ 20 ∧ ∀ p, H p = none → Q (.ref p) (upd H p (.lst ((colsN a).map vN)))
noncomputable def spAllOf : Sp := fun vs H Q _ => ∃ m : Nat, vs = [vN m] ∧ m ≤ 1000 ∧ Q (vN (2 ^ m - 1)) H
theorem has_eq (a k : Nat) : decide (V.int (Builtin.bitAnd ((a : Int) / 2 ^ (k : Int).toNat) 1) = V.int 1) = hasB a k := by
  have e : ((a : Int) / 2 ^ (k : Int).toNat) = ((a / 2 ^ k : Nat) : Int) := by
    rw [Int.toNat_natCast, two_pow_int]; omega
  rw [e, show (1 : Int) = ((1 : Nat) : Int) from rfl, bitAnd_nat, dec_nat, Nat.and_one_is_mod]
  rfl
theorem filt_succ (p : Nat → Bool) (i : Nat) : (List.range (i + 1)).filter p = (List.range i).filter p ++ (if p i = true then [i] else []) := by
  rw [List.range_succ, List.filter_append]
  congr 1
  cases h : p i <;> simp [h]
end L2

namespace L2
open PySem PySem.Spec PyProof.Rows
/-! ### the rules that speak of the written part, with it told (in a comprehension's block it stands under a binder) -/
section
variable {X : Cx} {K : PySem.W.Frag}
theorem ix_listK (h : X.K = K) : IxR X (rIxL K) := h ▸ ix_list
theorem ix_tupK (h : X.K = K) : IxR X (rIxT K) := h ▸ ix_tup
theorem call_lenK (h : X.K = K) : CallR X (.builtin "len") (fun xs H Q => ∃ p ys, xs = [.ref p] ∧ (SqL K H p ys ∨ SqT K H p ys) ∧ Q (.int ys.length) H) := h ▸ call_len_seq
theorem call_listK (h : X.K = K) : CallR X (.type "list") (fun xs H Q => ∃ p ys, xs = [.ref p] ∧ (SqL K H p ys ∨ SqT K H p ys) ∧ ∀ l, H l = none → Q (.ref l) (upd H l (.lst ys))) := h ▸ call_list_of
theorem call_tupleK (h : X.K = K) : CallR X (.type "tuple") (fun xs H Q => ∃ p ys, xs = [.ref p] ∧ ((SqL K H p ys ∧ ∀ l, H l = none → Q (.ref l) (upd H l (.tup ys))) ∨ (SqT K H p ys ∧ Q (.ref p) H))) := h ▸ call_tuple_of
theorem op_eqLK (h : X.K = K) (hu : X.A.units + 64 < cLine) : OpR X (compareOp .Eq) (rEqL K false) := h ▸ op_eqL hu
theorem op_neLK (h : X.K = K) (hu : X.A.units + 64 < cLine) : OpR X (compareOp .NotEq) (rEqL K true) := h ▸ op_neL hu
theorem pi_listK {tg l : Expr} {tl : TE} (h : X.K = K) (hl : PE X l tl) : PI X tg l (iList K tl) := h ▸ pi_list hl
end
end L2

namespace L2
open PySem PySem.Spec PyProof.Rows
/-! ### arithmetic of naturals -/
noncomputable def rN (C : Nat → Nat → Prop) (g : Nat → Nat → V) : R2 := fun x y H Q => ∃ i j : Nat, x = vN i ∧ y = vN j ∧ C i j ∧ Q (g i j) H
noncomputable def rN0 (g : Nat → Nat → V) : R2 := fun x y H Q => ∃ i j : Nat, x = vN i ∧ y = vN j ∧ Q (g i j) H
section
variable {X : Cx}
theorem OpR.mono {f : Value → Value → Sem Value} {r r' : R2} (h : OpR X f r) (k : ∀ x y H Q, r' x y H Q → r x y H Q) : OpR X f r' := fun pins s σ H x y v u Q I rx ry q => h pins s σ H x y v u Q I rx ry (k x y H Q q)
theorem op_addN : OpR X (binaryOp .Add) (rN0 fun i j => vN (i + j)) := op_add.mono fun x y H Q ⟨i, j, h1, h2, q⟩ => ⟨i, j, h1, h2, by show Q (V.int ((i : Int) + j)) H; rw [← Int.natCast_add]; exact q⟩
theorem op_subN : OpR X (binaryOp .Sub) (rN (fun i j => j ≤ i) fun i j => vN (i - j)) := op_sub.mono fun x y H Q ⟨i, j, h1, h2, h, q⟩ => ⟨i, j, h1, h2, by show Q (V.int ((i : Int) - j)) H; rw [← Int.ofNat_sub h]; exact q⟩
theorem op_modN' : OpR X (binaryOp .Mod) (rN (fun _ j => 0 < j) fun i j => vN (i % j)) := op_mod.mono fun x y H Q ⟨i, j, h1, h2, h, q⟩ => ⟨i, j, h1, h2, by omega, by show Q (V.int ((i : Int) % j)) H; rw [← Int.natCast_emod]; exact q⟩
theorem op_fdivN' : OpR X (binaryOp .FloorDiv) (rN (fun _ j => 0 < j ∧ j < 1073741824) fun i j => vN (i / j)) := op_fdiv.mono fun x y H Q ⟨i, j, h1, h2, h, q⟩ => ⟨i, j, h1, h2, ⟨by omega, by omega⟩, by show Q (V.int ((i : Int) / j)) H; rw [← Int.natCast_ediv]; exact q⟩
theorem op_shlN : OpR X (binaryOp .LShift) (rN (fun i j => j ≤ 1000 ∧ i < 2 ^ 64) fun i j => vN (i * 2 ^ j)) := op_shl.mono fun x y H Q ⟨i, j, h1, h2, h, q⟩ => ⟨i, j, h1, h2, ⟨by omega, by omega, by rw [Int.natAbs_natCast]; exact h.2⟩, by
  show Q (V.int ((i : Int) * 2 ^ (j : Int).toNat)) H
  rw [Int.toNat_natCast, two_pow_int, ← Int.natCast_mul]; exact q⟩
/-- 1 << j -/
theorem op_shl1 : OpR X (binaryOp .LShift) (fun x y H Q => ∃ j : Nat, x = .int 1 ∧ y = vN j ∧ j ≤ 1000 ∧ Q (vN (2 ^ j)) H) := op_shlN.mono fun x y H Q ⟨j, h1, h2, h, q⟩ => ⟨1, j, h1, h2, ⟨h, by decide⟩, by show Q (vN (1 * 2 ^ j)) H; rw [Nat.one_mul]; exact q⟩
theorem op_andN : OpR X (binaryOp .BitAnd) (rN0 fun i j => vN (i &&& j)) := op_and.mono fun x y H Q ⟨i, j, h1, h2, q⟩ => ⟨i, j, h1, h2, by show Q (V.int (Builtin.bitAnd (i : Int) j)) H; rw [bitAnd_nat]; exact q⟩
theorem op_orN : OpR X (binaryOp .BitOr) (rN0 fun i j => vN (i ||| j)) := op_or.mono fun x y H Q ⟨i, j, h1, h2, q⟩ => ⟨i, j, h1, h2, by show Q (V.int (Builtin.bitOr (i : Int) j)) H; rw [bitOr_nat]; exact q⟩
theorem op_eqN : OpR X (compareOp .Eq) (rN0 fun i j => .bl (decide (i = j))) := op_eq.mono fun x y H Q ⟨i, j, h1, h2, q⟩ => by
  subst h1 h2
  refine ⟨rfl, ?_⟩
  show Q (V.bl (decide (V.int (i : Int) = V.int (j : Int)))) H
  rw [dec_nat]; exact q
theorem dlt (i j : Nat) : decide ((i : Int) < (j : Int)) = decide (i < j) := by rw [decide_eq_decide]; omega
theorem dle (i j : Nat) : decide ((i : Int) ≤ (j : Int)) = decide (i ≤ j) := by rw [decide_eq_decide]; omega
theorem op_leN : OpR X (compareOp .LtE) (rN0 fun i j => .bl (decide (i ≤ j))) := op_le.mono fun x y H Q ⟨i, j, h1, h2, q⟩ => ⟨i, j, h1, h2, by show Q (V.bl (decide ((i : Int) ≤ j))) H; rw [dle]; exact q⟩
theorem op_gtN : OpR X (compareOp .Gt) (rN0 fun i j => .bl (decide (j < i))) := op_gt.mono fun x y H Q ⟨i, j, h1, h2, q⟩ => ⟨i, j, h1, h2, by show Q (V.bl (decide ((j : Int) < i))) H; rw [dlt]; exact q⟩
end
/-- a range from nought, its numbers as naturals -/
theorem lc_rangeN {k : Nat} {n : Nat} {g : TG} {tc : TT} {te : TE} {σ : St} {H : Hp} {F : List V → Hp → Prop} (Pv : Nat → List V → Hp → Prop) (hn : k ≤ 1000000) (h0 : Pv 0 [] H)
    (hl : ∀ i acc H, i ≤ k → Pv i acc H → acc.length ≤ i)
    (hs : ∀ i acc H, i < k → Pv i acc H → g (vN i) (List.replicate n none ++ σ) H fun σ2 H2 => σ2.drop n = σ ∧ tc σ2 H2 fun c H3 => if c = true then te σ2 H3 fun y H4 => Pv (i + 1) (acc ++ [y]) H4 else Pv (i + 1) acc H3)
    (hd : ∀ acc H, Pv k acc H → F acc H) : LCW n (Itr 0 k) g tc te σ H F :=
  lc_range Pv hn h0 hl (fun i acc H hi p => by rw [Int.zero_add]; exact hs i acc H hi p) hd
theorem for_rangeN {n : Nat} {g : TG} {tb : TS} {D : Ends} {σ : St} {H : Hp} (Pv : Nat → St → Hp → Prop) (h0 : Pv 0 σ H)
    (hs : ∀ i σ H, i < n → Pv i σ H → g (vN i) σ H fun σ2 H2 => tb { D with nx := Pv (i + 1), ct := Pv (i + 1), bk := D.nx } σ2 H2) (hd : ∀ σ H, Pv n σ H → D.nx σ H) :
    ∃ W : Nat → Nat → St → Hp → Prop, (∃ m, W 0 m σ H) ∧ ∀ i m σ H, W i m σ H →
      ((Itr 0 n).stop i H ∧ D.nx σ H) ∨ ((Itr 0 n).go i H ∧ ∃ N : St → Hp → Prop, (∀ σ' H', N σ' H' → ∃ m', m' < m ∧ W (i + 1) m' σ' H') ∧ ∀ x H', (Itr 0 n).yld i H x H' → g x σ H' fun σ2 H2 => tb { D with nx := N, ct := N, bk := D.nx } σ2 H2) :=
  for_range (lo := 0) Pv h0 (fun i σ H hi p => by rw [Int.zero_add]; exact hs i σ H hi p) hd
end L2

namespace L2
open PySem PySem.Spec PyProof.Rows
/-! ### insert, index, sorted; a name let go -/
section
variable {X : Cx} {K : PySem.W.Frag}
/-- a block whose own name is called like one that is let go around it -/
noncomputable abbrev Cx.withN (X : Cx) (N' : List Str) : Cx := { X with N := N' }
theorem Cx.Ok.withN {X : Cx} (ok : X.Ok) (N' : List Str) : (X.withN N').Ok :=
  ⟨ok.mod, ok.kind, ok.glob, ok.blt, ok.above, ok.inj, ok.has, ok.cab, ok.hd, ok.frames, ok.stk, ok.exf, ok.bs, ok.bsz, ok.noex, ok.exfs, ok.funs, ok.frf⟩
theorem Cx.Ok.ofN {X : Cx} {N' : List Str} (ok : (X.withN N').Ok) : X.Ok :=
  ⟨ok.mod, ok.kind, ok.glob, ok.blt, ok.above, ok.inj, ok.has, ok.cab, ok.hd, ok.frames, ok.stk, ok.exf, ok.bs, ok.bsz, ok.noex, ok.exfs, ok.funs, ok.frf⟩
theorem pe_hide {e : Expr} {t : TE} (j : Nat) (hv : ¬ Vis X.env.scope "") (h : PE (X.withN (X.N.set j "")) e t) : PE X e (fun σ H Q => (∀ v, σ[j]? ≠ some (some v)) ∧ t σ H Q) := by
  intro pins s σ H Q I ⟨hd, hw⟩
  have I' : Inv (X.withN (X.N.set j "")) pins σ H s := by
    refine ⟨I.ok.withN _, I.os, I.bare, I.base, ?_, I.cell, I.free, I.freeC, I.pin, I.hok, by rw [I.len]; simp⟩
    obtain ⟨m, h1, h2⟩ := I.loc
    refine ⟨m, h1, fun i x v e1 e2 e3 => ?_⟩
    by_cases hj : j = i
    · subst hj; exact absurd e2 (hd v)
    · exact h2 i x v (by rwa [show (X.withN (X.N.set j "")).N = X.N.set j "" from rfl, List.getElem?_set_ne hj] at e1) e2 e3
  refine thn (h pins s σ H Q I' hw) fun u s' ⟨v, H', J, r, q⟩ => ⟨v, H', ?_, r, q⟩
  refine ⟨J.ok.ofN, J.os, J.bare, J.base, ?_, J.cell, J.free, J.freeC, J.pin, J.hok, I.len⟩
  obtain ⟨m, h1, h2⟩ := J.loc
  refine ⟨m, h1, fun i x v e1 e2 e3 => ?_⟩
  by_cases hj : j = i
  · subst hj; exact absurd e2 (hd v)
  · exact h2 i x v (by rwa [show (X.withN (X.N.set j "")).N = X.N.set j "" from rfl, List.getElem?_set_ne hj]) e2 e3
end
/-! ### the law's script and its place, the script frozen: lists of one's own stand apart from it -/
noncomputable def SqF (K : PySem.W.Frag) (H : Hp) (a : Addr) (ns : List Int) : Prop := (∃ o, H a = some (.frz o (.lst (ns.map V.int)))) ∨
  ∃ (o : Obj) (its : Array Value) (n : Nat), K.lookup a = some o ∧ o.cls = .type "list" ∧ o.dict = none ∧ o.data = .seq its n ∧ its.size ≤ sizeLine ∧ Vals (ns.map V.int) its.toList
theorem SqF.sq {K : PySem.W.Frag} {H : Hp} {a : Addr} {ns : List Int} (h : SqF K H a ns) : SqL K H a (ns.map V.int) := by
  rcases h with ⟨o, h⟩ | h
  · exact .inl (.inr ⟨o, h⟩)
  · exact .inr h
theorem SqF.of {K : PySem.W.Frag} {H : Hp} {a : Addr} {ns : List Int} (hO : Only H) (h : SqL K H a (ns.map V.int)) : SqF K H a ns := by
  rcases h with (h | ⟨o, h⟩) | h
  · rcases hO a with z | ⟨o, xs, z⟩
    · rw [h] at z; cases z
    · rw [h] at z; cases z
  · exact .inl ⟨o, h⟩
  · exact .inr h
theorem SqF.imp {K : PySem.W.Frag} {H H' : Hp} {a : Addr} {ns : List Int} (h : SqF K H a ns) (e : ∀ o, H a = some (.frz o (.lst (ns.map V.int))) → H' a = some (.frz o (.lst (ns.map V.int)))) : SqF K H' a ns := by
  rcases h with ⟨o, h⟩ | h
  · exact .inl ⟨o, e o h⟩
  · exact .inr h
noncomputable def STF (K : PySem.W.Frag) (H : Hp) (st : Addr) (ns : List Int) (k : Nat) : Prop := ∃ sc, H st = some (.lst [.ref sc, .int (k : Int)]) ∧ SqF K H sc ns
theorem STF.seq {K : PySem.W.Frag} {H H' : Hp} {st sc : Addr} {ns : List Int} {v : V} (h : H st = some (.lst [.ref sc, v])) (hs : SqF K H sc ns) (b : But st H H') : SqF K H' sc ns :=
  hs.imp fun o z => b _ _ z fun e => by
    subst e
    rw [h] at z
    cases z
theorem STF.same {K : PySem.W.Frag} {H H' : Hp} {st : Addr} {ns : List Int} {k : Nat} (h : STF K H st ns k) (e : Same H H') : STF K H' st ns k := by
  obtain ⟨sc, h1, h2⟩ := h
  exact ⟨sc, e _ _ h1, h2.imp fun o z => e _ _ z⟩
theorem STF.new {K : PySem.W.Frag} {H : Hp} {st p : Addr} {ns : List Int} {k : Nat} {o : HO} (h : STF K H st ns k) (hp : H p = none) : STF K (upd H p o) st ns k := h.same (Same.new hp)
theorem STF.start {K : PySem.W.Frag} {H : Hp} {a p : Addr} {ns : List Int} (h : SqF K H a ns) (hp : H p = none) : STF K (upd H p (.lst [.ref a, .int 0])) p ns 0 :=
  ⟨a, upd_same, h.imp fun o z => (Same.new hp) _ _ z⟩
/-- a list of one's own is written -/
theorem STF.put {K : PySem.W.Frag} {H : Hp} {st p : Addr} {ns : List Int} {k : Nat} {xs ys : List V} (h : STF K H st ns k) (hp : H p = some (.lst xs)) (hn : p ≠ st) : STF K (upd H p (.lst ys)) st ns k := by
  obtain ⟨sc, h1, h2⟩ := h
  refine ⟨sc, by rw [upd_ne (Ne.symm hn)]; exact h1, h2.imp fun o z => ?_⟩
  rw [upd_ne]
  · exact z
  · intro e
    subst e
    rw [hp] at z
    cases z
theorem STF.some {K : PySem.W.Frag} {H : Hp} {st : Addr} {ns : List Int} {k : Nat} (h : STF K H st ns k) : ∃ o, H st = some o := by
  obtain ⟨sc, h1, _⟩ := h
  exact ⟨_, h1⟩
theorem But.own {st p : Addr} {H H' : Hp} {o : HO} (b : But st H H') (hp : H p = none) : But st H (upd H' p o) := fun c u e n => by
  rw [upd_ne (ne_of_none e hp)]
  exact b c u e n
noncomputable def spTakeF (K : PySem.W.Frag) : Sp := fun vs H Q _ => ∃ (st : Addr) (ns : List Int) (k : Nat) (most : Int), vs = [.ref st, .int most] ∧ STF K H st ns k ∧ k ≤ 1000000 ∧ ns.length ≤ 63 ∧ 0 < most ∧
  ∀ (r : Int) (H' : Hp), 0 ≤ r → r < most → STF K H' st ns (k + 1) → But st H H' → Q (.int r) H'
noncomputable def spSetF (K : PySem.W.Frag) : Sp := fun vs H Q _ => ∃ (st : Addr) (ns : List Int) (k m : Nat), vs = [.ref st, .int (m : Int)] ∧ STF K H st ns k ∧ k ≤ 900000 ∧ ns.length ≤ 63 ∧ 1 ≤ m ∧ m ≤ 7 ∧
  ∀ (r k' : Nat) (H' : Hp), r < 2 ^ m → k' ≤ k + 3 → STF K H' st ns k' → But st H H' → Q (.int (r : Int)) H'
end L2

namespace L2
open PySem PySem.Spec PyProof.Rows
/-! ### ints compared, truths compared, tuples compared, all -/
section
variable {X : Cx} {K : PySem.W.Frag}
theorem dInt (i j : Int) : decide (V.int i = V.int j) = decide (i = j) := by
  rw [dec_int, Bool.eq_iff_iff, beq_iff_eq, decide_eq_true_iff]
theorem op_eqI : OpR X (compareOp .Eq) (rI0 fun i j => .bl (decide (i = j))) := op_eq.mono fun x y H Q ⟨i, j, h1, h2, q⟩ => by
  subst h1 h2
  exact ⟨rfl, by rw [dInt]; exact q⟩
theorem op_neI : OpR X (compareOp .NotEq) (rI0 fun i j => .bl (!decide (i = j))) := op_ne.mono fun x y H Q ⟨i, j, h1, h2, q⟩ => by
  subst h1 h2
  exact ⟨rfl, by rw [dInt]; exact q⟩
theorem all_eq (ns ms : List Int) : ((List.range (min ns.length ms.length)).all (fun j => decide (ns.getD j 0 = ms.getD j 0)) && ns.length == ms.length) = decide (ns = ms) := by
  rw [Bool.eq_iff_iff, Bool.and_eq_true, List.all_eq_true, beq_iff_eq, decide_eq_true_iff]
  constructor
  · rintro ⟨h, hl⟩
    refine List.ext_getElem hl fun j h1 h2 => ?_
    have := of_decide_eq_true (h j (List.mem_range.mpr (by omega)))
    rw [List.getD_eq_getElem?_getD, List.getElem?_eq_getElem h1, List.getD_eq_getElem?_getD, List.getElem?_eq_getElem h2] at this
    exact this
  · rintro rfl
    exact ⟨fun j _ => decide_eq_true rfl, rfl⟩
/-- two tuples of ints compared -/
theorem op_eqTK (h : X.K = K) (hu : X.A.units < cLine) : OpR X (compareOp .Eq) (fun x y H Q => ∃ (a b : Addr) (ns ms : List Int), x = .ref a ∧ y = .ref b ∧ SqT K H a (ns.map V.int) ∧ SqT K H b (ms.map V.int) ∧ Q (.bl (decide (ns = ms))) H) := by
  subst h
  intro pins s σ H x y v u Q I rx ry h
  obtain ⟨a, b, ns, ms, rfl, rfl, h1, h2, q⟩ := h
  cases rx; cases ry
  obtain ⟨its, rv, pl, _⟩ := I.tuple h1
  obtain ⟨its', rv', pl', _⟩ := I.tuple h2
  have l1 : its.length = ns.length := by rw [← rv.length, List.length_map]
  have l2 : its'.length = ms.length := by rw [← rv'.length, List.length_map]
  refine SeqAt.eq_tupleAt (e := fun j => decide (ns.getD j 0 = ms.getD j 0)) pl pl' hu (fun j j1 j2 => ?_) ⟨.bl (decide (ns = ms)), H, I, ?_, q⟩
  · have j1' : j < ns.length := by rw [← l1]; simpa using j1
    have j2' : j < ms.length := by rw [← l2]; simpa using j2
    obtain ⟨c, hc, rc⟩ := rv.get (i := j) (x := V.int ns[j]) (by rw [List.getElem?_map, List.getElem?_eq_getElem j1']; rfl)
    obtain ⟨d, hd, rd⟩ := rv'.get (i := j) (x := V.int ms[j]) (by rw [List.getElem?_map, List.getElem?_eq_getElem j2']; rfl)
    have ec : its.toArray[j] = c := by
      rw [List.getElem?_eq_getElem (by simpa using j1)] at hc
      simpa using hc
    have ed : its'.toArray[j] = d := by
      rw [List.getElem?_eq_getElem (by simpa using j2)] at hd
      simpa using hd
    have := eqAt_V (A := X.A.in1) (s := s) rc rd rfl rfl
    rw [ec, ed]
    have e2 : eqV (V.int ns[j]) (V.int ms[j]) = decide (ns.getD j 0 = ms.getD j 0) := by
      rw [List.getD_eq_getElem?_getD, List.getElem?_eq_getElem j1', List.getD_eq_getElem?_getD, List.getElem?_eq_getElem j2']
      show (ns[j] == ms[j]) = decide (ns[j] = ms[j])
      rw [Bool.eq_iff_iff, beq_iff_eq, decide_eq_true_iff]
    rw [← e2]
    exact this
  · show _ = Value.bool _
    rw [List.size_toArray, List.size_toArray, l1, l2, all_eq]
/-- all of a list of truths -/
theorem all_range (bs : List Bool) : ((List.range bs.length).all fun i => bs.getD i true) = bs.all id := by
  rw [Bool.eq_iff_iff, List.all_eq_true, List.all_eq_true]
  constructor
  · intro h b hb
    obtain ⟨i, hi, rfl⟩ := List.getElem_of_mem hb
    have := h i (List.mem_range.mpr hi)
    rwa [List.getD_eq_getElem?_getD, List.getElem?_eq_getElem hi] at this
  · intro h i hi
    have hi' := List.mem_range.mp hi
    rw [List.getD_eq_getElem?_getD, List.getElem?_eq_getElem hi']
    exact h _ (List.getElem_mem hi')
theorem call_allK (h : X.K = K) (hc : X.calm = true) : CallR X (.builtin "all") (fun xs H Q => ∃ (p : Addr) (bs : List Bool), xs = [.ref p] ∧ SqL K H p (bs.map V.bl) ∧ Q (.bl (bs.all id)) H) := by
  subst h
  intro pins s σ H xs us Q I r h
  obtain ⟨p, bs, rfl, hq, q⟩ := h
  obtain ⟨u, rfl, rx⟩ := vals1 r
  cases rx
  obtain ⟨its, rv, pl, hz⟩ := I.list hq
  have len : its.length = bs.length := by rw [← rv.length, List.length_map]
  refine call_all_walk (wpAny_pyIter_list pl.isList ⟨s.heap.objs.size, [s.heap.objs.size, p], [s.heap.objs.size], its.toArray.size, _, _, fun i => bs.getD i true, rfl, Walks.list (A := X.A.in1) (I.ok.hd hc) _ p (Nat.ne_of_lt pl.lt) its.toArray, ⟨⟨_, Heap.get?_push_size _ rfl, rfl, rfl⟩, pl.isList.push _⟩, fun i v s' Q' E' hP hQ => ?_, fun h' tk hk => ?_⟩)
  · have hP' : its[i]? = some v := by simpa using hP
    have hi : i < bs.length := by rw [← len]; exact (List.getElem?_eq_some_iff.mp hP').1
    obtain ⟨c, e1, r1⟩ := rv.get (i := i) (x := V.bl bs[i]) (by rw [List.getElem?_map, List.getElem?_eq_getElem hi]; rfl)
    rw [hP'] at e1
    obtain rfl := Option.some.inj e1
    obtain rfl : v = Value.bool bs[i] := r1
    refine wpAny_truthy_bool ?_
    have hQ' : Q' (bs.getD i true) s' := hQ
    rwa [List.getD_eq_getElem?_getD, List.getElem?_eq_getElem hi] at hQ'
  · refine ⟨.bl (bs.all id), H, I.kept fun b o e => hk b o (fun hm => ?_) (Heap.get?_push_of_some _ e), ?_, q⟩
    · rw [List.mem_singleton.mp hm] at e
      exact Nat.lt_irrefl _ (Heap.lt_size e)
    · show _ = Value.bool _
      rw [List.size_toArray, len, all_range]
end
end L2

namespace L2
open PySem PySem.Spec PyProof.Rows
/-! ### two tuples walked side by side -/
section
variable {prog : Program} {w : World} {A : Around} {E : Value → Shared → Prop} {s : Shared}
end
/-! ### .. as the layer walks it -/
section
variable {X : Cx} {pins : List (Addr × Obj)} {σ : St} {H : Hp} {s : Shared}
end
end L2

namespace L2
open PySem PySem.Spec PyProof.Rows
/-! ### rows of a book in the heap -/
theorem stf_fresh {K : PySem.W.Frag} {H H1 : Hp} {st p : Addr} {ns : List Int} {k : Nat} (S : STF K H1 st ns k) (B : But st H H1) (hp : H1 p = none) : H p = none ∧ p ≠ st := by
  have hn : p ≠ st := fun e => by
    obtain ⟨o, z⟩ := S.some
    rw [← e, hp] at z; cases z
  refine ⟨?_, hn⟩
  cases e : H p with
  | none => rfl
  | some o => rw [B p o e hn] at hp; cases hp
theorem stf_tup {K : PySem.W.Frag} {H H1 : Hp} {st t : Addr} {ns : List Int} {k : Nat} {xs : List V} (S : STF K H st ns k) (B : But st H H1) (h : H t = some (.tup xs)) : H1 t = some (.tup xs) :=
  B _ _ h fun e => by
    obtain ⟨sc, h1, _⟩ := S
    rw [← e, h] at h1; cases h1
noncomputable def RowsAt (H : Hp) : List Addr → List (List Int) → Prop
  | [], [] => True
  | t :: ts, r :: rs => H t = some (.tup (r.map V.int)) ∧ RowsAt H ts rs
  | _, _ => False
theorem RowsAt.imp {H H' : Hp} (f : ∀ t xs, H t = some (.tup xs) → H' t = some (.tup xs)) : ∀ {ts : List Addr} {rs : List (List Int)}, RowsAt H ts rs → RowsAt H' ts rs
  | [], [], _ => trivial
  | t :: ts, r :: rs, ⟨h, q⟩ => ⟨f _ _ h, RowsAt.imp f q⟩
  | [], _ :: _, h => h.elim
  | _ :: _, [], h => h.elim
theorem RowsAt.len {H : Hp} : ∀ {ts : List Addr} {rs : List (List Int)}, RowsAt H ts rs → ts.length = rs.length
  | [], [], _ => rfl
  | t :: ts, r :: rs, ⟨_, q⟩ => by rw [List.length_cons, List.length_cons, q.len]
  | [], _ :: _, h => h.elim
  | _ :: _, [], h => h.elim
theorem RowsAt.get {H : Hp} : ∀ {ts : List Addr} {rs : List (List Int)} {i : Nat}, RowsAt H ts rs → i < rs.length → ∃ t r, ts[i]? = some t ∧ rs[i]? = some r ∧ H t = some (.tup (r.map V.int))
  | [], [], i, _, h => absurd h (Nat.not_lt_zero _)
  | t :: ts, r :: rs, 0, ⟨h, _⟩, _ => ⟨t, r, rfl, rfl, h⟩
  | t :: ts, r :: rs, i + 1, ⟨_, q⟩, h => by
    obtain ⟨t', r', a, b, c⟩ := RowsAt.get q (by simpa using h)
    exact ⟨t', r', a, b, c⟩
  | [], _ :: _, _, h, _ => h.elim
  | _ :: _, [], _, h, _ => h.elim
theorem RowsAt.snoc {H : Hp} {t : Addr} {r : List Int} (e : H t = some (.tup (r.map V.int))) : ∀ {ts : List Addr} {rs : List (List Int)}, RowsAt H ts rs → RowsAt H (ts ++ [t]) (rs ++ [r])
  | [], [], _ => ⟨e, trivial⟩
  | t' :: ts, r' :: rs, ⟨h, q⟩ => ⟨h, RowsAt.snoc e q⟩
  | [], _ :: _, h => h.elim
  | _ :: _, [], h => h.elim
/-- a list is written: tuples stay -/
theorem tup_put {H : Hp} {p : Addr} {xs ys : List V} (hp : H p = some (.lst xs)) : ∀ t zs, H t = some (.tup zs) → (upd H p (.lst ys)) t = some (.tup zs) := fun t zs e => by
  rw [upd_ne]
  · exact e
  · intro z
    rw [z, hp] at e; cases e
/-! ### what the program says of rows -/
noncomputable def mixL (r1 r2 : List Int) (s : Nat) : List Int := (List.range r1.length).map fun k => if hasB s k = true then r1.getD k 0 else r2.getD k 0
noncomputable def alikeL (r1 r2 : List Int) (s : Nat) : Bool := ((colsN s).map fun c => decide (r1.getD c 0 = r2.getD c 0)).all id
noncomputable def offL (r1 r2 : List Int) (s : Nat) : List Nat := (List.range r1.length).filter fun k => hasB s k && !decide (r1.getD k 0 = r2.getD k 0)
noncomputable def agreeL (r1 r2 : List Int) (s : Nat) : Bool := decide (offL r1 r2 s = [])
theorem getD_int {r : List Int} {k : Nat} (h : k < r.length) : (r.map V.int)[k]? = some (V.int (r.getD k 0)) := by
  rw [List.getElem?_map, List.getElem?_eq_getElem h, List.getD_eq_getElem?_getD, List.getElem?_eq_getElem h]; rfl
noncomputable def spHas2 : Sp := fun vs H Q _ => ∃ a k : Nat, vs = [vN a, vN k] ∧ k ≤ 20 ∧ Q (.bl (hasB a k)) H
noncomputable def spAlike (K : PySem.W.Frag) : Sp := fun vs H Q _ => ∃ (a b : Addr) (r1 r2 : List Int) (s : Nat), vs = [.ref a, .ref b, vN s] ∧ SqT K H a (r1.map V.int) ∧ SqT K H b (r2.map V.int) ∧ s < 2 ^ 20 ∧ (∀ c ∈ colsN s, c < r1.length ∧ c < r2.length) ∧ ∀ H', Same H H' → Q (.bl (alikeL r1 r2 s)) H'
noncomputable def spMixed (K : PySem.W.Frag) : Sp := fun vs H Q _ => ∃ (a b : Addr) (r1 r2 : List Int) (s : Nat), vs = [.ref a, .ref b, vN s] ∧ SqT K H a (r1.map V.int) ∧ SqT K H b (r2.map V.int) ∧ r1.length = r2.length ∧ r1.length ≤ 20 ∧
  ∀ p H', Same H H' → H p = none → H' p = some (.tup ((mixL r1 r2 s).map V.int)) → Q (.ref p) H'
noncomputable def spAgree (K : PySem.W.Frag) : Sp := fun vs H Q _ => ∃ (a b : Addr) (r1 r2 : List Int) (s : Nat), vs = [.ref a, .ref b, vN s] ∧ SqT K H a (r1.map V.int) ∧ SqT K H b (r2.map V.int) ∧ r1.length = r2.length ∧ r1.length ≤ 20 ∧
  ∀ H', Same H H' → Q (.bl (agreeL r1 r2 s)) H'
noncomputable def spPool (K : PySem.W.Frag) : Sp := fun vs H Q _ => ∃ (st : Addr) (ns : List Int) (k : Nat), vs = [.ref st] ∧ STF K H st ns k ∧ k ≤ 900000 ∧ ns.length ≤ 63 ∧
  ∀ (pl : List Int) (p : Addr) (k' : Nat) (H' : Hp), 1 ≤ pl.length → pl.length ≤ 4 → k' ≤ k + 3 → H p = none → H' p = some (.lst (pl.map V.int)) → STF K H' st ns k' → But st H H' → Q (.ref p) H'
noncomputable def spBook (K : PySem.W.Frag) : Sp := fun vs H Q _ => ∃ (st : Addr) (ns : List Int) (k m n : Nat), vs = [.ref st, vN m, vN n] ∧ STF K H st ns k ∧ k ≤ 800000 ∧ ns.length ≤ 63 ∧ 1 ≤ m ∧ m ≤ 7 ∧ n ≤ 16 ∧
  ∀ (ts : List Addr) (rs : List (List Int)) (p : Addr) (k' : Nat) (H' : Hp), rs.length = n → (∀ r ∈ rs, r.length = m) → k' ≤ k + 4 + 14 * n → H p = none → H' p = some (.lst (ts.map V.ref)) → RowsAt H' ts rs → STF K H' st ns k' → But st H H' → Q (.ref p) H'
theorem Same.tupS {K : PySem.W.Frag} {H H' : Hp} {a : Addr} {xs : List V} (e : Same H H') (h : SqT K H a xs) : SqT K H' a xs := by
  rcases h with (h | ⟨o, h⟩) | h
  · exact .inl (.inl (e _ _ h))
  · exact .inl (.inr ⟨o, e _ _ h⟩)
  · exact .inr h
end L2

namespace L2
open PySem PySem.Spec PyProof.Rows

/-! ### lists of pairs as tables -/
section
variable {κ : Type} [DecidableEq κ]
noncomputable def valV (kvs : List (κ × V)) (k : κ) : Option V := (kvs.find? fun kv => decide (kv.1 = k)).map (·.2)
/-- in its place, or at the end -/
noncomputable def putK (kvs : List (κ × V)) (k : κ) (v : V) : List (κ × V) :=
  if (kvs.any fun kv => decide (kv.1 = k)) = true then kvs.map (fun kv => if kv.1 = k then (kv.1, v) else kv) else kvs ++ [(k, v)]
theorem valV_pos {p : κ × V} {r : List (κ × V)} {k : κ} (e : p.1 = k) : valV (p :: r) k = some p.2 := by simp [valV, List.find?_cons, e]
theorem valV_neg {p : κ × V} {r : List (κ × V)} {k : κ} (e : ¬ p.1 = k) : valV (p :: r) k = valV r k := by simp [valV, List.find?_cons, e]
theorem valV_any (k : κ) : ∀ kvs : List (κ × V), (kvs.any fun kv => decide (kv.1 = k)) = (valV kvs k).isSome
  | [] => rfl
  | p :: r => by
    rw [List.any_cons]
    by_cases e : p.1 = k
    · simp only [valV_pos e, decide_eq_true e, Bool.true_or, Option.isSome_some]
    · rw [valV_neg e, decide_eq_false e, Bool.false_or]; exact valV_any k r
theorem valV_map (k j : κ) (y : V) : ∀ kvs : List (κ × V), valV (kvs.map fun kv => if kv.1 = k then (kv.1, y) else kv) j = (valV kvs j).map fun x => if j = k then y else x
  | [] => rfl
  | p :: r => by
    have ih := valV_map k j y r
    rw [List.map_cons]
    by_cases h : p.1 = k
    · rw [if_pos h]
      by_cases e : p.1 = j
      · rw [valV_pos (p := (p.1, y)) e, valV_pos e, Option.map_some, if_pos (e.symm.trans h)]
      · rw [valV_neg (p := (p.1, y)) e, valV_neg e, ih]
    · rw [if_neg h]
      by_cases e : p.1 = j
      · rw [valV_pos (p := p) e, valV_pos e, Option.map_some, if_neg (fun z => h (e.trans z))]
      · rw [valV_neg (p := p) e, valV_neg e, ih]
theorem valV_snoc (k j : κ) (y : V) : ∀ kvs : List (κ × V), valV kvs k = none → valV (kvs ++ [(k, y)]) j = if j = k then some y else valV kvs j
  | [], _ => by
    by_cases e : k = j
    · rw [if_pos e.symm]; exact valV_pos (p := (k, y)) e
    · rw [if_neg (fun z => e z.symm)]; exact valV_neg (p := (k, y)) e
  | p :: r, hn => by
    rw [List.cons_append]
    have hk : ¬ p.1 = k := fun z => by rw [valV_pos z] at hn; cases hn
    rw [valV_neg hk] at hn
    have ih := valV_snoc k j y r hn
    by_cases e : p.1 = j
    · rw [valV_pos e, valV_pos e, if_neg (fun z => hk (e.trans z))]
    · rw [valV_neg e, valV_neg e, ih]
theorem valV_put (kvs : List (κ × V)) (k j : κ) (y : V) : valV (putK kvs k y) j = if j = k then some y else valV kvs j := by
  unfold putK
  by_cases a : (kvs.any fun kv => decide (kv.1 = k)) = true
  · rw [if_pos a, valV_map]
    rw [valV_any] at a
    by_cases e : j = k
    · obtain ⟨x, hx⟩ := Option.isSome_iff_exists.mp a
      rw [if_pos e, e, hx, Option.map_some, if_pos rfl]
    · rw [if_neg e]
      cases valV kvs j with
      | none => rfl
      | some x => rw [Option.map_some, if_neg e]
  · rw [if_neg a]
    refine valV_snoc k j y kvs ?_
    rw [valV_any] at a
    cases q : valV kvs k with
    | none => rfl
    | some x => rw [q] at a; exact (a rfl).elim
theorem length_putK (kvs : List (κ × V)) (k : κ) (v : V) : (putK kvs k v).length ≤ kvs.length + 1 := by
  unfold putK
  split
  · rw [List.length_map]; omega
  · rw [List.length_append, List.length_cons, List.length_nil]; omega
theorem putK_new {kvs : List (κ × V)} {k : κ} (v : V) (h : valV kvs k = none) : putK kvs k v = kvs ++ [(k, v)] := by
  unfold putK
  rw [valV_any, h]
  exact if_neg (by decide)

theorem RelO.isSome_eq {o : Option V} {u : Option Value} (r : RelO o u) : o.isSome = u.isSome := by
  cases o with
  | none => cases u with
    | none => rfl
    | some _ => exact (show False from r).elim
  | some _ => cases u with
    | none => exact (show False from r).elim
    | some _ => rfl
theorem RelO.getD {o : Option V} {u : Option Value} {d : V} {d' : Value} (r : RelO o u) (rd : RelV d d') : RelV (o.getD d) (u.getD d') := by
  cases o with
  | none => cases u with
    | none => exact rd
    | some _ => exact (show False from r).elim
  | some _ => cases u with
    | none => exact (show False from r).elim
    | some _ => exact r

/-- raw tables of the same keys -/
theorem KV.val {kvs : List (κ × V)} {vs : List (κ × Value)} (r : KV kvs vs) (k : κ) : RelO (valV kvs k) (valueAt vs k) := by
  unfold KV at r
  induction r with
  | nil => exact True.intro
  | @cons p q ps qs h t ih =>
    obtain ⟨h1, h2⟩ := h
    by_cases e : p.1 = k
    · have e' : q.1 = k := h1.symm.trans e
      have b : valueAt (q :: qs) k = some q.2 := by simp [valueAt, List.find?_cons, e']
      rw [valV_pos e, b]; exact h2
    · have e' : ¬ q.1 = k := fun z => e (h1.trans z)
      have b : valueAt (q :: qs) k = valueAt qs k := by simp [valueAt, List.find?_cons, e']
      rw [valV_neg e, b]; exact ih
end


/-! ### a tracked dict, its keys ints and texts or tuples of these -/
theorem kV_is {P : Program} {w : World} {k : Key} {u : Value} (r : RelV (kV k) u) : (mixKind P w).is k u = true := by
  cases k with
  | inl i => obtain ⟨t, e⟩ := (show ∃ t, u = Value.int i t from r); subst e; exact mixKind_int P w i t
  | inr x => obtain ⟨t, e⟩ := (show ∃ t, u = Value.str x t from r); subst e; exact mixKind_str P w x t
theorem items_are {P : Program} {w : World} : ∀ {ks : List Key} {us : List Value}, Vals (ks.map kV) us → ItemsAre (mixKind P w) ks us
  | [], _, r => by rw [List.map_nil] at r; cases r; exact .nil
  | k :: ks, _, r => by
    rw [List.map_cons] at r
    cases r with
    | cons h t => exact .cons (kV_is h) (items_are t)

/-- raw entries of a dict with tuple keys -/
noncomputable abbrev KT (H : Hp) : List (List Key × V) → List (List Key × Addr × Value) → Prop := Paired fun p q => p.1 = q.1 ∧ H q.2.1 = some (.tup (p.1.map kV)) ∧ RelV p.2 q.2.2
theorem KT.val {H : Hp} {kvs : List (List Key × V)} {xs : List (List Key × Addr × Value)} (r : KT H kvs xs) (k : List Key) : RelO (valV kvs k) ((atKey xs k).map (·.2)) := by
  induction r with
  | nil => exact True.intro
  | @cons p q ps qs h t ih =>
    obtain ⟨h1, _, h2⟩ := h
    by_cases e : p.1 = k
    · have e' : q.1 = k := h1.symm.trans e
      have b : atKey (q :: qs) k = some q.2 := by simp [atKey, List.find?_cons, e']
      rw [valV_pos e, b]; exact h2
    · have e' : ¬ q.1 = k := fun z => e (h1.trans z)
      have b : atKey (q :: qs) k = atKey qs k := by simp [atKey, List.find?_cons, e']
      rw [valV_neg e, b]; exact ih
theorem KT.repl {H : Hp} {kvs : List (List Key × V)} {xs : List (List Key × Addr × Value)} (r : KT H kvs xs) (k : List Key) {y : V} {u : Value} (ry : RelV y u) :
    KT H (kvs.map fun kv => if kv.1 = k then (kv.1, y) else kv) (xs.map (putAt k u)) := by
  induction r with
  | nil => exact .nil
  | @cons p q ps qs h t ih =>
    rw [List.map_cons, List.map_cons]
    refine .cons ?_ ih
    obtain ⟨h1, h2, h3⟩ := h
    unfold putAt
    by_cases e : p.1 = k
    · rw [if_pos e, if_pos (h1.symm.trans e)]; exact ⟨h1, h2, ry⟩
    · rw [if_neg e, if_neg (fun z => e (h1.trans z))]; exact ⟨h1, h2, h3⟩
theorem KT.put {H : Hp} {kvs : List (List Key × V)} {xs : List (List Key × Addr × Value)} (r : KT H kvs xs) (k : List Key) {b : Addr} {y : V} {u : Value} (hb : H b = some (.tup (k.map kV))) (ry : RelV y u) :
    KT H (putK kvs k y) (storedH xs k b u) := by
  have e : (kvs.any fun kv => decide (kv.1 = k)) = (atKey xs k).isSome := by
    rw [valV_any, (r.val k).isSome_eq, Option.isSome_map]
  unfold putK storedH
  rw [e]
  by_cases q : (atKey xs k).isSome = true
  · rw [if_pos q, if_pos q]; exact r.repl k ry
  · rw [if_neg q, if_neg q]; exact Paired.snoc r ⟨rfl, hb, ry⟩
theorem KT.keeps {H H' : Hp} {kvs : List (List Key × V)} {xs : List (List Key × Addr × Value)} (r : KT H kvs xs) (ht : ∀ b ys, H b = some (.tup ys) → H' b = some (.tup ys)) : KT H' kvs xs :=
  Paired.mapP r fun _ _ z => ⟨z.1, ht _ _ z.2.1, z.2.2⟩

section
variable {P : Program} {w : World} {H : Hp} {h : Heap} {a : Addr}
theorem rd_of {u : HO} (ok : HOk P w H h) (e : Rd H a u) : ObjOk P w H h a u := e.ok ok
theorem dk_rd {kvs : List (Key × V)} (ok : HOk P w H h) (e : Rd H a (.dK kvs)) : kvs.length ≤ sizeLine ∧ (a == sysModules) = false ∧ ∃ vs, KV kvs vs ∧ h.DictOf (mixKind P w) a vs :=
  show ObjOk P w H h a (.dK kvs) from rd_of ok e
/-- a tracked tuple of ints and texts is a key -/
theorem key_of {ks : List Key} (ok : HOk P w H h) (e : H a = some (.tup (ks.map kV))) : (tupleKind (mixKind P w)).is h ks a := by
  obtain ⟨_, its, r, o, h1, h2, n, h3⟩ := (show ObjOk P w H h a (.tup (ks.map kV)) from ok a _ e)
  exact ⟨o, its.toArray, n, h1, h2, h3, by simpa using items_are r⟩
theorem dt_rd {kvs : List (List Key × V)} (ok : HOk P w H h) (e : Rd H a (.dT kvs)) : kvs.length ≤ sizeLine ∧ (a == sysModules) = false ∧
    ∃ xs, KT H kvs xs ∧ h.DictOfH (tupleKind (mixKind P w)) a xs := by
  obtain ⟨z, y, xs, r, o, es, ep, h1, h2, h3, h4, h5⟩ := (show ObjOk P w H h a (.dT kvs) from rd_of ok e)
  refine ⟨z, y, xs, r, o, es, ep, h1, h2, h3, h4, fun x hx => ?_, h5⟩
  have all : ∀ {l : List (List Key × V)} {m : List (List Key × Addr × Value)}, KT H l m → ∀ x ∈ m, (tupleKind (mixKind P w)).is h x.1 x.2.1 := by
    intro l m q
    induction q with
    | nil => intro x hx; exact nomatch hx
    | @cons p q ps qs hq t ih =>
      intro x hx
      rcases List.mem_cons.mp hx with e | hx
      · subst e
        exact key_of ok (by rw [← hq.1]; exact hq.2.1)
      · exact ih x hx
  exact all r x hx
theorem dt_of {kvs : List (List Key × V)} (ok : HOk P w H h) (e : H a = some (.dT kvs)) : kvs.length ≤ sizeLine ∧ (a == sysModules) = false ∧
    ∃ xs, KT H kvs xs ∧ h.DictOfH (tupleKind (mixKind P w)) a xs := dt_rd ok (.inl e)
end

/-- what the dict at a holds at the key y -/
noncomputable def DGet (H : Hp) (a : Addr) (y : V) (r : Option V) : Prop :=
  (∃ kvs k, Rd H a (.dK kvs) ∧ y = kV k ∧ r = valV kvs k) ∨ ∃ kvs k b, Rd H a (.dT kvs) ∧ y = .ref b ∧ H b = some (.tup (k.map kV)) ∧ r = valV kvs k
theorem DGet.t {H : Hp} {a b : Addr} {kvs : List (List Key × V)} {k : List Key} (e : H a = some (.dT kvs)) (eb : H b = some (.tup (k.map kV))) : DGet H a (.ref b) (valV kvs k) := .inr ⟨kvs, k, b, .inl e, rfl, eb, rfl⟩
section
variable {X : Cx} {pins : List (Addr × Obj)} {σ : St} {H : Hp} {s : Shared} {a : Addr} {y v : V} {u r : Value} {o : Option V} {A : Around} {E : Value → Shared → Prop}

theorem Inv.big (I : Inv X pins σ H s) : sysModules < s.heap.objs.size := by
  have h : mainGlobals < s.heap.objs.size := (I.mod.glob.keeps I.bk).lt
  exact Nat.lt_trans (by decide) h

theorem d_notIn {Q : Value → Shared → Prop} (hu : A.units + 1 < cLine) (I : Inv X pins σ H s) (g : DGet H a y o) (ry : RelV y u) (h : ∀ s', Inv X pins σ H s' → Q (.bool (!o.isSome)) s') :
    wpAny (model X.prog X.w) A (compareOp .NotIn u (.ref a)) Q E s := by
  rcases g with ⟨kvs, k, e, ey, l⟩ | ⟨kvs, k, b, e, ey, eb, l⟩
  · subst ey
    obtain ⟨z, hd, vs, rel, dd⟩ := dk_rd I.hok e
    refine wpAny_notIn_of (kV_is ry) hd dd.mapOf ?_
    rw [← (rel.val k).isSome_eq, ← l]
    exact h _ (I.tok _)
  · subst ey
    cases (show u = Value.ref b from ry)
    obtain ⟨z, hd, xs, rel, dd⟩ := dt_rd I.hok e
    refine wpAny_notIn_heap (tupleKind_room_in1 hu) (key_of I.hok eb) hd dd ?_
    have q := (rel.val k).isSome_eq
    rw [Option.isSome_map] at q
    rw [← q, ← l]
    exact h _ (I.tok _)
/-- a dict's object is replaced -/
theorem d_write {h' : Heap} {t' : Nat} {ob : HO} (I : Inv X pins σ H s) (mu : Mut (H a)) (hs : Heap.SameBut a s.heap h') (he : ∃ q, h'.get? a = some q) (new : ObjOk X.prog X.w (upd H a ob) h' a ob) :
    Inv X pins σ (upd H a ob) { s with heap := h', toks := t' } :=
  I.write (x := a) (e := a) mu (.inl rfl) (fun b q hb z => (hs.2 b hb).trans z) he new
end

section
variable {X : Cx} {pins : List (Addr × Obj)} {σ : St} {H : Hp} {s : Shared} {a : Addr} {kvs : List (Key × V)} {k : Key} {u : Value} {A : Around} {E : Value → Shared → Prop}
end


/-! ### readings and rules -/
noncomputable def tDNotIn (ty td : TE) : TE := fun σ H Q => ty σ H fun y H1 => td σ H1 fun x H2 => ∃ a o, x = .ref a ∧ DGet H2 a y o ∧ Q (.bl (!o.isSome)) H2
section
variable {X : Cx} {o i e value : Expr} {pos pos' tpos : Pos} {td ty tv : TE}
theorem pc_dnotin (hu : X.A.units + 1 < cLine) (hi : PE X i ty) (ho : PE X o td) : PC X .NotIn i o (tDNotIn ty td) := by
  intro pins s σ H Q I h
  refine thn (hi pins s σ H _ I h) fun iv s1 ⟨y, H1, I1, ry, q1⟩ => thn (ho pins s1 σ H1 _ I1 q1) fun u s2 ⟨x, H2, I2, rx, a, ov, ex, g, q2⟩ => ?_
  subst ex
  obtain rfl : u = Value.ref a := rx
  exact d_notIn hu I2 g ry fun s3 I3 => ⟨.bl (!ov.isSome), H2, I3, rfl, q2⟩
end


/-! ### displays -/
theorem dt_empty {P : Program} {w : World} {H : Hp} (h : Heap) (hb : sysModules < h.objs.size) : ObjOk P w H (h.push { cls := .type "dict", data := .dict #[] }) h.objs.size (.dT []) :=
  ⟨Nat.zero_le _, beq_eq_false_iff_ne.mpr (Ne.symm (Nat.ne_of_lt hb)), [], .nil, _, #[], 0, Heap.get?_push_size _ rfl, ⟨rfl, rfl, rfl⟩, rfl, rfl, List.nodup_nil⟩
noncomputable def tDNewT : TE := fun _ H Q => ∀ p, H p = none → Q (.ref p) (upd H p (.dT []))
section
variable {X : Cx} {pos : Pos}
theorem pe_dnewT : PE X (.Dict [] [] pos) tDNewT := fun pins s σ H Q I h =>
  wpAny_Dict_empty ⟨.ref s.heap.objs.size, _, I.laid (a := s.heap.objs.size) (o := .dT []) (t' := s.toks) (fun _ _ q => Heap.get?_push_of_some _ q) (Nat.le_refl _) (dt_empty s.heap I.big), rfl, h _ (I.hok.fresh (Nat.le_refl _))⟩
end

/-! ### methods -/
structure M2 (X : Cx) (o : Expr) (m : Str) (apos : Pos) (e f : Expr) (cpos : Pos) : Prop where
  base : attributeBase o m X.env (eval o X.env) = eval o X.env
  few : ((backTo cpos (starEach [e, f] X.env)).all (fun x => !x.1) && (backToKw cpos (keywordEach [] X.env)).all (fun x => x.1.isSome)
    && decide (([e, f] : List Expr).length + ([] : List Keyword).length + (if ([] : List Keyword).isEmpty then 0 else 1) < 30)) = true
  line : (apos.endLine == cpos.line) = true
  trees : backTo cpos (starEach [e, f] X.env) = [(false, eval e X.env), (false, eval f X.env)]

/-- a is a dict, whatever its keys -/
noncomputable def IsD (H : Hp) (a : Addr) : Prop := (∃ kvs, Rd H a (.dK kvs)) ∨ ∃ kvs, Rd H a (.dT kvs)
theorem isD_at {X : Cx} {pins : List (Addr × Obj)} {σ : St} {H : Hp} {s : Shared} {a : Addr} (I : Inv X pins σ H s) (d : IsD H a) :
    s.TypeIs (.ref a) "dict" ∧ (∀ b, Value.ref a = .ref b → ∃ ob, s.heap.get? b = some ob ∧ ob.dict = none) ∧ (a == sysModules) = false := by
  rcases d with ⟨kvs, e⟩ | ⟨kvs, e⟩
  · obtain ⟨_, hd, vs, _, dd⟩ := dk_rd I.hok e
    refine ⟨dd.typeIs, fun b q => ?_, hd⟩
    cases q
    obtain ⟨ob, _, _, h1, h2, _⟩ := dd
    exact ⟨ob, h1, h2.2.1⟩
  · obtain ⟨_, hd, xs, _, dd⟩ := dt_rd I.hok e
    refine ⟨dd.typeIs, fun b q => ?_, hd⟩
    cases q
    obtain ⟨ob, _, _, h1, h2, _⟩ := dd
    exact ⟨ob, h1, h2.2.1⟩

section
variable {X : Cx} {pins : List (Addr × Obj)} {σ : St} {H : Hp} {s : Shared} {a : Addr} {y d : V} {u r : Value} {o : Option V} {A : Around} {E : Value → Shared → Prop}
/-- d.get(y, x) -/
theorem d_get2 {Q : Value → Shared → Prop} (hu : A.units + 1 < cLine) (I : Inv X pins σ H s) (g : DGet H a y o) (ry : RelV y u) (rd : RelV d r) (h : ∀ w' s', Inv X pins σ H s' → RelV (o.getD d) w' → Q w' s') :
    wpAny (model X.prog X.w) A (call (.builtin "dict.get") [.ref a, u, r]) Q E s := by
  rcases g with ⟨kvs, k, e, ey, l⟩ | ⟨kvs, k, b, e, ey, eb, l⟩
  · subst ey
    obtain ⟨z, hd, vs, rel, dd⟩ := dk_rd I.hok e
    refine call_meetsIn PySem.F.slot_dict_get dd.typeIs PySem.F.entry_dict_get (PySem.F.args_dict_get_3 _ _ _) (meets_dict_get_default (mixKind X.prog X.w) a (kV_is ry) hd r) ⟨_, dd.mapOf, h _ _ (I.tok _) ?_⟩
    rw [l]
    exact (rel.val k).getD rd
  · subst ey
    cases (show u = Value.ref b from ry)
    obtain ⟨z, hd, xs, rel, dd⟩ := dt_rd I.hok e
    refine call_meetsIn PySem.F.slot_dict_get dd.typeIs PySem.F.entry_dict_get (PySem.F.args_dict_get_3 _ _ _) (meetsH_dict_get_default (tupleKind (mixKind X.prog X.w)) a b hd r) ⟨tupleKind_room_in1 hu, k, xs, key_of I.hok eb, dd, h _ _ (I.tok _) ?_⟩
    rw [l]
    exact (rel.val k).getD rd
end

noncomputable def tDGet2 (td ty tx : TE) : TE := fun σ H Q => td σ H fun x H1 => ∃ a, x = .ref a ∧ IsD H1 a ∧ ty σ H1 fun y H2 => tx σ H2 fun z H3 => ∃ o, DGet H3 a y o ∧ Q (o.getD z) H3
section
variable {X : Cx} {o e f : Expr} {apos cpos : Pos} {td ty tx : TE}
theorem pe_dget2 (hu : X.A.units + 1 < cLine) (ho : PE X o td) (he : PE X e ty) (hf : PE X f tx) (m : M2 X o "get" apos e f cpos) : PE X (.Call (.Attribute o "get" apos) [e, f] [] cpos) (tDGet2 td ty tx) := by
  intro pins s σ H Q I h
  refine wpAny_Call_method m.base m.few m.line PySem.F.plainAttrs_dict PySem.F.slot_dict_get PySem.F.type_dict_get (thn (ho pins s σ H _ I h) fun u s1 ⟨x, H1, I1, rx, a, ex, d, q1⟩ => ?_)
  subst ex
  obtain rfl : u = Value.ref a := rx
  obtain ⟨t1, t2, _⟩ := isD_at I1 d
  refine ⟨t1, t2, ?_⟩
  rw [m.trees]
  refine Calls.callWith_builtin rfl (Calls.evalArgs_plain (Calls.spliced_cons (thn (he pins s1 σ H1 _ I1 q1) fun iv s2 ⟨y, H2, I2, ry, q2⟩ =>
    Calls.spliced_cons (thn (hf pins s2 σ H2 _ I2 q2) fun fv s3 ⟨z, H3, I3, rz, ov, g, q3⟩ => Calls.spliced_nil ?_))))
  exact d_get2 hu I3 g ry rz fun w' s4 I4 rw' => ⟨_, H3, I4, rw', q3⟩
end

/-! ### dict(d): a copy -/
section
variable {X : Cx} {pins : List (Addr × Obj)} {σ : St} {H : Hp} {s : Shared} {a : Addr} {kvs : List (Key × V)} {A : Around} {E : Value → Shared → Prop}
end


section
variable {X : Cx} {pins : List (Addr × Obj)} {σ : St} {H : Hp} {s : Shared} {a : Addr} {y : V} {u : Value} {A : Around} {E : Value → Shared → Prop}
end
end L2

namespace L2
open PySem PySem.Spec PyProof.Rows
/-! ### d.setdefault(k, x), the keys tuples -/
section
variable {prog : Program} {w : World} {A : Around} {E : Value → Shared → Prop} {s : Shared} {κ : Type} [DecidableEq κ] {kd : HeapKind prog w κ}
theorem sdH {d a : Addr} {xs : List (κ × Addr × Value)} {k : κ} {df : Value} {Q : Value → Shared → Prop} (hu : kd.room A) (hk : kd.is s.heap k a) (hm : s.heap.DictOfH kd d xs) (hz : xs.length ≤ sizeLine)
    (there : ∀ p, atKey xs k = some p → Q p.2 { s with toks := s.toks + kd.draws k })
    (fresh : atKey xs k = none → ∀ g, g.DictOfH kd d (storedH xs k a df) → Heap.SameBut d s.heap g → Q df { s with heap := g, toks := s.toks + kd.draws k }) : wpAny (model prog w) A (dictSetDefault d (.ref a) df) Q E s := by
  obtain ⟨o, es, ep, ho, hc, hd, he, his, hn⟩ := hm
  unfold dictSetDefault
  try with_reducible refine wpAny_holding ?_
  refine wpAny_bind (kd.pyHash hu hk (wpAny_bind (wpAny_dictFind_heap (s := { s with toks := s.toks + kd.draws k }) hu hk ho hd he his hn (fun no => ?_) fun j p hj => ?_)))
  · have none' : atKey xs k = none := atKey_none_of_get no
    have out : k ∉ xs.map (·.1) := not_mem_keys_of_get no
    refine wpAny_bind (wpAny_rule (wpAny_bind (wpAny_updateDictKeys (hz := by rw [size_of_entries he]; exact hz) (s := { s with toks := s.toks + kd.draws k }) ho hd (wpAny_pure (fresh none' _ ?_ (Heap.SameBut.update ..))))))
    rw [storedH_new none']
    refine ⟨_, _, ep + 1, Heap.get?_update_self _ ho (Obj.isFreed_of_dict (Obj.data_mapDictKeys hd _)), hc.mapDictKeys _, Obj.data_mapDictKeys hd _, ?_, fun x hx => ?_, ?_⟩
    · simp [he, entryOfKey]
    · rcases List.mem_append.mp hx with hx | hx
      · exact kd.keeps (his x hx) ho hd (Heap.SameBut.update ..)
      · rw [List.mem_singleton.mp hx]
        exact kd.keeps hk ho hd (Heap.SameBut.update ..)
    · rw [List.map_append, List.nodup_append]
      refine ⟨hn, by simp, fun x hx y hy e => out ?_⟩
      have hy' : y = k := by simpa using hy
      rw [← hy', ← e]
      exact hx
  · have e1 := atKey_of_get hn hj
    refine wpAny_bind (wpAny_dictEntries (s := { s with toks := s.toks + kd.draws k }) ho hd ?_)
    rw [entry_at he j, hj]
    exact wpAny_bind (wpAny_rule (wpAny_pure (there p e1)))
theorem sdH_meets {d a : Addr} {df : Value} (hd : (d == sysModules) = false) :
    MeetsIn prog w (Builtin.«dict.setdefault» ⟨[.ref d, .ref a, df], []⟩) (fun A R s => kd.room A.in1 ∧ ∃ k xs, kd.is s.heap k a ∧ s.heap.DictOfH kd d xs ∧ xs.length ≤ sizeLine ∧
      (∀ p, atKey xs k = some p → R (.ok (.ret p.2)) { s with toks := s.toks + kd.draws k }) ∧
      (atKey xs k = none → ∀ g, g.DictOfH kd d (storedH xs k a df) → Heap.SameBut d s.heap g → R (.ok (.ret df)) { s with heap := g, toks := s.toks + kd.draws k })) :=
  .of_wp fun A R s ⟨hu, k, xs, hk, hm, hz, h1, h2⟩ => by
    unfold Builtin.«dict.setdefault» Builtin.Dict.keyAndDefault
    refine wpAny_bind (wpAny_bind (wpAny_notOrdered_dict hm.typeIs (wpAny_pure ?_)))
    refine (show wpAny _ _ (if (d == sysModules) = true then _ else (dictSetDefault d (.ref a) df >>= _)) _ _ s from ?_)
    rw [hd, if_neg Bool.false_ne_true]
    exact wpAny_bind (sdH hu hk hm hz (fun p e => wpAny_pure ⟨p.2, rfl, h1 p e⟩) fun e g hg hs => wpAny_pure ⟨df, rfl, h2 e g hg hs⟩)
end
noncomputable def tDSd (td ty tx : TE) : TE := fun σ H Q => td σ H fun x H1 => ∃ a, x = .ref a ∧ IsD H1 a ∧ ty σ H1 fun y H2 => tx σ H2 fun z H3 => ∃ kvs k b, H3 a = some (.dT kvs) ∧ y = .ref b ∧ H3 b = some (.tup (k.map kV)) ∧ kvs.length < sizeLine ∧
  (∀ v, valV kvs k = some v → Q v H3) ∧ (valV kvs k = none → Q z (upd H3 a (.dT (putK kvs k z))))
section
variable {X : Cx} {o e f : Expr} {apos cpos : Pos} {td ty tx : TE}
theorem pe_dsd (hu : X.A.units + 1 < cLine) (ho : PE X o td) (he : PE X e ty) (hf : PE X f tx) (m : M2 X o "setdefault" apos e f cpos) : PE X (.Call (.Attribute o "setdefault" apos) [e, f] [] cpos) (tDSd td ty tx) := by
  intro pins s σ H Q I h
  refine wpAny_Call_method m.base m.few m.line PySem.F.plainAttrs_dict PySem.F.slot_dict_setdefault PySem.F.type_dict_setdefault (thn (ho pins s σ H _ I h) fun u s1 ⟨x, H1, I1, rx, a, ex, d, q1⟩ => ?_)
  subst ex
  obtain rfl : u = Value.ref a := rx
  obtain ⟨t1, t2, _⟩ := isD_at I1 d
  refine ⟨t1, t2, ?_⟩
  rw [m.trees]
  refine Calls.callWith_builtin rfl (Calls.evalArgs_plain (Calls.spliced_cons (thn (he pins s1 σ H1 _ I1 q1) fun iv s2 ⟨y, H2, I2, ry, q2⟩ => Calls.spliced_cons (thn (hf pins s2 σ H2 _ I2 q2) fun fv s3 ⟨z, H3, I3, rz, kvs, k, b, ea, ey, eb, hl, q3, q4⟩ => Calls.spliced_nil ?_))))
  subst ey
  obtain rfl : iv = Value.ref b := ry
  obtain ⟨zz, hd, xs, rel, dd⟩ := dt_of I3.hok ea
  have hz : xs.length ≤ sizeLine := by rw [← Paired.length rel]; exact zz
  have hv := rel.val k
  refine call_meetsIn PySem.F.slot_dict_setdefault dd.typeIs PySem.F.entry_dict_setdefault (PySem.F.args_dict_setdefault_3 _ _ _) (sdH_meets (kd := tupleKind (mixKind X.prog X.w)) hd) ⟨tupleKind_room_in1 hu, k, xs, key_of I3.hok eb, dd, hz, fun p ep => ?_, fun en g hg hs => ?_⟩
  · rw [ep] at hv
    cases ev : valV kvs k with
    | none => rw [ev] at hv; exact hv.elim
    | some v =>
      rw [ev] at hv
      exact ⟨v, H3, I3.tok _, hv, q3 v ev⟩
  · have ev : valV kvs k = none := by
      rw [en] at hv
      cases ev : valV kvs k with
      | none => rfl
      | some v => rw [ev] at hv; exact hv.elim
    have hl' : (putK kvs k z).length ≤ sizeLine := by have := length_putK kvs k z; omega
    obtain ⟨qo, es, ep, hq, h2, h3, h4, _, h5⟩ := hg
    refine ⟨z, _, d_write (ob := .dT (putK kvs k z)) I3 (by rw [ea]; exact True.intro) hs ⟨qo, hq⟩ ⟨hl', hd, _, (rel.put k eb rz).keeps fun c ys ec => ?_, qo, es, ep, hq, h2, h3, h4, h5⟩, rz, q4 ev⟩
    rw [upd_ne (ne_of ec ea (fun z => nomatch z))]
    exact ec
end
end L2

namespace L2
open PySem PySem.Spec PyProof.Rows
/-! ### for v in d.values(), whatever the keys -/
section
variable {prog : Program} {w : World} {A : Around} {E : Value → Shared → Prop} {s : Shared}
theorem valsNew {d : Addr} (hd : (d == sysModules) = false) :
    MeetsIn prog w (Builtin.«dict.values» ⟨[.ref d], []⟩) (fun _ R s => s.TypeIs (.ref d) "dict" ∧ R (.ok (.ret (.ref s.heap.objs.size))) { s with heap := s.heap.push { cls := .type "dict_values", data := .fields #[.ref d] } }) :=
  .of_wp fun A R s ⟨ty, h⟩ => by
    refine wpAny_bind ?_
    unfold Builtin.Dict.noArgs
    refine wpAny_bind (wpAny_notOrdered_dict ty (wpAny_pure ?_))
    refine (show wpAny _ _ (Builtin.Dict.showsAll d >>= _) _ _ s from ?_)
    unfold Builtin.Dict.showsAll
    rw [hd, if_neg Bool.false_ne_true]
    exact wpAny_bind (wpAny_pure (wpAny_bind (wpAny_newObj_type (wpAny_pure ⟨_, rfl, h⟩))))
theorem valsIter {v d : Addr} {od : Obj} {es : Array DictEntry} {ep : Nat} {Q : Value → Shared → Prop} (hv : s.heap.IsValuesView v d) (eo : s.heap.get? d = some od) (dd : od.data = .dict es ep)
    (k : Q (.ref s.heap.objs.size) { s with heap := s.heap.push { cls := .type "dict_valueiterator", data := .fields #[.ref d, .int 0 0, .int es.size 0, .int ep 0] } }) : wpAny (model prog w) A (pyIter (.ref v)) Q E s := by
  obtain ⟨ov, ev, cv, dv⟩ := id hv
  refine wpAny_pyIter_slot hv.typeIs F.slot_dict_values_iter (wpAny_call_entry F.slot_dict_values_iter hv.typeIs F.entry_dict_values_iter ?_ (F.args_dict_values_iter_1 _))
  unfold Builtin.«dict_values.__iter__» Builtin.Dict_items.dictOf Builtin.Dict_items.newIterator
  refine wpAny_bind (wpAny_pure (wpAny_bind (wpAny_bind (wpAny_field ev dv (x := .ref d) rfl (wpAny_pure (wpAny_bind (wpAny_bind (wpAny_dictEntries eo dd (wpAny_bind (wpAny_dictEpoch eo dd ?_))))))))))
  rw [show Builtin.Dict_items.ownsTuple "dict_valueiterator" = false by decide]
  simp only [Bool.false_eq_true, if_false]
  refine wpAny_newObj_type (wpAny_pure ⟨_, rfl, "dict_valueiterator", _, ⟨_, Heap.get?_push_size _ rfl, rfl⟩, F.slot_dict_valueiterator_next.lookup, ?_⟩)
  simpa [rawInt] using k
theorem valsItem {it d : Addr} {i ep : Nat} {od : Obj} {es : Array DictEntry} {e : DictEntry} {Q : Option Value → Shared → Prop} (hI : s.heap.IsValIter it d i es.size ep) (eo : s.heap.get? d = some od) (dd : od.data = .dict es ep) (hx : es[i]? = some e)
    (k : ∀ g, g.IsValIter it d (i + 1) es.size ep → Heap.SameBut it s.heap g → Q (some e.val) { s with heap := g }) : wpAny (model prog w) A (pyNext (.ref it)) Q E s := by
  obtain ⟨oi, ei, ci, di⟩ := id hI
  unfold pyNext
  refine wpAny_bind (wpAny_attempt (wpAny_callSpecial?_slot (name := Str.ofString "__next__") hI.typeIs F.slot_dict_valueiterator_next (wpAny_call_entry F.slot_dict_valueiterator_next hI.typeIs F.entry_dict_valueiterator_next ?_ (F.args_dict_valueiterator_next_1 _))))
  refine wpAny_bind (wpAny_pure (wpAny_bind (wpAny_bind (wpAny_bind (wpAny_typeNameOfWhole_valiter hI.typeIs (wpAny_pure ?_))))))
  refine wpAny_bind (wpAny_fieldsOf ei di ?_)
  simp only [show Builtin.Dict_items.ownsTuple "dict_valueiterator" = false by decide, Bool.false_eq_true, if_false]
  refine (show wpAny _ _ (if (Value.ref d == Value.none) = true then _ else _) _ _ s from ?_)
  rw [show (Value.ref d == Value.none) = false from rfl, if_neg Bool.false_ne_true]
  refine wpAny_bind (wpAny_pure (wpAny_bind (wpAny_dictEntries eo dd ?_)))
  rw [if_neg (by simp)]
  refine wpAny_bind (wpAny_pure (wpAny_bind (wpAny_dictEpoch eo dd ?_)))
  rw [if_neg (by simp)]
  refine wpAny_pure ?_
  simp only [show ¬ ((i : Int) < 0) from by omega, if_false, Int.toNat_natCast, hx]
  refine wpAny_bind (wpAny_bind (wpAny_typeNameOfWhole_valiter hI.typeIs (wpAny_pure (wpAny_bind (wpAny_isOneOf_valiter hI.typeIs ?_)))))
  refine (show wpAny _ _ (setField (.ref it) 1 (rawInt ((i : Int) + 1)) >>= _) _ _ s from wpAny_bind (wpAny_setField ei di (by simp) ?_))
  have hI' : (s.heap.update it (Obj.mapFields (·.setIfInBounds 1 (rawInt ((i : Int) + 1))))).IsValIter it d (i + 1) es.size ep :=
    ⟨_, Heap.get?_update_self _ ei (Obj.isFreed_of_fields (Obj.data_mapFields di _)), (Obj.cls_mapFields ..).trans ci, by rw [Obj.data_mapFields di]; simp [rawInt]⟩
  have ty' : Shared.TypeIs { s with heap := s.heap.update it (Obj.mapFields (·.setIfInBounds 1 (rawInt ((i : Int) + 1)))) } (.ref it) "dict_valueiterator" := hI'.typeIs
  refine wpAny_bind (wpAny_holding (wpAny_bind (wpAny_isOneOf_valiter ty' (wpAny_bind (wpAny_isOneOf_valiter ty' ?_)))))
  exact wpAny_pure (wpAny_pure ⟨e.val, rfl, wpAny_pure (k _ hI' (Heap.SameBut.update ..))⟩)
theorem valsEnd {it d : Addr} {i ep : Nat} {od : Obj} {es : Array DictEntry} {Q : Option Value → Shared → Prop} (hh : A.handled = none) (hI : s.heap.IsValIter it d i es.size ep) (eo : s.heap.get? d = some od) (dd : od.data = .dict es ep) (hx : es[i]? = none)
    (k : ∀ g, Heap.ExtBut it s.heap g → Q none { s with heap := g }) : wpAny (model prog w) A (pyNext (.ref it)) Q E s := by
  obtain ⟨oi, ei, ci, di⟩ := id hI
  unfold pyNext
  refine wpAny_bind (wpAny_attempt (wpAny_callSpecial?_slot (name := Str.ofString "__next__") hI.typeIs F.slot_dict_valueiterator_next (wpAny_call_entry F.slot_dict_valueiterator_next hI.typeIs F.entry_dict_valueiterator_next ?_ (F.args_dict_valueiterator_next_1 _))))
  refine wpAny_bind (wpAny_pure (wpAny_bind (wpAny_bind (wpAny_bind (wpAny_typeNameOfWhole_valiter hI.typeIs (wpAny_pure ?_))))))
  refine wpAny_bind (wpAny_fieldsOf ei di ?_)
  simp only [show Builtin.Dict_items.ownsTuple "dict_valueiterator" = false by decide, Bool.false_eq_true, if_false]
  refine (show wpAny _ _ (if (Value.ref d == Value.none) = true then _ else _) _ _ s from ?_)
  rw [show (Value.ref d == Value.none) = false from rfl, if_neg Bool.false_ne_true]
  refine wpAny_bind (wpAny_pure (wpAny_bind (wpAny_dictEntries eo dd ?_)))
  rw [if_neg (by simp)]
  refine wpAny_bind (wpAny_pure (wpAny_bind (wpAny_dictEpoch eo dd ?_)))
  rw [if_neg (by simp)]
  refine wpAny_pure ?_
  simp only [show ¬ ((i : Int) < 0) from by omega, if_false, Int.toNat_natCast, hx]
  refine wpAny_bind (wpAny_bind (wpAny_typeNameOfWhole_valiter hI.typeIs (wpAny_pure ?_)))
  refine (show wpAny _ _ (setField (.ref it) 0 .none >>= _) _ _ s from wpAny_bind (wpAny_setField ei di (by simp) (wpAny_bind (m := newExc (.type "StopIteration") []) ?_)))
  simp only [newExc, newTuple]
  refine wpAny_bind (wpAny_newObj_type (wpAny_bind (m := firstArgMember _ _) (wpAny_of_eq (a := Value.none) (by first | rfl | (simp only [firstArgMember]; rfl)) (wpAny_newObj_type ?_ (by size_fits)))) (by size_fits))
  simp only [raiseNew]
  refine wpAny_bind (wpAny_handled ?_)
  rw [show A.in1.handled = none from hh]
  refine wpAny_bind (wpAny_pure (wpAny_throw ?_))
  exact wpAny_bind (wpAny_isInstance (T := "StopIteration") (b := true) ⟨_, Heap.get?_push_size _ rfl, rfl⟩ isSubtype_stop (wpAny_pure (k _ (((Heap.SameBut.update ..).extBut.push _).push _))))
end
/-- the dict at a, frozen, its values in turn -/
noncomputable def Itv (a : Addr) (o : Obj) (kvs : List (List Key × V)) : It :=
  ⟨fun i H => H a = some (.frz o (.dT kvs)) ∧ i < kvs.length, fun i H x H' => H' = H ∧ ∃ k, kvs[i]? = some (k, x), fun i H => H a = some (.frz o (.dT kvs)) ∧ kvs.length ≤ i⟩
theorem KT.at {H : Hp} : ∀ {kvs : List (List Key × V)} {xs : List (List Key × Addr × Value)} {i : Nat}, KT H kvs xs → i < kvs.length → ∃ k v b u, kvs[i]? = some (k, v) ∧ xs[i]? = some (k, b, u) ∧ RelV v u
  | [], _, _, _, h => absurd h (Nat.not_lt_zero _)
  | (k, v) :: kvs, (k', b, u) :: xs, 0, .cons ⟨e, _, r⟩ _, _ => by
    have e' : k = k' := e
    subst e'
    exact ⟨k, v, b, u, rfl, rfl, r⟩
  | _ :: kvs, _ :: xs, i + 1, .cons _ t, h => by
    obtain ⟨k, v, b, u, h1, h2, h3⟩ := KT.at t (by simpa using h)
    exact ⟨k, v, b, u, by simpa using h1, by simpa using h2, h3⟩
section
variable {X : Cx} {pins : List (Addr × Obj)} {σ : St} {H : Hp} {s : Shared}
theorem turn_vals {P : Program} {w : World} {K : PySem.W.Frag} {tg : Expr} {a it : Addr} {o : Obj} {es : Array DictEntry} {ep : Nat} {kvs : List (List Key × V)} (dd : o.data = .dict es ep) : Turn P w K tg (Itv a o kvs) [it] it (fun i h => h.IsValIter it a i es.size ep) where
  mem := by simp
  obj := fun i h st b hb => by
    obtain rfl : b = it := by simpa using hb
    obtain ⟨o, e, c, d⟩ := st
    exact ⟨o, e, fun v z => by rw [d] at z; cases z⟩
  keep := fun i h h' st k => st.at fun o e => k it (by simp) o e
  item := by
    intro X hP hw hK hc i pins s σ H E I hf st hg
    subst hP hw hK
    obtain ⟨ea, hlt⟩ := hg
    obtain ⟨eo, zz, hd, xs, rel, o', es', ep', e1, _, e3, e4, _⟩ := (show ObjOk X.prog X.w H s.heap a (.frz o (.dT kvs)) from I.hok a _ ea)
    have oe : o' = o := Option.some.inj (e1.symm.trans eo)
    subst oe
    have de : es' = es ∧ ep' = ep := by
      rw [dd] at e3
      injection e3 with u1 u2
      exact ⟨u1.symm, u2.symm⟩
    obtain ⟨rfl, rfl⟩ := de
    obtain ⟨k, v, b, u, k1, k2, k3⟩ := KT.at rel hlt
    obtain ⟨f0, f1, f2, f3, f4, f5⟩ := hf it (by simp)
    have ent : es'[i]? = some (entryOfKey (tupleKind (mixKind X.prog X.w)) (k, b, u)) := by rw [entry_at e4 i, k2]; rfl
    refine valsItem st eo dd ent fun g st' sb => ⟨u, rfl, ?_⟩
    have I1 : Inv X pins σ H { s with heap := g } := I.turned (t' := s.toks) (fun b o hb e => (sb.2 b hb).trans e) f0 f1 f3 f4 f5
    obtain ⟨oi, ei, ci, di⟩ := id st'
    exact go_of (s := { s with heap := g }) ei ci di (by decide) ⟨v, H, I1, k3, ⟨rfl, k, k1⟩, st', fun b hb => (hf b hb).1⟩
  done := by
    intro X hP hw hK hc i pins s σ H E I hf st hg
    subst hP hw hK
    obtain ⟨ea, hge⟩ := hg
    obtain ⟨eo, zz, hd, xs, rel, o', es', ep', e1, _, e3, e4, _⟩ := (show ObjOk X.prog X.w H s.heap a (.frz o (.dT kvs)) from I.hok a _ ea)
    have oe : o' = o := Option.some.inj (e1.symm.trans eo)
    subst oe
    have de : es' = es ∧ ep' = ep := by
      rw [dd] at e3
      injection e3 with u1 u2
      exact ⟨u1.symm, u2.symm⟩
    obtain ⟨rfl, rfl⟩ := de
    obtain ⟨f0, f1, f2, f3, f4, f5⟩ := hf it (by simp)
    have sz : es'.size = kvs.length := by rw [size_of_entries e4, ← Paired.length rel]
    exact valsEnd (I.ok.hd hc) st eo dd (Array.getElem?_eq_none (by omega)) fun g eb => ⟨rfl, I.turned (t' := s.toks) (fun b o hb e => eb b o hb e) f0 f1 f3 f4 f5⟩
  self := fun _ _ _ _ _ st h => wpAny_pyIter_valiter st h
noncomputable def iVals (td : TE) : TI := fun σ H R => td σ H fun x H1 => ∃ a kvs, x = .ref a ∧ H1 a = some (.dT kvs) ∧ ∀ o, R (Itv a o kvs) (upd H1 a (.frz o (.dT kvs)))
theorem pi_vals {tg oe : Expr} {apos cpos : Pos} {td : TE} (ho : PE X oe td) (hbase : attributeBase oe "values" X.env (eval oe X.env) = eval oe X.env := by rfl) (hline : (apos.endLine == cpos.line) = true := by rfl) :
    PI X tg (.Call (.Attribute oe "values" apos) [] [] cpos) (iVals td) := by
  intro pins s σ H R I h
  refine wpAny_Call_method0_late hbase hline (thn (ho pins s σ H _ I h) fun v s1 ⟨x, H1, I1, r1, a, kvs, ex, ea, q⟩ => ?_)
  subst ex
  obtain rfl : v = Value.ref a := r1
  obtain ⟨t1, t2, hd⟩ := isD_at I1 (.inr ⟨kvs, .inl ea⟩)
  refine ⟨"dict", "dict.values", PySem.F.plainAttrs_dict, PySem.F.slot_dict_values, PySem.F.type_dict_values, t1, t2, Calls.callWith_builtin rfl (PySem.evalArgs_none ?_)⟩
  refine call_meetsIn PySem.F.slot_dict_values t1 PySem.F.entry_dict_values (PySem.F.args_dict_values_1 _) (valsNew hd) ⟨t1, ?_⟩
  obtain ⟨zz, hd2, xs, rel, o, es, ep, e1, e2, e3, e4, e5⟩ := (show ObjOk X.prog X.w H1 s1.heap a (.dT kvs) from I1.hok a _ ea)
  have Iv : Inv X pins σ H1 { s1 with heap := s1.heap.push { cls := .type "dict_values", data := .fields #[.ref a] } } := I1.kept (t' := s1.toks) fun b ob e => Heap.get?_push_of_some _ e
  refine valsIter (s := { s1 with heap := s1.heap.push { cls := .type "dict_values", data := .fields #[.ref a] } }) ⟨_, Heap.get?_push_size _ rfl, rfl, rfl⟩ (Heap.get?_push_of_some _ e1) e3 ?_
  have Iw := Iv.kept (t' := s1.toks) (h' := (s1.heap.push { cls := .type "dict_values", data := .fields #[.ref a] }).push { cls := .type "dict_valueiterator", data := .fields #[.ref a, .int 0 0, .int es.size 0, .int ep 0] }) fun b ob e => Heap.get?_push_of_some _ e
  have eo : ((s1.heap.push { cls := .type "dict_values", data := .fields #[.ref a] }).push { cls := .type "dict_valueiterator", data := .fields #[.ref a, .int 0 0, .int es.size 0, .int ep 0] }).get? a = some o := Heap.get?_push_of_some _ (Heap.get?_push_of_some _ e1)
  have If := Iw.write (x := a) (e := a) (o := .frz o (.dT kvs)) (t' := s1.toks) (h' := (s1.heap.push { cls := .type "dict_values", data := .fields #[.ref a] }).push { cls := .type "dict_valueiterator", data := .fields #[.ref a, .int 0 0, .int es.size 0, .int ep 0] }) (by rw [ea]; exact True.intro) (.inl rfl) (fun b u _ e => e) ⟨o, eo⟩
    ⟨eo, zz, hd2, xs, KT.keeps rel (fun b ys eb => by rw [upd_ne (ne_of eb ea (fun z => nomatch z))]; exact eb), o, es, ep, eo, e2, e3, e4, e5⟩
  refine ⟨_, [_], _, Itv a o kvs, _, rfl, If, turn_vals e3, ⟨_, Heap.get?_push_size _ rfl, rfl, rfl⟩, fun b hb => ?_, q o⟩
  have eb : b = (s1.heap.push { cls := .type "dict_values", data := .fields #[.ref a] }).objs.size := by simpa using hb
  subst eb
  refine Iv.fpOk (Nat.le_refl _) ?_
  rw [upd_ne]
  · exact Iv.hok.fresh (Nat.le_refl _)
  · intro z
    have := Iv.hok.fresh (a := (s1.heap.push { cls := .type "dict_values", data := .fields #[.ref a] }).objs.size) (Nat.le_refl _)
    rw [z, ea] at this
    cases this
/-! ### the forms one uses -/
theorem for_vals {a : Addr} {o : Obj} {kvs : List (List Key × V)} {g : TG} {tb : TS} {D : Ends} {σ : St} {H : Hp} (Pv : Nat → St → Hp → Prop) (h0 : Pv 0 σ H) (hl : ∀ i σ H, i ≤ kvs.length → Pv i σ H → H a = some (.frz o (.dT kvs)))
    (hs : ∀ i k x σ H, kvs[i]? = some (k, x) → Pv i σ H → g x σ H fun σ2 H2 => tb { D with nx := Pv (i + 1), ct := Pv (i + 1), bk := D.nx } σ2 H2) (hd : ∀ σ H, Pv kvs.length σ H → D.nx σ H) :
    ∃ W : Nat → Nat → St → Hp → Prop, (∃ m, W 0 m σ H) ∧ ∀ i m σ H, W i m σ H →
      ((Itv a o kvs).stop i H ∧ D.nx σ H) ∨ ((Itv a o kvs).go i H ∧ ∃ N : St → Hp → Prop, (∀ σ' H', N σ' H' → ∃ m', m' < m ∧ W (i + 1) m' σ' H') ∧ ∀ x H', (Itv a o kvs).yld i H x H' → g x σ H' fun σ2 H2 => tb { D with nx := N, ct := N, bk := D.nx } σ2 H2) := by
  refine ⟨fun i m σ H => m = kvs.length - i ∧ i ≤ kvs.length ∧ Pv i σ H, ⟨kvs.length, by simp, Nat.zero_le _, h0⟩, ?_⟩
  rintro i m σ H ⟨rfl, hi, p⟩
  have q := hl i σ H hi p
  by_cases lt : i < kvs.length
  · refine .inr ⟨⟨q, lt⟩, Pv (i + 1), fun σ' H' p' => ⟨kvs.length - (i + 1), by omega, rfl, lt, p'⟩, fun x H' y => ?_⟩
    obtain ⟨rfl, k, e⟩ := y
    exact hs i k x σ _ e p
  · obtain rfl : i = kvs.length := by omega
    exact .inl ⟨⟨q, Nat.le_refl _⟩, hd σ H p⟩
theorem lc_vals {a : Addr} {o : Obj} {kvs : List (List Key × V)} {n : Nat} {g : TG} {tc : TT} {te : TE} {σ : St} {H : Hp} {F : List V → Hp → Prop} (Pv : Nat → List V → Hp → Prop) (hn : kvs.length ≤ 1000000) (h0 : Pv 0 [] H)
    (hl : ∀ i acc H, i ≤ kvs.length → Pv i acc H → H a = some (.frz o (.dT kvs)) ∧ acc.length ≤ i)
    (hs : ∀ i k x acc H, kvs[i]? = some (k, x) → Pv i acc H → g x (List.replicate n none ++ σ) H fun σ2 H2 => σ2.drop n = σ ∧ tc σ2 H2 fun c H3 => if c = true then te σ2 H3 fun y H4 => Pv (i + 1) (acc ++ [y]) H4 else Pv (i + 1) acc H3)
    (hd : ∀ acc H, Pv kvs.length acc H → F acc H) : LCW n (Itv a o kvs) g tc te σ H F := by
  have sz : (1000000 : Nat) < sizeLine := by rw [sizeLine_eq]; decide
  refine ⟨fun i m acc H => m = kvs.length - i ∧ i ≤ kvs.length ∧ Pv i acc H, ⟨kvs.length, by simp, Nat.zero_le _, h0⟩, ?_⟩
  rintro i m acc H ⟨rfl, hi, p⟩
  obtain ⟨q, ql⟩ := hl i acc H hi p
  by_cases lt : i < kvs.length
  · refine .inr ⟨⟨q, lt⟩, by omega, Pv (i + 1), fun acc' H' p' => ⟨kvs.length - (i + 1), by omega, rfl, lt, p'⟩, fun x H' y => ?_⟩
    obtain ⟨rfl, k, e⟩ := y
    exact hs i k x acc _ e p
  · obtain rfl : i = kvs.length := by omega
    exact .inl ⟨⟨q, Nat.le_refl _⟩, by omega, hd acc H p⟩
end
end L2

namespace L2
open PySem PySem.Spec PyProof.Rows
/-! ### dict of a list of pairs, the keys tuples -/
section
variable {prog : Program} {w : World} {A : Around} {E : Value → Shared → Prop} {s : Shared}
theorem noKeys : typeLookup (.type "list") "keys" = pure none := by rw [typeLookup_type, builtinLookup_eq_fast]; kernel_rfl
theorem noGetattr : typeLookup (.type "list") "__getattr__" = pure none := by rw [typeLookup_type, builtinLookup_eq_fast]; kernel_rfl
theorem lacksKeys (a : Addr) (u : Tok) (its : Array Value) (n : Nat) (sl : Array (Option Value)) :
    Meets (Builtin.«object.__getattribute__» ⟨[.ref a, .str "keys" u], []⟩) (fun A R s => s.heap.get? a = some { cls := .type "list", dict := none, data := .seq its n, slots := sl } ∧ raisesAttr (.ref a) "keys" A R s) :=
  Meets.of_wp fun prog w A R s hs => by
    obtain ⟨hp, g, d, tk, os⟩ := s
    obtain ⟨hx, hs⟩ := hs
    have hT : (⟨hp, g, d, tk, os⟩ : Shared).TypeIs (.ref a) "list" := ⟨_, hx, rfl⟩
    have f1 := noKeys
    unfold Builtin.«object.__getattribute__»
    repeat (any_goals (first | assumption | wp_step))
    exact wpAny_raiseAttrError hs.1 hs.2 (attrMsg_fits (by decide +kernel) (by size_fits))
theorem keysNone {a : Addr} {its : Array Value} {n : Nat} {sl : Array (Option Value)} {Q : Option Value → Shared → Prop} (hA : A.handled = none) (hx : s.heap.get? a = some { cls := .type "list", dict := none, data := .seq its n, slots := sl })
    (k : ∀ g tk, (∀ b ob, s.heap.get? b = some ob → g.get? b = some ob) → Q none { s with heap := g, toks := tk }) : wpAny (model prog w) A (getAttr? (.ref a) "keys") Q E s := by
  obtain ⟨hp, g, d, tk, os⟩ := s
  have hT : (⟨hp, g, d, tk, os⟩ : Shared).TypeIs (.ref a) "list" := ⟨_, hx, rfl⟩
  have hT' : ∀ t' : Nat, (⟨hp, g, d, t', os⟩ : Shared).TypeIs (.ref a) "list" := fun _ => ⟨_, hx, rfl⟩
  have f1 := sub_AttributeError
  have f3 := F.slot_list_getattribute.lookup
  have f4 := F.slot_list_getattribute.bind (.ref a)
  have f5 := noGetattr
  unfold getAttr? getAttrBy? getAttrBy
  repeat (any_goals (first | assumption | ((with_reducible show wpAny _ _ (call (Value.builtin "list.__getattribute__") _ _) _ _ _); refine call_meets F.slot_list_getattribute (hT' _) F.entry_list_ga (F.args_list_getattribute_2 _ _) (lacksKeys a _ its n sl) ⟨hx, hA, fun h' tk' e he => ?_⟩) | wp_step))
  obtain ⟨t', u', ee⟩ := he.there
  refine (show wpAny _ _ (getattributeRaised _ _ _ _ _ _ _) _ _ _ from ?_)
  unfold getattributeRaised
  repeat (any_goals (first | assumption | wp_step))
  exact k _ _ he.keeps
end
end L2

namespace L2
open PySem PySem.Spec PyProof.Rows
/-! ### dict of a list of pairs: the loop, the call -/
theorem entry_updLoop : entryFor table "dict.update.loop" = some Builtin.«dict.update.loop» := entryFor_of_fast (by kernel_rfl)
theorem plain_updLoop : plainId "dict.update.loop" = true := by decide +kernel
/-- a pair in the list: its tuple, its key, the key's tuple, its value -/
structure Pr where
  t : Addr
  k : List Key
  b : Addr
  v : V
noncomputable def Pr.At (H : Hp) (p : Pr) : Prop := H p.t = some (.tup [.ref p.b, p.v]) ∧ H p.b = some (.tup (p.k.map kV))
noncomputable def putAll (kvs : List (List Key × V)) (ps : List Pr) : List (List Key × V) := ps.foldl (fun acc p => putK acc p.k p.v) kvs
section
variable {X : Cx} {pins : List (Addr × Obj)} {σ : St} {H : Hp}
theorem updLoop {A : Around} {E : Value → Shared → Prop} {R : Result → Shared → Prop} {d it l : Addr} {ps : List Pr} (hh : A.handled = none) (hu : A.units + 1 < cLine) (hl : H l = some (.lst (ps.map fun p => V.ref p.t))) (hp : ∀ p ∈ ps, p.At H) (hd : H d = none) (hit : H it = none) (hdi : d ≠ it) :
    ∀ (n i : Nat) (s : Shared) (kvs : List (List Key × V)), ps.length - i = n → i ≤ ps.length → kvs.length + n ≤ sizeLine → Inv X pins σ (upd H d (.dT kvs)) s → FpOk X pins (upd H d (.dT kvs)) it → s.heap.IsListIter it l i →
      (∀ s', Inv X pins σ (upd H d (.dT (putAll kvs (ps.drop i)))) s' → R (.ok (.ret .none)) s') →
      codeAny (model X.prog X.w) A (.builtin "dict.update.loop" ⟨[.ref d, .ref it, rawInt i, .none], []⟩) R s := by
  intro n
  induction n with
  | zero =>
    intro i s kvs hn hi hz I fp st k
    have e : i = ps.length := by omega
    refine codeAny_builtin entry_updLoop ?_
    rw [Around.under_plainId plain_updLoop _]
    have hl' : (upd H d (.dT kvs)) l = some (.lst (ps.map fun p => V.ref p.t)) := (Same.new hd) _ _ hl
    obtain ⟨z, its, m, r, len, el⟩ := I.lstM hl'
    refine (show wpAny _ A.in1 (pyNext (.ref it) >>= _) _ _ s from wpAny_bind (wpAny_pyNext_list_end (show A.in1.handled = none from hh) st ⟨_, el, rfl, _, rfl⟩ (by rw [List.length_map] at len; simp; omega) fun g eb => ?_))
    have I1 := I.turned (t' := s.toks) (h' := g) (fun b o hb e => eb b o hb e) fp.1 fp.2.1 fp.2.2.2.1 fp.2.2.2.2.1 fp.2.2.2.2.2
    rw [e, List.drop_length] at k
    exact wpAny_bind (wpAny_pure (wpAny_pure (k _ I1)))
  | succ n ih =>
    intro i s kvs hn hi hz I fp st k
    have lt : i < ps.length := by omega
    have ei : ps[i]? = some ps[i] := List.getElem?_eq_getElem lt
    obtain ⟨ht, hb⟩ := hp ps[i] (List.getElem_mem lt)
    refine codeAny_builtin entry_updLoop ?_
    rw [Around.under_plainId plain_updLoop _]
    have hl' : (upd H d (.dT kvs)) l = some (.lst (ps.map fun p => V.ref p.t)) := (Same.new hd) _ _ hl
    have ht' : (upd H d (.dT kvs)) ps[i].t = some (.tup [.ref ps[i].b, ps[i].v]) := (Same.new hd) _ _ ht
    have hb' : (upd H d (.dT kvs)) ps[i].b = some (.tup (ps[i].k.map kV)) := (Same.new hd) _ _ hb
    obtain ⟨z, its, m, r, len, el⟩ := I.lstM hl'
    obtain ⟨u, eu, ru⟩ := r.get (i := i) (x := V.ref ps[i].t) (by rw [List.getElem?_map, ei]; rfl)
    obtain rfl : u = Value.ref ps[i].t := ru
    refine (show wpAny _ A.in1 (pyNext (.ref it) >>= _) _ _ s from wpAny_bind (wpAny_pyNext_list_item st ⟨_, el, rfl, _, rfl⟩ (x := Value.ref ps[i].t) (by simpa using eu) fun g st' sb => ?_))
    have I1 : Inv X pins σ (upd H d (.dT kvs)) { s with heap := g } := I.turned (t' := s.toks) (fun b o hb e => sb.extBut b o hb e) fp.1 fp.2.1 fp.2.2.2.1 fp.2.2.2.2.1 fp.2.2.2.2.2
    obtain ⟨_, prs, rp, ot, eo, co, nt, dt⟩ := (show ObjOk X.prog X.w _ g ps[i].t (.tup [.ref ps[i].b, ps[i].v]) from I1.hok _ _ ht')
    obtain ⟨u1, u2, rfl, r1, r2⟩ := vals2 rp
    obtain rfl : u1 = Value.ref ps[i].b := r1
    refine wpAny_bind (wpAny_holding (wpAny_bind (wpAny_tryCatch ?_)))
    unfold Builtin.Dict.pairItems
    refine wpAny_bind (wpAny_typeOf (T := "tuple") ⟨ot, eo, co⟩ ?_)
    rw [if_pos (by decide)]
    refine wpAny_bind (wpAny_seqItems eo dt (wpAny_pure ?_))
    obtain ⟨zz, hd2, xs, rel, dd⟩ := dt_of I1.hok (show (upd H d (.dT kvs)) d = some (.dT kvs) from upd_same)
    have xl : xs.length = kvs.length := (Paired.length rel).symm
    refine wpAny_holding (wpAny_dictSet_heap (knd := tupleKind (mixKind X.prog X.w)) (hsz := by rw [xl]; omega) (tupleKind_room_in1 hu) (key_of I1.hok hb') dd fun g2 dd2 sb2 => ?_)
    have hl2 : (putK kvs ps[i].k ps[i].v).length ≤ sizeLine := by have := length_putK kvs ps[i].k ps[i].v; omega
    obtain ⟨qo, es, ep, hq, h2, h3, h4, _, h5⟩ := dd2
    have I2 := d_write (ob := .dT (putK kvs ps[i].k ps[i].v)) (t' := s.toks + (tupleKind (mixKind X.prog X.w)).draws ps[i].k) I1 (by rw [upd_same]; exact True.intro) sb2 ⟨qo, hq⟩ ⟨hl2, hd2, _, KT.keeps (KT.put rel ps[i].k hb' r2) (fun c ys ec => by
      rw [upd_ne (ne_of ec (show (upd H d (.dT kvs)) d = some (.dT kvs) from upd_same) (fun z => nomatch z))]; exact ec), qo, es, ep, hq, h2, h3, h4, h5⟩
    rw [upd_upd] at I2
    have fp2 : FpOk X pins (upd H d (.dT (putK kvs ps[i].k ps[i].v))) it := ⟨by rw [upd_ne (Ne.symm hdi)]; exact hit, fp.2⟩
    refine wpAny_pure ⟨plainId_quiet plain_updLoop _, ?_⟩
    have st2 : g2.IsListIter it l (i + 1) := st'.extBut sb2.extBut (Ne.symm hdi)
    refine ih (i + 1) _ (putK kvs ps[i].k ps[i].v) (by omega) lt ?_ I2 fp2 st2 fun s' I' => k s' ?_
    · have := length_putK kvs ps[i].k ps[i].v; omega
    · rw [List.drop_eq_getElem_cons lt]
      exact I'
theorem call_dictPrs (hc : X.calm = true) (hu : X.A.units + 64 < cLine) : CallR X (.type "dict") (fun xs H Q => ∃ (l : Addr) (ps : List Pr), xs = [.ref l] ∧ H l = some (.lst (ps.map fun p => V.ref p.t)) ∧ (∀ p ∈ ps, p.At H) ∧ ps.length ≤ 1000 ∧ ∀ d, H d = none → Q (.ref d) (upd H d (.dT (putAll [] ps)))) := by
  intro pins s σ H xs us Q I r h
  obtain ⟨l, ps, rfl, hl, hp, hz, q⟩ := h
  obtain ⟨u, rfl, rx⟩ := vals1 r
  cases rx
  have nd : H s.heap.objs.size = none := I.fresh
  have I1 : Inv X pins σ (upd H s.heap.objs.size (.dT [])) { s with heap := s.heap.push { cls := .type "dict", data := .dict #[] } } := I.laid (t' := s.toks) (fun b o e => Heap.get?_push_of_some _ e) (Nat.le_refl _) (dt_empty _ I.big)
  obtain ⟨_, its, m, rv, len, el⟩ := I1.lstM ((Same.new nd) _ _ hl)
  have ty : Shared.TypeIs { s with heap := s.heap.push { cls := .type "dict", data := .dict #[] } } (.ref s.heap.objs.size) "dict" := ⟨_, Heap.get?_push_size _ rfl, rfl⟩
  refine callType_codes (Q₁ := fun obj s₁ => obj = .ref s.heap.objs.size ∧ s₁ = { s with heap := s.heap.push { cls := .type "dict", data := .dict #[] } }) F.kt_called_dict (F.kt_typeCall_dict_1 _) F.entry_dict_init (kt_code_dict_new _ ⟨rfl, rfl⟩) ?_
  rintro obj s₁ ⟨rfl, rfl⟩
  refine ⟨ty, F.args_dict_init_2 _ _, ?_⟩
  unfold Builtin.«dict.__init__» Builtin.Dict.selfAndRest
  refine wpAny_bind (wpAny_bind (wpAny_notOrdered_dict ty (wpAny_pure ?_)))
  refine (show wpAny _ _ (Builtin.Dict.updateFrom "dict.__init__" s.heap.objs.size (.ref l) [] .none) _ _ _ from ?_)
  unfold Builtin.Dict.updateFrom
  refine wpAny_bind (wpAny_typeOf (T := "list") ⟨_, el, rfl⟩ ?_)
  rw [if_pos (by decide)]
  refine wpAny_bind (keysNone (show X.A.in1.in1.handled = none from I.ok.hd hc) el fun g tk kp => ?_)
  have I2 : Inv X pins σ (upd H s.heap.objs.size (.dT [])) { s with heap := g, toks := tk } := I1.kept kp
  have el2 := kp _ _ el
  rw [if_pos (by rfl)]
  refine wpAny_bind (wpAny_rule (wpAny_bind (wpAny_pyIter_list (s := { s with heap := g, toks := tk }) ⟨_, el2, rfl, _, rfl⟩ ?_)))
  have nit : (upd H s.heap.objs.size (.dT [])) g.objs.size = none := I2.hok.fresh (Nat.le_refl _)
  have hne : s.heap.objs.size ≠ g.objs.size := fun z => by rw [← z, upd_same] at nit; cases nit
  have I3 := I2.kept (t' := tk) (h' := g.push { cls := .type "list_iterator", data := .fields #[.ref l, .int 0 0] }) fun b o e => Heap.get?_push_of_some _ e
  refine wpAny_pure ⟨plainId_quiet plain_updLoop _, ?_⟩
  refine updLoop (E := X.xe) (H := H) (ps := ps) (l := l) (show X.A.in1.handled = none from I.ok.hd hc) (show X.A.units + 1 + 1 < cLine by omega) hl hp nd (by rw [upd_ne (Ne.symm hne)] at nit; exact nit) hne ps.length 0 _ [] rfl (Nat.zero_le _) (Nat.le_of_lt (small1000 (by simpa using hz))) I3 (I2.fpOk (Nat.le_refl _) nit) ⟨_, Heap.get?_push_size _ rfl, rfl, rfl⟩ fun s' I' => ?_
  exact ⟨rfl, .ref s.heap.objs.size, _, I', rfl, q _ nd⟩
end
end L2

namespace L2
open PySem PySem.Spec PyProof.Rows
/-! ### (x,) * n -/
theorem noMulT : fillsNumberSlot (.type "tuple") "mul" = pure false := by first | (rw [fillsNumberSlot_type]; kernel_rfl) | (unfold fillsNumberSlot; kernel_rfl) | kernel_rfl
theorem repT : seqRepeat? (.type "tuple") = pure (some (.builtin "tuple.__mul__")) := by first | (unfold seqRepeat?; kernel_rfl) | kernel_rfl
theorem rmulT (a : Int) (t : Tok) (l : Addr) (its : Array Value) (n : Nat) (sl : Array (Option Value)) (dd : Option Addr) :
    Meets (Builtin.«int.__rmul__» ⟨[.int a t, .ref l], []⟩) (fun _ R s => s.heap.get? l = some { cls := .type "tuple", dict := dd, data := .seq its n, slots := sl } ∧ R (.ok (.ret .notImplemented)) s) :=
  .of_wp fun prog w A R s h => by
    obtain ⟨hp, g, d, tk, os⟩ := s; obtain ⟨hl, h⟩ := h
    wp_walk
    exact ⟨_, rfl, h⟩
theorem mulT1 (l : Addr) (its : Array Value) (n : Nat) (u : Tok) (sl : Array (Option Value)) (dd : Option Addr) (hne : its.isEmpty = false) :
    Meets (Builtin.«tuple.__mul__» ⟨[.ref l, .int 1 u], []⟩) (fun _ R s => s.heap.get? l = some { cls := .type "tuple", dict := dd, data := .seq its n, slots := sl } ∧ R (.ok (.ret (.ref l))) s) :=
  .of_wp fun prog w A R s h => by
    obtain ⟨hp, g, d, tk, os⟩ := s; obtain ⟨hl, h⟩ := h
    have f1 := AutoSeq1.idx_int
    wp_walk using wpAny_loadPart' hl
    exact ⟨_, rfl, h⟩
theorem mulTn (l : Addr) (its : Array Value) (n : Nat) (x : Int) (u : Tok) (sl : Array (Option Value)) (dd : Option Addr) (hne : its.isEmpty = false) (h0 : (decide (x < -(2 ^ 63)) || decide (x ≥ 2 ^ 63)) = false) (h1 : (x == 1) = false) (h2 : decide (x ≤ 0) = false)
    (h3 : ¬ (its.size : Int) * x > (2 ^ 63 - 1) / 8) (h4 : Builtin.Tuple.tupleTooMany ((its.size : Int) * x) = false) (h5 : (List.foldl (fun x1 x2 => x1 ++ x2) #[] (List.replicate x.toNat its)).size ≤ sizeLine) :
    Meets (Builtin.«tuple.__mul__» ⟨[.ref l, .int x u], []⟩) (fun _ R s => s.heap.get? l = some { cls := .type "tuple", dict := dd, data := .seq its n, slots := sl } ∧ R (.ok (.ret (.ref s.heap.objs.size))) { s with heap := s.heap.push { cls := .type "tuple", data := .seq (List.foldl (fun x1 x2 => x1 ++ x2) #[] (List.replicate x.toNat its)) } }) :=
  .of_wp fun prog w A R s h => by
    obtain ⟨hp, g, d, tk, os⟩ := s; obtain ⟨hl, h⟩ := h
    have f1 := AutoSeq1.idx_int
    wp_walk using wpAny_loadPart' hl
    refine wpAny_ite_false (decide_eq_false (by rw [h0]; exact Bool.false_ne_true)) ?_
    wp_walk using wpAny_loadPart' hl
    refine wpAny_ite_false (decide_eq_false h3) ?_
    wp_walk using wpAny_loadPart' hl
    exact ⟨_, rfl, h⟩
/-- (x,) * k, 1 ≤ k -/
noncomputable def rRepT : R2 := fun x y H Q => ∃ (l : Addr) (v : V) (k : Nat), x = .ref l ∧ y = vN k ∧ H l = some (.tup [v]) ∧ 1 ≤ k ∧ k ≤ 1000 ∧ (k = 1 → Q (.ref l) H) ∧ (2 ≤ k → ∀ p, H p = none → Q (.ref p) (upd H p (.tup (List.replicate k v))))
theorem foldl_one (u : Value) : ∀ (k : Nat), List.foldl (fun x1 x2 => x1 ++ x2) #[] (List.replicate k #[u]) = (List.replicate k u).toArray := fun k => by
  have h := foldl_rep [u] k []
  rw [List.nil_append] at h
  refine h.trans ?_
  congr 1
  induction k with
  | zero => rfl
  | succ k ih => rw [List.replicate_succ, List.flatten_cons, ih (by
      have h := foldl_rep [u] k []
      rw [List.nil_append] at h
      exact h), List.replicate_succ]; rfl
theorem vals_rep {v : V} {u : Value} (r : RelV v u) : ∀ k : Nat, Vals (List.replicate k v) (List.replicate k u)
  | 0 => .nil
  | k + 1 => by rw [List.replicate_succ, List.replicate_succ]; exact .cons r (vals_rep r k)
theorem op_repTI {X : Cx} (i : Int) : OpR X (binaryOp .Mult) (fun x y H Q => ∃ (l : Addr) (v : V), x = .ref l ∧ y = .int i ∧ H l = some (.tup [v]) ∧ 1 ≤ i ∧ i ≤ 1000 ∧ (i = 1 → Q (.ref l) H) ∧ (2 ≤ i → ∀ p, H p = none → Q (.ref p) (upd H p (.tup (List.replicate i.toNat v))))) := by
  intro pins s σ H x y v u Q I rx ry h
  obtain ⟨l, w, rfl, rfl, hH, h1, h2, q1, q2⟩ := h
  cases rx
  obtain ⟨t, rfl⟩ := ry
  obtain ⟨_, its, rv, ⟨cls, dd, data, sl⟩, e, hc, n, hd⟩ := (show ObjOk X.prog X.w H s.heap l (.tup [w]) from I.hok l _ hH)
  simp only at hc hd
  subst hc hd
  obtain ⟨c, rfl, rc⟩ := vals1 rv
  refine wpAny_binaryOp_repeat_ref (T := "tuple") (U := "int") (by decide) ⟨_, e, rfl⟩ (fun s' => typeIs_int s' i t) noMulT F.fills_int_mul F.slot_int_rmul repT F.slot_int_index.lookup
    (call_meets F.slot_int_rmul (typeIs_int s i t) F.entry_int_rmul (F.args_int_rmul_2 _ _) (rmulT i t l [c].toArray n sl dd) ⟨e, rfl, ⟨_, e, rfl⟩, ?_⟩)
  by_cases hi : i = 1
  · subst hi
    exact call_meets F.slot_tuple_mul ⟨_, e, rfl⟩ F.entry_tuple_mul (F.args_tuple_mul_2 _ _) (mulT1 l [c].toArray n t sl dd rfl) ⟨e, ⟨.ref l, H, I, rfl, q1 rfl⟩⟩
  · have hf := foldl_one c i.toNat
    have hsz : (1000 : Nat) ≤ sizeLine := by rw [sizeLine_eq]; decide
    refine call_meets F.slot_tuple_mul ⟨_, e, rfl⟩ F.entry_tuple_mul (F.args_tuple_mul_2 _ _) (mulTn l [c].toArray n i t sl dd rfl (by rw [Bool.or_eq_false_iff, decide_eq_false_iff_not, decide_eq_false_iff_not]; omega) (by rw [beq_eq_false_iff_ne]; exact hi) (by rw [decide_eq_false_iff_not]; omega)
      (by rw [List.size_toArray]; show ¬ ((1 : Nat) : Int) * i > _; omega) (by unfold Builtin.Tuple.tupleTooMany; rw [decide_eq_false_iff_not, List.size_toArray]; show ¬ ((1 : Nat) : Int) * i > _; omega) (by rw [show ([c].toArray : Array Value) = #[c] from rfl, hf, List.size_toArray, List.length_replicate]; omega)) ⟨e, ?_⟩
    rw [show ([c].toArray : Array Value) = #[c] from rfl, hf]
    refine ⟨.ref s.heap.objs.size, _, I.laid (t' := s.toks) (fun b o eb => Heap.get?_push_of_some _ eb) (Nat.le_refl _) (show ObjOk X.prog X.w _ _ _ (.tup (List.replicate i.toNat w)) from ⟨by rw [List.length_replicate]; omega, _, vals_rep rc i.toNat, ⟨_, Heap.get?_push_size _ rfl, rfl, _, rfl⟩⟩), rfl, q2 (by omega) _ I.fresh⟩
theorem op_repT {X : Cx} : OpR X (binaryOp .Mult) rRepT := fun pins s σ H x y v u Q I rx ry ⟨l, w, k, h1, h2, h3, h4, h5, q1, q2⟩ =>
  op_repTI (k : Int) pins s σ H x y v u Q I rx ry ⟨l, w, h1, h2, h3, by omega, by omega, fun e => q1 (by omega), fun e p hp => by
    have := q2 (by omega) p hp
    rw [Int.toNat_natCast]
    exact this⟩
end L2

namespace L2
open PySem PySem.Spec PyProof.Rows
/-! ### books: rows with their places, groups of rows -/
noncomputable abbrev RW := Addr × List Int
noncomputable def seenL (r : List Int) (s : Nat) : List Int := mixL r (List.replicate r.length 0) s
noncomputable def tks (r : List Int) : List Key := r.map Sum.inl
theorem tks_kV (r : List Int) : (tks r).map kV = r.map V.int := by unfold tks; rw [List.map_map]; rfl
theorem tks_inj : ∀ {a b : List Int}, tks a = tks b → a = b
  | [], [], _ => rfl
  | [], _ :: _, h => by cases h
  | _ :: _, [], h => by cases h
  | x :: a, y :: b, h => by
    have h1 : (Sum.inl x : Key) = Sum.inl y := (List.cons.inj h).1
    have h2 : tks a = tks b := (List.cons.inj h).2
    rw [Sum.inl.inj h1, tks_inj h2]
/-- a group: its key, its list's place, its rows -/
structure Gr where
  key : List Int
  at_ : Addr
  rows : List RW
noncomputable def kvsOf (G : List Gr) : List (List Key × V) := G.map fun g => (tks g.key, V.ref g.at_)
noncomputable def refsOf (rs : List RW) : List V := rs.map fun rw => V.ref rw.1
structure GroupsAt (H : Hp) (d : Addr) (G : List Gr) : Prop where
  dict : H d = some (.dT (kvsOf G))
  lists : ∀ g ∈ G, H g.at_ = some (.lst (refsOf g.rows))
  keys : (G.map (·.key)).Nodup
  ats : (G.map (·.at_)).Nodup
noncomputable def addG (gs : List (List Int × List RW)) (key : List Int) (rw : RW) : List (List Int × List RW) :=
  if gs.any (fun g => decide (g.1 = key)) = true then gs.map (fun g => if g.1 = key then (g.1, g.2 ++ [rw]) else g) else gs ++ [(key, [rw])]
noncomputable def groupsL (rws : List RW) (s : Nat) : List (List Int × List RW) := rws.foldl (fun gs rw => addG gs (seenL rw.2 s) rw) []
noncomputable def forget (G : List Gr) : List (List Int × List RW) := G.map fun g => (g.key, g.rows)
theorem groupsL_snoc (rws : List RW) (rw : RW) (s : Nat) : groupsL (rws ++ [rw]) s = addG (groupsL rws s) (seenL rw.2 s) rw := by
  unfold groupsL; rw [List.foldl_append]; rfl
theorem valV_G {key : List Int} : ∀ G : List Gr, valV (kvsOf G) (tks key) = (G.find? fun g => decide (g.key = key)).map fun g => V.ref g.at_
  | [] => rfl
  | g :: G => by
    by_cases h : g.key = key
    · rw [show kvsOf (g :: G) = (tks g.key, V.ref g.at_) :: kvsOf G from rfl, valV_pos (by show tks g.key = _; rw [h]), List.find?_cons, decide_eq_true h]
      rfl
    · rw [show kvsOf (g :: G) = (tks g.key, V.ref g.at_) :: kvsOf G from rfl, valV_neg (fun e => h (tks_inj e)), List.find?_cons, decide_eq_false h, valV_G G]
noncomputable def updG (G : List Gr) (key : List Int) (rw : RW) : List Gr := G.map fun g => if g.key = key then { g with rows := g.rows ++ [rw] } else g
theorem updG_keys (G : List Gr) (key : List Int) (rw : RW) : (updG G key rw).map (·.key) = G.map (·.key) := by
  unfold updG; rw [List.map_map]
  refine List.map_congr_left fun g _ => ?_
  show (if g.key = key then _ else g).key = g.key
  split <;> rfl
theorem updG_ats (G : List Gr) (key : List Int) (rw : RW) : (updG G key rw).map (·.at_) = G.map (·.at_) := by
  unfold updG; rw [List.map_map]
  refine List.map_congr_left fun g _ => ?_
  show (if g.key = key then _ else g).at_ = g.at_
  split <;> rfl
theorem updG_kvs (G : List Gr) (key : List Int) (rw : RW) : kvsOf (updG G key rw) = kvsOf G := by
  unfold kvsOf updG; rw [List.map_map]
  refine List.map_congr_left fun g _ => ?_
  show (tks (if g.key = key then _ else g).key, V.ref (if g.key = key then _ else g).at_) = _
  split <;> rfl
theorem any_forget (G : List Gr) (key : List Int) : ((forget G).any fun g => decide (g.1 = key)) = (G.find? fun g => decide (g.key = key)).isSome := by
  unfold forget
  rw [Bool.eq_iff_iff, List.any_eq_true, List.find?_isSome]
  constructor
  · rintro ⟨x, hx, e⟩
    obtain ⟨g, hg, rfl⟩ := List.mem_map.mp hx
    exact ⟨g, hg, e⟩
  · rintro ⟨g, hg, e⟩
    exact ⟨(g.key, g.rows), List.mem_map.mpr ⟨g, hg, rfl⟩, e⟩
theorem forget_upd {G : List Gr} {key : List Int} {rw : RW} (h : (G.find? fun g => decide (g.key = key)).isSome = true) : forget (updG G key rw) = addG (forget G) key rw := by
  unfold addG
  rw [if_pos (by rw [any_forget]; exact h)]
  unfold forget updG
  rw [List.map_map, List.map_map]
  refine List.map_congr_left fun g _ => ?_
  show ((if g.key = key then _ else g : Gr).key, (if g.key = key then _ else g : Gr).rows) = if g.key = key then _ else _
  split <;> rfl
theorem forget_new {G : List Gr} {key : List Int} {rw : RW} {l : Addr} (h : (G.find? fun g => decide (g.key = key)) = none) : forget (G ++ [⟨key, l, [rw]⟩]) = addG (forget G) key rw := by
  unfold addG
  rw [if_neg (by rw [any_forget, h]; exact Bool.false_ne_true)]
  unfold forget
  rw [List.map_append]
  rfl
theorem find_none_key {G : List Gr} {key : List Int} (h : (G.find? fun g => decide (g.key = key)) = none) : key ∉ G.map (·.key) := fun hm => by
  obtain ⟨g, hg, e⟩ := List.mem_map.mp hm
  have := List.find?_eq_none.mp h g hg
  exact this (decide_eq_true e)
/-- a row goes into a group that is there -/
theorem GroupsAt.old {H : Hp} {d : Addr} {G : List Gr} {key : List Int} {rw : RW} {g : Gr} (A : GroupsAt H d G) (h : (G.find? fun g => decide (g.key = key)) = some g) : g ∈ G ∧ g.key = key ∧ GroupsAt (upd H g.at_ (.lst (refsOf g.rows ++ [V.ref rw.1]))) d (updG G key rw) := by
  have hm := List.mem_of_find?_eq_some h
  have hk : g.key = key := by
    have h1 := List.find?_some (p := fun g : Gr => decide (g.key = key)) h
    exact of_decide_eq_true h1
  have hl := A.lists g hm
  have ne : g.at_ ≠ d := ne_of hl A.dict (fun z => nomatch z)
  refine ⟨hm, hk, ⟨by rw [updG_kvs, upd_ne (Ne.symm ne)]; exact A.dict, fun g' hg' => ?_, by rw [updG_keys]; exact A.keys, by rw [updG_ats]; exact A.ats⟩⟩
  obtain ⟨g0, h0, rfl⟩ := List.mem_map.mp hg'
  have uniq : ∀ g1 ∈ G, ∀ g2 ∈ G, g1.at_ = g2.at_ → g1 = g2 := by
    have : ∀ (L : List Gr), (L.map (·.at_)).Nodup → ∀ g1 ∈ L, ∀ g2 ∈ L, g1.at_ = g2.at_ → g1 = g2 := by
      intro L
      induction L with
      | nil => intro _ g1 h1; cases h1
      | cons x L ih =>
        intro hn g1 h1 g2 h2 e
        rw [List.map_cons, List.nodup_cons] at hn
        rcases List.mem_cons.mp h1 with rfl | k1 <;> rcases List.mem_cons.mp h2 with rfl | k2
        · rfl
        · exact absurd (List.mem_map.mpr ⟨g2, k2, e.symm⟩) hn.1
        · exact absurd (List.mem_map.mpr ⟨g1, k1, e⟩) hn.1
        · exact ih hn.2 g1 k1 g2 k2 e
    exact this G A.ats
  have uniqk : ∀ g1 ∈ G, g1.key = key → g1 = g := by
    have : ∀ (L : List Gr), (L.map (·.key)).Nodup → ∀ g1 ∈ L, ∀ g2 ∈ L, g1.key = g2.key → g1 = g2 := by
      intro L
      induction L with
      | nil => intro _ g1 h1; cases h1
      | cons x L ih =>
        intro hn g1 h1 g2 h2 e
        rw [List.map_cons, List.nodup_cons] at hn
        rcases List.mem_cons.mp h1 with rfl | k1 <;> rcases List.mem_cons.mp h2 with rfl | k2
        · rfl
        · exact absurd (List.mem_map.mpr ⟨g2, k2, e.symm⟩) hn.1
        · exact absurd (List.mem_map.mpr ⟨g1, k1, e⟩) hn.1
        · exact ih hn.2 g1 k1 g2 k2 e
    exact fun g1 h1 e => this G A.keys g1 h1 g hm (e.trans hk.symm)
  by_cases e : g0.key = key
  · obtain rfl := uniqk g0 h0 e
    rw [if_pos e]
    show upd H g0.at_ _ g0.at_ = some (.lst (refsOf (g0.rows ++ [rw])))
    rw [upd_same]
    unfold refsOf
    rw [List.map_append]
    rfl
  · rw [if_neg e, upd_ne]
    · exact A.lists g0 h0
    · intro z
      exact e ((uniq g0 h0 g hm z) ▸ hk)
/-- a new group -/
theorem GroupsAt.snoc {H : Hp} {d l : Addr} {G : List Gr} {key : List Int} {rw : RW} (A : GroupsAt H d G) (h : (G.find? fun g => decide (g.key = key)) = none) (hl : H l = some (.lst [])) (hn : ∀ g ∈ G, g.at_ ≠ l) :
    GroupsAt (upd (upd H d (.dT (putK (kvsOf G) (tks key) (V.ref l)))) l (.lst ([] ++ [V.ref rw.1]))) d (G ++ [⟨key, l, [rw]⟩]) := by
  have ne : l ≠ d := ne_of hl A.dict (fun z => nomatch z)
  have hv : valV (kvsOf G) (tks key) = none := by rw [valV_G, h]; rfl
  refine ⟨?_, fun g hg => ?_, ?_, ?_⟩
  · rw [upd_ne (Ne.symm ne), upd_same, putK_new _ hv]
    unfold kvsOf
    rw [List.map_append]
    rfl
  · rcases List.mem_append.mp hg with hg | hg
    · have hgl := A.lists g hg
      rw [upd_ne (hn g hg), upd_ne (ne_of hgl A.dict (fun z => nomatch z))]
      exact hgl
    · rw [List.mem_singleton.mp hg]
      exact upd_same
  · rw [List.map_append, List.nodup_append]
    refine ⟨A.keys, by simp, fun x hx y hy e => find_none_key h ?_⟩
    have hy' : y = key := by simpa using hy
    rw [← hy', ← e]; exact hx
  · rw [List.map_append, List.nodup_append]
    refine ⟨A.ats, by simp, fun x hx y hy e => ?_⟩
    have hy' : y = l := by simpa using hy
    obtain ⟨g, hg, rfl⟩ := List.mem_map.mp hx
    exact hn g hg (e.trans hy')
/-! ### what a group is -/
theorem addG_mem {gs : List (List Int × List RW)} {key : List Int} {rw : RW} (hn : (gs.map (·.1)).Nodup) : ∀ g ∈ addG gs key rw, (g ∈ gs ∧ g.1 ≠ key) ∨ (g.1 = key ∧ ((∃ rs, (key, rs) ∈ gs ∧ g.2 = rs ++ [rw]) ∨ ((∀ g' ∈ gs, g'.1 ≠ key) ∧ g.2 = [rw]))) := by
  intro g hg
  unfold addG at hg
  by_cases h : (gs.any fun g => decide (g.1 = key)) = true
  · rw [if_pos h] at hg
    obtain ⟨g0, h0, rfl⟩ := List.mem_map.mp hg
    by_cases e : g0.1 = key
    · rw [if_pos e]
      exact .inr ⟨e, .inl ⟨g0.2, by rw [← e]; exact h0, rfl⟩⟩
    · rw [if_neg e]
      exact .inl ⟨h0, e⟩
  · rw [if_neg h] at hg
    have all : ∀ g' ∈ gs, g'.1 ≠ key := fun g' h' e => h (List.any_eq_true.mpr ⟨g', h', decide_eq_true e⟩)
    rcases List.mem_append.mp hg with hg | hg
    · exact .inl ⟨hg, all g hg⟩
    · rw [List.mem_singleton.mp hg]
      exact .inr ⟨rfl, .inr ⟨all, rfl⟩⟩
theorem addG_keys {gs : List (List Int × List RW)} {key : List Int} {rw : RW} (hn : (gs.map (·.1)).Nodup) : ((addG gs key rw).map (·.1)).Nodup := by
  unfold addG
  by_cases h : (gs.any fun g => decide (g.1 = key)) = true
  · rw [if_pos h, List.map_map]
    have e : gs.map ((·.1) ∘ fun g => if g.1 = key then (g.1, g.2 ++ [rw]) else g) = gs.map (·.1) := List.map_congr_left fun g _ => by
      show (if g.1 = key then _ else g : List Int × List RW).1 = g.1
      split <;> rfl
    rw [e]; exact hn
  · rw [if_neg h, List.map_append, List.nodup_append]
    refine ⟨hn, by simp, fun x hx y hy e => h ?_⟩
    have hy' : y = key := by simpa using hy
    obtain ⟨g, hg, rfl⟩ := List.mem_map.mp hx
    exact List.any_eq_true.mpr ⟨g, hg, decide_eq_true (e.trans hy')⟩
theorem snocInd {α : Type} {P : List α → Prop} (h0 : P []) (hs : ∀ l x, P l → P (l ++ [x])) (l : List α) : P l := by
  have : ∀ m : List α, P m.reverse := by
    intro m
    induction m with
    | nil => exact h0
    | cons x m ih => rw [List.reverse_cons]; exact hs _ _ ih
  rw [← List.reverse_reverse l]
  exact this _
/-- the groups of a book: each holds just the rows that are seen as its key, none is empty, each row stands in one -/
theorem groups_spec (s : Nat) (rws : List RW) : ((groupsL rws s).map (·.1)).Nodup ∧ (∀ g ∈ groupsL rws s, g.2 ≠ [] ∧ ∀ rw, rw ∈ g.2 ↔ rw ∈ rws ∧ seenL rw.2 s = g.1) ∧ ∀ rw ∈ rws, ∃ g ∈ groupsL rws s, g.1 = seenL rw.2 s := by
  refine snocInd (P := fun rws => ((groupsL rws s).map (·.1)).Nodup ∧ (∀ g ∈ groupsL rws s, g.2 ≠ [] ∧ ∀ rw, rw ∈ g.2 ↔ rw ∈ rws ∧ seenL rw.2 s = g.1) ∧ ∀ rw ∈ rws, ∃ g ∈ groupsL rws s, g.1 = seenL rw.2 s) ?_ ?_ rws
  · exact ⟨List.nodup_nil, fun g hg => absurd hg List.not_mem_nil, fun rw h => absurd h List.not_mem_nil⟩
  · intro rws x ih
    obtain ⟨hn, hg, hc⟩ := ih
    rw [groupsL_snoc]
    refine ⟨addG_keys hn, fun g hm => ?_, fun rw hr => ?_⟩
    · rcases addG_mem hn g hm with ⟨h1, h2⟩ | ⟨h1, ⟨rs, h2, h3⟩ | ⟨h2, h3⟩⟩
      · refine ⟨(hg g h1).1, fun rw => ?_⟩
        rw [(hg g h1).2 rw, List.mem_append, List.mem_singleton]
        exact ⟨fun ⟨a, b⟩ => ⟨.inl a, b⟩, fun ⟨a, b⟩ => ⟨a.resolve_right fun e => h2 (by rw [← b, e]), b⟩⟩
      · refine ⟨by rw [h3]; simp, fun rw => ?_⟩
        rw [h3, List.mem_append, List.mem_singleton, (hg _ h2).2 rw, List.mem_append, List.mem_singleton, h1]
        constructor
        · rintro (⟨a, b⟩ | rfl)
          · exact ⟨.inl a, b⟩
          · exact ⟨.inr rfl, rfl⟩
        · rintro ⟨a | a, b⟩
          · exact .inl ⟨a, b⟩
          · exact .inr a
      · refine ⟨by rw [h3]; simp, fun rw => ?_⟩
        rw [h3, List.mem_singleton, List.mem_append, List.mem_singleton, h1]
        constructor
        · rintro rfl; exact ⟨.inr rfl, rfl⟩
        · rintro ⟨a | a, b⟩
          · obtain ⟨g', hg', e'⟩ := hc rw a
            exact absurd (e'.trans b) (h2 g' hg')
          · exact a
    · have mem : ∀ key, (∃ g ∈ groupsL rws s, g.1 = key) ∨ key = seenL x.2 s → ∃ g ∈ addG (groupsL rws s) (seenL x.2 s) x, g.1 = key := by
        intro key h
        unfold addG
        by_cases hany : ((groupsL rws s).any fun g => decide (g.1 = seenL x.2 s)) = true
        · rw [if_pos hany]
          have h' : ∃ g ∈ groupsL rws s, g.1 = key := by
            rcases h with h | h
            · exact h
            · obtain ⟨g, hg1, hg2⟩ := List.any_eq_true.mp hany
              exact ⟨g, hg1, (of_decide_eq_true hg2).trans h.symm⟩
          obtain ⟨g, hg1, hg2⟩ := h'
          refine ⟨_, List.mem_map.mpr ⟨g, hg1, rfl⟩, ?_⟩
          split <;> exact hg2
        · rw [if_neg hany]
          rcases h with ⟨g, hg1, hg2⟩ | h
          · exact ⟨g, List.mem_append_left _ hg1, hg2⟩
          · exact ⟨(seenL x.2 s, [x]), List.mem_append_right _ (List.mem_singleton.mpr rfl), h.symm⟩
      rcases List.mem_append.mp hr with hr | hr
      · exact mem _ (.inl (hc rw hr))
      · rw [List.mem_singleton.mp hr]
        exact mem _ (.inr rfl)
end L2

namespace L2
open PySem PySem.Spec PyProof.Rows
/-! ### the promises of the program's own defs about books -/
theorem GroupsAt.same {H H' : Hp} {d : Addr} {G : List Gr} (A : GroupsAt H d G) (e : Same H H') : GroupsAt H' d G := ⟨e _ _ A.dict, fun g hg => e _ _ (A.lists g hg), A.keys, A.ats⟩
noncomputable def RowsOk (H : Hp) (m : Nat) (rws : List RW) : Prop := ∀ rw ∈ rws, H rw.1 = some (.tup (rw.2.map V.int)) ∧ rw.2.length = m
theorem RowsOk.same {H H' : Hp} {m : Nat} {rws : List RW} (r : RowsOk H m rws) (e : Same H H') : RowsOk H' m rws := fun rw h => ⟨e _ _ (r rw h).1, (r rw h).2⟩
noncomputable def spNoughts : Sp := fun vs H Q _ => ∃ m : Nat, vs = [vN m] ∧ 1 ≤ m ∧ m ≤ 20 ∧ ∀ p H', Same H H' → H p = none → H' p = some (.tup ((List.replicate m (0 : Int)).map V.int)) → Q (.ref p) H'
noncomputable def spSeen : Sp := fun vs H Q _ => ∃ (a : Addr) (r : List Int) (s : Nat), vs = [.ref a, vN s] ∧ H a = some (.tup (r.map V.int)) ∧ 1 ≤ r.length ∧ r.length ≤ 20 ∧ ∀ p H', Same H H' → H p = none → H' p = some (.tup ((seenL r s).map V.int)) → Q (.ref p) H'
noncomputable def spGroups (K : PySem.W.Frag) : Sp := fun vs H Q _ => ∃ (bk : Addr) (rws : List RW) (s m : Nat), vs = [.ref bk, vN s] ∧ SqL K H bk (refsOf rws) ∧ RowsOk H m rws ∧ 1 ≤ m ∧ m ≤ 20 ∧ rws.length ≤ 300 ∧
  ∀ d G H', Same H H' → H d = none → GroupsAt H' d G → forget G = groupsL rws s → Q (.ref d) H'
noncomputable def spFirsts (K : PySem.W.Frag) : Sp := fun vs H Q _ => ∃ (bk : Addr) (rws : List RW) (s m : Nat), vs = [.ref bk, vN s] ∧ SqL K H bk (refsOf rws) ∧ RowsOk H m rws ∧ 1 ≤ m ∧ m ≤ 20 ∧ rws.length ≤ 300 ∧
  ∀ p (fs : List RW) H', Same H H' → H p = none → H' p = some (.lst (refsOf fs)) → (∀ f ∈ fs, f ∈ rws) → (∀ rw ∈ rws, ∃ f ∈ fs, seenL f.2 s = seenL rw.2 s) → fs.length ≤ 300 → Q (.ref p) H'
theorem groups_len (s : Nat) (rws : List RW) : (groupsL rws s).length ≤ rws.length ∧ ∀ g ∈ groupsL rws s, g.2.length ≤ rws.length := by
  refine snocInd (P := fun rws => (groupsL rws s).length ≤ rws.length ∧ ∀ g ∈ groupsL rws s, g.2.length ≤ rws.length) ⟨Nat.le_refl _, fun g hg => absurd hg List.not_mem_nil⟩ ?_ rws
  intro rws x ih
  obtain ⟨h1, h2⟩ := ih
  rw [groupsL_snoc, List.length_append, List.length_singleton]
  refine ⟨?_, fun g hg => ?_⟩
  · unfold addG
    split
    · rw [List.length_map]; omega
    · rw [List.length_append, List.length_singleton]; omega
  · unfold addG at hg
    split at hg
    · obtain ⟨g0, h0, rfl⟩ := List.mem_map.mp hg
      have := h2 g0 h0
      split
      · rw [List.length_append, List.length_singleton]; omega
      · omega
    · rcases List.mem_append.mp hg with hg | hg
      · have := h2 g hg; omega
      · rw [List.mem_singleton.mp hg]
        show 1 ≤ rws.length + 1
        omega
theorem forget_len {G : List Gr} {gs : List (List Int × List RW)} (e : forget G = gs) : G.length = gs.length := by rw [← e]; unfold forget; rw [List.length_map]
theorem forget_mem {G : List Gr} {gs : List (List Int × List RW)} (e : forget G = gs) {g : Gr} (h : g ∈ G) : (g.key, g.rows) ∈ gs := by rw [← e]; exact List.mem_map.mpr ⟨g, h, rfl⟩
theorem mem_forget {G : List Gr} {gs : List (List Int × List RW)} (e : forget G = gs) {x : List Int × List RW} (h : x ∈ gs) : ∃ g ∈ G, g.key = x.1 ∧ g.rows = x.2 := by
  rw [← e] at h
  obtain ⟨g, hg, rfl⟩ := List.mem_map.mp h
  exact ⟨g, hg, rfl, rfl⟩
theorem kvs_at {G : List Gr} {i : Nat} {k : List Key} {x : V} (h : (kvsOf G)[i]? = some (k, x)) : ∃ g, G[i]? = some g ∧ x = V.ref g.at_ := by
  unfold kvsOf at h
  rw [List.getElem?_map] at h
  cases e : G[i]? with
  | none => rw [e] at h; cases h
  | some g =>
    rw [e] at h
    have := Option.some.inj h
    exact ⟨g, rfl, (congrArg Prod.snd this).symm⟩
end L2

namespace L2
open PySem PySem.Spec PyProof.Rows
/-! ### rows alike and mixed: the mathematics -/
theorem cols_rng : ∀ m, m < 8 → ∀ x, x < 2 ^ m → (List.range m).filter (hasB x) = colsN x := by decide +kernel
theorem has_rest : ∀ m, m < 8 → ∀ x, x < 2 ^ m → ∀ k, k < m → hasB (2 ^ m - 1 - x) k = !hasB x k := by decide +kernel
theorem mem_cols {m x k : Nat} (hm : m < 8) (hx : x < 2 ^ m) : k ∈ colsN x ↔ k < m ∧ hasB x k = true := by rw [← cols_rng m hm x hx, List.mem_filter, List.mem_range]
theorem alike_iff {r1 r2 : List Int} {x m : Nat} (hm : m < 8) (hx : x < 2 ^ m) : alikeL r1 r2 x = true ↔ ∀ k, k < m → hasB x k = true → r1.getD k 0 = r2.getD k 0 := by
  unfold alikeL
  rw [List.all_eq_true]
  constructor
  · intro h k hk hb
    exact of_decide_eq_true (h _ (List.mem_map.mpr ⟨k, (mem_cols hm hx).mpr ⟨hk, hb⟩, rfl⟩))
  · intro h b hb
    obtain ⟨k, hk, rfl⟩ := List.mem_map.mp hb
    obtain ⟨h1, h2⟩ := (mem_cols hm hx).mp hk
    exact decide_eq_true (h k h1 h2)
theorem agree_iff {r1 r2 : List Int} {x : Nat} : agreeL r1 r2 x = true ↔ ∀ k, k < r1.length → hasB x k = true → r1.getD k 0 = r2.getD k 0 := by
  unfold agreeL offL
  rw [decide_eq_true_iff, List.filter_eq_nil_iff]
  constructor
  · intro h k hk hb
    have := h k (List.mem_range.mpr hk)
    rw [hb, Bool.true_and] at this
    cases hd : decide (r1.getD k 0 = r2.getD k 0) with
    | true => exact of_decide_eq_true hd
    | false => rw [hd] at this; exact absurd rfl this
  · intro h k hk hb
    rw [Bool.and_eq_true] at hb
    rw [decide_eq_true (h k (List.mem_range.mp hk) hb.1)] at hb
    cases hb.2
theorem mix_len (r1 r2 : List Int) (x : Nat) : (mixL r1 r2 x).length = r1.length := by unfold mixL; rw [List.length_map, List.length_range]
theorem mix_get {r1 r2 : List Int} {x k : Nat} (h : k < r1.length) : (mixL r1 r2 x).getD k 0 = if hasB x k = true then r1.getD k 0 else r2.getD k 0 := by
  unfold mixL
  rw [List.getD_eq_getElem?_getD, List.getElem?_map, List.getElem?_range h]
  rfl
theorem ext_getD {r1 r2 : List Int} (hl : r1.length = r2.length) (h : ∀ k, k < r1.length → r1.getD k 0 = r2.getD k 0) : r1 = r2 := by
  refine List.ext_getElem hl fun j j1 j2 => ?_
  have := h j j1
  rwa [List.getD_eq_getElem?_getD, List.getElem?_eq_getElem j1, List.getD_eq_getElem?_getD, List.getElem?_eq_getElem j2] at this
theorem mix_self (r : List Int) (x : Nat) : mixL r r x = r := ext_getD (mix_len r r x) fun k hk => by
  rw [mix_len] at hk
  rw [mix_get hk]; split <;> rfl
theorem getD_rep (m k : Nat) : (List.replicate m (0 : Int)).getD k 0 = 0 := by
  rw [List.getD_eq_getElem?_getD, List.getElem?_replicate]
  split <;> rfl
theorem seen_len (r : List Int) (s : Nat) : (seenL r s).length = r.length := mix_len _ _ _
theorem seen_get {r : List Int} {s k : Nat} (h : k < r.length) : (seenL r s).getD k 0 = if hasB s k = true then r.getD k 0 else 0 := by
  unfold seenL
  rw [mix_get h, getD_rep]
theorem seen_iff {r1 r2 : List Int} {s m : Nat} (h1 : r1.length = m) (h2 : r2.length = m) : seenL r1 s = seenL r2 s ↔ ∀ k, k < m → hasB s k = true → r1.getD k 0 = r2.getD k 0 := by
  constructor
  · intro h k hk hb
    have e := congrArg (fun l => l.getD k 0) h
    replace e : (seenL r1 s).getD k 0 = (seenL r2 s).getD k 0 := e
    rw [seen_get (by omega), seen_get (by omega), if_pos hb, if_pos hb] at e
    exact e
  · intro h
    refine ext_getD (by rw [seen_len, seen_len, h1, h2]) fun k hk => ?_
    rw [seen_len] at hk
    rw [seen_get (by omega), seen_get (by omega)]
    split
    · rename_i hb; exact h k (by omega) hb
    · rfl
theorem alike_seen {r1 r2 : List Int} {s m : Nat} (hm : m < 8) (hs : s < 2 ^ m) (h1 : r1.length = m) (h2 : r2.length = m) : alikeL r1 r2 s = true ↔ seenL r1 s = seenL r2 s := by
  rw [alike_iff hm hs, seen_iff h1 h2]
theorem mix_congr {a b c d : List Int} {s m : Nat} (hm : m < 8) (hs : s < 2 ^ m) (ha : a.length = m) (hb : b.length = m) (hc : c.length = m) (hd : d.length = m) (h1 : seenL a s = seenL c s) (h2 : seenL b (2 ^ m - 1 - s) = seenL d (2 ^ m - 1 - s)) : mixL a b s = mixL c d s := by
  refine ext_getD (by rw [mix_len, mix_len, ha, hc]) fun k hk => ?_
  rw [mix_len] at hk
  rw [mix_get hk, mix_get (by omega)]
  split
  · rename_i hb'; exact (seen_iff ha hc).mp h1 k (by omega) hb'
  · rename_i hb'
    refine (seen_iff hb hd).mp h2 k (by omega) ?_
    rw [has_rest m hm s hs k (by omega)]
    cases e : hasB s k with
    | true => exact absurd e hb'
    | false => rfl
theorem has_or : ∀ x, x < 128 → ∀ y, y < 128 → ∀ k, k < 7 → hasB (x ||| y) k = (hasB x k || hasB y k) := fun x _ y _ k _ => by
  unfold hasB
  have e1 : ∀ z : Nat, decide (z / 2 ^ k % 2 = 1) = z.testBit k := fun z => by
    rw [Nat.testBit_eq_decide_div_mod_eq]
  rw [e1, e1, e1, Nat.testBit_or]
/-- a row mixed of two that are seen alike on x is seen as they are there -/
theorem seen_mix {a b : List Int} {x y m : Nat} (hm : m < 8) (hx : x < 2 ^ m) (hy : y < 2 ^ m) (ha : a.length = m) : seenL (mixL a b (x ||| y)) x = seenL a x := by
  have pw : 2 ^ m ≤ 2 ^ 7 := Nat.pow_le_pow_right (by decide) (by omega)
  refine (seen_iff (m := m) (by rw [mix_len, ha]) ha).mpr fun k hk hb => ?_
  rw [mix_get (by omega), if_pos (by rw [has_or x (by omega) y (by omega) k (by omega), hb]; rfl)]
theorem rest_eq : ∀ m, m < 8 → ∀ h : Nat, h < 2 ^ m → Builtin.bitAnd ((2 ^ m - 1 : Nat) : Int) (Builtin.bitNot (h : Int)) = ((2 ^ m - 1 - h : Nat) : Int) := by decide +kernel
/-! ### the promises -/
noncomputable def SetOk (rws : List RW) (x y : Nat) : Prop := ∀ a ∈ rws, ∀ b ∈ rws, seenL a.2 x = seenL b.2 x → seenL a.2 y = seenL b.2 y
noncomputable def DealOk (rws : List RW) (x y : Nat) : Prop := ∀ a ∈ rws, ∀ b ∈ rws, seenL a.2 x = seenL b.2 x → ∃ c ∈ rws, c.2 = mixL a.2 b.2 (x ||| y)
noncomputable def SetBad (rws : List RW) (x y : Nat) (a b : RW) : Prop := a ∈ rws ∧ b ∈ rws ∧ seenL a.2 x = seenL b.2 x ∧ seenL a.2 y ≠ seenL b.2 y
noncomputable def DealBad (rws : List RW) (x y : Nat) (a b : RW) : Prop := a ∈ rws ∧ b ∈ rws ∧ seenL a.2 x = seenL b.2 x ∧ ∀ c ∈ rws, c.2 ≠ mixL a.2 b.2 (x ||| y)
noncomputable def Found (H : Hp) (Q : VK) (Ok : Prop) (Bad : RW → RW → Prop) : Prop :=
  (∀ H', Same H H' → Ok → Q .non H') ∧ ∀ (p : Addr) (a b : RW) (H' : Hp), Bad a b → Same H H' → H p = none → H' p = some (.tup [.ref a.1, .ref b.1]) → Q (.ref p) H'
noncomputable def BookAt (K : PySem.W.Frag) (H : Hp) (bk : Addr) (rws : List RW) (m : Nat) : Prop := SqL K H bk (refsOf rws) ∧ RowsOk H m rws ∧ 1 ≤ m ∧ m ≤ 7 ∧ rws.length ≤ 300
theorem BookAt.same {K : PySem.W.Frag} {H H' : Hp} {bk : Addr} {rws : List RW} {m : Nat} (b : BookAt K H bk rws m) (e : Same H H') : BookAt K H' bk rws m := ⟨e.seq b.1, b.2.1.same e, b.2.2⟩
noncomputable def spSettle (K : PySem.W.Frag) : Sp := fun vs H Q _ => ∃ (bk : Addr) (rws : List RW) (x y m : Nat), vs = [.ref bk, vN x, vN y] ∧ BookAt K H bk rws m ∧ x < 2 ^ m ∧ y < 2 ^ m ∧ Found H Q (SetOk rws x y) (SetBad rws x y)
noncomputable def spDeal (K : PySem.W.Frag) : Sp := fun vs H Q _ => ∃ (bk : Addr) (rws : List RW) (x y m : Nat), vs = [.ref bk, vN x, vN y] ∧ BookAt K H bk rws m ∧ x < 2 ^ m ∧ y < 2 ^ m ∧ Found H Q (DealOk rws x y) (DealBad rws x y)
noncomputable def spLack (K : PySem.W.Frag) : Sp := fun vs H Q _ => ∃ (bk : Addr) (rws : List RW) (h m : Nat), vs = [.ref bk, vN h] ∧ BookAt K H bk rws m ∧ h < 2 ^ m ∧ rws ≠ [] ∧
  Found H Q (∀ a ∈ rws, ∀ b ∈ rws, ∃ c ∈ rws, c.2 = mixL a.2 b.2 h) (fun a b => a ∈ rws ∧ b ∈ rws ∧ ∀ c ∈ rws, c.2 ≠ mixL a.2 b.2 h)
/-- a rule in the heap: its word (settle or not), its sets -/
noncomputable def wordS (st : Bool) : Str := if st = true then "settle" else "deal"
noncomputable def RuleAt (H : Hp) (r : Addr) (st : Bool) (x y : Nat) : Prop := H r = some (.tup [.str (wordS st), vN x, vN y])
noncomputable def ROk (rws : List RW) (st : Bool) (x y : Nat) : Prop := if st = true then SetOk rws x y else DealOk rws x y
noncomputable def RBad (rws : List RW) (st : Bool) (x y : Nat) (a b : RW) : Prop := if st = true then SetBad rws x y a b else DealBad rws x y a b
theorem RBad.not {rws : List RW} {st : Bool} {x y : Nat} {a b : RW} (h : RBad rws st x y a b) : ¬ ROk rws st x y := fun ok => by
  unfold RBad at h
  unfold ROk at ok
  cases st with
  | true =>
    simp only [if_true] at h ok
    exact h.2.2.2 (ok a h.1 b h.2.1 h.2.2.1)
  | false =>
    simp only [Bool.false_eq_true, if_false] at h ok
    obtain ⟨c, hc, e⟩ := ok a h.1 b h.2.1 h.2.2.1
    exact h.2.2.2 c hc e
noncomputable def spBreach (K : PySem.W.Frag) : Sp := fun vs H Q _ => ∃ (bk r : Addr) (rws : List RW) (st : Bool) (x y m : Nat), vs = [.ref bk, .ref r] ∧ BookAt K H bk rws m ∧ RuleAt H r st x y ∧ x < 2 ^ m ∧ y < 2 ^ m ∧ Found H Q (ROk rws st x y) (RBad rws st x y)
structure Rl where
  r : Addr
  st : Bool
  x : Nat
  y : Nat
noncomputable def spKeeps (K : PySem.W.Frag) : Sp := fun vs H Q _ => ∃ (bk rl : Addr) (rws : List RW) (rs : List Rl) (m : Nat), vs = [.ref bk, .ref rl] ∧ BookAt K H bk rws m ∧ SqL K H rl (rs.map fun r => V.ref r.r) ∧ rs.length ≤ 300 ∧ (∀ r ∈ rs, RuleAt H r.r r.st r.x r.y ∧ r.x < 2 ^ m ∧ r.y < 2 ^ m) ∧
  ∀ (k : Bool) (H' : Hp), Same H H' → (k = true ↔ ∀ r ∈ rs, ROk rws r.st r.x r.y) → Q (.bl k) H'
theorem valV_putAll (k : List Key) : ∀ (ps : List Pr) (kvs : List (List Key × V)), (valV (putAll kvs ps) k).isSome = ((valV kvs k).isSome || ps.any fun p => decide (p.k = k))
  | [], kvs => by rw [List.any_nil, Bool.or_false]; rfl
  | p :: ps, kvs => by
    show (valV (putAll (putK kvs p.k p.v) ps) k).isSome = _
    rw [valV_putAll k ps, valV_put, List.any_cons]
    by_cases e : k = p.k
    · rw [if_pos e, decide_eq_true e.symm]
      simp
    · rw [if_neg e, decide_eq_false (fun z => e z.symm), Bool.false_or]
end L2

namespace L2
open PySem PySem.Spec PyProof.Rows
/-! ### the book of a set -/
end L2

namespace L2
open PySem PySem.Spec PyProof.Rows
/-! ### tuples in lists, lists of lists compared -/
section
variable {X : Cx} {K : PySem.W.Frag} {pins : List (Addr × Obj)} {σ : St} {H : Hp} {s : Shared}
theorem map_int_inj : ∀ {a b : List Int}, a.map V.int = b.map V.int → a = b
  | [], [], _ => rfl
  | [], _ :: _, h => by cases h
  | _ :: _, [], h => by cases h
  | x :: a, y :: b, h => by
    have h1 : V.int x = V.int y := (List.cons.inj h).1
    rw [V.int.inj h1, map_int_inj (List.cons.inj h).2]
theorem eqAt_tups {A : Around} {a b : Addr} {ns ms : List Int} (hu : A.units < cLine) (I : Inv X pins σ H s) (ha : H a = some (.tup (ns.map V.int))) (hb : H b = some (.tup (ms.map V.int))) : SeqAt.EqAt A s (.ref a) (.ref b) (decide (ns = ms)) := by
  by_cases hab : a = b
  · subst hab
    rw [ha] at hb
    have e : ns = ms := map_int_inj (HO.tup.inj (Option.some.inj hb))
    rw [decide_eq_true e]
    exact SeqAt.EqAt.same _
  · obtain ⟨its, rv, pl, _⟩ := I.tuple (SqT.of ha)
    obtain ⟨its', rv', pl', _⟩ := I.tuple (SqT.of hb)
    have l1 : its.length = ns.length := by rw [← rv.length, List.length_map]
    have l2 : its'.length = ms.length := by rw [← rv'.length, List.length_map]
    have r := SeqAt.RcAt.tuples (A := A) (s := s) (e := fun j => decide (ns.getD j 0 = ms.getD j 0)) pl pl' hu (fun j j1 j2 => by
      have j1' : j < ns.length := by rw [← l1]; simpa using j1
      have j2' : j < ms.length := by rw [← l2]; simpa using j2
      obtain ⟨c, hc, rc⟩ := rv.get (i := j) (x := V.int ns[j]) (by rw [List.getElem?_map, List.getElem?_eq_getElem j1']; rfl)
      obtain ⟨d, hd, rd⟩ := rv'.get (i := j) (x := V.int ms[j]) (by rw [List.getElem?_map, List.getElem?_eq_getElem j2']; rfl)
      have ec : its.toArray[j] = c := by
        rw [List.getElem?_eq_getElem (by simpa using j1)] at hc
        simpa using hc
      have ed : its'.toArray[j] = d := by
        rw [List.getElem?_eq_getElem (by simpa using j2)] at hd
        simpa using hd
      have q := eqAt_V (A := A.in1) (s := s) rc rd rfl rfl
      rw [ec, ed]
      have e2 : eqV (V.int ns[j]) (V.int ms[j]) = decide (ns.getD j 0 = ms.getD j 0) := by
        rw [List.getD_eq_getElem?_getD, List.getElem?_eq_getElem j1', List.getD_eq_getElem?_getD, List.getElem?_eq_getElem j2']
        show (ns[j] == ms[j]) = decide (ns[j] = ms[j])
        rw [Bool.eq_iff_iff, beq_iff_eq, decide_eq_true_iff]
      rw [← e2]
      exact q)
    rw [List.size_toArray, List.size_toArray, l1, l2, all_eq] at r
    exact SeqAt.EqAt.of_refs hab r
theorem vals_refs : ∀ {as : List Addr} {us : List Value}, Vals (as.map V.ref) us → us = as.map Value.ref
  | [], _, .nil => rfl
  | a :: as, _, .cons r t => by
    obtain rfl := (show _ = Value.ref a from r)
    rw [List.map_cons, vals_refs t]
/-- a row is not in a book -/
theorem op_notInTK (h : X.K = K) (hu : X.A.units + 64 < cLine) : OpR X (compareOp .NotIn) (fun x y H Q => ∃ (t l : Addr) (ns : List Int) (rws : List RW), x = .ref t ∧ y = .ref l ∧ H t = some (.tup (ns.map V.int)) ∧ SqL K H l (refsOf rws) ∧ (∀ rw0 ∈ rws, H rw0.1 = some (.tup (rw0.2.map V.int))) ∧
    ∀ b : Bool, (b = true ↔ ∀ c ∈ rws, c.2 ≠ ns) → Q (.bl b) H) := by
  subst h
  intro pins s σ H x y v u Q I rx ry h
  obtain ⟨t, l, ns, rws, rfl, rfl, ht, hl, hr, q⟩ := h
  cases rx; cases ry
  obtain ⟨its, rv, pl, hz⟩ := I.list hl
  have eits : its = rws.map fun rw0 => Value.ref rw0.1 := by
    have : Vals ((rws.map (·.1)).map V.ref) its := by rw [List.map_map]; exact rv
    rw [vals_refs this, List.map_map]
    rfl
  have content : ∀ a ∈ rws, ∀ b ∈ rws, a.1 = b.1 → a.2 = b.2 := fun a ha b hb e => by
    have h1 := hr a ha
    rw [e, hr b hb] at h1
    exact (map_int_inj (HO.tup.inj (Option.some.inj h1))).symm
  refine SeqAt.notIn_listAt (fun v => rws.any fun rw0 => decide (v = Value.ref rw0.1) && decide (rw0.2 = ns)) pl.isList (fun w hw => ?_) ?_
  · have hw' : w ∈ rws.map fun rw0 => Value.ref rw0.1 := by rw [← eits]; simpa using hw
    obtain ⟨a, ha, rfl⟩ := List.mem_map.mp hw'
    have e1 : (rws.any fun rw0 => decide (Value.ref a.1 = Value.ref rw0.1) && decide (rw0.2 = ns)) = decide (a.2 = ns) := by
      rw [Bool.eq_iff_iff, List.any_eq_true, decide_eq_true_iff]
      constructor
      · rintro ⟨b, hb, e⟩
        rw [Bool.and_eq_true] at e
        have eab : a.1 = b.1 := Value.ref.inj (of_decide_eq_true e.1)
        rw [content a ha b hb eab]
        exact of_decide_eq_true e.2
      · intro e
        exact ⟨a, ha, by rw [decide_eq_true rfl, decide_eq_true e]; rfl⟩
    show SeqAt.EqAt X.A.in1 s (Value.ref a.1) (Value.ref t) (rws.any fun rw0 => decide (Value.ref a.1 = Value.ref rw0.1) && decide (rw0.2 = ns))
    rw [e1]
    exact eqAt_tups (show X.A.units + 1 < cLine by omega) I (hr a ha) ht
  · refine ⟨.bl _, H, I, rfl, q _ ?_⟩
    rw [Bool.not_eq_true', eits]
    constructor
    · intro e c hc ec
      have : ((rws.map fun rw0 => Value.ref rw0.1).toArray.any fun v => rws.any fun rw0 => decide (v = Value.ref rw0.1) && decide (rw0.2 = ns)) = true := by
        rw [List.any_toArray, List.any_eq_true]
        exact ⟨Value.ref c.1, List.mem_map.mpr ⟨c, hc, rfl⟩, List.any_eq_true.mpr ⟨c, hc, by rw [decide_eq_true rfl, decide_eq_true ec]; rfl⟩⟩
      rw [this] at e
      cases e
    · intro all
      cases e : ((rws.map fun rw0 => Value.ref rw0.1).toArray.any fun v => rws.any fun rw0 => decide (v = Value.ref rw0.1) && decide (rw0.2 = ns)) with
      | false => rfl
      | true =>
        rw [List.any_toArray, List.any_eq_true] at e
        obtain ⟨v, _, hv⟩ := e
        obtain ⟨c, hc, hcc⟩ := List.any_eq_true.mp hv
        rw [Bool.and_eq_true] at hcc
        exact absurd (of_decide_eq_true hcc.2) (all c hc)
end
end L2

namespace L2
open PySem PySem.Spec PyProof.Rows
/-! ### k11: what two rows show -/
theorem agree_seen {r1 r2 : List Int} {s m : Nat} (h1 : r1.length = m) (h2 : r2.length = m) : agreeL r1 r2 s = true ↔ seenL r1 s = seenL r2 s := by
  rw [agree_iff, seen_iff h1 h2, h1]
end L2

namespace L2
open PySem PySem.Spec PyProof.Rows
/-! ### paths joined -/
section
variable {X : Cx} {st : Stmt} {rest : List Stmt} {t u : TS}
theorem pss_cut (P : St → Hp → Prop) (h1 : PS X st t) (h2 : PSs X rest u) : PSs X (st :: rest) (fun D σ H => t { D with nx := P } σ H ∧ ∀ σ' H', P σ' H' → u D σ' H') := by
  intro pins s σ H D I h
  refine wpAny_execs_cons (thn (h1 pins s σ H { D with nx := P } I h.1) fun f s1 q => ?_)
  cases f with
  | next =>
    obtain ⟨σ', H', I', q⟩ := q
    exact h2 pins s1 σ' H' D I' (h.2 σ' H' q)
  | ret v => exact q
  | brk => exact q
  | cont => exact q
end
/-! ### truths told one by one -/
theorem rows_zip {H : Hp} {m : Nat} : ∀ {ts : List Addr} {rs : List (List Int)}, RowsAt H ts rs → (∀ r ∈ rs, r.length = m) → RowsOk H m (ts.zip rs) ∧ refsOf (ts.zip rs) = ts.map V.ref ∧ (ts.zip rs).length = rs.length
  | [], [], _, _ => ⟨fun rw h => absurd h List.not_mem_nil, rfl, rfl⟩
  | t :: ts, r :: rs, ⟨h, q⟩, hm => by
    obtain ⟨a, b, c⟩ := rows_zip (m := m) q (fun r' hr' => hm r' (List.mem_cons_of_mem _ hr'))
    refine ⟨fun rw hrw => ?_, ?_, ?_⟩
    · rw [List.zip_cons_cons] at hrw
      rcases List.mem_cons.mp hrw with rfl | hrw
      · exact ⟨h, hm r (List.mem_cons_self ..)⟩
      · exact a rw hrw
    · show V.ref t :: refsOf (ts.zip rs) = _
      rw [b]; rfl
    · rw [List.zip_cons_cons, List.length_cons, List.length_cons, c]
  | [], _ :: _, h, _ => h.elim
  | _ :: _, [], h, _ => h.elim
end L2

namespace L2
open PySem PySem.W PyProof.Rows
namespace ST
/-! ### what the library's tree of questions comes to, where each question has an answer -/
/-! the order asked for -/
section
variable {lt : Nat → Nat → Bool}
/-! what is asked for -/
section
variable {N : Nat} (h0 : 0 < N)
include h0
end
end
end ST
end L2

namespace L2
open PySem PySem.W PyProof.Rows
namespace ST
/-! ### rows in their order -/
noncomputable def lexB : List Int → List Int → Bool
  | x :: xs, y :: ys => if x = y then lexB xs ys else decide (x < y)
  | _, _ => false
theorem lex_as : ∀ {x y : List Int}, lexB x y = true → lexB y x = false
  | [], y, h => by cases y <;> rfl
  | _ :: _, [], h => rfl
  | a :: x, b :: y, h => by
    unfold lexB at h ⊢
    by_cases e : a = b
    · rw [if_pos e] at h
      rw [if_pos e.symm]
      exact lex_as h
    · rw [if_neg e] at h
      rw [if_neg (Ne.symm e)]
      have := of_decide_eq_true h
      exact decide_eq_false (by omega)
theorem lex_tr : ∀ {x y z : List Int}, x.length = y.length → y.length = z.length → lexB y x = false → lexB z y = false → lexB z x = false
  | [], [], [], _, _, _, _ => rfl
  | a :: x, b :: y, c :: z, h1, h2, h3, h4 => by
    unfold lexB at h3 h4 ⊢
    by_cases e1 : b = a
    · subst e1
      rw [if_pos rfl] at h3
      by_cases e2 : c = b
      · subst e2
        rw [if_pos rfl] at h4 ⊢
        exact lex_tr (Nat.succ.inj h1) (Nat.succ.inj h2) h3 h4
      · rw [if_neg e2] at h4 ⊢
        exact h4
    · rw [if_neg e1] at h3
      have n1 := of_decide_eq_false h3
      by_cases e2 : c = b
      · subst e2
        rw [if_neg e1]
        exact h3
      · rw [if_neg e2] at h4
        have n2 := of_decide_eq_false h4
        rw [if_neg (by omega)]
        exact decide_eq_false (by omega)
theorem lex_total : ∀ {x y : List Int}, x.length = y.length → lexB x y = false → lexB y x = false → x = y
  | [], [], _, _, _ => rfl
  | a :: x, b :: y, h, h1, h2 => by
    unfold lexB at h1 h2
    by_cases e : a = b
    · subst e
      rw [if_pos rfl] at h1 h2
      rw [lex_total (Nat.succ.inj h) h1 h2]
    · rw [if_neg e] at h1
      rw [if_neg (Ne.symm e)] at h2
      have := of_decide_eq_false h1
      have := of_decide_eq_false h2
      omega
section
variable {prog : Program} {w : World} {A : Around} {E : Value → Shared → Prop} {s : Shared}
/-- two rows compared, item by item -/
theorem lex_ask {Q : Bool → Shared → Prop} : ∀ {us vs : List Value} {xs ys : List Int} (i : Nat), IntsAre us xs → IntsAre vs ys → xs.length = ys.length → Q (lexB xs ys) s → KatLex prog w A true false Q (us.zip vs) i s
  | _, _, _, _, _, .nil, .nil, _, q => q
  | _, _, _, _, i, .cons (vs := us) (ns := xs) x t hx, .cons (vs := vs) (ns := ys) y u hy, hl, q => by
    refine kat_cons (wpAny_eqBool_int ?_)
    unfold lexB at q
    by_cases e : x = y
    · subst e
      rw [if_pos rfl] at q
      rw [beq_self_eq_true]
      exact kat_yes (lex_ask (i + 1) hx hy (Nat.succ.inj hl) q)
    · rw [if_neg e] at q
      rw [beq_eq_false_iff_ne.mpr e]
      refine kat_no ?_
      cases c : (true && i == 0) with
      | true => exact oneLt_int q
      | false => exact kat_one _ _ (lt_int q)
/-- a row in the heap -/
noncomputable def RowAt (h : Heap) (m : Nat) (r : Addr × List Int) : Prop := r.2.length = m ∧ ∃ o its n, h.get? r.1 = some o ∧ o.cls = .type "tuple" ∧ o.data = .seq its n ∧ IntsAre its.toList r.2
theorem row_lt {m : Nat} {a b : Addr × List Int} {Q : Bool → Shared → Prop} (ha : RowAt s.heap m a) (hb : RowAt s.heap m b) (q : Q (lexB a.2 b.2) s) : wpAny (model prog w) A (keyLt' (tuples' true) (.ref a.1) (.ref b.1)) Q E s := by
  obtain ⟨l1, o1, i1, n1, h1, _, d1, r1⟩ := ha
  obtain ⟨l2, o2, i2, n2, h2, _, d2, r2⟩ := hb
  have e1 : i1.size = m := by rw [← Array.length_toList, r1.length, l1]
  have e2 : i2.size = m := by rw [← Array.length_toList, r2.length, l2]
  refine kat_lt h1 d1 h2 d2 ?_
  rw [e1, e2, decide_eq_false (Nat.lt_irrefl _)]
  exact lex_ask 0 r1 r2 (by rw [l1, l2]) q
end
end ST
end L2

namespace L2
open PySem PySem.W PyProof.Rows
namespace SR
/-! ### the pieces of list.sort by their names -/
noncomputable def gall : Bool → Keyed → Array Keyed → Nat → Nat → Nat → StateT SortSt Sem (Option Nat) := sortPriv% PySem.Builtin.gallop
noncomputable def mLo : Array Keyed → Array Keyed → StateT SortSt Sem (Array Keyed) := sortPriv% PySem.Builtin.mergeLo
noncomputable def mHi : Array Keyed → Array Keyed → StateT SortSt Sem (Array Keyed) := sortPriv% PySem.Builtin.mergeHi
/-- an order: its questions and what follows from the answers -/
structure TO (L : Keyed → Keyed → Bool) : Prop where
  as_ : ∀ {x y}, L x y = true → L y x = false
  tr : ∀ {x y z}, L y x = false → L z y = false → L z x = false
section
variable {prog : Program} {w : World} {A : Around} {E : Value → Shared → Prop} {s : Shared} {κ : SortKind} {U : Keyed → Prop} {L : Keyed → Keyed → Bool}
/-- questions about members of U are answered by L, and nothing changes -/
noncomputable def Asked (prog : Program) (w : World) (A : Around) (s : Shared) (κ : SortKind) (U : Keyed → Prop) (L : Keyed → Keyed → Bool) : Prop :=
  ∀ x y, U x → U y → wpAny (model prog w) A (keyLt' κ x.1 y.1) (fun b s' => s' = s ∧ b = L x y) (fun _ _ => False) s
theorem r_elem {arr : Array Keyed} {i : Nat} {x : Keyed} {Q : Keyed → SortSt → Prop} {st : SortSt} (hx : arr[i]? = some x) (h : Q x st) : wpS (model prog w) A E s (elem' arr i) Q st := by
  rw [elem'_eq, hx]
  exact wpS_pure h
theorem r_lt (H : Asked prog w A s κ U L) {x y : Keyed} {Q : Option Bool → SortSt → Prop} {st : SortSt} (hk : kindOf st = κ) (ux : U x) (uy : U y) (h : Q (some (L x y)) st) : wpS (model prog w) A E s (lt' x y) Q st := by
  rw [lt'_eq]
  refine wpS_bind (wpS_get (wpS_bind (wpS_lift (wpAny_attempt (wpAny_mono (by rw [hk]; exact H x y ux uy) (fun b s' hb => ?_) fun _ _ f => False.elim f)))))
  obtain ⟨rfl, rfl⟩ := hb
  exact ⟨rfl, wpS_pure h⟩
theorem r_rule {r : String} {Q : Unit → SortSt → Prop} {st : SortSt} (h : Q () st) : wpS (model prog w) A E s (liftM (rule r) : StateT SortSt Sem Unit) Q st := wpS_lift (wpAny_rule ⟨rfl, h⟩)
/-! what galloping asks, as truths -/
theorem r_bey (H : Asked prog w A s κ U L) {left : Bool} {key x : Keyed} {arr : Array Keyed} {j : Nat} {Q : Option Bool → SortSt → Prop} {st : SortSt} (hk : kindOf st = κ) (uk : U key) (hx : arr[j]? = some x) (ux : U x)
    (h : Q (some (if left = true then L x key else !(L key x))) st) : wpS (model prog w) A E s (elem' arr j >>= fun x => if left = true then lt' x key else lt' key x >>= fun r => pure (r.map fun c => !c)) Q st := by
  refine wpS_bind (r_elem hx ?_)
  cases left with
  | true => exact r_lt H hk ux uk h
  | false => exact wpS_bind (r_lt H hk uk ux (wpS_pure h))
theorem r_gall (H : Asked prog w A s κ U L) {left : Bool} {key : Keyed} {arr : Array Keyed} {base n hint : Nat} {b : Nat → Bool} {Q : Option Nat → SortSt → Prop} {st : SortSt} (hk : kindOf st = κ) (uk : U key)
    (hb : ∀ i, i < n → ∃ x, arr[base + i]? = some x ∧ U x ∧ (if left = true then L x key else !(L key x)) = b i) (hm : ∀ i j, i ≤ j → j < n → b j = true → b i = true) (hh : hint < n)
    (h : ∀ k, k ≤ n → (∀ i, i < k → b i = true) → (∀ i, k ≤ i → i < n → b i = false) → Q (some k) st) : wpS (model prog w) A E s (gall left key arr base n hint) Q st := by
  have hf : ∀ i j, i ≤ j → j < n → b i = false → b j = false := fun i j h1 h2 h3 => by
    cases c : b j with
    | false => rfl
    | true => rw [hm i j h1 h2 c] at h3; exact h3
  obtain ⟨x0, g1, g2, g3⟩ := hb hint hh
  refine wpS_bind (r_bey H hk uk g1 g2 ?_)
  rw [g3]
  dsimp only
  cases c0 : b hint with
  | true =>
    rw [if_pos rfl]
    refine wpS_bind (wpS_mono (wpS_forRange (I := fun i c st' => ∃ la of, c = (none, la, of) ∧ st' = st ∧ hint + la < n ∧ b (hint + la) = true ∧ la < of ∧ i + 1 ≤ of)
      (Q := fun c st' => ∃ la of, c = (none, la, of) ∧ st' = st ∧ hint + la < n ∧ b (hint + la) = true ∧ la < of ∧ (n - hint ≤ of ∨ b (hint + of) = false)) ?_ ?_ ⟨0, 1, rfl, rfl, hh, c0, by omega, by omega⟩) ?_)
    · rintro i c st' _ hi ⟨la, of, rfl, rfl, p1, p2, p3, p4⟩
      dsimp only
      by_cases d : of ≥ n - hint
      · rw [if_pos d]
        exact wpS_pure ⟨la, of, rfl, rfl, p1, p2, p3, .inl d⟩
      · rw [if_neg d]
        obtain ⟨x1, k1, k2, k3⟩ := hb (hint + of) (by omega)
        refine wpS_bind (r_bey H hk uk k1 k2 ?_)
        rw [k3]
        cases c1 : b (hint + of) with
        | true => exact wpS_pure ⟨of, 2 * of + 1, rfl, rfl, by omega, c1, by omega, by omega⟩
        | false => exact wpS_pure ⟨la, of, rfl, rfl, p1, p2, p3, .inr c1⟩
    · rintro c st' ⟨la, of, rfl, rfl, p1, p2, p3, p4⟩
      exact ⟨la, of, rfl, rfl, p1, p2, p3, .inl (by omega)⟩
    · rintro c st' ⟨la, of, rfl, rfl, p1, p2, p3, p4⟩
      dsimp only
      obtain ⟨lo, elo⟩ : ∃ lo, hint + la + 1 = lo := ⟨_, rfl⟩
      obtain ⟨hi, ehi⟩ : ∃ hi, hint + min of (n - hint) = hi := ⟨_, rfl⟩
      rw [elo, ehi]
      have q1 : ∀ i, i < lo → b i = true := fun i hi => hm i (hint + la) (by omega) p1 p2
      have q2 : ∀ i, hi ≤ i → i < n → b i = false := fun i h1 h2 => by
        rcases p4 with p4 | p4
        · omega
        · by_cases e : of ≤ n - hint
          · exact hf (hint + of) i (by omega) h2 p4
          · omega
      have q3 : lo ≤ hi ∧ hi ≤ n := by omega
      clear p1 p2 p3 p4 elo ehi c0
      refine wpS_bind (wpS_mono (wpS_forRange (I := fun i c st'' => ∃ lo hi, c = (none, lo, hi) ∧ st'' = st' ∧ (∀ i, i < lo → b i = true) ∧ (∀ i, hi ≤ i → i < n → b i = false) ∧ lo ≤ hi ∧ hi ≤ n ∧ hi - lo + i ≤ n)
        (Q := fun c st'' => ∃ lo hi, c = (none, lo, hi) ∧ st'' = st' ∧ (∀ i, i < lo → b i = true) ∧ (∀ i, hi ≤ i → i < n → b i = false) ∧ lo = hi ∧ hi ≤ n) ?_ ?_ ⟨lo, hi, rfl, rfl, q1, q2, q3.1, q3.2, by omega⟩) ?_)
      · rintro i c st'' _ hi ⟨lo, hi, rfl, rfl, p1, p2, p3, p4, p5⟩
        dsimp only
        by_cases d : lo ≥ hi
        · rw [if_pos d]
          exact wpS_pure ⟨lo, hi, rfl, rfl, p1, p2, by omega, p4⟩
        · rw [if_neg d]
          obtain ⟨x1, k1, k2, k3⟩ := hb (lo + (hi - lo) / 2) (by omega)
          refine wpS_bind (r_bey H hk uk k1 k2 ?_)
          rw [k3]
          cases c1 : b (lo + (hi - lo) / 2) with
          | true => exact wpS_pure ⟨lo + (hi - lo) / 2 + 1, hi, rfl, rfl, fun i hi' => hm i _ (by omega) (by omega) c1, p2, by omega, p4, by omega⟩
          | false => exact wpS_pure ⟨lo, lo + (hi - lo) / 2, rfl, rfl, p1, fun i h1 h2 => hf _ i h1 h2 c1, by omega, by omega, by omega⟩
      · rintro c st'' ⟨lo, hi, rfl, rfl, p1, p2, p3, p4, p5⟩
        exact ⟨lo, hi, rfl, rfl, p1, p2, by omega, p4⟩
      · rintro c st'' ⟨lo, hi, rfl, rfl, p1, p2, rfl, p4⟩
        exact wpS_pure (h lo p4 p1 p2)
  | false =>
    rw [if_neg Bool.false_ne_true]
    refine wpS_bind (wpS_mono (wpS_forRange (I := fun i c st' => ∃ la of, c = (none, la, of) ∧ st' = st ∧ la ≤ hint ∧ b (hint - la) = false ∧ la < of ∧ i + 1 ≤ of)
      (Q := fun c st' => ∃ la of, c = (none, la, of) ∧ st' = st ∧ la ≤ hint ∧ b (hint - la) = false ∧ la < of ∧ (hint + 1 ≤ of ∨ b (hint - of) = true)) ?_ ?_ ⟨0, 1, rfl, rfl, by omega, c0, by omega, by omega⟩) ?_)
    · rintro i c st' _ hi ⟨la, of, rfl, rfl, p1, p2, p3, p4⟩
      dsimp only
      by_cases d : of ≥ hint + 1
      · rw [if_pos d]
        exact wpS_pure ⟨la, of, rfl, rfl, p1, p2, p3, .inl d⟩
      · rw [if_neg d]
        obtain ⟨x1, k1, k2, k3⟩ := hb (hint - of) (by omega)
        refine wpS_bind (r_bey H hk uk k1 k2 ?_)
        rw [k3]
        cases c1 : b (hint - of) with
        | true => exact wpS_pure ⟨la, of, rfl, rfl, p1, p2, p3, .inr c1⟩
        | false => exact wpS_pure ⟨of, 2 * of + 1, rfl, rfl, by omega, c1, by omega, by omega⟩
    · rintro c st' ⟨la, of, rfl, rfl, p1, p2, p3, p4⟩
      exact ⟨la, of, rfl, rfl, p1, p2, p3, .inl (by omega)⟩
    · rintro c st' ⟨la, of, rfl, rfl, p1, p2, p3, p4⟩
      dsimp only
      obtain ⟨lo, elo⟩ : ∃ lo, hint + 1 - min of (hint + 1) = lo := ⟨_, rfl⟩
      obtain ⟨hi, ehi⟩ : ∃ hi, hint - la = hi := ⟨_, rfl⟩
      rw [elo, ehi]
      have q1 : ∀ i, i < lo → b i = true := fun i hi => by
        rcases p4 with p4 | p4
        · omega
        · exact hm i (hint - of) (by omega) (by omega) p4
      have q2 : ∀ i, hi ≤ i → i < n → b i = false := fun i h1 h2 => hf (hint - la) i (by omega) h2 p2
      have q3 : lo ≤ hi ∧ hi ≤ n := by omega
      clear p1 p2 p3 p4 elo ehi c0
      refine wpS_bind (wpS_mono (wpS_forRange (I := fun i c st'' => ∃ lo hi, c = (none, lo, hi) ∧ st'' = st' ∧ (∀ i, i < lo → b i = true) ∧ (∀ i, hi ≤ i → i < n → b i = false) ∧ lo ≤ hi ∧ hi ≤ n ∧ hi - lo + i ≤ n)
        (Q := fun c st'' => ∃ lo hi, c = (none, lo, hi) ∧ st'' = st' ∧ (∀ i, i < lo → b i = true) ∧ (∀ i, hi ≤ i → i < n → b i = false) ∧ lo = hi ∧ hi ≤ n) ?_ ?_ ⟨lo, hi, rfl, rfl, q1, q2, q3.1, q3.2, by omega⟩) ?_)
      · rintro i c st'' _ hi ⟨lo, hi, rfl, rfl, p1, p2, p3, p4, p5⟩
        dsimp only
        by_cases d : lo ≥ hi
        · rw [if_pos d]
          exact wpS_pure ⟨lo, hi, rfl, rfl, p1, p2, by omega, p4⟩
        · rw [if_neg d]
          obtain ⟨x1, k1, k2, k3⟩ := hb (lo + (hi - lo) / 2) (by omega)
          refine wpS_bind (r_bey H hk uk k1 k2 ?_)
          rw [k3]
          cases c1 : b (lo + (hi - lo) / 2) with
          | true => exact wpS_pure ⟨lo + (hi - lo) / 2 + 1, hi, rfl, rfl, fun i hi' => hm i _ (by omega) (by omega) c1, p2, by omega, p4, by omega⟩
          | false => exact wpS_pure ⟨lo, lo + (hi - lo) / 2, rfl, rfl, p1, fun i h1 h2 => hf _ i h1 h2 c1, by omega, by omega, by omega⟩
      · rintro c st'' ⟨lo, hi, rfl, rfl, p1, p2, p3, p4, p5⟩
        exact ⟨lo, hi, rfl, rfl, p1, p2, by omega, p4⟩
      · rintro c st'' ⟨lo, hi, rfl, rfl, p1, p2, rfl, p4⟩
        exact wpS_pure (h lo p4 p1 p2)
end
end SR
end L2

namespace L2
open PySem PySem.W PyProof.Rows
namespace SR
/-! ### two sorted lists made one: mathematics -/
section
variable {L : Keyed → Keyed → Bool} {la lb out ro : List Keyed} {ia ib na nb k : Nat}
/-- not after -/
noncomputable abbrev Le (L : Keyed → Keyed → Bool) (x y : Keyed) : Prop := L y x = false
noncomputable abbrev Inc (L : Keyed → Keyed → Bool) (l : List Keyed) : Prop := l.Pairwise (Le L)
theorem Le.of_lt (O : TO L) {x y : Keyed} (h : L x y = true) : Le L x y := O.as_ h
theorem Le.trans (O : TO L) {x y z : Keyed} (h : Le L x y) (g : Le L y z) : Le L x z := O.tr h g
theorem Inc.le (S : Inc L la) {i j : Nat} {x y : Keyed} (hi : la[i]? = some x) (hj : la[j]? = some y) (h : i < j) : Le L x y := by
  obtain ⟨h1, e1⟩ := List.getElem?_eq_some_iff.mp hi
  obtain ⟨h2, e2⟩ := List.getElem?_eq_some_iff.mp hj
  have := List.pairwise_iff_getElem.mp S i j h1 h2 h
  rw [e1, e2] at this
  exact this
theorem irr (O : TO L) (x : Keyed) : Le L x x := by
  show L x x = false
  cases c : L x x with
  | false => rfl
  | true => have := O.as_ c; rw [c] at this; exact this
theorem Inc.le' (O : TO L) (S : Inc L la) {i j : Nat} {x y : Keyed} (hi : la[i]? = some x) (hj : la[j]? = some y) (h : i ≤ j) : Le L x y := by
  rcases Nat.lt_or_ge i j with c | c
  · exact S.le hi hj c
  · have : i = j := by omega
    subst this
    rw [hi] at hj
    cases hj
    exact irr O x
theorem mem_drop {l : List Keyed} {i : Nat} {y : Keyed} (h : y ∈ l.drop i) : ∃ j, i ≤ j ∧ l[j]? = some y := by
  obtain ⟨j, hj⟩ := List.mem_iff_getElem?.mp h
  rw [List.getElem?_drop] at hj
  exact ⟨i + j, by omega, hj⟩
theorem mem_take {l : List Keyed} {n : Nat} {y : Keyed} (h : y ∈ l.take n) : ∃ j, j < n ∧ l[j]? = some y := by
  obtain ⟨j, hj⟩ := List.mem_iff_getElem?.mp h
  rw [List.getElem?_take] at hj
  split at hj
  · exact ⟨j, by assumption, hj⟩
  · cases hj
structure LI (L : Keyed → Keyed → Bool) (la lb out : List Keyed) (ia ib : Nat) : Prop where
  perm : out.Perm (la.take ia ++ lb.take ib)
  srt : Inc L out
  ha : ∀ x ∈ out, ∀ y ∈ la.drop ia, Le L x y
  hb : ∀ x ∈ out, ∀ y ∈ lb.drop ib, Le L x y
theorem LI.swap (I : LI L la lb out ia ib) : LI L lb la out ib ia := ⟨I.perm.trans List.perm_append_comm, I.srt, I.hb, I.ha⟩
theorem LI.take (Sa : Inc L la) (I : LI L la lb out ia ib) (k : Nat) (h : ∀ x ∈ (la.drop ia).take k, ∀ y ∈ lb.drop ib, Le L x y) : LI L la lb (out ++ (la.drop ia).take k) (ia + k) ib := by
  have sd : Inc L (la.drop ia) := List.Pairwise.sublist (List.drop_sublist ..) Sa
  have sc : Inc L ((la.drop ia).take k ++ (la.drop ia).drop k) := by rw [List.take_append_drop]; exact sd
  have sp := List.pairwise_append.mp sc
  refine ⟨?_, List.pairwise_append.mpr ⟨I.srt, sp.1, fun x hx y hy => I.ha x hx y (List.mem_of_mem_take hy)⟩, fun x hx y hy => ?_, fun x hx y hy => ?_⟩
  · rw [List.take_add]
    refine (I.perm.append_right _).trans ?_
    rw [List.append_assoc, List.append_assoc]
    exact List.Perm.append_left _ List.perm_append_comm
  · rw [← List.drop_drop] at hy
    rcases List.mem_append.mp hx with hx | hx
    · exact I.ha x hx y (List.mem_of_mem_drop hy)
    · exact sp.2.2 x hx y hy
  · rcases List.mem_append.mp hx with hx | hx
    · exact I.hb x hx y hy
    · exact h x hx y hy
theorem LI.fin (Sa : Inc L la) (Sb : Inc L lb) (I : LI L la lb out ia ib) (h : ∀ x ∈ la.drop ia, ∀ y ∈ lb.drop ib, Le L x y) : (out ++ la.drop ia ++ lb.drop ib).Perm (la ++ lb) ∧ Inc L (out ++ la.drop ia ++ lb.drop ib) := by
  have J := I.take Sa (la.length - ia) fun x hx y hy => h x (List.mem_of_mem_take hx) y hy
  have e1 : (la.drop ia).take (la.length - ia) = la.drop ia := List.take_of_length_le (by simp)
  rw [e1] at J
  have J2 := J.swap.take Sb (lb.length - ib) fun x hx y hy => by
    rw [List.drop_eq_nil_of_le (by omega)] at hy; cases hy
  rw [List.take_of_length_le (by simp)] at J2
  refine ⟨J2.perm.trans ?_, J2.srt⟩
  rw [List.take_of_length_le (by omega), List.take_of_length_le (by omega)]
  exact List.perm_append_comm
structure HI (L : Keyed → Keyed → Bool) (la lb ro : List Keyed) (na nb : Nat) : Prop where
  perm : ro.Perm (la.drop na ++ lb.drop nb)
  srt : Inc L ro
  ha : ∀ x ∈ la.take na, ∀ y ∈ ro, Le L x y
  hb : ∀ x ∈ lb.take nb, ∀ y ∈ ro, Le L x y
theorem HI.swap (I : HI L la lb ro na nb) : HI L lb la ro nb na := ⟨I.perm.trans List.perm_append_comm, I.srt, I.hb, I.ha⟩
theorem HI.drop (Sa : Inc L la) (I : HI L la lb ro na nb) (k : Nat) (hk : k ≤ na) (h : ∀ x ∈ lb.take nb, ∀ y ∈ (la.take na).drop k, Le L x y) : HI L la lb ((la.take na).drop k ++ ro) k nb := by
  have sd : Inc L (la.take na) := List.Pairwise.sublist (List.take_sublist ..) Sa
  have sc : Inc L ((la.take na).take k ++ (la.take na).drop k) := by rw [List.take_append_drop]; exact sd
  have sp := List.pairwise_append.mp sc
  have ek : (la.take na).take k = la.take k := by rw [List.take_take, Nat.min_eq_left hk]
  refine ⟨?_, List.pairwise_append.mpr ⟨sp.2.1, I.srt, fun x hx y hy => I.ha x (List.mem_of_mem_drop hx) y hy⟩, fun x hx y hy => ?_, fun x hx y hy => ?_⟩
  · have e : la.drop k = (la.take na).drop k ++ la.drop na := by
      rcases Nat.lt_or_ge la.length na with c | c
      · rw [List.take_of_length_le (by omega), List.drop_eq_nil_of_le (i := na) (by omega), List.append_nil]
      · conv => lhs; rw [← List.take_append_drop na la]
        rw [List.drop_append_of_le_length (by rw [List.length_take]; omega)]
    rw [e, List.append_assoc]
    exact I.perm.append_left _
  · rw [← ek] at hx
    rcases List.mem_append.mp hy with hy | hy
    · exact sp.2.2 x hx y hy
    · exact I.ha x (List.mem_of_mem_take hx) y hy
  · rcases List.mem_append.mp hy with hy | hy
    · exact h x hx y hy
    · exact I.hb x hx y hy
theorem HI.fin (Sa : Inc L la) (Sb : Inc L lb) (I : HI L la lb ro na nb) (h : ∀ x ∈ la.take na, ∀ y ∈ lb.take nb, Le L x y) : (la.take na ++ lb.take nb ++ ro).Perm (la ++ lb) ∧ Inc L (la.take na ++ lb.take nb ++ ro) := by
  have J := I.swap.drop Sb 0 (Nat.zero_le _) fun x hx y hy => h x hx y (List.mem_of_mem_drop hy)
  have J2 := J.swap.drop Sa 0 (Nat.zero_le _) fun x hx y hy => by rw [List.take_zero] at hx; cases hx
  rw [List.drop_zero, List.drop_zero] at J2
  rw [List.append_assoc]
  refine ⟨J2.perm.trans ?_, J2.srt⟩
  rw [List.drop_zero, List.drop_zero]
end
end SR
end L2

namespace L2
open PySem PySem.W PyProof.Rows
namespace SR
section
variable {L : Keyed → Keyed → Bool} {a b out : Array Keyed} {ia ib k : Nat} {x y : Keyed}
/-- what merging leaves alone -/
structure Kp (st st' : SortSt) : Prop where
  kind : kindOf st' = kindOf st
  arr : arrOf st' = arrOf st
  pend : pendingOf st' = pendingOf st
  failed : failedOf st' = failedOf st
theorem Kp.refl (st : SortSt) : Kp st st := ⟨rfl, rfl, rfl, rfl⟩
theorem ex_toList {a : Array Keyed} {i j : Nat} : (a.extract i j).toList = (a.toList.drop i).take (j - i) := by
  simp
theorem ex_all {a : Array Keyed} {i : Nat} : (a.extract i a.size).toList = a.toList.drop i := by
  rw [ex_toList]; exact List.take_of_length_le (by simp)
theorem get_l {a : Array Keyed} {i : Nat} : a.toList[i]? = a[i]? := by simp
theorem take1 (h : a[ia]? = some x) : (a.toList.drop ia).take 1 = [x] := by
  rw [← get_l] at h
  obtain ⟨h1, h2⟩ := List.getElem?_eq_some_iff.mp h
  rw [List.drop_eq_getElem_cons h1, h2]
  rfl
theorem up (O : TO L) (Sa : Inc L a.toList) (h : a[ia]? = some x) (g : Le L y x) : ∀ z ∈ a.toList.drop ia, Le L y z := fun z hz => by
  obtain ⟨j, hj, ej⟩ := mem_drop hz
  rw [← get_l] at h
  exact g.trans O (Sa.le' O h ej hj)
noncomputable abbrev Fin (L : Keyed → Keyed → Bool) (a b r : Array Keyed) : Prop := r.toList.Perm (a.toList ++ b.toList) ∧ Inc L r.toList
noncomputable abbrev Lo (L : Keyed → Keyed → Bool) (a b out : Array Keyed) (ia ib : Nat) : Prop := LI L a.toList b.toList out.toList ia ib
theorem Lo.pushA (Sa : Inc L a.toList) (I : Lo L a b out ia ib) (h : a[ia]? = some x) (g : ∀ y ∈ b.toList.drop ib, Le L x y) : Lo L a b (out.push x) (ia + 1) ib := by
  have := LI.take Sa I 1 (by rw [take1 h]; intro z hz; rw [List.mem_singleton] at hz; rw [hz]; exact g)
  rw [take1 h] at this
  show LI L a.toList b.toList (out.push x).toList _ _
  rw [Array.toList_push]
  exact this
theorem Lo.pushB (Sb : Inc L b.toList) (I : Lo L a b out ia ib) (h : b[ib]? = some y) (g : ∀ x ∈ a.toList.drop ia, Le L y x) : Lo L a b (out.push y) ia (ib + 1) := (Lo.pushA (a := b) (b := a) Sb I.swap h g).swap
theorem Lo.chunkA (Sa : Inc L a.toList) (I : Lo L a b out ia ib) (k : Nat) (g : ∀ i x, i < k → a[ia + i]? = some x → ∀ y ∈ b.toList.drop ib, Le L x y) : Lo L a b (out ++ a.extract ia (ia + k)) (ia + k) ib := by
  have := LI.take Sa I k (fun x hx => by
    obtain ⟨j, hj, ej⟩ := mem_take hx
    rw [List.getElem?_drop, get_l] at ej
    exact g j x hj ej)
  show LI L a.toList b.toList (out ++ a.extract ia (ia + k)).toList _ _
  rw [Array.toList_append, ex_toList, Nat.add_sub_cancel_left]
  exact this
theorem Lo.chunkB (Sb : Inc L b.toList) (I : Lo L a b out ia ib) (k : Nat) (g : ∀ i y, i < k → b[ib + i]? = some y → ∀ x ∈ a.toList.drop ia, Le L y x) : Lo L a b (out ++ b.extract ib (ib + k)) ia (ib + k) := (Lo.chunkA (a := b) (b := a) Sb I.swap k g).swap
theorem Lo.done (Sa : Inc L a.toList) (Sb : Inc L b.toList) (I : Lo L a b out ia ib) (h : ia = a.size ∨ ib = b.size) : Fin L a b (out ++ a.extract ia a.size ++ b.extract ib b.size) := by
  have := LI.fin Sa Sb I fun x hx y hy => by
    rcases h with h | h
    · rw [h, List.drop_eq_nil_of_le (by simp)] at hx; cases hx
    · rw [h, List.drop_eq_nil_of_le (by simp)] at hy; cases hy
  unfold Fin
  rw [Array.toList_append, Array.toList_append, ex_all, ex_all]
  exact this
theorem Lo.last (Sa : Inc L a.toList) (Sb : Inc L b.toList) (h1 : ∀ y ∈ b.toList, ∀ x, a[a.size - 1]? = some x → Le L y x) (I : Lo L a b out ia ib) (h : ia + 1 = a.size) : Fin L a b (out ++ b.extract ib b.size ++ a.extract ia a.size) := by
  have := LI.fin Sb Sa I.swap fun y hy x hx => by
    obtain ⟨j, hj, ej⟩ := mem_drop hx
    have hl := (List.getElem?_eq_some_iff.mp ej).1
    rw [Array.length_toList] at hl
    rw [get_l] at ej
    exact h1 y (List.mem_of_mem_drop hy) x (by rw [← ej]; congr 1; omega)
  unfold Fin
  rw [Array.toList_append, Array.toList_append, ex_all, ex_all]
  exact ⟨this.1.trans List.perm_append_comm, this.2⟩
end
section
variable {prog : Program} {w : World} {A : Around} {E : Value → Shared → Prop} {s : Shared} {κ : SortKind} {U : Keyed → Prop} {L : Keyed → Keyed → Bool}
/-- how many do not come after the key -/
theorem r_right (O : TO L) (H : Asked prog w A s κ U L) {key : Keyed} {a : Array Keyed} {ia hint n : Nat} {Q : Option Nat → SortSt → Prop} {st : SortSt} (hk : kindOf st = κ) (uk : U key) (ua : ∀ x ∈ a.toList, U x) (hn : ia + n ≤ a.size)
    (Sa : ∀ i j x y, i ≤ j → j < n → a[ia + i]? = some x → a[ia + j]? = some y → Le L x y) (hh : hint < n)
    (h : ∀ k, k ≤ n → (∀ i x, i < k → a[ia + i]? = some x → Le L x key) → (∀ i x, k ≤ i → i < n → a[ia + i]? = some x → L key x = true) → Q (some k) st) : wpS (model prog w) A E s (gall false key a ia n hint) Q st := by
  have at_ : ∀ i, i < n → ∃ x, a[ia + i]? = some x ∧ U x := fun i hi => ⟨a[ia + i], Array.getElem?_eq_getElem (by omega), ua _ (by simp)⟩
  refine r_gall H (b := fun i => match a[ia + i]? with | some x => !(L key x) | none => false) hk uk (fun i hi => ?_) (fun i j hij hj hb => ?_) hh fun k hk1 hk2 hk3 => h k hk1 (fun i x hi ex => ?_) fun i x h1 h2 ex => ?_
  · obtain ⟨x, ex, ux⟩ := at_ i hi
    refine ⟨x, ex, ux, ?_⟩
    rw [if_neg Bool.false_ne_true, ex]
  · obtain ⟨x, ex, _⟩ := at_ i (by omega)
    obtain ⟨y, ey, _⟩ := at_ j hj
    try dsimp only at hb ⊢
    rw [ey] at hb
    rw [ex]
    have h1 : L key y = false := by simpa using hb
    have h2 : L key x = false := (Sa i j x y hij hj ex ey).trans O h1
    dsimp only
    rw [h2]
    rfl
  · have := hk2 i hi
    try dsimp only at this
    rw [ex] at this
    simpa using this
  · have := hk3 i h1 h2
    try dsimp only at this
    rw [ex] at this
    simpa using this
/-- how many come ahead of the key -/
theorem r_left (O : TO L) (H : Asked prog w A s κ U L) {key : Keyed} {a : Array Keyed} {ia hint n : Nat} {Q : Option Nat → SortSt → Prop} {st : SortSt} (hk : kindOf st = κ) (uk : U key) (ua : ∀ x ∈ a.toList, U x) (hn : ia + n ≤ a.size)
    (Sa : ∀ i j x y, i ≤ j → j < n → a[ia + i]? = some x → a[ia + j]? = some y → Le L x y) (hh : hint < n)
    (h : ∀ k, k ≤ n → (∀ i x, i < k → a[ia + i]? = some x → L x key = true) → (∀ i x, k ≤ i → i < n → a[ia + i]? = some x → Le L key x) → Q (some k) st) : wpS (model prog w) A E s (gall true key a ia n hint) Q st := by
  have at_ : ∀ i, i < n → ∃ x, a[ia + i]? = some x ∧ U x := fun i hi => ⟨a[ia + i], Array.getElem?_eq_getElem (by omega), ua _ (by simp)⟩
  refine r_gall H (b := fun i => match a[ia + i]? with | some x => L x key | none => false) hk uk (fun i hi => ?_) (fun i j hij hj hb => ?_) hh fun k hk1 hk2 hk3 => h k hk1 (fun i x hi ex => ?_) fun i x h1 h2 ex => ?_
  · obtain ⟨x, ex, ux⟩ := at_ i hi
    refine ⟨x, ex, ux, ?_⟩
    rw [if_pos rfl, ex]
  · obtain ⟨x, ex, _⟩ := at_ i (by omega)
    obtain ⟨y, ey, _⟩ := at_ j hj
    try dsimp only at hb ⊢
    rw [ey] at hb
    rw [ex]
    try dsimp only at hb ⊢
    cases c : L x key with
    | true => rfl
    | false =>
      have c' : Le L key x := c
      have := c'.trans O (Sa i j x y hij hj ex ey)
      rw [show L y key = false from this] at hb
      exact hb
  · have := hk2 i hi
    try dsimp only at this
    rw [ex] at this
    exact this
  · have := hk3 i h1 h2
    try dsimp only at this
    rw [ex] at this
    exact this
theorem sub_inc (O : TO L) {a : Array Keyed} (Sa : Inc L a.toList) {ia n : Nat} : ∀ i j x y, i ≤ j → j < n → a[ia + i]? = some x → a[ia + j]? = some y → Le L x y := fun i j x y hij hj ex ey =>
  Sa.le' O (by rw [get_l]; exact ex) (by rw [get_l]; exact ey) (by omega)
end
end SR
end L2

set_option maxHeartbeats 1000000
namespace L2
open PySem PySem.W PyProof.Rows
namespace SR
section
variable {prog : Program} {w : World} {A : Around} {E : Value → Shared → Prop} {s : Shared} {κ : SortKind} {U : Keyed → Prop} {L : Keyed → Keyed → Bool}
theorem r_mLo (O : TO L) (H : Asked prog w A s κ U L) {a b : Array Keyed} {Q : Array Keyed → SortSt → Prop} {st : SortSt} (hk : kindOf st = κ) (ua : ∀ x ∈ a.toList, U x) (ub : ∀ x ∈ b.toList, U x)
    (Sa : Inc L a.toList) (Sb : Inc L b.toList) (a1 : 1 ≤ a.size) (b1 : 1 ≤ b.size) (h0 : ∀ x ∈ a.toList, ∀ y, b[0]? = some y → Le L y x) (h1 : ∀ y ∈ b.toList, ∀ x, a[a.size - 1]? = some x → Le L y x)
    (h : ∀ out st', Kp st st' → Fin L a b out → Q out st') : wpS (model prog w) A E s (mLo a b) Q st := by
  have atA : ∀ i, i < a.size → ∃ x, a[i]? = some x ∧ U x := fun i hi => ⟨a[i], Array.getElem?_eq_getElem hi, ua _ (by simp)⟩
  have atB : ∀ i, i < b.size → ∃ x, b[i]? = some x ∧ U x := fun i hi => ⟨b[i], Array.getElem?_eq_getElem hi, ub _ (by simp)⟩
  refine wpS_bind (r_rule ?_)
  dsimp only
  obtain ⟨y0, e0⟩ : ∃ y, b[0]? = some y := ⟨_, Array.getElem?_eq_getElem (by omega)⟩
  refine wpS_bind (r_elem e0 ?_)
  have I0 : Lo L a b #[y0] 0 1 := by
    have z : Lo L a b #[] 0 0 := ⟨by simp, List.Pairwise.nil, fun x hx => by simp at hx, fun x hx => by simp at hx⟩
    exact Lo.pushB Sb z e0 fun x hx => h0 x (by simpa using hx) y0 e0
  by_cases d1 : (1 == b.size) = true
  · rw [if_pos d1]
    exact wpS_pure (h _ st (Kp.refl _) (I0.done Sa Sb (.inr (by simpa using d1))))
  rw [if_neg d1]
  by_cases d2 : (0 + 1 == a.size) = true
  · rw [if_pos d2]
    exact wpS_pure (h _ st (Kp.refl _) (I0.last Sa Sb h1 (by simpa using d2)))
  rw [if_neg d2]
  have d1' : 1 ≠ b.size := by simpa using d1
  have d2' : 1 ≠ a.size := by simpa using d2
  refine wpS_bind (wpS_get ?_)
  refine wpS_bind (wpS_mono (wpS_forRange (I := fun i c st' => ∃ out ia ib mg, c = (none, out, ia, ib, mg) ∧ Kp st st' ∧ Lo L a b out ia ib ∧ ia + 1 < a.size ∧ ib < b.size ∧ i + 1 ≤ ia + ib)
    (Q := fun c st' => ∃ r z, c = (some r, z) ∧ Kp st st' ∧ Fin L a b r) ?step ?fin ⟨#[y0], 0, 1, _, rfl, Kp.refl _, I0, by omega, by omega, by omega⟩) ?post)
  case fin =>
    rintro c st' ⟨out, ia, ib, mg, rfl, _, _, p1, p2, p3⟩
    omega
  case post =>
    rintro c st' ⟨r, z, rfl, K, F⟩
    exact wpS_pure (h r st' K F)
  case step =>
    rintro i c st1 _ hi ⟨out, ia, ib, mg, rfl, K1, I1, p1, p2, p3⟩
    dsimp only
    refine wpS_bind (wpS_mono (wpS_forRange (I := fun j c st' => ∃ out ia' ib' ac bc, c = (none, out, ia', ib', ac, bc) ∧ st' = st1 ∧ Lo L a b out ia' ib' ∧ ia' + 1 < a.size ∧ ib' < b.size ∧ ia + ib + j ≤ ia' + ib')
      (Q := fun c st' => st' = st1 ∧ ((∃ r z, c = (some r, z) ∧ Fin L a b r) ∨ ∃ out ia' ib' ac bc, c = (none, out, ia', ib', ac, bc) ∧ Lo L a b out ia' ib' ∧ ia' + 1 < a.size ∧ ib' < b.size ∧ ia + ib + 1 ≤ ia' + ib')) ?step1 ?fin1 ⟨out, ia, ib, 0, 0, rfl, rfl, I1, p1, p2, by omega⟩) ?post1)
    case fin1 =>
      rintro c st' ⟨out, ia', ib', ac, bc, rfl, rfl, I, q1, q2, q3⟩
      exact ⟨rfl, .inr ⟨out, ia', ib', ac, bc, rfl, I, q1, q2, by omega⟩⟩
    case step1 =>
      rintro j c st' _ hj ⟨out, ia', ib', ac, bc, rfl, rfl, I, q1, q2, q3⟩
      dsimp only
      obtain ⟨xa, ea, uxa⟩ := atA ia' (by omega)
      obtain ⟨xb, eb, uxb⟩ := atB ib' q2
      refine wpS_bind (r_elem eb (wpS_bind (r_elem ea (wpS_bind (r_lt H (K1.kind.trans hk) uxb uxa ?_)))))
      cases c : L xb xa with
      | true =>
        have J := Lo.pushB Sb I eb (up O Sa ea (Le.of_lt O c))
        refine wpS_bind (r_elem eb ?_)
        by_cases d : (ib' + 1 == b.size) = true
        · rw [if_pos d]
          exact wpS_pure ⟨rfl, .inl ⟨_, _, rfl, J.done Sa Sb (.inr (by simpa using d))⟩⟩
        · rw [if_neg d]
          have d' : ib' + 1 ≠ b.size := by simpa using d
          split
          · exact wpS_pure ⟨rfl, .inr ⟨_, _, _, _, _, rfl, J, q1, by omega, by omega⟩⟩
          · exact wpS_pure ⟨_, _, _, _, _, rfl, rfl, J, q1, by omega, by omega⟩
      | false =>
        have J := Lo.pushA Sa I ea (up O Sb eb c)
        refine wpS_bind (r_elem ea ?_)
        by_cases d : (ia' + 1 + 1 == a.size) = true
        · rw [if_pos d]
          exact wpS_pure ⟨rfl, .inl ⟨_, _, rfl, J.last Sa Sb h1 (by simpa using d)⟩⟩
        · rw [if_neg d]
          have d' : ia' + 1 + 1 ≠ a.size := by simpa using d
          split
          · exact wpS_pure ⟨rfl, .inr ⟨_, _, _, _, _, rfl, J, by omega, q2, by omega⟩⟩
          · exact wpS_pure ⟨_, _, _, _, _, rfl, rfl, J, by omega, q2, by omega⟩
    case post1 =>
      rintro c st' ⟨rfl, ⟨r, ⟨z1, z2, z3, z4, z5⟩, rfl, F⟩ | ⟨out, ia', ib', ac, bc, rfl, I2, q1, q2, q3⟩⟩
      · exact wpS_pure ⟨r, _, rfl, K1, F⟩
      · dsimp only
        refine wpS_bind (r_rule ?_)
        refine wpS_bind (wpS_mono (wpS_forRange (I := fun j c st' => ∃ out ja jb mg ac bc, c = (none, out, ja, jb, mg, ac, bc) ∧ Kp st st' ∧ Lo L a b out ja jb ∧ ja + 1 < a.size ∧ jb < b.size ∧ ia' + ib' ≤ ja + jb)
          (Q := fun c st' => Kp st st' ∧ ((∃ r z, c = (some r, z) ∧ Fin L a b r) ∨ ∃ out ja jb mg ac bc, c = (none, out, ja, jb, mg, ac, bc) ∧ Lo L a b out ja jb ∧ ja + 1 < a.size ∧ jb < b.size ∧ ia' + ib' ≤ ja + jb)) ?step2 ?fin2 ⟨out, ia', ib', _, ac, bc, rfl, K1, I2, q1, q2, Nat.le_refl _⟩) ?post2)
        case fin2 =>
          rintro c st' ⟨out, ja, jb, mg, ac, bc, rfl, K, I, r1, r2, r3⟩
          exact ⟨K, .inr ⟨out, ja, jb, mg, ac, bc, rfl, I, r1, r2, r3⟩⟩
        case post2 =>
          rintro c st' ⟨K, ⟨r, ⟨z1, z2, z3, z4, z5, z6⟩, rfl, F⟩ | ⟨out, ja, jb, mg, ac, bc, rfl, I, r1, r2, r3⟩⟩
          · exact wpS_pure ⟨r, _, rfl, K, F⟩
          · dsimp only
            exact wpS_bind (wpS_modify (wpS_pure ⟨out, ja, jb, _, rfl, ⟨K.kind, K.arr, K.pend, K.failed⟩, I, r1, r2, by omega⟩))
        case step2 =>
          rintro j c st' _ hj ⟨out, ja, jb, mg, ac, bc, rfl, K, I, r1, r2, r3⟩
          dsimp only
          obtain ⟨xb, eb, uxb⟩ := atB jb r2
          by_cases cg : mg > 1
          case' pos => rw [if_pos cg]
          case' neg => rw [if_neg cg]
          all_goals
            refine wpS_bind (wpS_modify (wpS_bind (r_elem eb ?_)))
            refine wpS_bind (r_right O H (K.kind.trans hk) uxb ua (by omega) (sub_inc O Sa) (by omega) fun k k1 k2 k3 => ?_)
            dsimp only
            have up_b : ∀ y ∈ b.toList.drop jb, Le L xb y := up O Sb eb (irr O xb)
            by_cases ck : k > 0
            case' pos =>
              rw [if_pos ck]
              have J := Lo.chunkA Sa I k fun i x hi ex y hy => (k2 i x hi ex).trans O (up_b y hy)
              by_cases d : (ja + k + 1 == a.size) = true
              · rw [if_pos d]
                exact wpS_pure ⟨⟨K.kind, K.arr, K.pend, K.failed⟩, .inl ⟨_, _, rfl, J.last Sa Sb h1 (by simpa using d)⟩⟩
              rw [if_neg d]
              by_cases e : (ja + k == a.size) = true
              · rw [if_pos e]
                exact wpS_pure ⟨⟨K.kind, K.arr, K.pend, K.failed⟩, .inl ⟨_, _, rfl, J.done Sa Sb (.inl (by simpa using e))⟩⟩
              rw [if_neg e]
              have f2 : ja + k + 1 < a.size := by
                have d' : ja + k + 1 ≠ a.size := by simpa using d
                have e' : ja + k ≠ a.size := by simpa using e
                omega
              have g2 : ∀ x ∈ a.toList.drop (ja + k), Le L xb x := by
                obtain ⟨xx, ex, _⟩ := atA (ja + k) (by omega)
                exact up O Sa ex (Le.of_lt O (k3 k xx (Nat.le_refl _) (by omega) ex))
              have r3' : ia' + ib' ≤ ja + k + jb := by omega
              clear d e k2 k3 k1
              generalize out ++ a.extract ja (ja + k) = out2 at J ⊢
              generalize ja + k = ja2 at J f2 g2 r3' ⊢
            case' neg =>
              rw [if_neg ck]
              have J := I
              have f2 := r1
              have g2 : ∀ x ∈ a.toList.drop ja, Le L xb x := by
                obtain ⟨xx, ex, _⟩ := atA ja (by omega)
                exact up O Sa ex (Le.of_lt O (k3 0 xx (by omega) (by omega) ex))
              have r3' := r3
              clear k2 k3 k1
              generalize out = out2 at J ⊢
              generalize ja = ja2 at J f2 g2 r3' ⊢
            all_goals
              refine wpS_bind (r_elem eb ?_)
              have J2 := Lo.pushB Sb J eb g2
              clear J g2
              by_cases d : (jb + 1 == b.size) = true
              · rw [if_pos d]
                exact wpS_pure ⟨⟨K.kind, K.arr, K.pend, K.failed⟩, .inl ⟨_, _, rfl, J2.done Sa Sb (.inr (by simpa using d))⟩⟩
              rw [if_neg d]
              have d' : jb + 1 ≠ b.size := by simpa using d
              obtain ⟨xa, ea, uxa⟩ := atA ja2 (by omega)
              refine wpS_bind (r_elem ea ?_)
              refine wpS_bind (r_left O H (K.kind.trans hk) uxa ub (by omega) (sub_inc O Sb) (by omega) fun m m1 m2 m3 => ?_)
              dsimp only
              have up_a : ∀ y ∈ a.toList.drop ja2, Le L xa y := up O Sa ea (irr O xa)
              generalize out2.push xb = out3 at J2 ⊢
              by_cases cm : m > 0
              case' pos =>
                rw [if_pos cm]
                have J3 := Lo.chunkB Sb J2 m fun i y hi ey x hx => (Le.of_lt O (m2 i y hi ey)).trans O (up_a x hx)
                by_cases d : (jb + 1 + m == b.size) = true
                · rw [if_pos d]
                  exact wpS_pure ⟨⟨K.kind, K.arr, K.pend, K.failed⟩, .inl ⟨_, _, rfl, J3.done Sa Sb (.inr (by simpa using d))⟩⟩
                rw [if_neg d]
                have f3 : jb + 1 + m < b.size := by
                  have d' : jb + 1 + m ≠ b.size := by simpa using d
                  omega
                have g3 : ∀ y ∈ b.toList.drop (jb + 1 + m), Le L xa y := by
                  obtain ⟨xx, ex, _⟩ := atB (jb + 1 + m) (by omega)
                  exact up O Sb ex (m3 m xx (Nat.le_refl _) (by omega) ex)
                have r4 : ia' + ib' ≤ ja2 + (jb + 1 + m) := by omega
                generalize out3 ++ b.extract (jb + 1) (jb + 1 + m) = out4 at J3 ⊢
                generalize jb + 1 + m = jb2 at J3 f3 g3 r4 ⊢
              case' neg =>
                rw [if_neg cm]
                have J3 := J2
                have f3 : jb + 1 < b.size := by omega
                have g3 : ∀ y ∈ b.toList.drop (jb + 1), Le L xa y := by
                  obtain ⟨xx, ex, _⟩ := atB (jb + 1) (by omega)
                  exact up O Sb ex (m3 0 xx (by omega) (by omega) ex)
                have r4 : ia' + ib' ≤ ja2 + (jb + 1) := by omega
                generalize out3 = out4 at J3 ⊢
                generalize jb + 1 = jb2 at J3 f3 g3 r4 ⊢
              all_goals
                refine wpS_bind (r_elem ea ?_)
                have J4 := Lo.pushA Sa J3 ea g3
                by_cases d : (ja2 + 1 + 1 == a.size) = true
                · rw [if_pos d]
                  exact wpS_pure ⟨⟨K.kind, K.arr, K.pend, K.failed⟩, .inl ⟨_, _, rfl, J4.last Sa Sb h1 (by simpa using d)⟩⟩
                rw [if_neg d]
                have d' : ja2 + 1 + 1 ≠ a.size := by simpa using d
                split
                · exact wpS_pure ⟨⟨K.kind, K.arr, K.pend, K.failed⟩, .inr ⟨_, _, _, _, _, _, rfl, J4, by omega, f3, by omega⟩⟩
                · exact wpS_pure ⟨_, _, _, _, _, _, rfl, ⟨K.kind, K.arr, K.pend, K.failed⟩, J4, by omega, f3, by omega⟩
end
end SR
end L2

set_option maxHeartbeats 1000000
namespace L2
open PySem PySem.W PyProof.Rows
namespace SR
section
variable {L : Keyed → Keyed → Bool} {a b out : Array Keyed} {na nb k : Nat} {x y : Keyed}
theorem dn (O : TO L) (Sa : Inc L a.toList) (h : a[na - 1]? = some x) (g : Le L x y) : ∀ z ∈ a.toList.take na, Le L z y := fun z hz => by
  obtain ⟨j, hj, ej⟩ := mem_take hz
  rw [← get_l] at h
  exact (Sa.le' O ej h (by omega)).trans O g
theorem drop1 (hn : 1 ≤ na) (h : a[na - 1]? = some x) : (a.toList.take na).drop (na - 1) = [x] := by
  rw [← get_l] at h
  obtain ⟨h1, h2⟩ := List.getElem?_eq_some_iff.mp h
  have e : na = (na - 1) + 1 := by omega
  rw [show a.toList.take na = a.toList.take ((na - 1) + 1) by rw [← e], List.take_add_one, h, List.drop_append_of_le_length (by rw [List.length_take]; omega), List.drop_eq_nil_of_le (by rw [List.length_take]; omega)]
  rfl
noncomputable abbrev Hi (L : Keyed → Keyed → Bool) (a b out : Array Keyed) (na nb : Nat) : Prop := HI L a.toList b.toList out.toList.reverse na nb
theorem Hi.pushA (Sa : Inc L a.toList) (I : Hi L a b out na nb) (hn : 1 ≤ na) (h : a[na - 1]? = some x) (g : ∀ y ∈ b.toList.take nb, Le L y x) : Hi L a b (out.push x) (na - 1) nb := by
  have := HI.drop Sa I (na - 1) (by omega) (by rw [drop1 hn h]; intro y hy z hz; rw [List.mem_singleton] at hz; rw [hz]; exact g y hy)
  rw [drop1 hn h] at this
  show HI L a.toList b.toList (out.push x).toList.reverse _ _
  rw [Array.toList_push, List.reverse_append]
  exact this
theorem Hi.pushB (Sb : Inc L b.toList) (I : Hi L a b out na nb) (hn : 1 ≤ nb) (h : b[nb - 1]? = some y) (g : ∀ x ∈ a.toList.take na, Le L x y) : Hi L a b (out.push y) na (nb - 1) := (Hi.pushA (a := b) (b := a) Sb I.swap hn h g).swap
theorem Hi.chunkA (Sa : Inc L a.toList) (I : Hi L a b out na nb) (at_ : Nat) (h1 : at_ ≤ na) (g : ∀ i x, at_ ≤ i → i < na → a[i]? = some x → ∀ y ∈ b.toList.take nb, Le L y x) : Hi L a b (out ++ (a.extract at_ na).reverse) at_ nb := by
  have e : (a.extract at_ na).toList = (a.toList.take na).drop at_ := by rw [ex_toList, List.take_drop]; congr 2; omega
  have := HI.drop Sa I at_ h1 (fun y hy x hx => by
    obtain ⟨j, hj, ej⟩ := mem_drop hx
    rw [List.getElem?_take] at ej
    split at ej
    · rw [get_l] at ej
      exact g j x hj (by assumption) ej y hy
    · cases ej)
  show HI L a.toList b.toList (out ++ (a.extract at_ na).reverse).toList.reverse _ _
  rw [Array.toList_append, Array.toList_reverse, List.reverse_append, List.reverse_reverse, e]
  exact this
theorem Hi.chunkB (Sb : Inc L b.toList) (I : Hi L a b out na nb) (at_ : Nat) (h1 : at_ ≤ nb) (g : ∀ i y, at_ ≤ i → i < nb → b[i]? = some y → ∀ x ∈ a.toList.take na, Le L x y) : Hi L a b (out ++ (b.extract at_ nb).reverse) na at_ := (Hi.chunkA (a := b) (b := a) Sb I.swap at_ h1 g).swap
theorem ex0 {a : Array Keyed} {n : Nat} : (a.extract 0 n).toList = a.toList.take n := by rw [ex_toList]; rfl
theorem Hi.done (Sa : Inc L a.toList) (Sb : Inc L b.toList) (I : Hi L a b out na nb) (h : na = 0 ∨ nb = 0) : Fin L a b (a.extract 0 na ++ b.extract 0 nb ++ out.reverse) := by
  have := HI.fin Sa Sb I fun x hx y hy => by
    rcases h with h | h
    · rw [h] at hx; cases hx
    · rw [h] at hy; cases hy
  unfold Fin
  rw [Array.toList_append, Array.toList_append, ex0, ex0, Array.toList_reverse]
  exact this
theorem Hi.first (Sa : Inc L a.toList) (Sb : Inc L b.toList) (h0 : ∀ x ∈ a.toList, ∀ y, b[0]? = some y → Le L y x) (I : Hi L a b out na nb) (h : nb = 1) : Fin L a b (b.extract 0 nb ++ a.extract 0 na ++ out.reverse) := by
  have := HI.fin Sb Sa I.swap fun y hy x hx => by
    obtain ⟨j, hj, ej⟩ := mem_take hy
    rw [get_l] at ej
    exact h0 x (List.mem_of_mem_take hx) y (by rw [← ej]; congr 1; omega)
  unfold Fin
  rw [Array.toList_append, Array.toList_append, ex0, ex0, Array.toList_reverse]
  exact ⟨this.1.trans List.perm_append_comm, this.2⟩
end
section
variable {prog : Program} {w : World} {A : Around} {E : Value → Shared → Prop} {s : Shared} {κ : SortKind} {U : Keyed → Prop} {L : Keyed → Keyed → Bool}
theorem z_ {a : Array Keyed} {i : Nat} : a[0 + i]? = a[i]? := by rw [Nat.zero_add]
theorem r_mHi (O : TO L) (H : Asked prog w A s κ U L) {a b : Array Keyed} {Q : Array Keyed → SortSt → Prop} {st : SortSt} (hk : kindOf st = κ) (ua : ∀ x ∈ a.toList, U x) (ub : ∀ x ∈ b.toList, U x)
    (Sa : Inc L a.toList) (Sb : Inc L b.toList) (a1 : 1 ≤ a.size) (b1 : 1 ≤ b.size) (h0 : ∀ x ∈ a.toList, ∀ y, b[0]? = some y → Le L y x) (h1 : ∀ y ∈ b.toList, ∀ x, a[a.size - 1]? = some x → Le L y x)
    (h : ∀ out st', Kp st st' → Fin L a b out → Q out st') : wpS (model prog w) A E s (mHi a b) Q st := by
  have atA : ∀ i, i < a.size → ∃ x, a[i]? = some x ∧ U x := fun i hi => ⟨a[i], Array.getElem?_eq_getElem hi, ua _ (by simp)⟩
  have atB : ∀ i, i < b.size → ∃ x, b[i]? = some x ∧ U x := fun i hi => ⟨b[i], Array.getElem?_eq_getElem hi, ub _ (by simp)⟩
  refine wpS_bind (r_rule ?_)
  dsimp only
  obtain ⟨x0, e0, _⟩ := atA (a.size - 1) (by omega)
  refine wpS_bind (r_elem e0 ?_)
  have I0 : Hi L a b #[x0] (a.size - 1) b.size := by
    have z : Hi L a b #[] a.size b.size := ⟨by simp, List.Pairwise.nil, fun x hx y hy => by simp at hy, fun x hx y hy => by simp at hy⟩
    exact Hi.pushA Sa z a1 e0 fun y hy => h1 y (List.mem_of_mem_take hy) x0 e0
  by_cases d1 : (a.size - 1 == 0) = true
  · rw [if_pos d1]
    exact wpS_pure (h _ st (Kp.refl _) (I0.done Sa Sb (.inl (by simpa using d1))))
  rw [if_neg d1]
  by_cases d2 : (b.size == 1) = true
  · rw [if_pos d2]
    exact wpS_pure (h _ st (Kp.refl _) (I0.first Sa Sb h0 (by simpa using d2)))
  rw [if_neg d2]
  have d1' : a.size - 1 ≠ 0 := by simpa using d1
  have d2' : b.size ≠ 1 := by simpa using d2
  refine wpS_bind (wpS_get ?_)
  refine wpS_bind (wpS_mono (wpS_forRange (I := fun i c st' => ∃ na nb out mg, c = (none, na, nb, out, mg) ∧ Kp st st' ∧ Hi L a b out na nb ∧ 1 ≤ na ∧ na < a.size ∧ 2 ≤ nb ∧ nb ≤ b.size ∧ i + 1 ≤ (a.size - na) + (b.size - nb))
    (Q := fun c st' => ∃ r z, c = (some r, z) ∧ Kp st st' ∧ Fin L a b r) ?step ?fin ⟨_, _, _, _, rfl, Kp.refl _, I0, by omega, by omega, by omega, by omega, by omega⟩) ?post)
  case fin =>
    rintro c st' ⟨na, nb, out, mg, rfl, _, _, p1, p2, p3, p4, p5⟩
    omega
  case post =>
    rintro c st' ⟨r, z, rfl, K, F⟩
    exact wpS_pure (h r st' K F)
  case step =>
    rintro i c st1 _ hi ⟨na, nb, out, mg, rfl, K1, I1, p1, p2, p3, p4, p5⟩
    dsimp only
    refine wpS_bind (wpS_mono (wpS_forRange (I := fun j c st' => ∃ na' nb' out ac bc, c = (none, na', nb', out, ac, bc) ∧ st' = st1 ∧ Hi L a b out na' nb' ∧ 1 ≤ na' ∧ na' < a.size ∧ 2 ≤ nb' ∧ nb' ≤ b.size ∧ (a.size - na) + (b.size - nb) + j ≤ (a.size - na') + (b.size - nb'))
      (Q := fun c st' => st' = st1 ∧ ((∃ r z, c = (some r, z) ∧ Fin L a b r) ∨ ∃ na' nb' out ac bc, c = (none, na', nb', out, ac, bc) ∧ Hi L a b out na' nb' ∧ 1 ≤ na' ∧ na' < a.size ∧ 2 ≤ nb' ∧ nb' ≤ b.size ∧ (a.size - na) + (b.size - nb) + 1 ≤ (a.size - na') + (b.size - nb'))) ?step1 ?fin1 ⟨na, nb, out, 0, 0, rfl, rfl, I1, p1, p2, p3, p4, by omega⟩) ?post1)
    case fin1 =>
      rintro c st' ⟨na', nb', out, ac, bc, rfl, rfl, I, q1, q2, q3, q4, q5⟩
      exact ⟨rfl, .inr ⟨na', nb', out, ac, bc, rfl, I, q1, q2, q3, q4, by omega⟩⟩
    case step1 =>
      rintro j c st' _ hj ⟨na', nb', out, ac, bc, rfl, rfl, I, q1, q2, q3, q4, q5⟩
      dsimp only
      obtain ⟨xa, ea, uxa⟩ := atA (na' - 1) (by omega)
      obtain ⟨xb, eb, uxb⟩ := atB (nb' - 1) (by omega)
      refine wpS_bind (r_elem eb (wpS_bind (r_elem ea (wpS_bind (r_lt H (K1.kind.trans hk) uxb uxa ?_)))))
      cases c : L xb xa with
      | true =>
        have J := Hi.pushA Sa I q1 ea (dn O Sb eb (Le.of_lt O c))
        refine wpS_bind (r_elem ea ?_)
        by_cases d : (na' - 1 == 0) = true
        · rw [if_pos d]
          exact wpS_pure ⟨rfl, .inl ⟨_, _, rfl, J.done Sa Sb (.inl (by simpa using d))⟩⟩
        · rw [if_neg d]
          have d' : na' - 1 ≠ 0 := by simpa using d
          split
          · exact wpS_pure ⟨rfl, .inr ⟨_, _, _, _, _, rfl, J, by omega, by omega, q3, q4, by omega⟩⟩
          · exact wpS_pure ⟨_, _, _, _, _, rfl, rfl, J, by omega, by omega, q3, q4, by omega⟩
      | false =>
        have J := Hi.pushB Sb I (by omega) eb (dn O Sa ea c)
        refine wpS_bind (r_elem eb ?_)
        by_cases d : (nb' - 1 == 1) = true
        · rw [if_pos d]
          exact wpS_pure ⟨rfl, .inl ⟨_, _, rfl, J.first Sa Sb h0 (by simpa using d)⟩⟩
        · rw [if_neg d]
          have d' : nb' - 1 ≠ 1 := by simpa using d
          split
          · exact wpS_pure ⟨rfl, .inr ⟨_, _, _, _, _, rfl, J, q1, q2, by omega, by omega, by omega⟩⟩
          · exact wpS_pure ⟨_, _, _, _, _, rfl, rfl, J, q1, q2, by omega, by omega, by omega⟩
    case post1 =>
      rintro c st' ⟨rfl, ⟨r, ⟨z1, z2, z3, z4, z5⟩, rfl, F⟩ | ⟨na', nb', out, ac, bc, rfl, I2, q1, q2, q3, q4, q5⟩⟩
      · exact wpS_pure ⟨r, _, rfl, K1, F⟩
      · dsimp only
        refine wpS_bind (r_rule ?_)
        refine wpS_bind (wpS_mono (wpS_forRange (I := fun j c st' => ∃ ma mb out mg ac bc, c = (none, ma, mb, out, mg, ac, bc) ∧ Kp st st' ∧ Hi L a b out ma mb ∧ 1 ≤ ma ∧ ma ≤ na' ∧ 2 ≤ mb ∧ mb ≤ nb')
          (Q := fun c st' => Kp st st' ∧ ((∃ r z, c = (some r, z) ∧ Fin L a b r) ∨ ∃ ma mb out mg ac bc, c = (none, ma, mb, out, mg, ac, bc) ∧ Hi L a b out ma mb ∧ 1 ≤ ma ∧ ma ≤ na' ∧ 2 ≤ mb ∧ mb ≤ nb')) ?step2 ?fin2 ⟨na', nb', out, _, ac, bc, rfl, K1, I2, q1, Nat.le_refl _, q3, Nat.le_refl _⟩) ?post2)
        case fin2 =>
          rintro c st' ⟨ma, mb, out, mg, ac, bc, rfl, K, I, r1, r2, r3, r4⟩
          exact ⟨K, .inr ⟨ma, mb, out, mg, ac, bc, rfl, I, r1, r2, r3, r4⟩⟩
        case post2 =>
          rintro c st' ⟨K, ⟨r, ⟨z1, z2, z3, z4, z5, z6⟩, rfl, F⟩ | ⟨ma, mb, out, mg, ac, bc, rfl, I, r1, r2, r3, r4⟩⟩
          · exact wpS_pure ⟨r, _, rfl, K, F⟩
          · dsimp only
            exact wpS_bind (wpS_modify (wpS_pure ⟨ma, mb, out, _, rfl, ⟨K.kind, K.arr, K.pend, K.failed⟩, I, r1, by omega, r3, by omega, by omega⟩))
        case step2 =>
          rintro j c st' _ hj ⟨ma, mb, out, mg, ac, bc, rfl, K, I, r1, r2, r3, r4⟩
          dsimp only
          obtain ⟨xb, eb, uxb⟩ := atB (mb - 1) (by omega)
          by_cases cg : mg > 1
          case' pos => rw [if_pos cg]
          case' neg => rw [if_neg cg]
          all_goals
            refine wpS_bind (wpS_modify (wpS_bind (r_elem eb ?_)))
            refine wpS_bind (r_right O H (K.kind.trans hk) uxb ua (by omega) (sub_inc O Sa) (by omega) fun t k1 k2 k3 => ?_)
            dsimp only
            have dn_b : ∀ y ∈ b.toList.take mb, Le L y xb := dn O Sb eb (irr O xb)
            by_cases ck : ma - t > 0
            case' pos =>
              rw [if_pos ck]
              have J := Hi.chunkA Sa I t k1 fun i x hi1 hi2 ex y hy => (dn_b y hy).trans O (Le.of_lt O (k3 i x hi1 hi2 (by rw [z_]; exact ex)))
              by_cases d : (t == 0) = true
              · rw [if_pos d]
                exact wpS_pure ⟨⟨K.kind, K.arr, K.pend, K.failed⟩, .inl ⟨_, _, rfl, J.done Sa Sb (.inl (by simpa using d))⟩⟩
              rw [if_neg d]
              have f2 : 1 ≤ t := by
                have d' : t ≠ 0 := by simpa using d
                omega
              have g2 : ∀ x ∈ a.toList.take t, Le L x xb := fun x hx => by
                obtain ⟨i, hi, ei⟩ := mem_take hx
                exact k2 i x hi (by rw [z_, ← get_l]; exact ei)
              have r2' : t ≤ na' := by omega
              clear d k2 k3 k1
              generalize out ++ (a.extract t ma).reverse = out2 at J ⊢
              generalize t = ma2 at J f2 g2 r2' ⊢
            case' neg =>
              rw [if_neg ck]
              have J := I
              have f2 := r1
              have g2 : ∀ x ∈ a.toList.take ma, Le L x xb := fun x hx => by
                obtain ⟨i, hi, ei⟩ := mem_take hx
                exact k2 i x (by omega) (by rw [z_, ← get_l]; exact ei)
              have r2' := r2
              clear k2 k3 k1
              generalize out = out2 at J ⊢
              generalize ma = ma2 at J f2 g2 r2' ⊢
            all_goals
              refine wpS_bind (r_elem eb ?_)
              have J2 := Hi.pushB Sb J (by omega) eb g2
              clear J g2
              by_cases d : (mb - 1 == 1) = true
              · rw [if_pos d]
                exact wpS_pure ⟨⟨K.kind, K.arr, K.pend, K.failed⟩, .inl ⟨_, _, rfl, J2.first Sa Sb h0 (by simpa using d)⟩⟩
              rw [if_neg d]
              have d' : mb - 1 ≠ 1 := by simpa using d
              obtain ⟨xa, ea, uxa⟩ := atA (ma2 - 1) (by omega)
              refine wpS_bind (r_elem ea ?_)
              refine wpS_bind (r_left O H (K.kind.trans hk) uxa ub (by omega) (sub_inc O Sb) (by omega) fun m m1 m2 m3 => ?_)
              dsimp only
              have dn_a : ∀ y ∈ a.toList.take ma2, Le L y xa := dn O Sa ea (irr O xa)
              generalize out2.push xb = out3 at J2 ⊢
              by_cases cm : mb - 1 - m > 0
              case' pos =>
                rw [if_pos cm]
                have J3 := Hi.chunkB Sb J2 m m1 fun i y hi1 hi2 ey x hx => (dn_a x hx).trans O (m3 i y hi1 hi2 (by rw [z_]; exact ey))
                by_cases d : (m == 1) = true
                · rw [if_pos d]
                  exact wpS_pure ⟨⟨K.kind, K.arr, K.pend, K.failed⟩, .inl ⟨_, _, rfl, J3.first Sa Sb h0 (by simpa using d)⟩⟩
                rw [if_neg d]
                by_cases e : (m == 0) = true
                · rw [if_pos e]
                  exact wpS_pure ⟨⟨K.kind, K.arr, K.pend, K.failed⟩, .inl ⟨_, _, rfl, J3.done Sa Sb (.inr (by simpa using e))⟩⟩
                rw [if_neg e]
                have f3 : 2 ≤ m := by
                  have d' : m ≠ 1 := by simpa using d
                  have e' : m ≠ 0 := by simpa using e
                  omega
                have g3 : ∀ y ∈ b.toList.take m, Le L y xa := fun y hy => by
                  obtain ⟨i, hi, ei⟩ := mem_take hy
                  exact Le.of_lt O (m2 i y hi (by rw [z_, ← get_l]; exact ei))
                have r4' : m ≤ nb' := by omega
                clear d e m2 m3 m1
                generalize out3 ++ (b.extract m (mb - 1)).reverse = out4 at J3 ⊢
                generalize m = mb2 at J3 f3 g3 r4' ⊢
              case' neg =>
                rw [if_neg cm]
                have J3 := J2
                have f3 : 2 ≤ mb - 1 := by omega
                have g3 : ∀ y ∈ b.toList.take (mb - 1), Le L y xa := fun y hy => by
                  obtain ⟨i, hi, ei⟩ := mem_take hy
                  exact Le.of_lt O (m2 i y (by omega) (by rw [z_, ← get_l]; exact ei))
                have r4' : mb - 1 ≤ nb' := by omega
                clear m2 m3 m1
                generalize out3 = out4 at J3 ⊢
                generalize mb - 1 = mb2 at J3 f3 g3 r4' ⊢
              all_goals
                refine wpS_bind (r_elem ea ?_)
                have J4 := Hi.pushA Sa J3 f2 ea g3
                by_cases d : (ma2 - 1 == 0) = true
                · rw [if_pos d]
                  exact wpS_pure ⟨⟨K.kind, K.arr, K.pend, K.failed⟩, .inl ⟨_, _, rfl, J4.done Sa Sb (.inl (by simpa using d))⟩⟩
                rw [if_neg d]
                have d' : ma2 - 1 ≠ 0 := by simpa using d
                split
                · exact wpS_pure ⟨⟨K.kind, K.arr, K.pend, K.failed⟩, .inr ⟨_, _, _, _, _, _, rfl, J4, by omega, by omega, f3, by omega⟩⟩
                · exact wpS_pure ⟨_, _, _, _, _, _, rfl, ⟨K.kind, K.arr, K.pend, K.failed⟩, J4, by omega, by omega, f3, by omega⟩
end
end SR
end L2

set_option maxHeartbeats 1000000
namespace L2
open PySem PySem.W PyProof.Rows
namespace SR
/-! ### two neighbouring runs made one -/
section
variable {L : Keyed → Keyed → Bool}
theorem put_list : ∀ (l : List Keyed) (k sa : Nat) (xs : Array Keyed), sa + k + l.length ≤ xs.size → ((l.zipIdx k).foldl (fun a (q : Keyed × Nat) => a.setIfInBounds (sa + q.2) q.1) xs).toList = xs.toList.take (sa + k) ++ l ++ xs.toList.drop (sa + k + l.length)
  | [], k, sa, xs, h => by simp
  | x :: l, k, sa, xs, h => by
    rw [List.length_cons] at h
    rw [List.zipIdx_cons, List.foldl_cons, put_list l (k + 1) sa _ (by rw [Array.size_setIfInBounds]; omega), Array.toList_setIfInBounds]
    have e1 : (xs.toList.set (sa + k) x).take (sa + (k + 1)) = xs.toList.take (sa + k) ++ [x] := by
      rw [← Nat.add_assoc, List.take_add_one, List.take_set_of_le (Nat.le_refl _), List.getElem?_set_self (by rw [Array.length_toList]; omega)]
      rfl
    have e2 : (xs.toList.set (sa + k) x).drop (sa + (k + 1) + l.length) = xs.toList.drop (sa + k + (x :: l).length) := by
      rw [List.drop_set_of_lt (by omega), List.length_cons]
      congr 1
      omega
    rw [e1, e2, List.append_assoc, List.append_assoc, List.append_assoc]
    rfl
theorem join_inc (O : TO L) {ra rb mg : List Keyed} {k n : Nat} {y0 xl : Keyed} (Sa : Inc L ra) (Sb : Inc L rb) (hy : rb[0]? = some y0) (hx : ra[ra.length - 1]? = some xl)
    (c1 : ∀ x ∈ ra.take k, Le L x y0) (c2 : ∀ y ∈ rb.drop n, Le L xl y) (hp : mg.Perm (ra.drop k ++ rb.take n)) (hi : Inc L mg) : (ra.take k ++ mg ++ rb.drop n).Perm (ra ++ rb) ∧ Inc L (ra.take k ++ mg ++ rb.drop n) := by
  have y_le : ∀ y ∈ rb, Le L y0 y := fun y h => by
    obtain ⟨j, hj⟩ := List.mem_iff_getElem?.mp h
    exact Sb.le' O hy hj (Nat.zero_le _)
  have le_x : ∀ x ∈ ra, Le L x xl := fun x h => by
    obtain ⟨j, hj⟩ := List.mem_iff_getElem?.mp h
    have := (List.getElem?_eq_some_iff.mp hj).1
    exact Sa.le' O hj hx (by omega)
  have sa := List.pairwise_append.mp (show Inc L (ra.take k ++ ra.drop k) by rw [List.take_append_drop]; exact Sa)
  have sb := List.pairwise_append.mp (show Inc L (rb.take n ++ rb.drop n) by rw [List.take_append_drop]; exact Sb)
  refine ⟨?_, List.pairwise_append.mpr ⟨List.pairwise_append.mpr ⟨sa.1, hi, fun x hx' y hy' => ?_⟩, sb.2.1, fun x hx' y hy' => ?_⟩⟩
  · refine ((hp.append_left _).append_right _).trans ?_
    conv => rhs; rw [← List.take_append_drop k ra, ← List.take_append_drop n rb]
    simp only [List.append_assoc]
    exact List.Perm.refl _
  · rcases List.mem_append.mp (hp.mem_iff.mp hy') with z | z
    · exact sa.2.2 x hx' y z
    · exact (c1 x hx').trans O (y_le y (List.mem_of_mem_take z))
  · rcases List.mem_append.mp hx' with z | z
    · exact (le_x x (List.mem_of_mem_take z)).trans O (c2 y hy')
    · rcases List.mem_append.mp (hp.mem_iff.mp z) with z | z
      · exact (le_x x (List.mem_of_mem_drop z)).trans O (c2 y hy')
      · exact sb.2.2 x z y hy'
end
section
variable {prog : Program} {w : World} {A : Around} {E : Value → Shared → Prop} {s : Shared} {κ : SortKind} {U : Keyed → Prop} {L : Keyed → Keyed → Bool}
theorem r_set {st1 st : SortSt} {Q : PUnit → SortSt → Prop} (h : Q ⟨⟩ st1) : wpS (model prog w) A E s (set st1 : StateT SortSt Sem PUnit) Q st := by
  unfold wpS
  rw [StateT.run_set]
  exact wpAny_pure ⟨rfl, h⟩
theorem pend_join {p : Array (Nat × Nat × Nat)} {u v z : Nat × Nat × Nat} {ps1 ps2 : List (Nat × Nat × Nat)} {i : Nat} (hp : p.toList = ps1 ++ u :: v :: ps2) (hi : i = ps1.length) : ((p.setIfInBounds i z).eraseIdxIfInBounds (i + 1)).toList = ps1 ++ z :: ps2 := by
  have hs : p.size = ps1.length + (ps2.length + 2) := by rw [← Array.length_toList, hp]; simp
  unfold Array.eraseIdxIfInBounds
  rw [dif_pos (by rw [Array.size_setIfInBounds]; omega), Array.toList_eraseIdx, Array.toList_setIfInBounds, hp, hi, List.set_append_right _ _ (Nat.le_refl _), Nat.sub_self, List.set_cons_zero, List.eraseIdx_append_of_length_le (by omega), Nat.add_sub_cancel_left]
  rfl
theorem r_mergeAt (O : TO L) (H : Asked prog w A s κ U L) {i sa na pw sb nb pz : Nat} {ps1 ps2 : List (Nat × Nat × Nat)} {P ra rb S : List Keyed} {Q : Bool → SortSt → Prop} {st : SortSt} (hk : kindOf st = κ) (hf : failedOf st = none)
    (hp : (pendingOf st).toList = ps1 ++ (sa, na, pw) :: (sb, nb, pz) :: ps2) (hi : i = ps1.length) (ha : (arrOf st).toList = P ++ ra ++ rb ++ S) (ua : ∀ x ∈ (arrOf st).toList, U x)
    (e1 : sa = P.length) (e2 : na = ra.length) (e3 : sb = P.length + ra.length) (e4 : nb = rb.length) (a1 : 1 ≤ ra.length) (b1 : 1 ≤ rb.length) (Sa : Inc L ra) (Sb : Inc L rb)
    (h : ∀ (m : List Keyed) (st' : SortSt), kindOf st' = κ → failedOf st' = none → (pendingOf st').toList = ps1 ++ (sa, na + nb, pw) :: ps2 → (arrOf st').toList = P ++ m ++ S → m.Perm (ra ++ rb) → Inc L m → Q true st') : wpS (model prog w) A E s (mergeAt' i) Q st := by
  refine wpS_bind (wpS_get ?_)
  have p1 : (pendingOf st)[i]? = some (sa, na, pw) := by rw [← Array.getElem?_toList, hp, hi, List.getElem?_append_right (Nat.le_refl _), Nat.sub_self]; rfl
  have p2 : (pendingOf st)[i + 1]? = some (sb, nb, pz) := by rw [← Array.getElem?_toList, hp, hi, List.getElem?_append_right (by omega), Nat.add_sub_cancel_left]; rfl
  have hl : (arrOf st).size = P.length + ra.length + rb.length + S.length := by rw [← Array.length_toList, ha]; simp [Nat.add_assoc]
  have gA : ∀ j, j < ra.length → (arrOf st)[sa + j]? = ra[j]? := fun j hj => by
    rw [← Array.getElem?_toList, ha, List.append_assoc, List.append_assoc, e1, List.getElem?_append_right (by omega), Nat.add_sub_cancel_left, List.getElem?_append_left hj]
  have gB : ∀ j, j < rb.length → (arrOf st)[sb + j]? = rb[j]? := fun j hj => by
    rw [← Array.getElem?_toList, ha, List.append_assoc, e3, List.getElem?_append_right (by rw [List.length_append]; omega), List.length_append, Nat.add_sub_cancel_left, List.getElem?_append_left hj]
  have leA : sa + na ≤ (arrOf st).size := by omega
  have leB : sb + nb ≤ (arrOf st).size := by omega
  have uA : ∀ x ∈ ra, U x := fun x hx => ua x (by rw [ha]; simp [hx])
  have uB : ∀ x ∈ rb, U x := fun x hx => ua x (by rw [ha]; simp [hx])
  obtain ⟨y0, ey⟩ : ∃ y, rb[0]? = some y := ⟨_, List.getElem?_eq_getElem (by omega)⟩
  obtain ⟨xl, ex⟩ : ∃ x, ra[ra.length - 1]? = some x := ⟨_, List.getElem?_eq_getElem (by omega)⟩
  dsimp only
  rw [p1, p2]
  dsimp only
  refine wpS_bind (r_set ?_)
  refine wpS_bind (r_elem (x := y0) (by rw [← ey, ← gB 0 (by omega)]; rfl) ?_)
  have incA : ∀ i j x y, i ≤ j → j < na → (arrOf st)[sa + i]? = some x → (arrOf st)[sa + j]? = some y → Le L x y := fun i j x y hij hj hx hy => by
    rw [gA i (by omega)] at hx
    rw [gA j (by omega)] at hy
    exact Sa.le' O hx hy hij
  have incB : ∀ i j x y, i ≤ j → j < nb → (arrOf st)[sb + i]? = some x → (arrOf st)[sb + j]? = some y → Le L x y := fun i j x y hij hj hx hy => by
    rw [gB i (by omega)] at hx
    rw [gB j (by omega)] at hy
    exact Sb.le' O hx hy hij
  refine wpS_bind (r_right O H hk (uB y0 (List.mem_of_getElem? ey)) ua leA incA (by omega) fun k k1 k2 k3 => ?_)
  have c1 : ∀ x ∈ ra.take k, Le L x y0 := fun x hx => by
    obtain ⟨j, hj, ej⟩ := mem_take hx
    exact k2 j x hj (by rw [gA j (by omega)]; exact ej)
  have d1 : ∀ x ∈ ra.drop k, Le L y0 x := fun x hx => by
    obtain ⟨j, hj, ej⟩ := mem_drop hx
    have := (List.getElem?_eq_some_iff.mp ej).1
    exact Le.of_lt O (k3 j x hj (by omega) (by rw [gA j (by omega)]; exact ej))
  dsimp only
  have pj := pend_join (z := (sa, na + nb, pw)) hp hi
  by_cases c0 : (na - k == 0) = true
  · rw [if_pos c0]
    have c0' : na - k = 0 := by simpa using c0
    have ek : ra.take k = ra := List.take_of_length_le (by omega)
    obtain ⟨q1, q2⟩ := join_inc O (mg := rb) (k := k) (n := rb.length) Sa Sb ey ex c1 (fun y hy => by rw [List.drop_eq_nil_of_le (Nat.le_refl _)] at hy; cases hy) (by rw [List.drop_eq_nil_of_le (i := k) (by omega), List.take_of_length_le (Nat.le_refl _)]; exact List.Perm.refl _) Sb
    rw [ek, List.drop_eq_nil_of_le (Nat.le_refl _), List.append_nil] at q1 q2
    exact wpS_pure (h (ra ++ rb) _ hk hf pj (by show (arrOf st).toList = _; rw [ha]; simp only [List.append_assoc]) q1 q2)
  rw [if_neg c0]
  have c0' : na - k ≠ 0 := by simpa using c0
  refine wpS_bind (r_elem (x := xl) (by rw [← ex, ← gA _ (by omega)]; congr 1; omega) ?_)
  refine wpS_bind (r_left O H hk (uA xl (List.mem_of_getElem? ex)) ua leB incB (by omega) fun n n1 n2 n3 => ?_)
  have c2 : ∀ y ∈ rb.drop n, Le L xl y := fun y hy => by
    obtain ⟨j, hj, ej⟩ := mem_drop hy
    have := (List.getElem?_eq_some_iff.mp ej).1
    exact n3 j y hj (by omega) (by rw [gB j (by omega)]; exact ej)
  have d2 : ∀ y ∈ rb.take n, Le L y xl := fun y hy => by
    obtain ⟨j, hj, ej⟩ := mem_take hy
    exact Le.of_lt O (n2 j y hj (by rw [gB j (by omega)]; exact ej))
  dsimp only
  by_cases c3 : (n == 0) = true
  · rw [if_pos c3]
    have c3' : n = 0 := by simpa using c3
    subst c3'
    obtain ⟨q1, q2⟩ := join_inc O (mg := ra.drop k) (k := k) (n := 0) Sa Sb ey ex c1 c2 (by simp) (List.Pairwise.sublist (List.drop_sublist ..) Sa)
    rw [List.take_append_drop, List.drop_zero] at q1 q2
    exact wpS_pure (h (ra ++ rb) _ hk hf pj (by show (arrOf st).toList = _; rw [ha]; simp only [List.append_assoc]) q1 q2)
  rw [if_neg c3]
  have c3' : n ≠ 0 := by simpa using c3
  have xA : ((arrOf st).extract (sa + k) sb).toList = ra.drop k := by
    rw [ex_toList, ha, List.append_assoc, List.append_assoc, e1, ← List.drop_drop, List.drop_left, List.drop_append_of_le_length (by omega), e3, show P.length + ra.length - (P.length + k) = (ra.drop k).length by rw [List.length_drop]; omega, List.take_left]
  have xB : ((arrOf st).extract sb (sb + n)).toList = rb.take n := by
    rw [ex_toList, ha, List.append_assoc, e3, show P.length + ra.length = (P ++ ra).length by rw [List.length_append], List.drop_left, Nat.add_sub_cancel_left, List.take_append_of_le_length (by omega)]
  have zA : ((arrOf st).extract (sa + k) sb).size = ra.length - k := by rw [← Array.length_toList, xA, List.length_drop]
  have zB : ((arrOf st).extract sb (sb + n)).size = n := by rw [← Array.length_toList, xB, List.length_take]; omega
  have key : ∀ (mg : Array Keyed) (st' : SortSt), Kp (SortSt.mk' (kindOf st) (arrOf st) (((pendingOf st).setIfInBounds i (sa, na + nb, pw)).eraseIdxIfInBounds (i + 1)) (gallopOf st) (failedOf st)) st' →
      Fin L ((arrOf st).extract (sa + k) sb) ((arrOf st).extract sb (sb + n)) mg →
      Q true (SortSt.mk' (kindOf st') (List.foldl (fun a (x : Keyed × Nat) => a.setIfInBounds (sa + k + x.2) x.1) (arrOf st') mg.toList.zipIdx) (pendingOf st') (gallopOf st') (failedOf st')) := fun mg st' K F => by
    obtain ⟨f1, f2⟩ := F
    rw [xA, xB] at f1
    obtain ⟨q1, q2⟩ := join_inc O (mg := mg.toList) (k := k) (n := n) Sa Sb ey ex c1 c2 f1 f2
    have lm : mg.toList.length = ra.length - k + n := by rw [f1.length_eq, List.length_append, List.length_drop, List.length_take]; omega
    refine h _ _ (K.kind.trans hk) (K.failed.trans hf) (by show (pendingOf st').toList = _; rw [K.pend]; exact pj) ?_ q1 q2
    show (List.foldl (fun a (x : Keyed × Nat) => a.setIfInBounds (sa + k + x.2) x.1) (arrOf st') mg.toList.zipIdx).toList = _
    rw [K.arr]
    show (List.foldl (fun a (x : Keyed × Nat) => a.setIfInBounds (sa + k + x.2) x.1) (arrOf st) (mg.toList.zipIdx 0)).toList = _
    rw [put_list mg.toList 0 (sa + k) (arrOf st) (by omega), Nat.add_zero, lm, ha]
    have t1 : (P ++ ra ++ rb ++ S).take (sa + k) = P ++ ra.take k := by
      rw [List.append_assoc, List.append_assoc, e1, List.take_length_add_append, List.take_append_of_le_length (by omega)]
    have t2 : (P ++ ra ++ rb ++ S).drop (sa + k + (ra.length - k + n)) = rb.drop n ++ S := by
      rw [show sa + k + (ra.length - k + n) = (P ++ ra).length + n by rw [List.length_append]; omega, List.append_assoc, ← List.drop_drop, List.drop_left, List.drop_append_of_le_length (by omega)]
    rw [t1, t2]
    simp only [List.append_assoc]
  have h0 : ∀ x ∈ ((arrOf st).extract (sa + k) sb).toList, ∀ y, ((arrOf st).extract sb (sb + n))[0]? = some y → Le L y x := fun x hx y hy => by
    rw [xA] at hx
    rw [← get_l, xB, List.getElem?_take, if_pos (by omega), ey] at hy
    cases hy
    exact d1 x hx
  have h1 : ∀ y ∈ ((arrOf st).extract sb (sb + n)).toList, ∀ x, ((arrOf st).extract (sa + k) sb)[((arrOf st).extract (sa + k) sb).size - 1]? = some x → Le L y x := fun y hy x hx => by
    rw [xB] at hy
    rw [← get_l, xA, zA, List.getElem?_drop, show k + (ra.length - k - 1) = ra.length - 1 by omega, ex] at hx
    cases hx
    exact d2 y hy
  have uX : ∀ x ∈ ((arrOf st).extract (sa + k) sb).toList, U x := fun x hx => by rw [xA] at hx; exact uA x (List.mem_of_mem_drop hx)
  have uY : ∀ x ∈ ((arrOf st).extract sb (sb + n)).toList, U x := fun x hx => by rw [xB] at hx; exact uB x (List.mem_of_mem_take hx)
  have sX : Inc L ((arrOf st).extract (sa + k) sb).toList := by rw [xA]; exact List.Pairwise.sublist (List.drop_sublist ..) Sa
  have sY : Inc L ((arrOf st).extract sb (sb + n)).toList := by rw [xB]; exact List.Pairwise.sublist (List.take_sublist ..) Sb
  have s1 : 1 ≤ ((arrOf st).extract (sa + k) sb).size := by omega
  have s2 : 1 ≤ ((arrOf st).extract sb (sb + n)).size := by omega
  by_cases c4 : na - k ≤ n
  · rw [if_pos c4]
    refine wpS_bind (r_mLo O H hk uX uY sX sY s1 s2 h0 h1 fun out st' K F => ?_)
    refine wpS_bind (wpS_modify (wpS_bind (wpS_get ?_)))
    have e : (failedOf st').isNone = true := by rw [show failedOf st' = none from K.failed.trans hf]; rfl
    refine wpS_pure (?_ : Q (failedOf st').isNone _)
    rw [e]
    exact key out st' K F
  · rw [if_neg c4]
    refine wpS_bind (r_mHi O H hk uX uY sX sY s1 s2 h0 h1 fun out st' K F => ?_)
    refine wpS_bind (wpS_modify (wpS_bind (wpS_get ?_)))
    have e : (failedOf st').isNone = true := by rw [show failedOf st' = none from K.failed.trans hf]; rfl
    refine wpS_pure (?_ : Q (failedOf st').isNone _)
    rw [e]
    exact key out st' K F
end
end SR
end L2

set_option maxHeartbeats 1000000
namespace L2
open PySem PySem.W PyProof.Rows
namespace SR
/-! ### a run found and a run made longer, from any place on -/
section
variable {L : Keyed → Keyed → Bool} {xs : Array Keyed} {lo n q : Nat}
noncomputable def at_ (xs : Array Keyed) (k : Nat) : Keyed := (xs[k]?).getD (Value.none, Value.none)
theorem at_some {k : Nat} (h : k < xs.size) : xs[k]? = some (at_ xs k) := by
  unfold at_
  rw [Array.getElem?_eq_getElem h]
  rfl
theorem at_mir {i j : Nat} (hj : j ≤ xs.size) (k : Nat) : at_ (mirror xs i j ((j - i) / 2)) k = if i ≤ k ∧ k < j then at_ xs (i + j - 1 - k) else at_ xs k := by
  unfold at_
  rw [getElem?_mirror_all hj]
  split <;> rfl
theorem at_bub {src d : Nat} (hs : src < xs.size) (hd : d ≤ src) (k : Nat) : at_ (bubble xs src d) k = if k = src - d then at_ xs src else if src - d < k ∧ k ≤ src then at_ xs (k - 1) else at_ xs k := by
  unfold at_
  rw [getElem?_bubble hs d hd]
  split
  · rfl
  · split <;> rfl
noncomputable def Up (L : Keyed → Keyed → Bool) (xs : Array Keyed) (lo n : Nat) : Prop := ∀ i j, i < j → j < n → Le L (at_ xs (lo + i)) (at_ xs (lo + j))
noncomputable def Dn (L : Keyed → Keyed → Bool) (xs : Array Keyed) (lo n : Nat) : Prop := ∀ i j, i < j → j < n → Le L (at_ xs (lo + j)) (at_ xs (lo + i))
theorem Up.more (O : TO L) (h : Up L xs lo n) (h1 : 1 ≤ n) (g : Le L (at_ xs (lo + n - 1)) (at_ xs (lo + n))) : Up L xs lo (n + 1) := fun i j hij hj => by
  by_cases c : j < n
  · exact h i j hij c
  · have e : j = n := by omega
    subst e
    by_cases d : i = j - 1
    · rw [d, show lo + (j - 1) = lo + j - 1 by omega]; exact g
    · have := h i (j - 1) (by omega) (by omega)
      rw [show lo + (j - 1) = lo + j - 1 by omega] at this
      exact this.trans O g
theorem Dn.more (O : TO L) (h : Dn L xs lo n) (h1 : 1 ≤ n) (g : Le L (at_ xs (lo + n)) (at_ xs (lo + n - 1))) : Dn L xs lo (n + 1) := fun i j hij hj => by
  by_cases c : j < n
  · exact h i j hij c
  · have e : j = n := by omega
    subst e
    by_cases d : i = j - 1
    · rw [d, show lo + (j - 1) = lo + j - 1 by omega]; exact g
    · have := h i (j - 1) (by omega) (by omega)
      rw [show lo + (j - 1) = lo + j - 1 by omega] at this
      exact g.trans O this
structure DI (L : Keyed → Keyed → Bool) (xs : Array Keyed) (lo n q : Nat) : Prop where
  q1 : q + 1 ≤ n
  dn : Dn L xs lo n
  eq : ∀ i j, n - (q + 1) ≤ i → i < n → n - (q + 1) ≤ j → j < n → Le L (at_ xs (lo + i)) (at_ xs (lo + j))
theorem DI.one (O : TO L) (h1 : 1 ≤ n) (h : Dn L xs lo n) : DI L xs lo n 0 := ⟨by omega, h, fun i j a b c d => by
  have : i = j := by omega
  rw [this]; exact irr O _⟩
/-- alike ones turned about: still falling -/
theorem DI.rev (O : TO L) (D : DI L xs lo n q) (hs : lo + n ≤ xs.size) : Dn L (mirror xs (lo + n - (q + 1)) (lo + n) ((lo + n - (lo + n - (q + 1))) / 2)) lo n ∧ Le L (at_ xs (lo + n - 1)) (at_ (mirror xs (lo + n - (q + 1)) (lo + n) ((lo + n - (lo + n - (q + 1))) / 2)) (lo + n - 1)) := by
  have q1 := D.q1
  have inn : ∀ i, n - (q + 1) ≤ i → i < n → ∃ i', n - (q + 1) ≤ i' ∧ i' < n ∧ at_ (mirror xs (lo + n - (q + 1)) (lo + n) ((lo + n - (lo + n - (q + 1))) / 2)) (lo + i) = at_ xs (lo + i') := fun i h1 h2 => ⟨n - (q + 1) + n - 1 - i, by omega, by omega, by rw [at_mir hs, if_pos (by omega)]; congr 1; omega⟩
  have out : ∀ i, i < n - (q + 1) → at_ (mirror xs (lo + n - (q + 1)) (lo + n) ((lo + n - (lo + n - (q + 1))) / 2)) (lo + i) = at_ xs (lo + i) := fun i h => by rw [at_mir hs, if_neg (by omega)]
  refine ⟨fun i j hij hj => ?_, ?_⟩
  · by_cases cj : j < n - (q + 1)
    · rw [out i (by omega), out j cj]
      exact D.dn i j hij hj
    · obtain ⟨j', j1, j2, ej⟩ := inn j (by omega) hj
      rw [ej]
      by_cases ci : i < n - (q + 1)
      · rw [out i ci]
        exact D.dn i j' (by omega) j2
      · obtain ⟨i', i1, i2, ei⟩ := inn i (by omega) (by omega)
        rw [ei]
        exact D.eq j' i' j1 j2 i1 i2
  · obtain ⟨i', i1, i2, ei⟩ := inn (n - 1) (by omega) (by omega)
    rw [show lo + n - 1 = lo + (n - 1) by omega, ei]
    exact D.eq (n - 1) i' (by omega) (by omega) i1 i2
theorem Dn.turn (D : Dn L xs lo n) (hs : lo + n ≤ xs.size) : Up L (mirror xs lo (lo + n) ((lo + n - lo) / 2)) lo n := fun i j hij hj => by
  rw [at_mir hs, at_mir hs, if_pos (by omega), if_pos (by omega)]
  have := D (n - 1 - j) (n - 1 - i) (by omega) (by omega)
  rw [show lo + (n - 1 - j) = lo + (lo + n) - 1 - (lo + j) by omega, show lo + (n - 1 - i) = lo + (lo + n) - 1 - (lo + i) by omega] at this
  exact this
theorem Up.same (O : TO L) (h : Up L xs lo n) (h1 : 1 ≤ n) (g : Le L (at_ xs (lo + n - 1)) (at_ xs lo)) : ∀ i j, i < n → j < n → Le L (at_ xs (lo + i)) (at_ xs (lo + j)) := fun i j hi hj => by
  have top : Le L (at_ xs (lo + i)) (at_ xs (lo + n - 1)) := by
    by_cases c : i = n - 1
    · rw [c, show lo + (n - 1) = lo + n - 1 by omega]; exact irr O _
    · have := h i (n - 1) (by omega) (by omega)
      rwa [show lo + (n - 1) = lo + n - 1 by omega] at this
  have low : Le L (at_ xs lo) (at_ xs (lo + j)) := by
    by_cases c : j = 0
    · rw [c]; exact irr O _
    · exact h 0 j (by omega) hj
  exact (top.trans O g).trans O low
theorem Dn.of_same (hs : lo + n ≤ xs.size) (h : ∀ i j, i < n → j < n → Le L (at_ xs (lo + i)) (at_ xs (lo + j))) : (∀ i j, i < n → j < n → Le L (at_ xs (lo + j)) (at_ (mirror xs lo (lo + n) ((lo + n - lo) / 2)) (lo + i))) ∧ Dn L (mirror xs lo (lo + n) ((lo + n - lo) / 2)) lo n := by
  have e : ∀ i, i < n → ∃ i', i' < n ∧ at_ (mirror xs lo (lo + n) ((lo + n - lo) / 2)) (lo + i) = at_ xs (lo + i') := fun i hi => ⟨n - 1 - i, by omega, by rw [at_mir hs, if_pos (by omega)]; congr 1; omega⟩
  refine ⟨fun i j hi hj => ?_, fun i j hij hj => ?_⟩
  · obtain ⟨i', h1, e1⟩ := e i hi
    rw [e1]; exact h j i' hj h1
  · obtain ⟨i', h1, e1⟩ := e i (by omega)
    obtain ⟨j', h2, e2⟩ := e j hj
    rw [e1, e2]; exact h j' i' h2 h1
end
section
variable {prog : Program} {w : World} {A : Around} {E : Value → Shared → Prop} {s : Shared} {κ : SortKind} {U : Keyed → Prop} {L : Keyed → Keyed → Bool} {lo : Nat} {st0 st : SortSt}
structure Sg (κ : SortKind) (lo : Nat) (st0 st : SortSt) : Prop where
  kind : kindOf st = κ
  failed : failedOf st = none
  pend : pendingOf st = pendingOf st0
  perm : (arrOf st).Perm (arrOf st0)
  pre : ∀ k, k < lo → (arrOf st)[k]? = (arrOf st0)[k]?
theorem Sg.size (G : Sg κ lo st0 st) : (arrOf st).size = (arrOf st0).size := G.perm.size_eq
theorem Sg.mir (G : Sg κ lo st0 st) {i j : Nat} (hi : lo ≤ i) (hj : j ≤ (arrOf st).size) : Sg κ lo st0 (setArr st (mirror (arrOf st) i j ((j - i) / 2))) :=
  ⟨G.kind, G.failed, G.pend, (mirror_perm ..).trans G.perm, fun k hk => by
    show (mirror (arrOf st) i j ((j - i) / 2))[k]? = _
    rw [getElem?_mirror_all hj, if_neg (by omega)]
    exact G.pre k hk⟩
theorem r_rev {i j : Nat} {Q : Unit → SortSt → Prop} (h : Q () (setArr st (mirror (arrOf st) i j ((j - i) / 2)))) : wpS (model prog w) A E s (reverseSlice' i j) Q st := by
  rw [reverseSlice'_eq]
  exact wpS_modify h
theorem r_move {i j : Nat} {Q : Unit → SortSt → Prop} (h : Q () (setArr st (bubble (arrOf st) i (i - j)))) : wpS (model prog w) A E s (moveDown' i j) Q st := by
  rw [moveDown'_eq]
  exact wpS_modify h
theorem Sg.u (G : Sg κ lo st0 st) (u0 : ∀ x ∈ (arrOf st0).toList, U x) {k : Nat} (h : k < (arrOf st).size) : U (at_ (arrOf st) k) := by
  have := at_some h
  exact u0 _ ((Array.perm_iff_toList_perm.mp G.perm).mem_iff.mp (by rw [← Array.getElem?_toList] at this; exact List.mem_of_getElem? this))
theorem r_ltAt (H : Asked prog w A s κ U L) (u0 : ∀ x ∈ (arrOf st0).toList, U x) (G : Sg κ lo st0 st) {i j : Nat} {Q : Option Bool → SortSt → Prop} (hi : i < (arrOf st).size) (hj : j < (arrOf st).size) (h : Q (some (L (at_ (arrOf st) i) (at_ (arrOf st) j))) st) : wpS (model prog w) A E s (ltAt' i j) Q st := by
  rw [ltAt'_eq]
  refine wpS_bind (wpS_get (wpS_bind (r_elem (at_some hi) (wpS_bind (r_elem (at_some hj) ?_)))))
  exact r_lt H G.kind (G.u u0 hi) (G.u u0 hj) h
theorem r_count (O : TO L) (H : Asked prog w A s κ U L) (u0 : ∀ x ∈ (arrOf st0).toList, U x) {nrem : Nat} {Q : Option Nat → SortSt → Prop} (G : Sg κ lo st0 st) (h1 : 1 ≤ nrem) (hn : lo + nrem = (arrOf st0).size)
    (h : ∀ n st', 1 ≤ n → n ≤ nrem → Sg κ lo st0 st' → Up L (arrOf st') lo n → Q (some n) st') : wpS (model prog w) A E s (countRun' lo nrem) Q st := by
  refine wpS_bind (wpS_mono (wpS_forRange (I := fun i c st' => c = (none, i) ∧ st' = st ∧ Up L (arrOf st) lo i)
    (Q := fun c st' => st' = st ∧ ∃ n, c = (none, n) ∧ 1 ≤ n ∧ n ≤ nrem ∧ Up L (arrOf st) lo n ∧ (n = nrem ∨ L (at_ (arrOf st) (lo + n)) (at_ (arrOf st) (lo + n - 1)) = true)) ?_ ?_ ⟨rfl, rfl, fun i j a b => by omega⟩) ?_)
  · rintro i c st' h1' h2' ⟨rfl, rfl, up⟩
    refine wpS_bind (r_ltAt H u0 G (by rw [G.size]; omega) (by rw [G.size]; omega) ?_)
    cases c : L (at_ (arrOf st') (lo + i)) (at_ (arrOf st') (lo + i - 1)) with
    | true => exact wpS_pure ⟨rfl, i, rfl, h1', by omega, up, .inr c⟩
    | false => exact wpS_pure ⟨rfl, rfl, up.more O h1' c⟩
  · rintro c st' ⟨rfl, rfl, up⟩
    rw [Nat.max_eq_right h1] at up ⊢
    exact ⟨rfl, nrem, rfl, h1, Nat.le_refl _, up, .inl rfl⟩
  · rintro c st' ⟨rfl, n, rfl, n1, n2, up, n3⟩
    dsimp only
    by_cases c0 : (n == nrem) = true
    · rw [if_pos c0]
      exact wpS_pure (h n st' n1 n2 G up)
    rw [if_neg c0]
    have c0' : n ≠ nrem := by simpa using c0
    have sm : L (at_ (arrOf st') (lo + n)) (at_ (arrOf st') (lo + n - 1)) = true := n3.resolve_left c0'
    have z0 := G.size
    by_cases c1 : n > 1
    case' pos =>
      rw [if_pos c1]
      refine wpS_bind (r_ltAt H u0 G (by omega) (by omega) ?_)
      dsimp only
      by_cases c2 : L (at_ (arrOf st') lo) (at_ (arrOf st') (lo + n - 1)) = true
      · rw [if_pos c2]
        exact wpS_pure (h n st' n1 n2 G up)
      rw [if_neg c2]
      refine wpS_bind (r_rev ?_)
      have G2 := G.mir (i := lo) (j := lo + n) (Nat.le_refl _) (by omega)
      have sa := up.same O n1 (Bool.eq_false_iff.mpr c2)
      have D : DI L (arrOf (setArr st' (mirror (arrOf st') lo (lo + n) ((lo + n - lo) / 2)))) lo (n + 1) 0 := by
        obtain ⟨s1, s2⟩ := Dn.of_same (xs := arrOf st') (lo := lo) (n := n) (by omega) sa
        refine DI.one O (by omega) (s2.more O n1 ?_)
        have e1 : at_ (mirror (arrOf st') lo (lo + n) ((lo + n - lo) / 2)) (lo + n) = at_ (arrOf st') (lo + n) := by rw [at_mir (by omega), if_neg (by omega)]
        rw [e1]
        have := s1 (n - 1) (n - 1) (by omega) (by omega)
        rw [show lo + (n - 1) = lo + n - 1 by omega] at this
        exact (Le.of_lt O sm).trans O this
      clear sa c2 sm up G n3 c0 c1
      generalize setArr st' (mirror (arrOf st') lo (lo + n) ((lo + n - lo) / 2)) = st2 at G2 D ⊢
    case' neg =>
      rw [if_neg c1]
      have G2 := G
      have D : DI L (arrOf st') lo (n + 1) 0 := DI.one O (by omega) (Dn.more O (fun i j a b => by omega) n1 (Le.of_lt O sm))
      clear sm up G n3 c0 c1
      generalize st' = st2 at G2 D ⊢
    all_goals
      refine wpS_bind (r_rule ?_)
      refine wpS_bind (wpS_mono (wpS_forRange (I := fun i c st3 => ∃ q, c = (none, i, q) ∧ Sg κ lo st0 st3 ∧ DI L (arrOf st3) lo i q)
        (Q := fun c st3 => ∃ m q, c = (none, m, q) ∧ Sg κ lo st0 st3 ∧ DI L (arrOf st3) lo m q ∧ m ≤ nrem) ?step ?fin ⟨0, rfl, G2, D⟩) ?post)
      case fin =>
        rintro c st3 ⟨q, rfl, G3, D3⟩
        rw [Nat.max_eq_right (by omega)] at D3 ⊢
        exact ⟨nrem, q, rfl, G3, D3, Nat.le_refl _⟩
      case step =>
        rintro i c st3 i1 i2 ⟨q, rfl, G3, D3⟩
        dsimp only
        have z3 := G3.size
        have q1 := D3.q1
        refine wpS_bind (r_ltAt H u0 G3 (by omega) (by omega) ?_)
        cases c3 : L (at_ (arrOf st3) (lo + i)) (at_ (arrOf st3) (lo + i - 1)) with
        | true =>
          dsimp only
          rw [if_pos rfl]
          by_cases c4 : q > 0
          · rw [if_pos c4]
            refine wpS_bind (r_rev (wpS_pure ⟨0, rfl, G3.mir (by omega) (by omega), DI.one O (by omega) ?_⟩))
            obtain ⟨s1, s2⟩ := D3.rev O (by omega)
            refine s1.more O (by omega) ?_
            have e1 : at_ (mirror (arrOf st3) (lo + i - (q + 1)) (lo + i) ((lo + i - (lo + i - (q + 1))) / 2)) (lo + i) = at_ (arrOf st3) (lo + i) := by rw [at_mir (by omega), if_neg (by omega)]
            rw [e1]
            exact (Le.of_lt O c3).trans O s2
          · rw [if_neg c4]
            exact wpS_pure ⟨0, rfl, G3, DI.one O (by omega) (D3.dn.more O (by omega) (Le.of_lt O c3))⟩
        | false =>
          dsimp only
          rw [if_neg Bool.false_ne_true]
          refine wpS_bind (r_ltAt H u0 G3 (by omega) (by omega) ?_)
          cases c4 : L (at_ (arrOf st3) (lo + i - 1)) (at_ (arrOf st3) (lo + i)) with
          | true => exact wpS_pure ⟨i, q, rfl, G3, D3, by omega⟩
          | false =>
            refine wpS_pure ⟨q + 1, rfl, G3, by omega, D3.dn.more O (by omega) c4, fun a b a1 a2 b1 b2 => ?_⟩
            have lst : ∀ a, i - (q + 1) ≤ a → a < i → Le L (at_ (arrOf st3) (lo + a)) (at_ (arrOf st3) (lo + i)) ∧ Le L (at_ (arrOf st3) (lo + i)) (at_ (arrOf st3) (lo + a)) := fun a x1 x2 => by
              have e1 := D3.eq a (i - 1) x1 x2 (by omega) (by omega)
              have e2 := D3.eq (i - 1) a (by omega) (by omega) x1 x2
              rw [show lo + (i - 1) = lo + i - 1 by omega] at e1 e2
              exact ⟨e1.trans O c3, Le.trans O c4 e2⟩
            by_cases ca : a = i
            · by_cases cb : b = i
              · rw [ca, cb]; exact irr O _
              · rw [ca]; exact (lst b (by omega) (by omega)).2
            · by_cases cb : b = i
              · rw [cb]; exact (lst a (by omega) (by omega)).1
              · exact D3.eq a b (by omega) (by omega) (by omega) (by omega)
      case post =>
        rintro c st3 ⟨m, q, rfl, G3, D3, m1⟩
        dsimp only
        have z3 := G3.size
        have q1 := D3.q1
        by_cases c4 : q > 0
        case' pos =>
          rw [if_pos c4]
          refine wpS_bind (r_rev ?_)
          have G4 := G3.mir (i := lo + m - (q + 1)) (j := lo + m) (by omega) (by omega)
          have D4 : Dn L (arrOf (setArr st3 (mirror (arrOf st3) (lo + m - (q + 1)) (lo + m) ((lo + m - (lo + m - (q + 1))) / 2)))) lo m := (D3.rev O (by omega)).1
          clear D3 G3 z3
          generalize setArr st3 (mirror (arrOf st3) (lo + m - (q + 1)) (lo + m) ((lo + m - (lo + m - (q + 1))) / 2)) = st4 at G4 D4 ⊢
        case' neg =>
          rw [if_neg c4]
          have G4 := G3
          have D4 := D3.dn
          clear D3 G3 z3
          generalize st3 = st4 at G4 D4 ⊢
        all_goals
          have z4 := G4.size
          refine wpS_bind (r_rev ?_)
          have G5 := G4.mir (i := lo) (j := lo + m) (Nat.le_refl _) (by omega)
          have U5 : Up L (arrOf (setArr st4 (mirror (arrOf st4) lo (lo + m) ((lo + m - lo) / 2)))) lo m := D4.turn (by omega)
          clear D4 G4 z4
          generalize setArr st4 (mirror (arrOf st4) lo (lo + m) ((lo + m - lo) / 2)) = st5 at G5 U5 ⊢
          have z5 := G5.size
          refine wpS_bind (wpS_mono (wpS_forRange (I := fun i c st' => c = (none, i) ∧ st' = st5 ∧ Up L (arrOf st5) lo i)
            (Q := fun c st' => st' = st5 ∧ ∃ n, c = (none, n) ∧ 1 ≤ n ∧ n ≤ nrem ∧ Up L (arrOf st5) lo n) ?_ ?_ ⟨rfl, rfl, U5⟩) ?_)
          · rintro i c st' h1' h2' ⟨rfl, rfl, up⟩
            refine wpS_bind (r_ltAt H u0 G5 (by dsimp only; omega) (by dsimp only; omega) ?_)
            cases c : L (at_ (arrOf st') (lo + i)) (at_ (arrOf st') (lo + i - 1)) with
            | true => exact wpS_pure ⟨rfl, i, rfl, by omega, by omega, up⟩
            | false => exact wpS_pure ⟨rfl, rfl, up.more O (by omega) c⟩
          · rintro c st' ⟨rfl, rfl, up⟩
            rw [Nat.max_eq_right m1] at up ⊢
            exact ⟨rfl, nrem, rfl, h1, Nat.le_refl _, up⟩
          · rintro c st' ⟨rfl, n, rfl, n1, n2, up⟩
            exact wpS_pure (h n st' n1 n2 G5 up)
theorem r_bin (O : TO L) (H : Asked prog w A s κ U L) (u0 : ∀ x ∈ (arrOf st0).toList, U x) {n ok : Nat} {Q : Bool → SortSt → Prop} (G : Sg κ lo st0 st) (h1 : 1 ≤ ok) (h2 : ok ≤ n) (hn : lo + n ≤ (arrOf st0).size) (up : Up L (arrOf st) lo ok)
    (h : ∀ st', Sg κ lo st0 st' → Up L (arrOf st') lo n → Q true st') : wpS (model prog w) A E s (binarySort' lo n ok) Q st := by
  refine wpS_bind (wpS_mono (wpS_forRange (I := fun k c st' => c = (none, ()) ∧ Sg κ lo st0 st' ∧ Up L (arrOf st') lo k)
    (Q := fun c st' => c = (none, ()) ∧ Sg κ lo st0 st' ∧ Up L (arrOf st') lo n) ?_ ?_ ⟨rfl, G, by rw [Nat.max_eq_left h1]; exact up⟩) ?_)
  · rintro k c st' k1 k2 ⟨rfl, G1, U1⟩
    have z1 := G1.size
    refine wpS_bind (wpS_mono (wpS_forRange (I := fun i c st2 => ∃ l r, c = (none, l, r) ∧ st2 = st' ∧ l ≤ r ∧ r ≤ k ∧ r - l + i ≤ k ∧ (∀ i, i < l → Le L (at_ (arrOf st') (lo + i)) (at_ (arrOf st') (lo + k))) ∧ ∀ i, r ≤ i → i < k → Le L (at_ (arrOf st') (lo + k)) (at_ (arrOf st') (lo + i)))
      (Q := fun c st2 => ∃ l, c = (none, l, l) ∧ st2 = st' ∧ l ≤ k ∧ (∀ i, i < l → Le L (at_ (arrOf st') (lo + i)) (at_ (arrOf st') (lo + k))) ∧ ∀ i, l ≤ i → i < k → Le L (at_ (arrOf st') (lo + k)) (at_ (arrOf st') (lo + i))) ?_ ?_ ⟨0, k, rfl, rfl, by omega, by omega, by omega, fun i a => by omega, fun i a b => by omega⟩) ?_)
    · rintro i c st2 _ i2 ⟨l, r, rfl, rfl, a1, a2, a3, a4, a5⟩
      dsimp only
      by_cases c0 : l ≥ r
      · rw [if_pos c0]
        have : l = r := by omega
        subst this
        exact wpS_pure ⟨l, rfl, rfl, a2, a4, a5⟩
      · rw [if_neg c0]
        refine wpS_bind (r_ltAt H u0 G1 (by omega) (by omega) ?_)
        cases c1 : L (at_ (arrOf st2) (lo + k)) (at_ (arrOf st2) (lo + (l + r) / 2)) with
        | true =>
          refine wpS_pure ⟨l, (l + r) / 2, rfl, rfl, by omega, by omega, by omega, a4, fun i b1 b2 => ?_⟩
          by_cases e : i = (l + r) / 2
          · rw [e]; exact Le.of_lt O c1
          · exact (Le.of_lt O c1).trans O (U1 _ i (by omega) b2)
        | false =>
          refine wpS_pure ⟨(l + r) / 2 + 1, r, rfl, rfl, by omega, by omega, by omega, fun i b1 => ?_, a5⟩
          by_cases e : i = (l + r) / 2
          · rw [e]; exact c1
          · exact (U1 i ((l + r) / 2) (by omega) (by omega)).trans O c1
    · rintro c st2 ⟨l, r, rfl, rfl, a1, a2, a3, a4, a5⟩
      have : l = r := by omega
      subst this
      exact ⟨l, rfl, rfl, a2, a4, a5⟩
    · rintro c st2 ⟨l, rfl, rfl, a2, a4, a5⟩
      have hs : lo + k < (arrOf st2).size := by omega
      have ed : lo + k - (lo + k - (lo + l)) = lo + l := by omega
      refine wpS_bind (r_move (wpS_pure ⟨rfl, ⟨G1.kind, G1.failed, G1.pend, (bubble_perm ..).trans G1.perm, fun j hj => ?_⟩, fun i j hij hj => ?_⟩))
      · show (bubble (arrOf st2) (lo + k) (lo + k - (lo + l)))[j]? = _
        rw [getElem?_bubble hs _ (by omega), if_neg (by omega), if_neg (by omega)]
        exact G1.pre j hj
      · show Le L (at_ (bubble (arrOf st2) (lo + k) (lo + k - (lo + l))) (lo + i)) (at_ (bubble (arrOf st2) (lo + k) (lo + k - (lo + l))) (lo + j))
        rw [at_bub hs (by omega), at_bub hs (by omega), ed]
        by_cases b1 : j = l
        · rw [if_neg (by omega), if_neg (by omega), if_pos (by omega)]
          exact a4 i (by omega)
        · rw [if_neg (c := lo + j = lo + l) (by omega)]
          by_cases b2 : j < l
          · rw [if_neg (by omega), if_neg (by omega), if_neg (by omega)]
            exact U1 i j hij (by omega)
          · rw [if_pos (c := lo + l < lo + j ∧ lo + j ≤ lo + k) (by omega)]
            by_cases b3 : i = l
            · rw [if_pos (by omega), show lo + j - 1 = lo + (j - 1) by omega]
              exact a5 (j - 1) (by omega) (by omega)
            · rw [if_neg (by omega)]
              by_cases b4 : i < l
              · rw [if_neg (by omega), show lo + j - 1 = lo + (j - 1) by omega]
                by_cases b5 : i = j - 1
                · omega
                · exact U1 i (j - 1) (by omega) (by omega)
              · rw [if_pos (by omega), show lo + j - 1 = lo + (j - 1) by omega, show lo + i - 1 = lo + (i - 1) by omega]
                exact U1 (i - 1) (j - 1) (by omega) (by omega)
  · rintro c st' ⟨rfl, G1, U1⟩
    rw [Nat.max_eq_right (by rw [Nat.max_eq_left h1]; exact h2)] at U1
    exact ⟨rfl, G1, U1⟩
  · rintro c st' ⟨rfl, G1, U1⟩
    exact wpS_pure (h st' G1 U1)
end
end SR
end L2

set_option maxHeartbeats 1000000
namespace L2
open PySem PySem.W PyProof.Rows
namespace SR
/-! ### the runs waiting, and the whole of the sort -/
section
variable {L : Keyed → Keyed → Bool}
noncomputable def Runs (L : Keyed → Keyed → Bool) : Nat → List (Nat × Nat × Nat) → List (List Keyed) → Prop
  | _, [], [] => True
  | o, p :: ps, r :: rs => p.1 = o ∧ p.2.1 = r.length ∧ 1 ≤ r.length ∧ Inc L r ∧ Runs L (o + r.length) ps rs
  | _, _, _ => False
theorem Runs.len : ∀ {o : Nat} {ps : List (Nat × Nat × Nat)} {rs : List (List Keyed)}, Runs L o ps rs → ps.length = rs.length ∧ rs.length ≤ rs.flatten.length
  | _, [], [], _ => ⟨rfl, Nat.le_refl _⟩
  | _, p :: ps, r :: rs, h => by
    obtain ⟨_, _, h3, _, h5⟩ := h
    obtain ⟨e1, e2⟩ := h5.len
    rw [List.length_cons, List.length_cons, e1, List.flatten_cons, List.length_append]
    exact ⟨rfl, by omega⟩
  | _, [], _ :: _, h => h.elim
  | _, _ :: _, [], h => h.elim
theorem Runs.push : ∀ {o : Nat} {ps : List (Nat × Nat × Nat)} {rs : List (List Keyed)} {r : List Keyed} {z : Nat}, Runs L o ps rs → 1 ≤ r.length → Inc L r → Runs L o (ps ++ [(o + rs.flatten.length, r.length, z)]) (rs ++ [r])
  | o, [], [], r, z, _, h1, h2 => ⟨by simp, rfl, h1, h2, trivial⟩
  | o, p :: ps, q :: rs, r, z, h, h1, h2 => by
    obtain ⟨a1, a2, a3, a4, a5⟩ := h
    have := a5.push (z := z) h1 h2
    refine ⟨a1, a2, a3, a4, ?_⟩
    show Runs L (o + q.length) (ps ++ _) (rs ++ [r])
    rw [List.flatten_cons, List.length_append, ← Nat.add_assoc]
    exact this
  | _, [], _ :: _, _, _, h, _, _ => h.elim
  | _, _ :: _, [], _, _, h, _, _ => h.elim
/-- the last number of each is nobody's business -/
theorem Runs.alike : ∀ {o : Nat} {ps ps' : List (Nat × Nat × Nat)} {rs : List (List Keyed)}, Runs L o ps rs → ps'.map (fun p => (p.1, p.2.1)) = ps.map (fun p => (p.1, p.2.1)) → Runs L o ps' rs
  | _, [], [], [], _, _ => trivial
  | o, p :: ps, p' :: ps', r :: rs, h, e => by
    obtain ⟨a1, a2, a3, a4, a5⟩ := h
    rw [List.map_cons, List.map_cons] at e
    injection e with e1 e2
    injection e1 with e3 e4
    exact ⟨e3.trans a1, e4.trans a2, a3, a4, a5.alike e2⟩
  | _, p :: ps, [], _, _, e => by simp at e
  | _, [], p' :: ps', _, _, e => by simp at e
  | _, [], _, _ :: _, h, _ => h.elim
  | _, _ :: _, _, [], h, _ => h.elim
theorem Runs.cut : ∀ {i o : Nat} {ps : List (Nat × Nat × Nat)} {rs : List (List Keyed)}, Runs L o ps rs → i + 1 < ps.length → ∃ ps1 u v ps2 rs1 ra rb rs2, ps = ps1 ++ u :: v :: ps2 ∧ i = ps1.length ∧ rs = rs1 ++ ra :: rb :: rs2 ∧ u.1 = o + rs1.flatten.length ∧ u.2.1 = ra.length ∧ v.1 = o + rs1.flatten.length + ra.length ∧ v.2.1 = rb.length ∧ 1 ≤ ra.length ∧ 1 ≤ rb.length ∧ Inc L ra ∧ Inc L rb ∧
    ∀ m : List Keyed, m.length = ra.length + rb.length → Inc L m → Runs L o (ps1 ++ (u.1, u.2.1 + v.2.1, u.2.2) :: ps2) (rs1 ++ m :: rs2)
  | 0, o, u :: v :: ps, ra :: rb :: rs, h, _ => by
    obtain ⟨a1, a2, a3, a4, b1, b2, b3, b4, b5⟩ := h
    refine ⟨[], u, v, ps, [], ra, rb, rs, rfl, rfl, rfl, by simpa using a1, a2, by simpa using b1, b2, a3, b3, a4, b4, fun m e hm => ⟨a1, by rw [e, a2, b2], by omega, hm, ?_⟩⟩
    rw [e, ← Nat.add_assoc]
    exact b5
  | i + 1, o, p :: ps, r :: rs, h, hi => by
    obtain ⟨a1, a2, a3, a4, a5⟩ := h
    obtain ⟨ps1, u, v, ps2, rs1, ra, rb, rs2, e1, e2, e3, c1, c2, c3, c4, c5, c6, c7, c8, c9⟩ := a5.cut (i := i) (by rw [List.length_cons] at hi; omega)
    refine ⟨p :: ps1, u, v, ps2, r :: rs1, ra, rb, rs2, by rw [e1]; rfl, by rw [List.length_cons, e2], by rw [e3]; rfl, ?_, c2, ?_, c4, c5, c6, c7, c8, fun m e hm => ⟨a1, a2, a3, a4, c9 m e hm⟩⟩
    · rw [c1, List.flatten_cons, List.length_append, Nat.add_assoc]
    · rw [c3, List.flatten_cons, List.length_append, Nat.add_assoc o]
  | _, _, [], _, _, hi => by simp at hi
  | 0, _, [_], _, _, hi => by simp at hi
  | 0, _, _ :: _ :: _, [], h, _ => h.elim
  | 0, _, _ :: _ :: _, [_], h, _ => h.2.2.2.2.elim
  | _ + 1, _, _ :: _, [], h, _ => h.elim
end
section
variable {prog : Program} {w : World} {A : Around} {E : Value → Shared → Prop} {s : Shared} {κ : SortKind} {U : Keyed → Prop} {L : Keyed → Keyed → Bool} {a₀ : Array Keyed} {R : List Keyed} {st : SortSt}
structure St (L : Keyed → Keyed → Bool) (κ : SortKind) (a₀ : Array Keyed) (R : List Keyed) (st : SortSt) : Prop where
  kind : kindOf st = κ
  failed : failedOf st = none
  perm : (arrOf st).Perm a₀
  ex : ∃ rs, (arrOf st).toList = rs.flatten ++ R ∧ Runs L 0 (pendingOf st).toList rs
theorem St.u (S : St L κ a₀ R st) (u0 : ∀ x ∈ a₀.toList, U x) : ∀ x ∈ (arrOf st).toList, U x := fun x hx => u0 x ((Array.perm_iff_toList_perm.mp S.perm).mem_iff.mp hx)
theorem r_join (O : TO L) (H : Asked prog w A s κ U L) (u0 : ∀ x ∈ a₀.toList, U x) (S : St L κ a₀ R st) {i : Nat} (hi : i + 1 < (pendingOf st).size) {Q : Bool → SortSt → Prop}
    (h : ∀ st', St L κ a₀ R st' → (pendingOf st').size + 1 = (pendingOf st).size → Q true st') : wpS (model prog w) A E s (mergeAt' i) Q st := by
  obtain ⟨rs, e, r⟩ := S.ex
  obtain ⟨ps1, ⟨sa, na, pw⟩, ⟨sb, nb, pz⟩, ps2, rs1, ra, rb, rs2, e1, e2, e3, c1, c2, c3, c4, c5, c6, c7, c8, c9⟩ := r.cut (i := i) (by rw [Array.length_toList]; exact hi)
  rw [Nat.zero_add] at c1 c3
  refine r_mergeAt O H S.kind S.failed e1 e2 (P := rs1.flatten) (ra := ra) (rb := rb) (S := rs2.flatten ++ R) (by rw [e, e3]; simp) (S.u u0) c1 c2 c3 c4 c5 c6 c7 c8 fun m st' k1 k2 k3 k4 k5 k6 => h st' ⟨k1, k2, ?_, ?_⟩ ?_
  · refine (Array.perm_iff_toList_perm.mpr ?_).trans S.perm
    rw [k4, e, e3]
    simp only [List.flatten_append, List.flatten_cons, List.append_assoc]
    have : (m ++ (rs2.flatten ++ R)).Perm (ra ++ (rb ++ (rs2.flatten ++ R))) := by
      rw [← List.append_assoc ra]
      exact k5.append_right _
    exact this.append_left _
  · refine ⟨rs1 ++ m :: rs2, ?_, ?_⟩
    · rw [k4]; simp
    · rw [k3]
      exact c9 m (by rw [k5.length_eq, List.length_append]) k6
  · rw [← Array.length_toList, k3, ← Array.length_toList, e1]
    simp [Nat.add_assoc]
theorem ite_or {c : Prop} [Decidable c] {a b : Nat} : (if c then a else b) = a ∨ (if c then a else b) = b := by
  split
  · exact .inl rfl
  · exact .inr rfl
theorem r_ite {α : Type} {c : Prop} [Decidable c] {x y : StateT SortSt Sem α} {Q : α → SortSt → Prop} (h1 : c → wpS (model prog w) A E s x Q st) (h2 : ¬ c → wpS (model prog w) A E s y Q st) : wpS (model prog w) A E s (if c then x else y) Q st := by
  split
  · exact h1 (by assumption)
  · exact h2 (by assumption)
theorem St.seg (S : St L κ a₀ R st) {lo : Nat} {st2 : SortSt} (e : lo + R.length = a₀.size) (G : Sg κ lo st st2) : St L κ a₀ ((arrOf st2).toList.drop lo) st2 := by
  obtain ⟨rs, e1, r⟩ := S.ex
  refine ⟨G.kind, G.failed, G.perm.trans S.perm, rs, ?_, by rw [G.pend]; exact r⟩
  have hl : lo = rs.flatten.length := by
    have := S.perm.size_eq
    rw [← Array.length_toList, e1, List.length_append] at this
    omega
  have : (arrOf st2).toList.take lo = rs.flatten := by
    have h2 : (arrOf st).toList.take lo = rs.flatten := by rw [e1, hl, List.take_left]
    rw [← h2]
    apply List.ext_getElem?
    intro k
    rw [List.getElem?_take, List.getElem?_take]
    split
    · rw [Array.getElem?_toList, Array.getElem?_toList]
      exact G.pre k (by assumption)
    · rfl
  rw [← this, List.take_append_drop]
theorem St.push (S : St L κ a₀ R st) {lo n : Nat} (e : lo + R.length = a₀.size) (h1 : 1 ≤ n) (h2 : n ≤ R.length) (hi : Inc L (R.take n)) : St L κ a₀ (R.drop n) (setPending st ((pendingOf st).push (lo, n, 0))) := by
  obtain ⟨rs, e1, r⟩ := S.ex
  have hl : lo = rs.flatten.length := by
    have := S.perm.size_eq
    rw [← Array.length_toList, e1, List.length_append] at this
    omega
  refine ⟨S.kind, S.failed, S.perm, rs ++ [R.take n], ?_, ?_⟩
  · show (arrOf st).toList = _
    rw [e1]
    simp
  · show Runs L 0 ((pendingOf st).push (lo, n, 0)).toList _
    have hn : (R.take n).length = n := by rw [List.length_take]; omega
    have := r.push (r := R.take n) (z := 0) (by omega) hi
    rw [Nat.zero_add, ← hl, hn] at this
    rw [Array.toList_push]
    exact this
theorem St.mod (S : St L κ a₀ R st) (k pw : Nat) : St L κ a₀ R (setPending st ((pendingOf st).modify k fun x => (x.1, x.2.1, pw))) := by
  obtain ⟨rs, e1, r⟩ := S.ex
  refine ⟨S.kind, S.failed, S.perm, rs, e1, r.alike ?_⟩
  show List.map _ ((pendingOf st).modify k fun x => (x.1, x.2.1, pw)).toList = _
  apply List.ext_getElem?
  intro j
  rw [List.getElem?_map, List.getElem?_map, Array.getElem?_toList, Array.getElem?_toList, Array.getElem?_modify]
  split
  · cases (pendingOf st)[j]? <;> rfl
  · rfl
theorem inc_of_up {xs : Array Keyed} {lo n : Nat} (h : Up L xs lo n) (hn : lo + n ≤ xs.size) : Inc L ((xs.toList.drop lo).take n) := by
  refine List.pairwise_iff_getElem.mpr fun i j hi hj hij => ?_
  rw [List.length_take] at hi hj
  have at' : ∀ k (hk : k < ((xs.toList.drop lo).take n).length), ((xs.toList.drop lo).take n)[k] = at_ xs (lo + k) := fun k hk => by
    rw [List.length_take, List.length_drop, Array.length_toList] at hk
    have := at_some (xs := xs) (k := lo + k) (by omega)
    rw [List.getElem_take, List.getElem_drop]
    rw [← Array.getElem?_toList] at this
    exact (List.getElem?_eq_some_iff.mp this).2
  rw [at' i (by rw [List.length_take]; omega), at' j (by rw [List.length_take]; omega)]
  exact h i j hij (by omega)
theorem r_runs (O : TO L) (H : Asked prog w A s κ U L) (u0 : ∀ x ∈ a₀.toList, U x) {Q : Unit → SortSt → Prop} (h : ∀ st', (arrOf st').Perm a₀ → failedOf st' = none → Inc L (arrOf st').toList → Q () st') : wpS (model prog w) A E s sortRuns' Q (SortSt.mk' κ a₀ #[] 7 none) := by
  refine wpS_bind (wpS_get ?_)
  dsimp only
  refine wpS_bind (wpS_mono (wpS_forRange (I := fun i c st => ∃ lo R, c = (none, lo) ∧ St L κ a₀ R st ∧ lo + R.length = a₀.size ∧ (i ≤ lo ∨ lo = a₀.size))
    (Q := fun c st => ∃ lo, c = (none, lo) ∧ St L κ a₀ [] st) ?step ?fin ⟨0, a₀.toList, rfl, ⟨rfl, rfl, Array.Perm.refl _, [], by simp [arrOf], trivial⟩, by simp, .inl (Nat.le_refl _)⟩) ?post)
  case fin =>
    rintro c st ⟨lo, R, rfl, S, e1, e2⟩
    have : R = [] := List.eq_nil_of_length_eq_zero (by
      have : (arrOf (SortSt.mk' κ a₀ #[] 7 none)).size = a₀.size := rfl
      rcases e2 with e2 | e2
      · have e3 : a₀.size ≤ lo := Nat.le_trans (Nat.le_max_right 0 _) e2
        omega
      · omega)
    subst this
    exact ⟨lo, rfl, S⟩
  case post =>
    rintro c st ⟨lo, rfl, S⟩
    dsimp only
    have s0 : (pendingOf st).size ≤ a₀.size := by
      obtain ⟨rs, e1, r⟩ := S.ex
      have := S.perm.size_eq
      rw [← Array.length_toList, e1, List.append_nil] at this
      have l2 := r.len
      rw [Array.length_toList] at l2
      omega
    refine wpS_bind (wpS_mono (wpS_forRange (I := fun i c st => c = (none, ()) ∧ St L κ a₀ [] st ∧ ((pendingOf st).size + i ≤ a₀.size ∨ (pendingOf st).size ≤ 1)) (Q := fun c st => c = (none, ()) ∧ St L κ a₀ [] st ∧ (pendingOf st).size ≤ 1) ?_ ?_ ⟨rfl, S, .inl s0⟩) ?_)
    · rintro i c st1 _ hi ⟨rfl, S1, e⟩
      refine wpS_bind (wpS_get ?_)
      by_cases c1 : (pendingOf st1).size ≤ 1
      · rw [if_pos c1]
        exact wpS_pure ⟨rfl, S1, c1⟩
      rw [if_neg c1]
      have key : ∀ j, j = (pendingOf st1).size - 2 - 1 ∨ j = (pendingOf st1).size - 2 → j + 1 < (pendingOf st1).size := fun j hj => by omega
      refine wpS_bind (r_join O H u0 S1 (key _ ite_or) fun st2 S2 e2 => ?_)
      simp only [Bool.not_true, Bool.false_eq_true, if_false]
      exact wpS_pure ⟨rfl, S2, by omega⟩
    · rintro c st1 ⟨rfl, S1, e⟩
      have : a₀.size ≤ max 0 (arrOf (SortSt.mk' κ a₀ #[] 7 none)).size := Nat.le_max_right ..
      exact ⟨rfl, S1, by
        rcases e with e | e
        · have : (pendingOf st1).size + a₀.size ≤ a₀.size := Nat.le_trans (Nat.add_le_add_left this _) e
          omega
        · exact e⟩
    · rintro c st1 ⟨rfl, S1, e⟩
      refine wpS_pure (h st1 S1.perm S1.failed ?_)
      obtain ⟨rs, e1, r⟩ := S1.ex
      have l2 := r.len.1
      rw [Array.length_toList] at l2
      rw [e1, List.append_nil]
      match rs, l2 with
      | [], _ => exact List.Pairwise.nil
      | [x], _ =>
        have : Inc L x := by
          revert r
          cases (pendingOf st1).toList with
          | nil => exact fun r => r.elim
          | cons p ps => exact fun r => r.2.2.2.1
        simpa using this
      | _ :: _ :: l, l2 => rw [List.length_cons, List.length_cons] at l2; omega
  case step =>
    rintro i c st _ hi ⟨lo, R, rfl, S, e1, e2⟩
    dsimp only
    generalize (sortPriv% PySem.Builtin.minRun : Nat → Nat → Nat → Nat) a₀.size a₀.size 0 = mr
    by_cases c0 : lo ≥ a₀.size
    · rw [if_pos c0]
      have : R = [] := List.eq_nil_of_length_eq_zero (by omega)
      subst this
      exact wpS_pure ⟨lo, rfl, S⟩
    rw [if_neg c0]
    have sz : (arrOf st).size = a₀.size := S.perm.size_eq
    have e2' : i ≤ lo := by omega
    refine wpS_bind (r_count O H (S.u u0) ⟨S.kind, S.failed, rfl, Array.Perm.refl _, fun _ _ => rfl⟩ (by omega) (by omega) fun n st1 n1 n2 G1 up1 => ?_)
    dsimp only
    refine r_ite (fun c1 => ?a) (fun c1 => ?b)
    case' a =>
      refine wpS_bind (r_rule (wpS_bind (r_bin O H (S.u u0) G1 n1 (by omega) (by omega) up1 fun st2 G2 up2 => ?_)))
      simp only [Bool.not_true, Bool.false_eq_true, if_false]
      have f1 : 1 ≤ min (a₀.size - lo) mr := by omega
      have f2 : lo + min (a₀.size - lo) mr ≤ a₀.size := by omega
      clear up1 G1 n1 n2 c1
      generalize min (a₀.size - lo) mr = m at f1 f2 up2 ⊢
    case' b =>
      have G2 := G1
      have up2 := up1
      have f1 := n1
      have f2 : lo + n ≤ a₀.size := by omega
      clear up1 G1 n1 n2 c1
      generalize st1 = st2 at G2 up2 ⊢
      generalize n = m at f1 f2 up2 ⊢
    all_goals
      have S2 := S.seg e1 G2
      have z2 : (arrOf st2).size = a₀.size := G2.size.trans sz
      have lR : ((arrOf st2).toList.drop lo).length = a₀.size - lo := by rw [List.length_drop, Array.length_toList, z2]
      have iR := inc_of_up up2 (by omega)
      have done_ : ∀ st3, St L κ a₀ ((arrOf st2).toList.drop lo) st3 → wpS (model prog w) A E s (modify fun s => setPending s ((pendingOf s).push (lo, m, 0))) (fun _ st' => ∃ lo' R', ((none, lo + m) : Option Unit × Nat) = (none, lo') ∧ St L κ a₀ R' st' ∧ lo' + R'.length = a₀.size ∧ (i + 1 ≤ lo' ∨ lo' = a₀.size)) st3 := fun st3 S3 =>
        wpS_modify ⟨lo + m, _, rfl, S3.push (by omega) f1 (by omega) iR, by rw [List.length_drop]; omega, by omega⟩
      refine wpS_bind (wpS_get ?_)
      rcases hb : (pendingOf st2).back? with _ | ⟨s1, n1, z⟩
      · exact wpS_bind (wpS_mono (done_ st2 S2) fun _ st' hst => wpS_pure hst)
      · dsimp only
        refine wpS_bind (wpS_mono (wpS_forRange (I := fun i c st3 => c = (none, ()) ∧ St L κ a₀ ((arrOf st2).toList.drop lo) st3) (Q := fun c st3 => c = (none, ()) ∧ St L κ a₀ ((arrOf st2).toList.drop lo) st3) ?_ ?_ ⟨rfl, S2⟩) ?_)
        · rintro j c st3 _ _ ⟨rfl, S3⟩
          refine wpS_bind (wpS_get ?_)
          by_cases c2 : (pendingOf st3).size > 1
          · rw [if_pos c2]
            have hp : (pendingOf st3)[(pendingOf st3).size - 2]? = some (pendingOf st3)[(pendingOf st3).size - 2] := Array.getElem?_eq_getElem (by omega)
            rw [hp]
            generalize (pendingOf st3)[(pendingOf st3).size - 2] = q
            obtain ⟨q1, q2, q3⟩ := q
            dsimp only
            refine r_ite (fun _ => wpS_pure ⟨rfl, S3⟩) fun _ => ?_
            have key : ∀ j, j = (pendingOf st3).size - 2 → j + 1 < (pendingOf st3).size := fun j hj => by omega
            refine wpS_bind (r_join O H u0 S3 (key _ rfl) fun st4 S4 _ => ?_)
            simp only [Bool.not_true, Bool.false_eq_true, if_false]
            exact wpS_pure ⟨rfl, S4⟩
          · rw [if_neg c2]
            exact wpS_pure ⟨rfl, S3⟩
        · rintro c st3 ⟨rfl, S3⟩
          exact ⟨rfl, S3⟩
        · rintro c st3 ⟨rfl, S3⟩
          dsimp only
          refine wpS_bind (wpS_modify ?_)
          exact wpS_bind (wpS_mono (done_ _ (S3.mod _ _)) fun _ st' hst => wpS_pure hst)
end
end SR
end L2

namespace L2
open PySem PySem.Spec PySem.W PyProof.Rows
namespace ST
/-! ### list.sort of rows -/
section
variable {prog : Program} {w : World} {A : Around} {E : Value → Shared → Prop} {s : Shared} {L a : Addr} {mm : Str → Option Value} {m : Nat} {rows : List (Addr × List Int)}
noncomputable abbrev rf (r : Addr × List Int) : Value := .ref r.1
theorem RowAt.keep {h h' : Heap} {r : Addr × List Int} (x : RowAt h m r) (e : ∀ o, h.get? r.1 = some o → h'.get? r.1 = some o) : RowAt h' m r := by
  obtain ⟨l, o, its, n, h1, h2⟩ := x
  exact ⟨l, o, its, n, e o h1, h2⟩
theorem RowAt.first {h : Heap} (hm : 1 ≤ m) : ∀ {rows : List (Addr × List Int)}, (∀ r ∈ rows, RowAt h m r) → ∃ fs : List Value, fs.length = rows.length ∧ KatTups h (rows.map rf) fs ∧ ∀ v ∈ fs, ∃ i t, v = .int i t
  | [], _ => ⟨[], rfl, .nil, fun v h => by cases h⟩
  | r :: rows, hr => by
    obtain ⟨fs, e, t, hv⟩ := RowAt.first hm (rows := rows) fun x hx => hr x (List.mem_cons_of_mem _ hx)
    obtain ⟨l, o, its, n, h1, h2, h3, h4⟩ := hr r (List.mem_cons_self ..)
    have : ∃ i t, its[0]? = some (Value.int i t) := by
      rw [← Array.getElem?_toList]
      revert h4 l
      generalize its.toList = us
      generalize r.2 = zs
      intro l h4
      cases h4 with
      | nil => exact absurd l (by simp; omega)
      | cons i t _ => exact ⟨i, t, rfl⟩
    obtain ⟨i, t0, e0⟩ := this
    refine ⟨.int i t0 :: fs, by rw [List.length_cons, List.length_cons, e], KatTups.cons h1 h2 h3 e0 t, fun v hv' => ?_⟩
    rcases List.mem_cons.mp hv' with z | z
    · exact ⟨i, t0, z⟩
    · exact hv v z
noncomputable def RUp (rows : List (Addr × List Int)) : Prop := rows.Pairwise fun x y => lexB y.2 x.2 = false
theorem row_ne {r : Addr × List Int} {o : Obj} {b : Addr} (x : RowAt s.heap m r) (hb : s.heap.get? b = some o) (hc : o.cls ≠ .type "tuple") : r.1 ≠ b := fun z => by
  obtain ⟨_, o', _, _, h1, h2, _⟩ := x
  rw [z, hb] at h1
  cases h1
  exact hc h2
theorem perm_map' {α β : Type} {f : α → β} {l : List β} {xs : List α} (h : l.Perm (xs.map f)) : ∃ ys : List α, ys.Perm xs ∧ l = ys.map f := by
  generalize e : xs.map f = l2 at h
  induction h generalizing xs with
  | nil => exact ⟨[], by rw [List.map_eq_nil_iff.mp e], rfl⟩
  | cons x h ih =>
    obtain ⟨y, ys, rfl, rfl, e'⟩ := List.map_eq_cons_iff.mp e
    obtain ⟨zs, p, rfl⟩ := ih e'
    exact ⟨y :: zs, p.cons y, rfl⟩
  | swap x y l =>
    obtain ⟨a, as, rfl, rfl, e'⟩ := List.map_eq_cons_iff.mp e
    obtain ⟨b, bs, rfl, rfl, rfl⟩ := List.map_eq_cons_iff.mp e'
    exact ⟨b :: a :: bs, List.Perm.swap .., rfl⟩
  | trans h1 h2 ih1 ih2 =>
    obtain ⟨ys, p, rfl⟩ := ih2 e
    obtain ⟨zs, p', e'⟩ := ih1 rfl
    exact ⟨zs, p'.trans p, e'⟩
theorem zip_same : ∀ rows : List (Addr × List Int), (rows.map rf).zip (rows.map rf) = rows.map fun r => (rf r, rf r)
  | [] => rfl
  | r :: rows => by rw [List.map_cons, List.zip_cons_cons, zip_same rows]; rfl
/-- the row that stands at a key's place -/
noncomputable def keyK (m : Nat) (rows : List (Addr × List Int)) (x : Keyed) : List Int := match x.1 with
  | .ref a => ((rows.find? fun r => r.1 == a).map (·.2)).getD (List.replicate m 0)
  | _ => List.replicate m 0
theorem keyK_len (hr : ∀ r ∈ rows, r.2.length = m) (x : Keyed) : (keyK m rows x).length = m := by
  unfold keyK
  split
  · cases e : rows.find? fun r => r.1 == _ with
    | none => exact List.length_replicate
    | some r => exact hr r (List.mem_of_find?_eq_some e)
  · exact List.length_replicate
theorem keyK_ord (hr : ∀ r ∈ rows, r.2.length = m) : SR.TO fun x y => lexB (keyK m rows x) (keyK m rows y) :=
  ⟨fun h => lex_as h, fun {x y z} h1 h2 => lex_tr (by rw [keyK_len hr, keyK_len hr]) (by rw [keyK_len hr, keyK_len hr]) h1 h2⟩
theorem keyK_of {h : Heap} (hr : ∀ r ∈ rows, RowAt h m r) {r : Addr × List Int} (hm : r ∈ rows) : keyK m rows (rf r, rf r) = r.2 := by
  show ((rows.find? fun q => q.1 == r.1).map (·.2)).getD (List.replicate m 0) = r.2
  cases e : rows.find? fun q => q.1 == r.1 with
  | none => exact absurd (List.find?_eq_none.mp e r hm) (by simp)
  | some q =>
    have e1 : q.1 = r.1 := by simpa using List.find?_some e
    obtain ⟨_, o1, i1, n1, g1, _, d1, r1⟩ := hr q (List.mem_of_find?_eq_some e)
    obtain ⟨_, o2, i2, n2, g2, _, d2, r2⟩ := hr r hm
    rw [e1, g2] at g1
    cases g1
    rw [d2] at d1
    cases d1
    show q.2 = r.2
    rw [← r1.nums, ← r2.nums]
theorem sort_many {c : Nat} {P : PySem.Fin → Shared → Prop} (hm : 1 ≤ m) (ho : s.heap.get? a = some (seqObj "list" (rows.map rf).toArray c)) (hr : ∀ r ∈ rows, RowAt s.heap m r) (h2 : 2 ≤ rows.length) (h64 : rows.length < 1000)
    (h : ∀ h' rows' c', rows'.Perm rows → RUp rows' → h'.get? a = some (seqObj "list" (rows'.map rf).toArray c') → (∀ b o, b ≠ a → s.heap.get? b = some o → h'.get? b = some o) → P (.done (.ret .none)) { s with heap := h' }) :
    wpAny (model prog w) A (Builtin.«list.sort» ⟨[.ref a], []⟩) P E s := by
  have lv : (rows.map rf).length = rows.length := List.length_map ..
  have sz : ¬ ((rows.map rf).toArray).size < 2 := by rw [List.size_toArray, lv]; omega
  have few : ((rows.map rf).toArray).size ≤ sizeLine := by rw [List.size_toArray, lv]; exact Nat.le_trans (Nat.le_of_lt h64) (by decide)
  obtain ⟨c1, o1⟩ : ∃ c1, (s.heap.update a (Obj.mapSeq fun _ => (#[] : Array Value))).get? a = some (seqObj "list" #[] c1) := ⟨_, get?_update_seq ho _⟩
  have o3 := Heap.get?_push_of_some { cls := .type "list", data := .seq #[] } (Heap.get?_push_of_some { cls := .type "tuple", data := .seq (rows.map rf).toArray } o1)
  have k3 : ∀ b o, b ≠ a → s.heap.get? b = some o → (((s.heap.update a (Obj.mapSeq fun _ => (#[] : Array Value))).push { cls := .type "tuple", data := .seq (rows.map rf).toArray }).push { cls := .type "list", data := .seq #[] }).get? b = some o := fun b o nb e =>
    Heap.get?_push_of_some _ (Heap.get?_push_of_some _ (by rw [Heap.get?_update_ne _ _ _ _ nb]; exact e))
  rw [list_sort_plain]
  refine wpAny_bind (listItems_at ho rfl (wpAny_bind (listUpdate_at ho rfl (wpAny_bind (seqEpoch_at o1 rfl (wpAny_bind (wpAny_newTuple (wpAny_bind (wpAny_newList (wpAny_holding ?_) (Nat.zero_le _))) few)))) few (Nat.zero_le _))))
  dsimp only
  rw [if_neg sz]
  generalize ((s.heap.update a (Obj.mapSeq fun _ => (#[] : Array Value))).push { cls := .type "tuple", data := .seq (rows.map rf).toArray }).push { cls := .type "list", data := .seq #[] } = h3 at o3 k3
  have r3 : ∀ r ∈ rows, RowAt h3 m r := fun r hr' => (hr r hr').keep fun o e => k3 _ o (row_ne (hr r hr') ho fun z => absurd (Value.type.inj z) (by decide)) e
  obtain ⟨fs, lf, tf, hf⟩ := RowAt.first hm r3
  refine wpAny_bind (kat_kind (s := { s with heap := h3 }) (T := .type "int") tf (by omega) (fun v hv => ?_) (by rfl) ?_)
  · obtain ⟨i, t, rfl⟩ := hf v hv
    exact Looks.of_pure rfl
  rw [show (Value.type "int" != Value.type "tuple") = true from by decide, if_neg sz]
  have za : (((rows.map rf).toArray).zip ((rows.map rf).toArray)).toList = rows.map fun r => (rf r, rf r) := by
    rw [Array.toList_zip, List.toList_toArray]
    exact zip_same rows
  refine wpAny_bind (wpAny_mono (SR.r_runs (s := { s with heap := h3 }) (κ := tuples' true) (U := fun x => ∃ r ∈ rows, x = (rf r, rf r)) (keyK_ord (rows := rows) fun r hr' => (hr r hr').1) (fun x y ux uy => ?_) (fun x hx => ?_) (Q := fun _ st => failedOf st = none ∧ ∃ rows', (arrOf st).map (·.2) = (rows'.map rf).toArray ∧ rows'.Perm rows ∧ RUp rows') fun st' pe fl inc => ⟨fl, ?_⟩) ?_ fun _ _ e => e)
  · obtain ⟨r, hr1, rfl⟩ := ux
    obtain ⟨r', hr2, rfl⟩ := uy
    refine row_lt (s := { s with heap := h3 }) (r3 r hr1) (r3 r' hr2) ⟨rfl, ?_⟩
    dsimp only
    rw [keyK_of r3 hr1, keyK_of r3 hr2]
  · rw [za] at hx
    obtain ⟨r, hr1, rfl⟩ := List.mem_map.mp hx
    exact ⟨r, hr1, rfl⟩
  · have pl := Array.perm_iff_toList_perm.mp pe
    rw [za] at pl
    obtain ⟨rows', p', e'⟩ := perm_map' pl
    refine ⟨rows', ?_, p', ?_⟩
    · apply Array.toList_inj.mp
      rw [Array.toList_map, e', List.map_map]
      rfl
    · unfold RUp
      have := inc
      rw [e', SR.Inc, List.pairwise_map] at this
      refine this.imp_of_mem fun {x y} hx hy h => ?_
      have h' : lexB (keyK m rows (rf y, rf y)) (keyK m rows (rf x, rf x)) = false := h
      rw [keyK_of r3 (p'.mem_iff.mp hx), keyK_of r3 (p'.mem_iff.mp hy)] at h'
      exact h'
  · rintro ⟨⟨⟩, st⟩ s' ⟨rfl, fl, rows', ar, pr, up⟩
    dsimp only
    rw [ar, fl]
    have few' : ((rows'.map rf).toArray).size ≤ sizeLine := by rw [List.size_toArray, List.length_map, pr.length_eq]; exact Nat.le_trans (Nat.le_of_lt h64) (by decide)
    refine wpAny_bind (seqEpoch_at o3 rfl (wpAny_bind (listUpdate_at o3 rfl ?_ (Nat.zero_le _) (Nat.le_succ_of_le few'))))
    rw [if_neg (by simp)]
    refine wpAny_pure (h _ rows' _ pr up (get?_update_seq o3 _) fun b o nb e => ?_)
    rw [Heap.get?_update_ne _ _ _ _ nb]
    exact k3 b o nb e
theorem sort_few {c : Nat} {P : PySem.Fin → Shared → Prop} (ho : s.heap.get? a = some (seqObj "list" (rows.map rf).toArray c)) (h2 : rows.length < 2)
    (h : ∀ h' c', h'.get? a = some (seqObj "list" (rows.map rf).toArray c') → (∀ b o, b ≠ a → s.heap.get? b = some o → h'.get? b = some o) → P (.done (.ret .none)) { s with heap := h' }) :
    wpAny (model prog w) A (Builtin.«list.sort» ⟨[.ref a], []⟩) P E s := by
  have lv : (rows.map rf).length = rows.length := List.length_map ..
  have sz : ((rows.map rf).toArray).size < 2 := by rw [List.size_toArray, lv]; exact h2
  have few : ((rows.map rf).toArray).size ≤ sizeLine := Nat.le_trans (Nat.le_of_lt sz) (by decide)
  have zz : Array.map (fun x => x.snd) (((rows.map rf).toArray).zip ((rows.map rf).toArray)) = (rows.map rf).toArray := by
    apply Array.toList_inj.mp
    rw [Array.toList_map, Array.toList_zip, List.toList_toArray]
    exact List.map_snd_zip (Nat.le_refl _)
  obtain ⟨c1, o1⟩ : ∃ c1, (s.heap.update a (Obj.mapSeq fun _ => (#[] : Array Value))).get? a = some (seqObj "list" #[] c1) := ⟨_, get?_update_seq ho _⟩
  rw [list_sort_plain]
  refine wpAny_bind (listItems_at ho rfl (wpAny_bind (listUpdate_at ho rfl (wpAny_bind (seqEpoch_at o1 rfl (wpAny_bind (wpAny_newTuple (wpAny_bind (wpAny_newList (wpAny_holding ?_) (Nat.zero_le _))) few)))) few (Nat.zero_le _))))
  dsimp only
  rw [if_pos sz]
  refine wpAny_bind (wpAny_pure ?_)
  rw [if_pos sz]
  refine wpAny_bind (wpAny_pure ?_)
  dsimp only
  rw [show arrOf (SortSt.mk' general' (((rows.map rf).toArray).zip ((rows.map rf).toArray)) #[] 7 none) = ((rows.map rf).toArray).zip ((rows.map rf).toArray) from rfl, zz]
  have o3 := Heap.get?_push_of_some { cls := .type "list", data := .seq #[] } (Heap.get?_push_of_some { cls := .type "tuple", data := .seq (rows.map rf).toArray } o1)
  refine wpAny_bind (seqEpoch_at o3 rfl (wpAny_bind (listUpdate_at o3 rfl ?_ (Nat.zero_le _) (Nat.le_succ_of_le few))))
  rw [if_neg (by simp)]
  refine wpAny_pure (h _ _ (get?_update_seq o3 _) fun b o nb e => ?_)
  rw [Heap.get?_update_ne _ _ _ _ nb]
  refine Heap.get?_push_of_some _ (Heap.get?_push_of_some _ ?_)
  rw [Heap.get?_update_ne _ _ _ _ nb]
  exact e
/-- list.sort of rows, however many below 1000 -/
theorem sort_rows {c : Nat} {P : PySem.Fin → Shared → Prop} (hm : 1 ≤ m) (ho : s.heap.get? a = some (seqObj "list" (rows.map rf).toArray c)) (hr : ∀ r ∈ rows, RowAt s.heap m r) (h64 : rows.length < 1000)
    (h : ∀ h' rows' c', rows'.Perm rows → RUp rows' → h'.get? a = some (seqObj "list" (rows'.map rf).toArray c') → (∀ b o, b ≠ a → s.heap.get? b = some o → h'.get? b = some o) → P (.done (.ret .none)) { s with heap := h' }) :
    wpAny (model prog w) A (Builtin.«list.sort» ⟨[.ref a], []⟩) P E s := by
  by_cases c2 : 2 ≤ rows.length
  · exact sort_many hm ho hr c2 h64 h
  · refine sort_few ho (by omega) fun h' c' e1 e2 => h h' rows c' (List.Perm.refl _) ?_ e1 e2
    unfold RUp
    match rows, c2 with
    | [], _ => exact List.Pairwise.nil
    | [r], _ => exact List.pairwise_singleton _ _
    | _ :: _ :: l, c2 => exact absurd (by simp) c2
end
end ST
end L2

namespace L2
open PySem PySem.Spec PySem.W PyProof.Rows
namespace ST
/-! ### sorted(..) of whatever gives rows -/
section
variable {prog : Program} {w : World} {A : Around} {E : Value → Shared → Prop} {s : Shared} {m : Nat} {S : List (Addr × List Int) → Prop}
theorem sorted_src {src : Value} {Q : Value → Shared → Prop} (hm : 1 ≤ m)
    (col : ∀ Q' : List Value → Shared → Prop, (∀ rows h1 tk, S rows → (∀ r ∈ rows, RowAt s.heap m r) → rows.length < 1000 → s.heap.objs.size ≤ h1.objs.size → (∀ b o, s.heap.get? b = some o → h1.get? b = some o) → Q' (rows.map rf) { s with heap := h1, toks := tk }) → wpAny (model prog w) A.in1 (collect src) Q' E s)
    (h : ∀ a h' tk rows rows' c, S rows → (∀ r ∈ rows, RowAt s.heap m r) → rows'.Perm rows → RUp rows' → rows.length < 1000 → s.heap.objs.size ≤ a → h'.get? a = some (seqObj "list" (rows'.map rf).toArray c) → (∀ b o, s.heap.get? b = some o → h'.get? b = some o) → Q (.ref a) { s with heap := h', toks := tk }) :
    wpAny (model prog w) A (call (.builtin "sorted") [src]) Q E s := by
  refine Calls.call_function_entry kind_sorted plain_sorted entry_sorted (args_sorted1 _) ?_
  unfold Builtin.«sorted»
  refine wpAny_bind (m := checkCount "sorted" 1 1 _) (wpAny_pure (wpAny_bind (col _ fun rows h1 tk hS hr h64 le keep => ?_)))
  have lv : (rows.map rf).length = rows.length := List.length_map ..
  refine wpAny_bind (wpAny_newList ?_ (by rw [lv]; exact Nat.le_trans (Nat.le_of_lt h64) (by decide)))
  dsimp only
  have ho : (h1.push { cls := .type "list", data := .seq (rows.map rf).toArray }).get? h1.objs.size = some (seqObj "list" (rows.map rf).toArray 0) := Heap.get?_push_size _ rfl
  refine wpAny_bind (wpAny_holding (wpAny_call_entry slot_list_sort ⟨_, ho, rfl⟩ entry_list_sort (sort_rows (s := { s with heap := h1.push { cls := .type "list", data := .seq (rows.map rf).toArray }, toks := tk }) hm ho (fun r hr' => (hr r hr').keep fun o e => Heap.get?_push_of_some _ (keep _ o e)) h64 fun h' rows' c' pr up ho' k' => ⟨_, rfl, ?_⟩) (args_list_sort _)))
  exact wpAny_pure ⟨_, rfl, h _ h' _ rows rows' c' hS hr pr up h64 le ho' fun b o e => k' b o (Nat.ne_of_lt (Heap.lt_size (keep b o e))) (Heap.get?_push_of_some _ (keep b o e))⟩
end
end ST
end L2

namespace L2
open PySem
namespace ST
/-! ### the walk through a set's table: every slot is met -/
/-- the n-th place that is looked at -/
noncomputable def nth (t : SetTable) (p : SetTable.Probe) : Nat → SetTable.Probe
  | 0 => p
  | n + 1 => nth t (t.advance p) n
theorem nth_succ (t : SetTable) : ∀ (n : Nat) (p : SetTable.Probe), nth t p (n + 1) = t.advance (nth t p n)
  | 0, _ => rfl
  | n + 1, p => nth_succ t n (t.advance p)
theorem nth_add (t : SetTable) : ∀ (a b : Nat) (p : SetTable.Probe), nth t p (a + b) = nth t (nth t p a) b
  | 0, b, p => by rw [Nat.zero_add]; rfl
  | a + 1, b, p => by rw [show a + 1 + b = (a + b) + 1 by omega]; exact nth_add t a b (t.advance p)
/-- the beginning of a run -/
noncomputable def beg (t : SetTable) (i q : Nat) : SetTable.Probe := ⟨i, SetTable.runEnd t.mask i - i, i, q, none⟩
theorem start_beg (t : SetTable) (h : Int) : t.probeStart h = beg t (SetTable.bits h % (t.mask + 1)) (SetTable.bits h) := rfl
theorem run_le (m i : Nat) : SetTable.runEnd m i - i ≤ 9 := by
  unfold SetTable.runEnd
  split <;> omega
theorem adv_in {t : SetTable} {p : SetTable.Probe} (h : 0 < p.more) : t.advance p = { p with j := p.j + 1, more := p.more - 1 } := by
  unfold SetTable.advance
  rw [if_pos h]
theorem adv_out {t : SetTable} {p : SetTable.Probe} (h : p.more = 0) (d : p.dummy = none) : t.advance p = beg t ((p.i * 5 + 1 + p.perturb / 32) % (t.mask + 1)) (p.perturb / 32) := by
  unfold SetTable.advance
  rw [if_neg (by omega)]
  unfold SetTable.leap beg
  rw [d]
/-- within a run -/
theorem nth_run (t : SetTable) (i q : Nat) : ∀ k, k ≤ SetTable.runEnd t.mask i - i → nth t (beg t i q) k = ⟨i + k, SetTable.runEnd t.mask i - i - k, i, q, none⟩
  | 0, _ => rfl
  | k + 1, h => by
    rw [nth_succ, nth_run t i q k (by omega), adv_in (by show 0 < SetTable.runEnd t.mask i - i - k; omega)]
    show (⟨i + k + 1, SetTable.runEnd t.mask i - i - k - 1, i, q, none⟩ : SetTable.Probe) = _
    rw [show i + k + 1 = i + (k + 1) by omega, show SetTable.runEnd t.mask i - i - k - 1 = SetTable.runEnd t.mask i - i - (k + 1) by omega]
/-- one run, and on to the next -/
theorem nth_leap (t : SetTable) (i q : Nat) : nth t (beg t i q) (SetTable.runEnd t.mask i - i + 1) = beg t ((i * 5 + 1 + q / 32) % (t.mask + 1)) (q / 32) := by
  rw [nth_succ, nth_run t i q _ (Nat.le_refl _), adv_out (by show SetTable.runEnd t.mask i - i - (SetTable.runEnd t.mask i - i) = 0; omega) rfl]
theorem leaps (t : SetTable) : ∀ (k i q : Nat), i ≤ t.mask → ∃ n i', n ≤ 10 * k ∧ i' ≤ t.mask ∧ nth t (beg t i q) n = beg t i' (q / 32 ^ k)
  | 0, i, q, hi => ⟨0, i, Nat.zero_le _, hi, by rw [Nat.pow_zero, Nat.div_one]; rfl⟩
  | k + 1, i, q, hi => by
    have h1 := run_le t.mask i
    have h2 : (i * 5 + 1 + q / 32) % (t.mask + 1) ≤ t.mask := Nat.le_of_lt_succ (Nat.mod_lt _ (Nat.succ_pos _))
    obtain ⟨n, i', hn, hi', e⟩ := leaps t k _ (q / 32) h2
    refine ⟨SetTable.runEnd t.mask i - i + 1 + n, i', by omega, hi', ?_⟩
    rw [nth_add, nth_leap, e, Nat.div_div_eq_div_mul, Nat.pow_succ, Nat.mul_comm 32]
theorem adv_mask {t u : SetTable} (h : t.mask = u.mask) (p : SetTable.Probe) : t.advance p = u.advance p := by
  unfold SetTable.advance
  rw [h]
theorem nth_mask {t u : SetTable} (h : t.mask = u.mask) : ∀ (n : Nat) (p : SetTable.Probe), nth t p n = nth u p n
  | 0, _ => rfl
  | n + 1, p => by
    show nth t (t.advance p) n = nth u (u.advance p) n
    rw [adv_mask h, nth_mask h n]
/-! with nothing left of the hash: from place to place by 5 i + 1 -/
noncomputable def it (m : Nat) : Nat → Nat → Nat
  | 0, i => i
  | k + 1, i => it m k ((i * 5 + 1) % (m + 1))
theorem it_add (m : Nat) : ∀ (a b i : Nat), it m (a + b) i = it m b (it m a i)
  | 0, b, i => by rw [Nat.zero_add]; rfl
  | a + 1, b, i => by rw [show a + 1 + b = (a + b) + 1 by omega]; exact it_add m a b _
/-- is j met within so many places from i on -/
noncomputable def meets (m j : Nat) : Nat → Nat → Bool
  | 0, _ => false
  | n + 1, i => Nat.beq i j || meets m j n ((i * 5 + 1) % (m + 1))
theorem meets_it (m j : Nat) : ∀ (n i : Nat), meets m j n i = true → ∃ k, k < n ∧ it m k i = j
  | 0, i, h => by cases h
  | n + 1, i, h => by
    unfold meets at h
    rcases Bool.or_eq_true_iff.mp h with h | h
    · exact ⟨0, Nat.succ_pos _, Nat.eq_of_beq_eq_true h⟩
    · obtain ⟨k, hk, e⟩ := meets_it m j n _ h
      exact ⟨k + 1, Nat.succ_lt_succ hk, e⟩
noncomputable def whole (m : Nat) : Bool := (List.range (m + 1)).all (fun j => meets m j (m + 1) 0) && Nat.beq (it m (m + 1) 0) 0
theorem whole7 : whole 7 = true := by decide +kernel
theorem whole31 : whole 31 = true := by decide +kernel
theorem whole127 : whole 127 = true := by decide +kernel
theorem whole511 : whole 511 = true := by decide +kernel
/-- the tables of up to three hundred things -/
noncomputable def Small (t : SetTable) : Prop := t.mask = 7 ∨ t.mask = 31 ∨ t.mask = 127 ∨ t.mask = 511
theorem whole_of {m : Nat} (h : m = 7 ∨ m = 31 ∨ m = 127 ∨ m = 511) : whole m = true := by
  rcases h with rfl | rfl | rfl | rfl
  · exact whole7
  · exact whole31
  · exact whole127
  · exact whole511
theorem it_all {m : Nat} (h : whole m = true) {i j : Nat} (hi : i ≤ m) (hj : j ≤ m) : ∃ k, k ≤ m ∧ it m k i = j := by
  obtain ⟨h1, h2⟩ := Bool.and_eq_true_iff.mp h
  have per : it m (m + 1) 0 = 0 := Nat.eq_of_beq_eq_true h2
  obtain ⟨a, ha, ea⟩ := meets_it m i _ _ (List.all_eq_true.mp h1 i (List.mem_range.mpr (Nat.lt_succ_of_le hi)))
  obtain ⟨b, hb, eb⟩ := meets_it m j _ _ (List.all_eq_true.mp h1 j (List.mem_range.mpr (Nat.lt_succ_of_le hj)))
  by_cases c : a ≤ b
  · refine ⟨b - a, by omega, ?_⟩
    rw [← ea, ← it_add, show a + (b - a) = b by omega, eb]
  · refine ⟨b + (m + 1) - a, by omega, ?_⟩
    rw [← ea, ← it_add, show a + (b + (m + 1) - a) = (m + 1) + b by omega, it_add, per, eb]
theorem leaps0 (t : SetTable) : ∀ (k i : Nat), ∃ n, n ≤ 10 * k ∧ nth t (beg t i 0) n = beg t (it t.mask k i) 0
  | 0, i => ⟨0, Nat.zero_le _, rfl⟩
  | k + 1, i => by
    have h1 := run_le t.mask i
    obtain ⟨n, hn, e⟩ := leaps0 t k ((i * 5 + 1) % (t.mask + 1))
    refine ⟨SetTable.runEnd t.mask i - i + 1 + n, by omega, ?_⟩
    rw [nth_add, nth_leap, Nat.zero_div, Nat.add_zero, e]
    rfl
theorem bits_lt (h : Int) : SetTable.bits h < 2 ^ 64 := by
  unfold SetTable.bits
  have h1 := Int.emod_nonneg h (show (2 ^ 64 : Int) ≠ 0 by decide)
  have h2 := Int.emod_lt_of_pos h (show (0 : Int) < 2 ^ 64 by decide)
  omega
theorem covers {t : SetTable} (s : Small t) (h : Int) {j : Nat} (hj : j ≤ t.mask) : ∃ n, n < 10 * SetTable.turns t.mask ∧ (nth t (t.probeStart h) n).j = j := by
  obtain ⟨n, i, hn, hi, e⟩ := leaps t 13 (SetTable.bits h % (t.mask + 1)) (SetTable.bits h) (Nat.le_of_lt_succ (Nat.mod_lt _ (Nat.succ_pos _)))
  have q0 : SetTable.bits h / 32 ^ 13 = 0 := Nat.div_eq_of_lt (Nat.lt_of_lt_of_le (bits_lt h) (by decide))
  rw [q0] at e
  obtain ⟨k, hk, ek⟩ := it_all (whole_of s) hi hj
  obtain ⟨n', hn', e'⟩ := leaps0 t k i
  refine ⟨n + n', ?_, ?_⟩
  · unfold SetTable.turns
    omega
  · rw [start_beg, nth_add, e, e', ek]
    rfl
end ST
end L2

namespace L2
open PySem
namespace ST
/-! ### places in their order -/
noncomputable def Rise (xs : Array Nat) : Prop := ∀ a b, a < b → b < xs.size → xs.getD a 0 < xs.getD b 0
theorem getD_any {xs : Array Nat} {k : Nat} (h : k < xs.size) (a b : Nat) : xs.getD k a = xs.getD k b := by
  rw [Array.getD_eq_getD_getElem?, Array.getD_eq_getD_getElem?, Array.getElem?_eq_getElem h]
  rfl
theorem getD_at {xs : Array Nat} {k j : Nat} (h : xs[k]? = some j) (a : Nat) : xs.getD k a = j := by
  rw [Array.getD_eq_getD_getElem?, h]
  rfl
theorem at_getD {xs : Array Nat} {k : Nat} (h : k < xs.size) : xs[k]? = some (xs.getD k 0) := by
  rw [Array.getD_eq_getD_getElem?, Array.getElem?_eq_getElem h]
  rfl
structure Bel (xs : Array Nat) (j r : Nat) : Prop where
  le : r ≤ xs.size
  lo : ∀ k, k < r → xs.getD k 0 < j
  hi : ∀ k, r ≤ k → k < xs.size → j ≤ xs.getD k 0
theorem below_go {xs : Array Nat} (R : Rise xs) {j : Nat} : ∀ (n lo hi : Nat), hi - lo ≤ n → lo ≤ hi → hi ≤ xs.size → (∀ k, k < lo → xs.getD k 0 < j) → (∀ k, hi ≤ k → k < xs.size → j ≤ xs.getD k 0) → Bel xs j (SetTable.below.go xs j n lo hi)
  | 0, lo, hi, h1, h2, h3, h4, h5 => by
    unfold SetTable.below.go
    exact ⟨by omega, h4, fun k a b => h5 k (by omega) b⟩
  | n + 1, lo, hi, h1, h2, h3, h4, h5 => by
    unfold SetTable.below.go
    by_cases c : lo < hi
    · rw [if_pos c]
      have hm : (lo + hi) / 2 < xs.size := by omega
      dsimp only
      rw [getD_any hm j 0]
      by_cases d : xs.getD ((lo + hi) / 2) 0 < j
      · rw [if_pos d]
        refine below_go R n _ hi (by omega) (by omega) h3 (fun k hk => ?_) h5
        by_cases e : k = (lo + hi) / 2
        · rw [e]; exact d
        · exact Nat.lt_trans (R k _ (by omega) hm) d
      · rw [if_neg d]
        refine below_go R n lo _ (by omega) (by omega) (by omega) h4 fun k a b => ?_
        by_cases e : k = (lo + hi) / 2
        · rw [e]; omega
        · have := R ((lo + hi) / 2) k (by omega) b
          omega
    · rw [if_neg c]
      exact ⟨by omega, h4, fun k a b => h5 k (by omega) b⟩
theorem below_ok {xs : Array Nat} (R : Rise xs) (j : Nat) : Bel xs j (SetTable.below xs j) :=
  below_go R _ 0 _ (by omega) (Nat.zero_le _) (Nat.le_refl _) (fun k h => absurd h (Nat.not_lt_zero _)) fun k a b => by omega
theorem below_at {xs : Array Nat} (R : Rise xs) {i j : Nat} (h : xs[i]? = some j) : SetTable.below xs j = i := by
  have B := below_ok R j
  have hi : i < xs.size := (Array.getElem?_eq_some_iff.mp h).1
  have e := getD_at h 0
  rcases Nat.lt_trichotomy (SetTable.below xs j) i with c | c | c
  · have h1 := B.hi _ (Nat.le_refl _) (by omega)
    have h2 := R _ _ c hi
    omega
  · exact c
  · have := B.lo i c
    omega
noncomputable def On (t : SetTable) (j : Nat) : Prop := ∃ i : Nat, t.place[i]? = some j
theorem slot_on {t : SetTable} (R : Rise t.place) {i j : Nat} (h : t.place[i]? = some j) : t.slot j = .live i := by
  unfold SetTable.slot
  dsimp only
  rw [below_at R h, h, if_pos (by simp)]
theorem has_nil (j : Nat) : SetTable.has #[] j = false := by
  unfold SetTable.has
  rfl
theorem slot_off {t : SetTable} (d : t.dummies = #[]) {j : Nat} (h : ¬ On t j) : t.slot j = .empty := by
  unfold SetTable.slot
  dsimp only
  have : (t.place[SetTable.below t.place j]? == some j) = false := by
    rw [beq_eq_false_iff_ne]
    exact fun e => h ⟨_, e⟩
  rw [this, d, has_nil]
  rfl
/-! ### one look through the table -/
theorem nth_dummy {t : SetTable} : ∀ (n : Nat) {p : SetTable.Probe}, p.dummy = none → (nth t p n).dummy = none
  | 0, _, h => h
  | n + 1, p, h => by
    refine nth_dummy n ?_
    unfold SetTable.advance
    split
    · exact h
    · exact h
theorem go_empty {t : SetTable} {hashAt : Nat → Int} {h : Int} (R : Rise t.place) (d : t.dummies = #[]) : ∀ (fuel e : Nat) (p : SetTable.Probe), p.dummy = none → e < fuel → ¬ On t (nth t p e).j → (∀ m, m < e → ∃ i, t.place[i]? = some (nth t p m).j ∧ hashAt i ≠ h) →
    SetTable.probe.go t hashAt h fuel p = some (.empty (nth t p e).j none)
  | 0, _, _, _, hf, _, _ => absurd hf (Nat.not_lt_zero _)
  | fuel + 1, 0, p, hd, _, he, _ => by
    unfold SetTable.probe.go
    rw [slot_off d (show ¬ On t p.j from he)]
    show some (SetTable.Met.empty p.j p.dummy) = _
    rw [hd]
    rfl
  | fuel + 1, e + 1, p, hd, hf, he, hm => by
    obtain ⟨i, hi, hh⟩ := hm 0 (Nat.succ_pos _)
    unfold SetTable.probe.go
    rw [slot_on R (show t.place[i]? = some p.j from hi)]
    show (if (hashAt i == h) = true then _ else _) = _
    rw [if_neg (by rw [beq_iff_eq]; exact hh)]
    exact go_empty R d fuel e (t.advance p) (nth_dummy 1 hd) (Nat.lt_of_succ_lt_succ hf) he fun m h' => hm (m + 1) (Nat.succ_lt_succ h')
theorem go_cand {t : SetTable} {hashAt : Nat → Int} {h : Int} (R : Rise t.place) : ∀ (fuel k i : Nat) (p : SetTable.Probe), k < fuel → t.place[i]? = some (nth t p k).j → hashAt i = h → (∀ m, m < k → ∃ i, t.place[i]? = some (nth t p m).j ∧ hashAt i ≠ h) →
    SetTable.probe.go t hashAt h fuel p = some (.candidate (nth t p k).j i (nth t p (k + 1)))
  | 0, _, _, _, hf, _, _, _ => absurd hf (Nat.not_lt_zero _)
  | fuel + 1, 0, i, p, _, hi, hh, _ => by
    unfold SetTable.probe.go
    rw [slot_on R (show t.place[i]? = some p.j from hi)]
    show (if (hashAt i == h) = true then _ else _) = _
    rw [if_pos (by rw [beq_iff_eq]; exact hh)]
    rfl
  | fuel + 1, k + 1, i, p, hf, hi, hh, hm => by
    obtain ⟨i', hi', hh'⟩ := hm 0 (Nat.succ_pos _)
    unfold SetTable.probe.go
    rw [slot_on R (show t.place[i']? = some p.j from hi')]
    show (if (hashAt i' == h) = true then _ else _) = _
    rw [if_neg (by rw [beq_iff_eq]; exact hh')]
    exact go_cand R fuel k i (t.advance p) (Nat.lt_of_succ_lt_succ hf) hi hh fun m h' => hm (m + 1) (Nat.succ_lt_succ h')
/-! ### a table in order -/
structure TB (t : SetTable) (hs : List Int) : Prop where
  dum : t.dummies = #[]
  len : t.place.size = hs.length
  rise : Rise t.place
  top : ∀ (i j : Nat), t.place[i]? = some j → j ≤ t.mask
  reach : ∀ (i : Nat) (h : Int), hs[i]? = some h → ∃ n, t.place[i]? = some (nth t (t.probeStart h) n).j ∧ ∀ m, m < n → On t (nth t (t.probeStart h) m).j
structure TOk (t : SetTable) (hs : List Int) : Prop extends TB t hs where
  small : t.mask = 7 ∧ hs.length ≤ 4 ∨ t.mask = 31 ∧ hs.length ≤ 18 ∨ t.mask = 127 ∧ hs.length ≤ 76 ∨ t.mask = 511 ∧ hs.length ≤ 306
theorem TOk.sm {t : SetTable} {hs : List Int} (T : TOk t hs) : Small t := by
  rcases T.small with ⟨h, _⟩ | ⟨h, _⟩ | ⟨h, _⟩ | ⟨h, _⟩
  · exact Or.inl h
  · exact Or.inr (Or.inl h)
  · exact Or.inr (Or.inr (Or.inl h))
  · exact Or.inr (Or.inr (Or.inr h))
theorem nd_sub {α : Type} [DecidableEq α] : ∀ {A B : List α}, A.Nodup → (∀ x ∈ A, x ∈ B) → A.length ≤ B.length
  | [], _, _, _ => Nat.zero_le _
  | a :: A, B, nd, h => by
    obtain ⟨n1, n2⟩ := List.nodup_cons.mp nd
    have h1 : a ∈ B := h a (List.mem_cons_self ..)
    have h2 : A.length ≤ (B.erase a).length := nd_sub n2 fun x hx => (List.mem_erase_of_ne (fun (e : x = a) => n1 (e ▸ hx))).mpr (h x (List.mem_cons_of_mem _ hx))
    rw [List.length_erase_of_mem h1] at h2
    have h3 : 0 < B.length := List.length_pos_of_mem h1
    rw [List.length_cons]
    omega
theorem TOk.free {t : SetTable} {hs : List Int} (T : TOk t hs) : ∃ j, j ≤ t.mask ∧ ¬ On t j := Classical.byContradiction fun no => by
  have all : ∀ x ∈ List.range (t.mask + 1), x ∈ t.place.toList := fun x hx => Classical.byContradiction fun n => no ⟨x, Nat.le_of_lt_succ (List.mem_range.mp hx), fun ⟨i, hi⟩ => n (by
    rw [← Array.getElem?_toList] at hi
    exact List.mem_of_getElem? hi)⟩
  have := nd_sub List.nodup_range all
  rw [List.length_range, Array.length_toList, T.len] at this
  rcases T.small with ⟨h1, h2⟩ | ⟨h1, h2⟩ | ⟨h1, h2⟩ | ⟨h1, h2⟩ <;> omega
theorem least {P : Nat → Prop} : ∀ (N n : Nat), n < N → P n → ∃ k, k ≤ n ∧ P k ∧ ∀ m, m < k → ¬ P m
  | 0, _, h, _ => absurd h (Nat.not_lt_zero _)
  | N + 1, n, hn, hp => by
    by_cases c : ∃ m, m < n ∧ P m
    · obtain ⟨m, hm, pm⟩ := c
      obtain ⟨k, a, b, e⟩ := least N m (by omega) pm
      exact ⟨k, by omega, b, e⟩
    · exact ⟨n, Nat.le_refl _, hp, fun m hm pm => c ⟨m, hm, pm⟩⟩
/-- the first free place on a hash's way -/
theorem TOk.first {t : SetTable} {hs : List Int} (T : TOk t hs) (h : Int) : ∃ e, e < 10 * SetTable.turns t.mask ∧ ¬ On t (nth t (t.probeStart h) e).j ∧ (nth t (t.probeStart h) e).j ≤ t.mask ∧ ∀ m, m < e → On t (nth t (t.probeStart h) m).j := by
  obtain ⟨j, hj, nj⟩ := T.free
  obtain ⟨n, hn, en⟩ := covers T.sm h hj
  obtain ⟨k, h1, h2, h3⟩ := least (P := fun n => ¬ On t (nth t (t.probeStart h) n).j) _ n (Nat.lt_succ_self n) (by rw [en]; exact nj)
  refine ⟨k, by omega, h2, nth_le t k h, fun m hm => Classical.byContradiction fun z => h3 m hm z⟩
where
  nth_le (t : SetTable) (k : Nat) (h : Int) : (nth t (t.probeStart h) k).j ≤ t.mask := by
    have key : ∀ (k : Nat) (p : SetTable.Probe), p.j + p.more ≤ t.mask → (nth t p k).j ≤ t.mask := fun k => by
      induction k with
      | zero => intro p hp; exact Nat.le_trans (Nat.le_add_right _ _) hp
      | succ k ih =>
        intro p hp
        refine ih (t.advance p) ?_
        unfold SetTable.advance
        split
        · show p.j + 1 + (p.more - 1) ≤ t.mask
          omega
        · show (SetTable.leap t.mask p.i p.perturb).1 + (SetTable.runEnd t.mask (SetTable.leap t.mask p.i p.perturb).1 - (SetTable.leap t.mask p.i p.perturb).1) ≤ t.mask
          have : (SetTable.leap t.mask p.i p.perturb).1 ≤ t.mask := Nat.le_of_lt_succ (Nat.mod_lt _ (Nat.succ_pos _))
          generalize (SetTable.leap t.mask p.i p.perturb).1 = i at this ⊢
          unfold SetTable.runEnd
          split <;> omega
    refine key k _ ?_
    show SetTable.bits h % (t.mask + 1) + (SetTable.runEnd t.mask (SetTable.bits h % (t.mask + 1)) - SetTable.bits h % (t.mask + 1)) ≤ t.mask
    have : SetTable.bits h % (t.mask + 1) ≤ t.mask := Nat.le_of_lt_succ (Nat.mod_lt _ (Nat.succ_pos _))
    generalize SetTable.bits h % (t.mask + 1) = i at this ⊢
    unfold SetTable.runEnd
    split <;> omega
end ST
end L2

namespace L2
open PySem
namespace ST
/-! ### one thing more -/
noncomputable def insL {α : Type} (l : List α) (p : Nat) (x : α) : List α := l.take p ++ x :: l.drop p
theorem insL_get {α : Type} {l : List α} {p : Nat} (hp : p ≤ l.length) (x : α) (k : Nat) : (insL l p x)[k]? = if k < p then l[k]? else if k = p then some x else l[k - 1]? := by
  unfold insL
  have lt : (l.take p).length = p := by rw [List.length_take]; omega
  by_cases c : k < p
  · rw [if_pos c, List.getElem?_append_left (by omega), List.getElem?_take_of_lt c]
  · rw [if_neg c, List.getElem?_append_right (by omega), lt]
    by_cases d : k = p
    · rw [if_pos d, d, Nat.sub_self]; rfl
    · rw [if_neg d]
      obtain ⟨m, rfl⟩ : ∃ m, k = p + 1 + m := ⟨k - (p + 1), by omega⟩
      rw [show p + 1 + m - p = m + 1 by omega, List.getElem?_cons_succ, List.getElem?_drop, show p + 1 + m - 1 = p + m by omega]
theorem insL_len {α : Type} {l : List α} {p : Nat} (hp : p ≤ l.length) (x : α) : (insL l p x).length = l.length + 1 := by
  unfold insL
  rw [List.length_append, List.length_take, List.length_cons, List.length_drop]
  omega
theorem insL_perm {α : Type} (l : List α) (p : Nat) (x : α) : (insL l p x).Perm (x :: l) := by
  unfold insL
  refine List.perm_middle.trans ?_
  rw [List.take_append_drop]
theorem insL_map {α β : Type} (f : α → β) (l : List α) (p : Nat) (x : α) : (insL l p x).map f = insL (l.map f) p (f x) := by
  unfold insL
  rw [List.map_append, List.map_cons, List.map_take, List.map_drop]
theorem ins_list {α : Type} (xs : Array α) (p : Nat) (x : α) : (SetTable.insertAt xs p x).toList = insL xs.toList p x := SetTable.toList_insertAt xs p x
theorem ins_get {xs : Array Nat} {p : Nat} (hp : p ≤ xs.size) (x k : Nat) : (SetTable.insertAt xs p x)[k]? = if k < p then xs[k]? else if k = p then some x else xs[k - 1]? := by
  rw [← Array.getElem?_toList, ins_list, insL_get (by rw [Array.length_toList]; exact hp), Array.getElem?_toList, Array.getElem?_toList]
theorem ins_size {α : Type} {xs : Array α} {p : Nat} (hp : p ≤ xs.size) (x : α) : (SetTable.insertAt xs p x).size = xs.size + 1 := by
  rw [← Array.length_toList, ins_list, insL_len (by rw [Array.length_toList]; exact hp), Array.length_toList]
/-- rising, told by the places -/
theorem rise_iff {xs : Array Nat} : Rise xs ↔ ∀ (a b x y : Nat), a < b → xs[a]? = some x → xs[b]? = some y → x < y := by
  constructor
  · intro R a b x y h hx hy
    have := R a b h (Array.getElem?_eq_some_iff.mp hy).1
    rw [getD_at hx, getD_at hy] at this
    exact this
  · intro h a b hab hb
    exact h a b _ _ hab (at_getD (by omega)) (at_getD hb)
theorem rise_ins {xs : Array Nat} (R : Rise xs) {j : Nat} (no : ∀ i : Nat, xs[i]? ≠ some j) : Rise (SetTable.insertAt xs (SetTable.below xs j) j) := by
  have B := below_ok R j
  rw [rise_iff] at R ⊢
  intro a b x y hab hx hy
  rw [ins_get B.le] at hx hy
  generalize SetTable.below xs j = p at B hx hy
  have lo : ∀ (k z : Nat), k < p → xs[k]? = some z → z < j := fun k z hk hz => by
    have := B.lo k hk
    rwa [getD_at hz] at this
  have hi : ∀ (k z : Nat), p ≤ k → xs[k]? = some z → j < z := fun k z hk hz => by
    have := B.hi k hk (Array.getElem?_eq_some_iff.mp hz).1
    rw [getD_at hz] at this
    exact Nat.lt_of_le_of_ne this fun e => no k (e ▸ hz)
  by_cases c1 : a < p
  · rw [if_pos c1] at hx
    by_cases c2 : b < p
    · rw [if_pos c2] at hy
      exact R a b x y hab hx hy
    · rw [if_neg c2] at hy
      by_cases c3 : b = p
      · rw [if_pos c3] at hy
        cases hy
        exact lo a x c1 hx
      · rw [if_neg c3] at hy
        exact R a (b - 1) x y (by omega) hx hy
  · rw [if_neg c1] at hx
    rw [if_neg (by omega), if_neg (by omega)] at hy
    by_cases c2 : a = p
    · rw [if_pos c2] at hx
      cases hx
      exact hi (b - 1) y (by omega) hy
    · rw [if_neg c2] at hx
      exact R (a - 1) (b - 1) x y (by omega) hx hy
theorem put_dum {t : SetTable} (d : t.dummies = #[]) (j : Nat) : (t.put j).1 = { t with place := SetTable.insertAt t.place (SetTable.below t.place j) j } := by
  unfold SetTable.put
  dsimp only
  rw [d, has_nil]
  simp
theorem put_at (t : SetTable) (j : Nat) : (t.put j).2 = SetTable.below t.place j := rfl
theorem on_ins {t : SetTable} {p j k : Nat} (hp : p ≤ t.place.size) (h : On t k) : On { t with place := SetTable.insertAt t.place p j } k := by
  obtain ⟨i, hi⟩ := h
  by_cases c : i < p
  · exact ⟨i, by show (SetTable.insertAt t.place p j)[i]? = _; rw [ins_get hp, if_pos c]; exact hi⟩
  · exact ⟨i + 1, by show (SetTable.insertAt t.place p j)[i + 1]? = _; rw [ins_get hp, if_neg (by omega), if_neg (by omega)]; exact hi⟩
/-- a new thing is put at the first free place on its way -/
theorem TB.put {t : SetTable} {hs : List Int} (T : TB t hs) {h : Int} {e : Nat} (h1 : ¬ On t (nth t (t.probeStart h) e).j) (h2 : (nth t (t.probeStart h) e).j ≤ t.mask) (h3 : ∀ m, m < e → On t (nth t (t.probeStart h) m).j) :
    TB (t.put (nth t (t.probeStart h) e).j).1 (insL hs (t.put (nth t (t.probeStart h) e).j).2 h) := by
  have B := below_ok T.rise (nth t (t.probeStart h) e).j
  rw [put_dum T.dum, put_at]
  obtain ⟨j, ej⟩ : ∃ j, j = (nth t (t.probeStart h) e).j := ⟨_, rfl⟩
  rw [← ej] at B h1 h2 ⊢
  obtain ⟨p, ep⟩ : ∃ p, p = SetTable.below t.place j := ⟨_, rfl⟩
  rw [← ep] at B ⊢
  have hp := B.le
  have hp' : p ≤ hs.length := by rw [← T.len]; exact hp
  refine ⟨T.dum, ?_, ?_, ?_, ?_⟩
  · show (SetTable.insertAt t.place p j).size = _
    rw [ins_size hp, insL_len hp', T.len]
  · show Rise (SetTable.insertAt t.place p j)
    rw [ep]
    exact rise_ins T.rise fun i hi => h1 ⟨i, hi⟩
  · intro i k hk
    have hk' : (SetTable.insertAt t.place p j)[i]? = some k := hk
    rw [ins_get hp] at hk'
    split at hk'
    · exact T.top _ _ hk'
    · split at hk'
      · cases hk'; exact h2
      · exact T.top _ _ hk'
  · intro i g hg
    rw [insL_get hp'] at hg
    have same : ∀ n p', nth { t with place := SetTable.insertAt t.place p j } p' n = nth t p' n := fun n p' => nth_mask (t := { t with place := SetTable.insertAt t.place p j }) (u := t) rfl n p'
    have old : ∀ i', hs[i']? = some g → ∀ i : Nat, (SetTable.insertAt t.place p j)[i]? = t.place[i']? → ∃ n, ({ t with place := SetTable.insertAt t.place p j } : SetTable).place[i]? = some (nth { t with place := SetTable.insertAt t.place p j } (SetTable.probeStart { t with place := SetTable.insertAt t.place p j } g) n).j ∧ ∀ m, m < n → On { t with place := SetTable.insertAt t.place p j } (nth { t with place := SetTable.insertAt t.place p j } (SetTable.probeStart { t with place := SetTable.insertAt t.place p j } g) m).j := fun i' hi' i ei => by
      obtain ⟨n, a, b⟩ := T.reach i' g hi'
      refine ⟨n, ?_, fun m hm => ?_⟩
      · rw [same]
        exact ei.trans a
      · rw [same]
        exact on_ins hp (b m hm)
    by_cases c1 : i < p
    · rw [if_pos c1] at hg
      exact old i hg i (by rw [ins_get hp, if_pos c1])
    · rw [if_neg c1] at hg
      by_cases c2 : i = p
      · rw [if_pos c2] at hg
        cases hg
        refine ⟨e, ?_, fun m hm => ?_⟩
        · rw [same]
          show (SetTable.insertAt t.place p j)[i]? = some (nth t (t.probeStart h) e).j
          rw [ins_get hp, if_neg c1, if_pos c2, ej]
        · rw [same]
          exact on_ins hp (h3 m hm)
      · rw [if_neg c2] at hg
        exact old (i - 1) hg i (by rw [ins_get hp, if_neg c1, if_neg c2])
end ST
end L2

namespace L2
open PySem
namespace ST
/-! ### a table laid anew, of 32 places -/
noncomputable abbrev tM (M : Nat) : SetTable := ⟨M, #[], #[], 0, true, 0, true⟩
/-- the masks of such tables -/
noncomputable abbrev Big (M : Nat) : Prop := M = 7 ∨ M = 31 ∨ M = 127 ∨ M = 511
section
variable {M : Nat}
noncomputable def lp (M : Nat) : Nat → Nat → Nat → Nat × Nat
  | 0, i, q => (i, q)
  | k + 1, i, q => lp M k ((i * 5 + 1 + q / 32) % (M + 1)) (q / 32)
theorem lp_add : ∀ (a b i q : Nat), lp M (a + b) i q = lp M b (lp M a i q).1 (lp M a i q).2
  | 0, b, i, q => by rw [Nat.zero_add]; rfl
  | a + 1, b, i, q => by rw [show a + 1 + b = (a + b) + 1 by omega]; exact lp_add a b _ _
theorem lp_q : ∀ (k i q : Nat), (lp M k i q).2 = q / 32 ^ k
  | 0, i, q => by rw [Nat.pow_zero, Nat.div_one]; rfl
  | k + 1, i, q => by
    show (lp M k _ (q / 32)).2 = _
    rw [lp_q, Nat.div_div_eq_div_mul, Nat.pow_succ, Nat.mul_comm 32]
theorem lp_lt : ∀ (k i q : Nat), i < M + 1 → (lp M k i q).1 < M + 1
  | 0, i, q, h => h
  | k + 1, i, q, h => lp_lt k _ _ (Nat.mod_lt _ (Nat.succ_pos _))
theorem lp_it : ∀ (k i : Nat), (lp M k i 0).1 = it M k i
  | 0, i => rfl
  | k + 1, i => by
    show (lp M k ((i * 5 + 1 + 0 / 32) % (M + 1)) (0 / 32)).1 = _
    rw [Nat.zero_div, Nat.add_zero, lp_it]
    rfl
theorem lp_covers (hM : Big M) (h : Int) {j : Nat} (hj : j < M + 1) : ∃ k, k < SetTable.turns M ∧ (lp M k (SetTable.bits h % (M + 1)) (SetTable.bits h)).1 = j := by
  have q0 : SetTable.bits h / 32 ^ 13 = 0 := Nat.div_eq_of_lt (Nat.lt_of_lt_of_le (bits_lt h) (by decide))
  have l1 := lp_lt (M := M) 13 (SetTable.bits h % (M + 1)) (SetTable.bits h) (Nat.mod_lt _ (Nat.succ_pos _))
  have e1 := lp_q (M := M) 13 (SetTable.bits h % (M + 1)) (SetTable.bits h)
  rw [q0] at e1
  obtain ⟨k, hk, e⟩ := it_all (whole_of hM) (Nat.le_of_lt_succ l1) (Nat.le_of_lt_succ hj)
  refine ⟨13 + k, by unfold SetTable.turns; omega, ?_⟩
  rw [lp_add, e1, lp_it]
  exact e
theorem runM (i : Nat) (h : i < M + 1) : SetTable.runEnd M i < M + 1 ∧ i ≤ SetTable.runEnd M i := by
  unfold SetTable.runEnd
  split <;> omega
theorem free_ok {owner : Array (Option Nat)} (sz : owner.size = M + 1) : ∀ (fuel i q : Nat), i < M + 1 → (∃ k, k < fuel ∧ owner[(lp M k i q).1]? = some none) →
    ∃ e, SetTable.layClean.free M owner fuel i q = some (nth (tM M) (beg (tM M) i q) e).j ∧ owner[(nth (tM M) (beg (tM M) i q) e).j]? = some none ∧ ∀ m, m < e → ∃ k : Nat, owner[(nth (tM M) (beg (tM M) i q) m).j]? = some (some k)
  | 0, i, q, hi, ⟨k, hk, _⟩ => absurd hk (Nat.not_lt_zero _)
  | fuel + 1, i, q, hi, ⟨k, hk, ek⟩ => by
    obtain ⟨r1, r2⟩ := runM i hi
    have pos : ∀ c, c ≤ SetTable.runEnd M i - i → (nth (tM M) (beg (tM M) i q) c).j = i + c := fun c hc => by rw [nth_run (tM M) i q c hc]
    have val : ∀ c, c ≤ SetTable.runEnd M i - i → ∃ o, owner[i + c]? = some o ∧ owner.getD (i + c) (some 0) = o := fun c hc => by
      have hb : i + c < owner.size := by omega
      exact ⟨owner[i + c], Array.getElem?_eq_getElem hb, by rw [Array.getD_eq_getD_getElem?, Array.getElem?_eq_getElem hb]; rfl⟩
    unfold SetTable.layClean.free
    cases hf : (List.range (SetTable.runEnd M i + 1 - i)).find? fun k => (owner.getD (i + k) (some 0)).isNone with
    | some c =>
      obtain ⟨a, b, d⟩ := List.find?_range_eq_some.mp hf
      have hc : c ≤ SetTable.runEnd M i - i := by have := List.mem_range.mp b; omega
      refine ⟨c, ?_, ?_, fun m hm => ?_⟩
      · show some (i + c) = _
        rw [pos c hc]
      · rw [pos c hc]
        obtain ⟨o, e1, e2⟩ := val c hc
        rw [e2] at a
        rw [e1, Option.isNone_iff_eq_none.mp a]
      · rw [pos m (by omega)]
        obtain ⟨o, e1, e2⟩ := val m (by omega)
        have := d m hm
        rw [e2] at this
        cases o with
        | none => simp at this
        | some k => exact ⟨k, e1⟩
    | none =>
      have no := List.find?_range_eq_none.mp hf
      have full : ∀ c, c ≤ SetTable.runEnd M i - i → ∃ k : Nat, owner[i + c]? = some (some k) := fun c hc => by
        obtain ⟨o, e1, e2⟩ := val c hc
        have := no c (by omega)
        rw [e2] at this
        cases o with
        | none => simp at this
        | some k => exact ⟨k, e1⟩
      have k1 : k ≠ 0 := fun z => by
        subst z
        obtain ⟨k', e'⟩ := full 0 (Nat.zero_le _)
        have e2 : owner[i]? = some none := ek
        rw [Nat.add_zero] at e'
        rw [e'] at e2
        cases e2
      obtain ⟨k', rfl⟩ : ∃ k', k = k' + 1 := ⟨k - 1, by omega⟩
      obtain ⟨e, a, b, d⟩ := free_ok sz fuel ((i * 5 + 1 + q / 32) % (M + 1)) (q / 32) (Nat.mod_lt _ (Nat.succ_pos _)) ⟨k', by omega, ek⟩
      have jump : ∀ m, nth (tM M) (beg (tM M) i q) (SetTable.runEnd M i - i + 1 + m) = nth (tM M) (beg (tM M) ((i * 5 + 1 + q / 32) % (M + 1)) (q / 32)) m := fun m => by
        rw [nth_add]
        show nth (tM M) (nth (tM M) (beg (tM M) i q) (SetTable.runEnd (tM M).mask i - i + 1)) m = _
        rw [nth_leap]
      refine ⟨SetTable.runEnd M i - i + 1 + e, ?_, ?_, fun m hm => ?_⟩
      · rw [jump]
        exact a
      · rw [jump]
        exact b
      · by_cases c : m ≤ SetTable.runEnd M i - i
        · rw [pos m c]
          exact full m c
        · obtain ⟨m', rfl⟩ : ∃ m', m = SetTable.runEnd M i - i + 1 + m' := ⟨m - (SetTable.runEnd M i - i + 1), by omega⟩
          rw [jump]
          exact d m' (by omega)
structure LInv (M : Nat) (owner : Array (Option Nat)) (l : List Int) : Prop where
  size : owner.size = M + 1
  val : ∀ (j k : Nat), owner[j]? = some (some k) → k < l.length
  uni : ∀ (j j' k : Nat), owner[j]? = some (some k) → owner[j']? = some (some k) → j = j'
  rch : ∀ (k : Nat) (h : Int), l[k]? = some h → ∃ n, owner[(nth (tM M) ((tM M).probeStart h) n).j]? = some (some k) ∧ ∀ m, m < n → ∃ k' : Nat, owner[(nth (tM M) ((tM M).probeStart h) m).j]? = some (some k')
theorem LInv.begin : LInv M (Array.replicate (M + 1) none) [] := by
  have no : ∀ j k : Nat, (Array.replicate (M + 1) (none : Option Nat))[j]? ≠ some (some k) := fun j k e => by
    rw [Array.getElem?_replicate] at e
    split at e <;> cases e
  exact ⟨by simp, fun j k h => absurd h (no j k), fun j _ k h _ => absurd h (no j k), fun k h e => by cases e⟩
theorem LInv.room {owner : Array (Option Nat)} {l : List Int} (L : LInv M owner l) (hl : l.length < M + 1) : ∃ j, j < M + 1 ∧ owner[j]? = some none := Classical.byContradiction fun no => by
  have all : ∀ j, j < M + 1 → ∃ k, owner[j]? = some (some k) := fun j hj => by
    have hb : j < owner.size := by rw [L.size]; exact hj
    cases e : owner[j] with
    | none => exact absurd ⟨j, hj, by rw [Array.getElem?_eq_getElem hb, e]⟩ no
    | some k => exact ⟨k, by rw [Array.getElem?_eq_getElem hb, e]⟩
  have key : ∀ j, j < M + 1 → ∀ k, owner[j]? = some (some k) → (owner.getD j none).getD 0 = k := fun j _ k e => by rw [Array.getD_eq_getD_getElem?, e]; rfl
  have nd : ((List.range (M + 1)).map fun j => (owner.getD j none).getD 0).Nodup := by
    unfold List.Nodup
    rw [List.pairwise_map]
    refine List.Pairwise.imp_of_mem ?_ (List.pairwise_lt_range (n := M + 1))
    intro a b ha hb hab e
    obtain ⟨ka, ea⟩ := all a (List.mem_range.mp ha)
    obtain ⟨kb, eb⟩ := all b (List.mem_range.mp hb)
    rw [key a (List.mem_range.mp ha) ka ea, key b (List.mem_range.mp hb) kb eb] at e
    subst e
    have := L.uni a b ka ea eb
    omega
  have sub : ∀ x ∈ (List.range (M + 1)).map (fun j => (owner.getD j none).getD 0), x ∈ List.range l.length := fun x hx => by
    obtain ⟨j, hj, rfl⟩ := List.mem_map.mp hx
    obtain ⟨k, e⟩ := all j (List.mem_range.mp hj)
    rw [key j (List.mem_range.mp hj) k e]
    exact List.mem_range.mpr (L.val j k e)
  have := nd_sub nd sub
  rw [List.length_map, List.length_range, List.length_range] at this
  omega
theorem LInv.next (hM : Big M) {owner : Array (Option Nat)} {l : List Int} (L : LInv M owner l) (hl : l.length < M + 1) (h : Int) : ∃ j, SetTable.layClean.free M owner (SetTable.turns M) (SetTable.bits h % (M + 1)) (SetTable.bits h) = some j ∧ LInv M (owner.setIfInBounds j (some l.length)) (l ++ [h]) := by
  obtain ⟨j, hj, ej⟩ := L.room hl
  obtain ⟨k, hk, e⟩ := lp_covers hM h hj
  obtain ⟨n, a, b, d⟩ := free_ok L.size (SetTable.turns M) _ _ (Nat.mod_lt _ (Nat.succ_pos _)) ⟨k, hk, by rw [e]; exact ej⟩
  refine ⟨_, a, ?_⟩
  have st : (tM M).probeStart h = beg (tM M) (SetTable.bits h % (M + 1)) (SetTable.bits h) := rfl
  rw [← st] at a b d ⊢
  generalize hs : (nth (tM M) ((tM M).probeStart h) n).j = s at a b
  have sb : s < owner.size := (Array.getElem?_eq_some_iff.mp b).1
  have get : ∀ c, (owner.setIfInBounds s (some l.length))[c]? = if c = s then some (some l.length) else owner[c]? := fun c => by
    rw [Array.getElem?_setIfInBounds]
    by_cases z : s = c
    · subst z; simp [sb]
    · rw [if_neg z, if_neg (Ne.symm z)]
  have keep : ∀ c k', owner[c]? = some (some k') → (owner.setIfInBounds s (some l.length))[c]? = some (some k') := fun c k' e' => by
    rw [get, if_neg (fun z => by rw [z, b] at e'; cases e')]
    exact e'
  refine ⟨by rw [Array.size_setIfInBounds]; exact L.size, fun c k' e' => ?_, fun c c' k' e1 e2 => ?_, fun k' g e' => ?_⟩
  · rw [get] at e'
    rw [List.length_append, List.length_singleton]
    split at e'
    · cases e'; omega
    · have := L.val c k' e'; omega
  · rw [get] at e1 e2
    split at e1
    · rename_i z1
      cases e1
      split at e2
      · rename_i z2; omega
      · have := L.val _ _ e2; omega
    · split at e2
      · cases e2
        have := L.val _ _ e1; omega
      · exact L.uni _ _ _ e1 e2
  · by_cases c : k' < l.length
    · rw [List.getElem?_append_left c] at e'
      obtain ⟨n', x, y⟩ := L.rch k' g e'
      exact ⟨n', keep _ _ x, fun m hm => (y m hm).imp fun k e => keep _ _ e⟩
    · have hk' : k' = l.length := by
        have := (List.getElem?_eq_some_iff.mp e').1
        rw [List.length_append, List.length_singleton] at this
        omega
      subst hk'
      rw [List.getElem?_append_right (Nat.le_refl _), Nat.sub_self] at e'
      cases e'
      exact ⟨n, by rw [hs, get, if_pos rfl], fun m hm => (d m hm).imp fun k e => keep _ _ e⟩
/-- one hash behind the other, by any step that does so -/
theorem lay_list (hM : Big M) {f : Option (Array (Option Nat) × Nat) → Int → Option (Array (Option Nat) × Nat)} (hf : ∀ owner k h j, SetTable.layClean.free M owner (SetTable.turns M) (SetTable.bits h % (M + 1)) (SetTable.bits h) = some j → f (some (owner, k)) h = some (owner.setIfInBounds j (some k), k + 1)) :
    ∀ (rest done : List Int) (owner : Array (Option Nat)), LInv M owner done → done.length + rest.length ≤ M → ∃ owner', rest.foldl f (some (owner, done.length)) = some (owner', (done ++ rest).length) ∧ LInv M owner' (done ++ rest)
  | [], done, owner, L, _ => ⟨owner, by rw [List.append_nil]; rfl, by rw [List.append_nil]; exact L⟩
  | h :: rest, done, owner, L, hl => by
    rw [List.length_cons] at hl
    obtain ⟨j, a, b⟩ := L.next hM (by omega) h
    obtain ⟨o', c, d⟩ := lay_list hM hf rest (done ++ [h]) _ b (by rw [List.length_append, List.length_singleton]; omega)
    rw [List.append_assoc] at c d
    refine ⟨o', ?_, d⟩
    rw [List.foldl_cons, hf _ _ _ _ a]
    rw [List.length_append, List.length_singleton] at c
    exact c
theorem lay_map (hM : Big M) {f : Option (Array (Option Nat) × Nat) → Int → Option (Array (Option Nat) × Nat)} (hf : ∀ owner k h j, SetTable.layClean.free M owner (SetTable.turns M) (SetTable.bits h % (M + 1)) (SetTable.bits h) = some j → f (some (owner, k)) h = some (owner.setIfInBounds j (some k), k + 1))
    (hs : List Int) (hl : hs.length ≤ M) : ∃ owner, Option.map (fun x => x.fst) (hs.foldl f (some (Array.replicate (M + 1) none, 0))) = some owner ∧ LInv M owner hs := by
  obtain ⟨o, a, b⟩ := lay_list hM hf hs [] _ LInv.begin (by simpa using hl)
  exact ⟨o, by rw [show (some (Array.replicate (M + 1) (none : Option Nat), 0)) = some (Array.replicate (M + 1) none, ([] : List Int).length) from rfl, a]; rfl, b⟩
theorem lay_ok (hM : Big M) (hs : List Int) (hl : hs.length ≤ M) : ∃ owner, SetTable.layClean M hs.toArray = some owner ∧ LInv M owner hs := by
  unfold SetTable.layClean
  rw [← Array.foldl_toList, List.toList_toArray]
  refine lay_map hM (fun owner k h j e => ?_) hs hl
  show Option.bind (SetTable.layClean.free M owner (SetTable.turns M) (SetTable.bits h % (M + 1)) (SetTable.bits h)) _ = _
  rw [e]
  rfl
/-! what comes of it -/
theorem laid_of {owner : Array (Option Nat)} {hs : List Int} (L : LInv M owner hs) {f : Nat → Option (Nat × Nat)} (hf : ∀ j x, j < M + 1 → (f j = some x ↔ x.1 = j ∧ owner[j]? = some (some x.2))) (finger moves : Nat) (led plain : Bool) :
    ((((List.range (M + 1)).filterMap f).map (·.2)).toArray).toList.Perm (List.range hs.length) ∧ TB ⟨M, (((List.range (M + 1)).filterMap f).map (·.1)).toArray, #[], finger, led, moves, plain⟩ (((((List.range (M + 1)).filterMap f).map (·.2)).toArray).toList.map fun k => hs.getD k 0) := by
  have mem : ∀ j k, (j, k) ∈ (List.range (M + 1)).filterMap f ↔ owner[j]? = some (some k) := fun j k => by
    rw [List.mem_filterMap]
    constructor
    · rintro ⟨a, ha, e⟩
      obtain ⟨e1, e2⟩ := (hf a _ (List.mem_range.mp ha)).mp e
      have e1' : j = a := e1
      rw [e1']
      exact e2
    · intro e
      have hb : j < M + 1 := by have := (Array.getElem?_eq_some_iff.mp e).1; rwa [L.size] at this
      exact ⟨j, List.mem_range.mpr hb, (hf j _ hb).mpr ⟨rfl, e⟩⟩
  have up : ((List.range (M + 1)).filterMap f).Pairwise fun a b => a.1 < b.1 := by
    rw [List.pairwise_filterMap]
    refine List.Pairwise.imp_of_mem ?_ (List.pairwise_lt_range (n := M + 1))
    intro a b ha hb hab x hx y hy
    rw [((hf a _ (List.mem_range.mp ha)).mp hx).1, ((hf b _ (List.mem_range.mp hb)).mp hy).1]
    exact hab
  generalize (List.range (M + 1)).filterMap f = live at mem up
  constructor
  · show ((live.map (·.2)).toArray).toList.Perm _
    rw [List.toList_toArray, List.perm_ext_iff_of_nodup]
    · intro k
      rw [List.mem_map, List.mem_range]
      constructor
      · rintro ⟨⟨j, k'⟩, h1, rfl⟩
        exact L.val j k' ((mem j k').mp h1)
      · intro hk
        obtain ⟨n, h1, _⟩ := L.rch k hs[k] (List.getElem?_eq_getElem hk)
        exact ⟨_, (mem _ _).mpr h1, rfl⟩
    · unfold List.Nodup
      rw [List.pairwise_map]
      refine List.Pairwise.imp_of_mem ?_ up
      rintro ⟨j, k⟩ ⟨j', k'⟩ h1 h2 hlt (z : k = k')
      subst z
      have := L.uni j j' k ((mem _ _).mp h1) ((mem _ _).mp h2)
      have hlt' : j < j' := hlt
      omega
    · exact List.nodup_range
  · refine ⟨rfl, ?_, ?_, ?_, ?_⟩
    · show ((live.map (·.1)).toArray).size = _
      simp
    · show Rise ((live.map (·.1)).toArray)
      rw [rise_iff]
      intro a b x y hab hx hy
      rw [List.getElem?_toArray, List.getElem?_map] at hx hy
      obtain ⟨u, hu, rfl⟩ := Option.map_eq_some_iff.mp hx
      obtain ⟨v, hv', rfl⟩ := Option.map_eq_some_iff.mp hy
      obtain ⟨la, ea⟩ := List.getElem?_eq_some_iff.mp hu
      obtain ⟨lb, eb⟩ := List.getElem?_eq_some_iff.mp hv'
      have := List.pairwise_iff_getElem.mp up a b la lb hab
      rw [ea, eb] at this
      exact this
    · intro i j hj
      have hj' : ((live.map (·.1)).toArray)[i]? = some j := hj
      rw [List.getElem?_toArray, List.getElem?_map] at hj'
      obtain ⟨u, hu, rfl⟩ := Option.map_eq_some_iff.mp hj'
      have h1 := (mem u.1 u.2).mp (List.mem_of_getElem? hu)
      have := (Array.getElem?_eq_some_iff.mp h1).1
      rw [L.size] at this
      show u.1 ≤ M
      omega
    · intro i h hi
      rw [List.toList_toArray, List.getElem?_map, List.getElem?_map] at hi
      obtain ⟨k, h1, h2⟩ := Option.map_eq_some_iff.mp hi
      obtain ⟨u, hu, h3⟩ := Option.map_eq_some_iff.mp h1
      have ou := (mem u.1 u.2).mp (List.mem_of_getElem? hu)
      have ku := L.val _ _ ou
      subst h3
      have eh : hs[u.2]? = some h := by
        rw [List.getElem?_eq_getElem ku, ← h2, List.getD_eq_getElem?_getD, List.getElem?_eq_getElem ku]
        rfl
      obtain ⟨n, a, b⟩ := L.rch _ _ eh
      have es := L.uni _ _ _ a ou
      have sm : ∀ (T : SetTable), T.mask = M → ∀ m p, nth T p m = nth (tM M) p m := fun T hT m p => nth_mask (t := T) (u := (tM M)) hT m p
      refine ⟨n, ?_, fun m hm => ?_⟩
      · rw [sm _ rfl]
        show ((live.map (·.1)).toArray)[i]? = some (nth (tM M) ((tM M).probeStart h) n).j
        rw [List.getElem?_toArray, List.getElem?_map, hu, es]
        rfl
      · rw [sm _ rfl]
        obtain ⟨k', e'⟩ := b m hm
        have hm' := (mem _ _).mpr e'
        obtain ⟨i', hi', ei'⟩ := List.getElem_of_mem hm'
        refine ⟨i', ?_⟩
        show ((live.map (·.1)).toArray)[i']? = some (nth (tM M) ((tM M).probeStart h) m).j
        rw [List.getElem?_toArray, List.getElem?_map, List.getElem?_eq_getElem hi', ei']
        rfl
theorem laid_ok (hM : Big M) (hs : List Int) (hl : hs.length ≤ M) (finger moves : Nat) (led plain : Bool) :
    ∃ (t : SetTable) (order : Array Nat), SetTable.laid M finger moves led plain hs.toArray = some (t, order) ∧ t.mask = M ∧ t.led = led ∧ t.plain = plain ∧ order.toList.Perm (List.range hs.length) ∧ TB t (order.toList.map fun k => hs.getD k 0) := by
  obtain ⟨owner, e, L⟩ := lay_ok hM hs hl
  unfold SetTable.laid
  rw [e]
  refine ⟨_, _, rfl, rfl, rfl, rfl, laid_of L (fun j x hj => ?_) finger moves led plain⟩
  have hb : j < owner.size := by rw [L.size]; exact hj
  rw [Option.map_eq_some_iff, Array.getD_eq_getD_getElem?, Array.getElem?_eq_getElem hb]
  constructor
  · rintro ⟨k, e1, rfl⟩
    exact ⟨rfl, congrArg some e1⟩
  · rintro ⟨e1, e2⟩
    exact ⟨x.2, Option.some.inj e2, by rw [← e1]⟩
end
end ST
end L2

namespace L2
open PySem PySem.Spec
namespace ST
/-! ### a set of tuples in the heap -/
section
variable {prog : Program} {w : World} {K : Type} [DecidableEq K] (knd : PySem.KeyKind prog w K)
noncomputable def ent (p : List K × Addr) : Int × Value := (tupleKeyHash knd p.1, .ref p.2)
structure Els (h : Heap) (a : Addr) (xs : List (List K × Addr)) (led : Bool) (o : Obj) (ep : Nat) (t : SetTable) : Prop where
  at_ : h.get? a = some o
  ex : o.ExactSet
  data : o.data = .set ((xs.map (ent knd)).toArray) ep t
  tab : TOk t (xs.map fun p => tupleKeyHash knd p.1)
  plain : t.plain = true
  led_ : t.led = led
  keys : ∀ p ∈ xs, IsTupleKey knd h p.1 p.2
  nd : (xs.map (·.1)).Nodup
noncomputable def TSet (h : Heap) (a : Addr) (xs : List (List K × Addr)) (led : Bool) : Prop := ∃ o ep t, Els knd h a xs led o ep t
end
section
variable {prog : Program} {w : World} {K : Type} [DecidableEq K] {knd : PySem.KeyKind prog w K} {A : Around} {E : Value → Shared → Prop} {s : Shared} {a b : Addr} {xs : List (List K × Addr)} {led : Bool} {o : Obj} {ep : Nat} {t : SetTable} {k : List K}
theorem Els.size (S : Els knd s.heap a xs led o ep t) : ((xs.map (ent knd)).toArray).size = xs.length := by simp
theorem TB.fits {hs : List Int} {t : SetTable} (T : TB t hs) (n : Nat) (hn : n = hs.length) (room : hs.length ≤ t.mask) : t.fits n = true := by
  unfold SetTable.fits SetTable.fill
  rw [T.len, T.dum, hn]
  simp
  exact room
theorem TOk.room {hs : List Int} {t : SetTable} (T : TOk t hs) : hs.length ≤ t.mask := by
  rcases T.small with ⟨h1, h2⟩ | ⟨h1, h2⟩ | ⟨h1, h2⟩ | ⟨h1, h2⟩ <;> omega
theorem Els.fits (S : Els knd s.heap a xs led o ep t) : t.fits ((xs.map (ent knd)).toArray).size = true := S.tab.toTB.fits _ (by simp) S.tab.room
theorem Els.state {Q : (Array (Int × Value) × Nat × SetTable) → Shared → Prop} (S : Els knd s.heap a xs led o ep t) (h : Q ((xs.map (ent knd)).toArray, ep, t) s) : wpAny (model prog w) A (setState a) Q E s :=
  wpAny_setState_of S.at_ S.data S.fits h
theorem odd_mask (T : TOk t (xs.map fun p => tupleKeyHash knd p.1)) : t.gaveWay = false := by
  unfold SetTable.gaveWay
  rcases T.small with ⟨h, _⟩ | ⟨h, _⟩ | ⟨h, _⟩ | ⟨h, _⟩ <;> rw [h] <;> rfl
/-- a tuple of such things is none of a class of one's own -/
theorem not_own {n : Nat} {Q : Bool → Shared → Prop} (hk : IsTupleKey knd s.heap k b) (h : Q false s) : wpAny (model prog w) A (ofAClassStatement (n + 1) (.ref b)) Q E s := by
  have hT := hk.typeIs
  obtain ⟨ob, items, c, hb, hc, hd, hi⟩ := hk
  unfold ofAClassStatement
  refine wpAny_bind (wpAny_typeOf hT ?_)
  dsimp only
  rw [if_pos (by rfl)]
  refine wpAny_bind (wpAny_pure ?_)
  simp only [Bool.not_true, Bool.false_eq_true, if_false]
  refine wpAny_bind (wpAny_seqItems hb hd ?_)
  dsimp only
  refine wpAny_bind ?_
  rw [← Array.forIn_toList]
  refine wpAny_forIn_list _ (fun rest r s' => r.1 = none ∧ s' = s ∧ ∀ v ∈ rest, carriedByValue v = true) _ (fun v rest r s' h1 => ?_) (fun r s' h1 => ?_) _ _ ⟨rfl, rfl, hi.byValue⟩
  · obtain ⟨_, rfl, h3⟩ := h1
    have hv := h3 v (List.mem_cons_self ..)
    have e : ofAClassStatement n v = pure false := by
      cases v with
      | ref _ => cases hv
      | _ => unfold ofAClassStatement; rfl
    rw [e]
    refine wpAny_bind (wpAny_pure ?_)
    simp only [Bool.false_eq_true, if_false]
    exact wpAny_pure ⟨rfl, rfl, fun u hu => h3 u (List.mem_cons_of_mem _ hu)⟩
  · obtain ⟨h1, rfl, _⟩ := h1
    obtain ⟨r1, r2⟩ := r
    dsimp only at h1
    subst h1
    exact wpAny_pure h
/-- and the search for it is seen by nobody -/
theorem unseen {ys : List Value} {Q : Bool → Shared → Prop} (hk : IsTupleKey knd s.heap k b) (hy : ∀ y ∈ ys, ∃ k' b', y = .ref b' ∧ IsTupleKey knd s.heap k' b') (h : Q false s) : wpAny (model prog w) A (searchCouldBeSeen (.ref b) ys) Q E s := by
  unfold searchCouldBeSeen
  refine wpAny_bind ?_
  refine wpAny_forIn_list _ (fun rest r s' => r.1 = none ∧ s' = s ∧ ∀ y ∈ rest, ∃ k' b', y = .ref b' ∧ IsTupleKey knd s.heap k' b') _ (fun y rest r s' h1 => ?_) (fun r s' h1 => ?_) _ _ ⟨rfl, rfl, hy⟩
  · obtain ⟨_, rfl, h3⟩ := h1
    obtain ⟨k', b', rfl, hb'⟩ := h3 y (List.mem_cons_self ..)
    have next : ∀ y ∈ rest, ∃ k' b', y = .ref b' ∧ IsTupleKey knd s'.heap k' b' := fun u hu => h3 u (List.mem_cons_of_mem _ hu)
    dsimp only
    split
    · exact wpAny_pure ⟨rfl, rfl, next⟩
    · refine wpAny_bind (wpAny_eqIsQuiet_tuple hk ?_)
      simp only [Bool.not_true, Bool.false_eq_true, if_false]
      refine wpAny_bind (wpAny_eqIsQuiet_tuple hb' ?_)
      simp only [Bool.not_true, Bool.false_eq_true, if_false]
      refine wpAny_bind (not_own hk ?_)
      simp only [Bool.false_eq_true, if_false]
      refine wpAny_bind (not_own hb' ?_)
      simp only [Bool.false_eq_true, if_false]
      exact wpAny_pure ⟨rfl, rfl, next⟩
  · obtain ⟨h1, rfl, _⟩ := h1
    obtain ⟨r1, r2⟩ := r
    dsimp only at h1
    subst h1
    exact wpAny_pure h
/-- its hash hangs on nothing but its values -/
theorem by_value {n : Nat} {Q : Bool → Shared → Prop} (hv : ∀ (k : K) (v : Value), knd.is k v = true → hashByValue n v = pure true) (hk : IsTupleKey knd s.heap k b) (h : Q true s) : wpAny (model prog w) A (hashByValue (n + 1) (.ref b)) Q E s := by
  have hT := hk.typeIs
  obtain ⟨ob, items, c, hb, hc, hd, hi⟩ := hk
  have hv' : ∀ v ∈ items.toList, hashByValue n v = pure true := by
    have : ∀ {ks : List K} {vs : List Value}, ItemsAre knd ks vs → ∀ v ∈ vs, hashByValue n v = pure true := fun {ks vs} h => by
      induction h with
      | nil => intro v h; cases h
      | cons h1 _ ih =>
        intro v h
        rcases List.mem_cons.mp h with rfl | h
        · exact hv _ _ h1
        · exact ih v h
    exact this hi
  unfold hashByValue
  refine wpAny_bind (wpAny_specialOf hT F.slot_tuple_hash.lookup ?_)
  dsimp only
  refine wpAny_bind (wpAny_seqItems hb hd ?_)
  simp only [Option.getD_some]
  refine wpAny_bind ?_
  rw [← Array.forIn_toList]
  refine wpAny_forIn_list _ (fun rest r s' => r.1 = none ∧ s' = s ∧ ∀ v ∈ rest, hashByValue n v = pure true) _ (fun v rest r s' h1 => ?_) (fun r s' h1 => ?_) _ _ ⟨rfl, rfl, hv'⟩
  · obtain ⟨_, rfl, h3⟩ := h1
    rw [h3 v (List.mem_cons_self ..)]
    refine wpAny_bind (wpAny_pure ?_)
    simp only [Bool.not_true, Bool.false_eq_true, if_false]
    exact wpAny_pure ⟨rfl, rfl, fun u hu => h3 u (List.mem_cons_of_mem _ hu)⟩
  · obtain ⟨h1, rfl, _⟩ := h1
    obtain ⟨r1, r2⟩ := r
    dsimp only at h1
    subst h1
    exact wpAny_pure h
/-! the search -/
theorem probe_eq (f : Nat → Int) (h : Int) (p : SetTable.Probe) : t.probe f h p = SetTable.probe.go t f h (10 * SetTable.turns t.mask) p := rfl
theorem same_mem (t : SetTable) : t.sameMemory t.moves t.mask = some true := by
  unfold SetTable.sameMemory
  rw [if_pos (beq_self_eq_true _)]
/-- a look that is made or not, and shows nothing -/
theorem maybe_seen {α : Type} {M : Model} {c : Bool} {sc : Sem Bool} {bad m : Sem α} {Q : α → Shared → Prop} (h1 : ∀ Q' : Bool → Shared → Prop, Q' false s → wpAny M A sc Q' E s) (h : wpAny M A m Q E s) :
    wpAny M A (if c = true then sc >>= fun x => if x = true then bad else m else m) Q E s := by
  cases c with
  | true =>
    rw [if_pos rfl]
    refine wpAny_bind (h1 _ ?_)
    rw [if_neg Bool.false_ne_true]
    exact h
  | false =>
    rw [if_neg Bool.false_ne_true]
    exact h
theorem is_self {M : Model} {b : Addr} {Q : Bool → Shared → Prop} (h : Q true s) : wpAny M A (isSame (.ref b) (.ref b)) Q E s := by
  unfold isSame
  dsimp only
  rw [if_pos (beq_self_eq_true _)]
  exact wpAny_pure h
/-- from the k-th place on: a free one, or the thing itself -/
theorem search_from {h : Int} {e : Nat} {Q : SetFound → Shared → Prop} (S : Els knd s.heap a xs led o ep t) (hk : IsTupleKey knd s.heap k b) (eh : h = tupleKeyHash knd k) (hu : A.units < cLine)
    (he : e < 10 * SetTable.turns t.mask) (h1 : ¬ On t (nth t (t.probeStart h) e).j) (h3 : ∀ m, m < e → On t (nth t (t.probeStart h) m).j)
    (yes : (∃ b', (k, b') ∈ xs) → Q (.there none) s) (no : (∀ b', (k, b') ∉ xs) → Q (.free (nth t (t.probeStart h) e).j false) s) :
    ∀ (d c fuel : Nat) (st : Option SetTable.Probe), d = e - c → c ≤ e → d < fuel → st.getD (t.probeStart h) = nth t (t.probeStart h) c →
      (∀ m, m < c → ∀ (i : Nat), t.place[i]? = some (nth t (t.probeStart h) m).j → ∀ b' : Addr, xs[i]? ≠ some (k, b')) →
      wpAny (model prog w) A (setSearchFrom a (.ref b) h true fuel st) Q E s := by
  intro d
  induction d using Nat.strongRecOn with
  | ind d ih =>
    intro c fuel st hd hc hf hst hno
    match fuel, hf with
    | fuel + 1, hf =>
      have T := S.tab.toTB
      unfold setSearchFrom
      refine wpAny_bind (S.state ?_)
      dsimp only
      rw [odd_mask S.tab]
      simp only [Bool.false_eq_true, if_false]
      rw [hst, probe_eq]
      -- what lies at a place
      have idx : ∀ m, m < e → ∃ (i : Nat) (p : List K × Addr), t.place[i]? = some (nth t (t.probeStart h) m).j ∧ xs[i]? = some p := fun m hm => by
        obtain ⟨i, hi⟩ := h3 m hm
        have hl : i < xs.length := by
          have := (Array.getElem?_eq_some_iff.mp hi).1
          rw [T.len, List.length_map] at this
          exact this
        exact ⟨i, xs[i], hi, List.getElem?_eq_getElem hl⟩
      have sub : ∀ m, nth t (nth t (t.probeStart h) c) m = nth t (t.probeStart h) (c + m) := fun m => (nth_add t c m _).symm
      have dn : (nth t (t.probeStart h) c).dummy = none := nth_dummy c rfl
      by_cases any : ∃ m, m < e - c ∧ ∃ (i : Nat) (p : List K × Addr), t.place[i]? = some (nth t (t.probeStart h) (c + m)).j ∧ xs[i]? = some p ∧ tupleKeyHash knd p.1 = h
      · obtain ⟨m0, hm0, w0⟩ := any
        obtain ⟨m, hm, ⟨hme, i, p, hi, hp, hh⟩, least'⟩ := least (P := fun m => m < e - c ∧ ∃ (i : Nat) (p : List K × Addr), t.place[i]? = some (nth t (t.probeStart h) (c + m)).j ∧ xs[i]? = some p ∧ tupleKeyHash knd p.1 = h) _ m0 (Nat.lt_succ_self _) ⟨hm0, w0⟩
        have gi : ∀ (i : Nat) (p : List K × Addr), xs[i]? = some p → ((xs.map (ent knd)).toArray)[i]? = some (ent knd p) := fun i p hp => by rw [List.getElem?_toArray, List.getElem?_map, hp]; rfl
        rw [go_cand T.rise _ m i _ (by omega) (by rw [sub]; exact hi) (by show ((((xs.map (ent knd)).toArray)[i]?).map _).getD 0 = h; rw [gi i p hp]; exact hh) (fun m' hm' => by
          obtain ⟨i', p', hi', hp'⟩ := idx (c + m') (by omega)
          refine ⟨i', by rw [sub]; exact hi', ?_⟩
          show ((((xs.map (ent knd)).toArray)[i']?).map _).getD 0 ≠ h
          rw [gi i' p' hp']
          exact fun z => least' m' hm' ⟨by omega, i', p', hi', hp', z⟩)]
        dsimp only
        have pm : p ∈ xs := List.mem_of_getElem? hp
        refine maybe_seen (fun Q' q' => unseen hk (fun y hy => ?_) q') ?_
        · obtain ⟨u, hu', rfl⟩ := List.mem_map.mp hy
          rw [Array.toList_filter] at hu'
          obtain ⟨v, hv, rfl⟩ := List.mem_map.mp (List.mem_filter.mp hu').1
          exact ⟨v.1, v.2, rfl, S.keys v hv⟩
        rw [gi i p hp]
        dsimp only [ent]
        refine wpAny_bind (wpAny_holding (wpAny_eqBool_tuple hu (S.keys p pm) hk ?_))
        refine wpAny_bind (S.state ?_)
        dsimp only
        by_cases sk : p.1 = k
        · rw [decide_eq_true sk]
          simp only [Bool.and_self, if_true]
          exact wpAny_pure (yes ⟨p.2, by rw [← sk]; exact pm⟩)
        · rw [decide_eq_false sk]
          simp only [Bool.and_false, Bool.false_eq_true, if_false]
          rw [same_mem]
          dsimp only
          rw [if_pos rfl, sub, slot_on T.rise hi]
          dsimp only
          rw [gi i p hp]
          dsimp only [ent]
          refine wpAny_bind (is_self ?_)
          refine wpAny_bind (wpAny_pure ?_)
          simp only [if_true]
          refine ih (e - (c + m + 1)) (by omega) (c + m + 1) fuel _ rfl (by omega) (by omega) (by show nth t (nth t (t.probeStart h) c) (m + 1) = _; rw [sub]; rfl) (fun m' hm' i' hi' b' hb' => ?_)
          by_cases cc : m' < c
          · exact hno m' cc i' hi' b' hb'
          · obtain ⟨m2, rfl⟩ : ∃ m2, m' = c + m2 := ⟨m' - c, by omega⟩
            by_cases c2 : m2 < m
            · exact least' m2 c2 ⟨by omega, i', _, hi', hb', eh.symm⟩
            · have : m2 = m := by omega
              subst this
              have ei : i' = i := by rw [← below_at T.rise hi', ← below_at T.rise hi]
              rw [ei, hp] at hb'
              exact sk (by rw [Option.some.inj hb'])
      · rw [go_empty T.rise T.dum _ (e - c) _ dn (by omega) (by rw [sub, show c + (e - c) = e by omega]; exact h1) (fun m hm => by
          obtain ⟨i, p, hi, hp⟩ := idx (c + m) (by omega)
          refine ⟨i, by rw [sub]; exact hi, ?_⟩
          show ((((xs.map (ent knd)).toArray)[i]?).map _).getD 0 ≠ h
          rw [List.getElem?_toArray, List.getElem?_map, hp]
          exact fun z => any ⟨m, hm, i, p, hi, hp, z⟩)]
        rw [sub, show c + (e - c) = e by omega]
        dsimp only
        refine wpAny_pure (no fun b' hb' => ?_)
        obtain ⟨i, hi⟩ := List.getElem?_of_mem hb'
        obtain ⟨n, hn, hon⟩ := T.reach i h (by rw [List.getElem?_map, hi, eh]; rfl)
        have ne : n < e := by
          rcases Nat.lt_trichotomy n e with z | z | z
          · exact z
          · subst z; exact absurd ⟨i, hn⟩ h1
          · exact absurd (hon e z) h1
        by_cases cc : n < c
        · exact hno n cc i hn b' hi
        · exact any ⟨n - c, by omega, i, _, by rw [show c + (n - c) = n by omega]; exact hn, hi, eh.symm⟩
end
end ST
end L2

namespace L2
open PySem PySem.Spec
namespace ST
/-! ### a tuple is put into a set -/
section
variable {prog : Program} {w : World} {K : Type} [DecidableEq K] {knd : PySem.KeyKind prog w K} {A : Around} {E : Value → Shared → Prop} {s : Shared} {a b : Addr} {xs : List (List K × Addr)} {led : Bool} {o : Obj} {ep : Nat} {t : SetTable} {k : List K}
theorem key_but {h h' : Heap} {es : Array (Int × Value)} (x : IsTupleKey knd h k b) (ho : h.get? a = some o) (hd : o.data = .set es ep t) (hs : Heap.SameBut a h h') : IsTupleKey knd h' k b := by
  obtain ⟨ob, items, n, h1, h2, h3, h4⟩ := x
  have ne : b ≠ a := fun z => by
    subst z
    rw [h1] at ho
    cases ho
    rw [h3] at hd
    cases hd
  exact ⟨ob, items, n, by rw [hs.2 b ne]; exact h1, h2, h3, h4⟩
theorem ent_ins (xs : List (List K × Addr)) (p : Nat) (x : List K × Addr) : SetTable.insertAt (xs.map (ent knd)).toArray p (ent knd x) = ((insL xs p x).map (ent knd)).toArray := by
  apply Array.toList_inj.mp
  rw [ins_list, List.toList_toArray, List.toList_toArray, insL_map]
theorem range_get (d : α) : ∀ l : List α, (List.range l.length).map (fun i => l.getD i d) = l := fun l => by
  apply List.ext_getElem?
  intro i
  rw [List.getElem?_map]
  by_cases h : i < l.length
  · rw [List.getElem?_eq_getElem (by rw [List.length_range]; exact h), List.getElem?_eq_getElem h, List.getElem_range]
    show some (l.getD i d) = _
    rw [List.getD_eq_getElem?_getD, List.getElem?_eq_getElem h]
    rfl
  · rw [List.getElem?_eq_none (by rw [List.length_range]; omega), List.getElem?_eq_none (by omega)]
    rfl
theorem relay_list {α β : Type} {f : α → β} {l : List α} (d : α) {order : Array Nat} (h : order.toList.Perm (List.range l.length)) : order.filterMap (fun i => ((l.map f).toArray)[i]?) = ((order.toList.map fun i => l.getD i d).map f).toArray := by
  apply Array.toList_inj.mp
  rw [Array.toList_filterMap, List.toList_toArray, List.map_map]
  have all : ∀ i ∈ order.toList, i < l.length := fun i hi => List.mem_range.mp (h.mem_iff.mp hi)
  generalize order.toList = L at all
  induction L with
  | nil => rfl
  | cons i L ih =>
    have hi := all i (List.mem_cons_self ..)
    rw [List.filterMap_cons, List.map_cons, ih fun j hj => all j (List.mem_cons_of_mem _ hj), List.getElem?_toArray, List.getElem?_map, List.getElem?_eq_getElem hi]
    show f l[i] :: _ = f (l.getD i d) :: _
    rw [List.getD_eq_getElem?_getD, List.getElem?_eq_getElem hi]
    rfl
theorem stored {h : Heap} {es : Array (Int × Value)} (ho : h.get? a = some o) (hd : o.data = .set es ep t) (es' : Array (Int × Value)) (t' : SetTable) : (h.update a (Obj.putSet es' t')).get? a = some { o with data := .set es' (ep + 1) t' } := by
  have e := putSet_of es' t' hd
  exact e ▸ Heap.get?_update_self _ ho (by rw [e]; rfl)
theorem short_line {n : Nat} (h : n ≤ 1000) : n ≤ sizeLine := by rw [sizeLine_eq]; omega
theorem add_ok {Q : Bool → Shared → Prop} (S : Els knd s.heap a xs led o ep t) (hk : IsTupleKey knd s.heap k b) (hu : A.units < cLine) (hv : ∀ (k : K) (v : Value), knd.is k v = true → hashByValue 7 v = pure true) (room : xs.length + 1 ≤ 306)
    (yes : (∃ b', (k, b') ∈ xs) → Q false s) (no : (∀ b', (k, b') ∉ xs) → ∀ h' xs', Heap.SameBut a s.heap h' → TSet knd h' a xs' led → xs'.Perm ((k, b) :: xs) → Q true { s with heap := h' }) :
    wpAny (model prog w) A (setAddHashed a (.ref b) (tupleKeyHash knd k)) Q E s := by
  obtain ⟨e, he, h1, h2, h3⟩ := S.tab.first (tupleKeyHash knd k)
  unfold setAddHashed setAddHashedIn
  refine wpAny_holding (wpAny_bind (S.state ?_))
  dsimp only
  have ns : byScan (Value.ref b) ((xs.map (ent knd)).toArray) = false := by unfold byScan; rfl
  rw [ns]
  simp only [Bool.false_eq_true, if_false]
  unfold setSearch
  refine wpAny_bind (search_from S hk rfl hu he h1 h3 (fun y => ?_) (fun n => ?_) e 0 100000 none (by omega) (Nat.zero_le _) (by
    rcases S.tab.sm with f | f | f | f <;> (rw [f] at he; unfold SetTable.turns at he; omega)) rfl (fun m hm => absurd hm (Nat.not_lt_zero _)))
  · exact wpAny_pure (yes y)
  · dsimp only
    refine wpAny_bind (S.state ?_)
    dsimp only
    have B := S.tab.toTB.put h1 h2 h3
    have pl : (t.put (nth t (t.probeStart (tupleKeyHash knd k)) e).j).2 ≤ xs.length := by
      rw [put_at]
      have := (below_ok S.tab.rise (nth t (t.probeStart (tupleKeyHash knd k)) e).j).le
      rw [S.tab.len, List.length_map] at this
      exact this
    have pd := put_dum S.tab.dum (nth t (t.probeStart (tupleKeyHash knd k)) e).j
    generalize t.put (nth t (t.probeStart (tupleKeyHash knd k)) e).j = pp at B pd pl
    obtain ⟨t1, p⟩ := pp
    dsimp only at B pd pl ⊢
    have m1 : t1.mask = t.mask := by rw [pd]
    have l1 : t1.led = led := by rw [pd]; exact S.led_
    have q1 : t1.plain = true := by rw [pd]; exact S.plain
    rw [if_pos q1]
    refine wpAny_bind (by_value hv hk ?_)
    simp only [if_true]
    have ei : SetTable.insertAt ((xs.map (ent knd)).toArray) p (tupleKeyHash knd k, Value.ref b) = ((insL xs p (k, b)).map (ent knd)).toArray := ent_ins xs p (k, b)
    rw [ei]
    have xp := insL_perm xs p (k, b)
    have xl := insL_len pl (k, b)
    rw [← insL_map (fun p : List K × Addr => tupleKeyHash knd p.1) xs p (k, b)] at B
    generalize insL xs p (k, b) = xs1 at B xp xl
    have sz1 : ((xs1.map (ent knd)).toArray).size = xs1.length := by simp
    have hl1 : (xs1.map fun p => tupleKeyHash knd p.1).length = xs1.length := List.length_map ..
    refine wpAny_bind (wpAny_storeSet_of S.at_ S.data ?_ (by rw [sz1]; exact short_line (by omega)))
    have ho1 := stored S.at_ S.data ((xs1.map (ent knd)).toArray) t1
    have sb1 := Heap.SameBut.update s.heap a (Obj.putSet ((xs1.map (ent knd)).toArray) t1)
    have ks1 : ∀ h', Heap.SameBut a s.heap h' → ∀ p ∈ xs1, IsTupleKey knd h' p.1 p.2 := fun h' sb p hp => by
      rcases List.mem_cons.mp (xp.mem_iff.mp hp) with rfl | hp
      · exact key_but hk S.at_ S.data sb
      · exact key_but (S.keys p hp) S.at_ S.data sb
    have nd1 : (xs1.map (·.1)).Nodup := by
      rw [(xp.map (·.1)).nodup_iff, List.map_cons, List.nodup_cons]
      refine ⟨fun z => ?_, S.nd⟩
      obtain ⟨q, hq, e'⟩ := List.mem_map.mp z
      have e2 : q.1 = k := e'
      exact n q.2 (e2 ▸ hq)
    have tf : t1.tooFull = decide ((xs.length + 1) * 5 ≥ t.mask * 3) := by
      unfold SetTable.tooFull SetTable.fill
      rw [B.len, B.dum, hl1, xl, m1]
      rfl
    rw [tf]
    simp only [Bool.not_false, Bool.true_and, decide_eq_true_eq]
    by_cases full : (xs.length + 1) * 5 ≥ t.mask * 3
    · rw [if_pos full]
      obtain ⟨W, M, ew, eM, hM, lM, hs2⟩ : ∃ W M, SetTable.grown (((xs.map (ent knd)).toArray).size + 1) = W ∧ SetTable.sizeAbove W = M + 1 ∧ Big M ∧ xs.length + 1 ≤ M ∧ (M = 31 ∧ xs.length + 1 ≤ 18 ∨ M = 127 ∧ xs.length + 1 ≤ 76 ∨ M = 511 ∧ xs.length + 1 ≤ 306) := by
        rw [S.size]
        rcases S.tab.small with ⟨x1, x2⟩ | ⟨x1, x2⟩ | ⟨x1, x2⟩ | ⟨x1, x2⟩ <;> rw [List.length_map] at x2
        · have e : xs.length = 4 := by omega
          rw [e]
          exact ⟨20, 31, rfl, rfl, Or.inr (Or.inl rfl), by omega, Or.inl ⟨rfl, by omega⟩⟩
        · have e : xs.length = 18 := by omega
          rw [e]
          exact ⟨76, 127, rfl, rfl, Or.inr (Or.inr (Or.inl rfl)), by omega, Or.inr (Or.inl ⟨rfl, by omega⟩)⟩
        · have e : xs.length = 76 := by omega
          rw [e]
          exact ⟨308, 511, rfl, rfl, Or.inr (Or.inr (Or.inr rfl)), by omega, Or.inr (Or.inr ⟨rfl, by omega⟩)⟩
        · omega
      rw [ew]
      unfold setRelay
      refine wpAny_bind (wpAny_bind (wpAny_setState_of ho1 rfl (by rw [sz1]; exact B.fits _ (by rw [hl1]) (by rw [hl1, m1, xl]; have := S.tab.room; rw [List.length_map] at this; rcases S.tab.small with ⟨x1, x2⟩ | ⟨x1, x2⟩ | ⟨x1, x2⟩ | ⟨x1, x2⟩ <;> rw [List.length_map] at x2 <;> omega)) ?_))
      dsimp only
      rw [if_neg (by rw [eM]; exact Nat.not_lt.mpr (short_line (by omega)))]
      obtain ⟨t2, order, el, m2, l2, q2, op, B2⟩ := laid_ok hM (xs1.map fun p => tupleKeyHash knd p.1) (by rw [hl1, xl]; exact lM) t1.finger (t1.movedTo M) t1.led t1.plain
      have eh : Array.map (fun x => x.fst) ((xs1.map (ent knd)).toArray) = (xs1.map fun p => tupleKeyHash knd p.1).toArray := by
        apply Array.toList_inj.mp
        rw [Array.toList_map, List.toList_toArray, List.toList_toArray, List.map_map]
        rfl
      have er : t1.relaid (Array.map (fun x => x.fst) ((xs1.map (ent knd)).toArray)) W = some (t2, order) := by
        rw [eh]
        unfold SetTable.relaid
        rw [eM]
        exact el
      rw [er]
      rw [hl1] at op
      have e2 := relay_list (f := ent knd) (([], 0) : List K × Addr) op
      obtain ⟨xs2, hx2⟩ : ∃ xs2, xs2 = order.toList.map fun i => xs1.getD i ([], 0) := ⟨_, rfl⟩
      rw [← hx2] at e2
      have xp2 : xs2.Perm xs1 := by
        rw [hx2]
        have := op.map fun i => xs1.getD i ([], 0)
        rw [range_get] at this
        exact this
      have hh2 : (order.toList.map fun i => (xs1.map fun p => tupleKeyHash knd p.1).getD i 0) = xs2.map fun p => tupleKeyHash knd p.1 := by
        rw [hx2, List.map_map]
        refine List.map_congr_left fun i hi => ?_
        have hl : i < xs1.length := List.mem_range.mp (op.mem_iff.mp hi)
        show _ = tupleKeyHash knd (xs1.getD i ([], 0)).1
        rw [List.getD_eq_getElem?_getD, List.getElem?_map, List.getD_eq_getElem?_getD, List.getElem?_eq_getElem hl]
        rfl
      rw [hh2] at B2
      have hl2 : xs2.length = xs1.length := xp2.length_eq
      have sz2 : ((xs2.map (ent knd)).toArray).size = xs2.length := by simp
      refine wpAny_bind (wpAny_of_eq (a := ((xs2.map (ent knd)).toArray, t2)) ?_ ?_)
      · rw [← e2]
        show (ite _ _ _) = _
        rw [if_neg (by rw [e2, sz2, sz1, hl2]; simp)]
      · dsimp only
        have sb2 := Heap.SameBut.update (s.heap.update a (Obj.putSet ((xs1.map (ent knd)).toArray) t1)) a (Obj.putSet ((xs2.map (ent knd)).toArray) t2)
        refine wpAny_storeSet_of ho1 rfl ?_ (by rw [sz2]; exact short_line (by omega))
        have ho2 := stored ho1 rfl ((xs2.map (ent knd)).toArray) t2
        refine wpAny_pure (no n _ xs2 (sb1.trans sb2) ⟨_, _, t2, ho2, S.ex, rfl, ⟨B2, ?_⟩, q2.trans q1, l2.trans l1, fun p hp => ks1 _ (sb1.trans sb2) p (xp2.mem_iff.mp hp), ?_⟩ (xp2.trans xp))
        · rw [List.length_map, hl2, xl, m2]
          rcases hs2 with h | h | h
          · exact Or.inr (Or.inl h)
          · exact Or.inr (Or.inr (Or.inl h))
          · exact Or.inr (Or.inr (Or.inr h))
        · rw [(xp2.map (·.1)).nodup_iff]; exact nd1
    · rw [if_neg full]
      refine wpAny_pure (no n _ xs1 sb1 ⟨_, _, t1, ho1, S.ex, rfl, ⟨B, ?_⟩, q1, l1, ks1 _ sb1, nd1⟩ xp)
      rw [hl1, m1]
      rcases S.tab.small with ⟨x1, x2⟩ | ⟨x1, x2⟩ | ⟨x1, x2⟩ | ⟨x1, x2⟩ <;> rw [List.length_map] at x2
      · exact Or.inl ⟨x1, by omega⟩
      · exact Or.inr (Or.inl ⟨x1, by omega⟩)
      · exact Or.inr (Or.inr (Or.inl ⟨x1, by omega⟩))
      · exact Or.inr (Or.inr (Or.inr ⟨x1, by omega⟩))
end
end ST
end L2

namespace L2
open PySem PySem.Spec
namespace ST
/-! ### all tuples of a list are put into a set -/
section
variable {prog : Program} {w : World} {K : Type} [DecidableEq K] {knd : PySem.KeyKind prog w K} {A : Around} {a I : Addr} {fp wr : List Addr} {St : Nat → Heap → Prop} {led : Bool} {ts : List (List K × Addr)} {R : Result → Shared → Prop} {P : Nat → Value → Prop} {N : Nat}
theorem TSet.other {h h' : Heap} {xs : List (List K × Addr)} (S : TSet knd h a xs led) (e : ∀ b o, h.get? b = some o → (∀ p ∈ xs, True) → (b = a ∨ ∃ p ∈ xs, b = p.2) → h'.get? b = some o) : TSet knd h' a xs led := by
  obtain ⟨o, ep, t, S⟩ := S
  refine ⟨o, ep, t, e a o S.at_ (fun _ _ => trivial) (Or.inl rfl), S.ex, S.data, S.tab, S.plain, S.led_, fun p hp => ?_, S.nd⟩
  obtain ⟨ob, items, n, h1, h2⟩ := S.keys p hp
  exact ⟨ob, items, n, e _ _ h1 (fun _ _ => trivial) (Or.inr ⟨p, hp, rfl⟩), h2⟩
theorem key_keep {h h' : Heap} {k : List K} {b : Addr} (x : IsTupleKey knd h k b) (e : ∀ o, h.get? b = some o → h'.get? b = some o) : IsTupleKey knd h' k b := by
  obtain ⟨ob, items, n, h1, h2⟩ := x
  exact ⟨ob, items, n, e _ h1, h2⟩
theorem loop_ok (W : Walks prog w A.in1 I fp wr N P St) (hN : N = ts.length) (hP : ∀ i v, P i v → ∃ p, ts[i]? = some p ∧ v = .ref p.2) (haf : a ∉ fp) (hu : A.in1.units < cLine) (hv : ∀ (k : K) (v : Value), knd.is k v = true → hashByValue 7 v = pure true) (l18 : ts.length ≤ 306) (hw : ∀ p ∈ ts, p.2 ∉ wr) :
    ∀ (n i : Nat) (s : Shared) (xs : List (List K × Addr)), n = ts.length - i → i ≤ ts.length → St i s.heap → TSet knd s.heap a xs led → (∀ p ∈ xs, p ∈ ts) → (∀ k, (∃ b, (k, b) ∈ xs) ↔ k ∈ (ts.take i).map (·.1)) → xs.length ≤ i → (∀ p ∈ ts, IsTupleKey knd s.heap p.1 p.2) →
      (∀ h' tk xs', (∀ b o, b ≠ a → b ∉ wr → s.heap.get? b = some o → h'.get? b = some o) → TSet knd h' a xs' led → (∀ p ∈ xs', p ∈ ts) → (∀ k, (∃ b, (k, b) ∈ xs') ↔ k ∈ ts.map (·.1)) → R (.ok (.ret .none)) { s with heap := h', toks := tk }) →
      codeAny (model prog w) A (.builtin "set.update.loop" ⟨[.ref a, .ref I], []⟩) R s := by
  have haw : a ∉ wr := fun h => haf (W.sub _ h)
  subst hN
  intro n
  induction n with
  | zero =>
    intro i s xs hn hi st S sub mem len keys q
    have e : i = ts.length := by omega
    subst e
    refine codeAny_builtin PyProof.Rows.F.entry_set_update_loop ?_
    rw [Around.under_plainId PyProof.Rows.F.plain_set_update_loop _]
    unfold Builtin.«set.update.loop»
    dsimp only
    refine wpAny_bind (W.done s _ _ st fun h' tk keep => ?_)
    dsimp only
    refine wpAny_pure (q h' tk xs (fun b o _ nb e => keep b o nb e) (S.other fun b o e _ hb => keep b o ?_ e) sub (by rw [List.take_length] at mem; exact mem))
    rcases hb with rfl | ⟨p, hp, rfl⟩
    · exact haw
    · exact hw p (sub p hp)
  | succ n ih =>
    intro i s xs hn hi st S sub mem len keys q
    have hlt : i < ts.length := by omega
    refine codeAny_builtin PyProof.Rows.F.entry_set_update_loop ?_
    rw [Around.under_plainId PyProof.Rows.F.plain_set_update_loop _]
    unfold Builtin.«set.update.loop»
    dsimp only
    refine wpAny_bind (W.item i s _ _ hlt st fun v h' tk hv' st' keep => ?_)
    obtain ⟨⟨k, b⟩, hp, rfl⟩ := hP _ _ hv'
    have pm : (k, b) ∈ ts := List.mem_of_getElem? hp
    have keys' : ∀ p ∈ ts, IsTupleKey knd h' p.1 p.2 := fun p hp => key_keep (keys p hp) fun o e => keep _ o (hw p hp) e
    have S' : TSet knd h' a xs led := S.other fun c o e _ hc => keep c o (by
      rcases hc with rfl | ⟨p, hp, rfl⟩
      · exact haw
      · exact hw p (sub p hp)) e
    dsimp only
    refine wpAny_bind (wpAny_holding ?_)
    unfold setAdd
    refine wpAny_holding (wpAny_bind (wpAny_pyHash_tuple hu (keys' _ pm) ?_))
    obtain ⟨o, ep, t, S1⟩ := S'
    have et : (ts.take (i + 1)).map (·.1) = (ts.take i).map (·.1) ++ [k] := by rw [List.take_succ, hp, List.map_append]; rfl
    have go : ∀ (h2 : Heap) (xs2 : List (List K × Addr)), Heap.SameBut a h' h2 → TSet knd h2 a xs2 led → (∀ p ∈ xs2, p ∈ ts) → (∀ k', (∃ b', (k', b') ∈ xs2) ↔ k' ∈ (ts.take (i + 1)).map (·.1)) → xs2.length ≤ i + 1 →
        codeAny (model prog w) A (.builtin "set.update.loop" ⟨[.ref a, .ref I], []⟩) R { s with heap := h2, toks := tk + (k.length + 1) } := fun h2 xs2 sb T2 sub2 mem2 len2 =>
      ih (i + 1) _ xs2 (by omega) hlt (W.frame (i + 1) h' h2 st' fun c hc o e => by rw [sb.2 c (fun z => haf (z ▸ hc))]; exact e) T2 sub2 mem2 len2 (fun p hp => key_but (keys' p hp) S1.at_ S1.data sb)
        fun h3 tk3 xs3 keep3 T3 sub3 mem3 => q h3 tk3 xs3 (fun c o nc nw e => keep3 c o nc nw (by show h2.get? c = some o; rw [sb.2 c nc]; exact keep c o nw e)) T3 sub3 mem3
    refine add_ok (s := { s with heap := h', toks := tk + (k.length + 1) }) S1 (keys' _ pm) hu hv (by omega) (fun y => ?_) (fun n' h2 xs2 sb T2 xp => ?_)
    · refine wpAny_pure ⟨plainId_quiet PyProof.Rows.F.plain_set_update_loop _, go h' xs (Heap.SameBut.refl a h') ⟨o, ep, t, S1⟩ sub (fun k' => ?_) (by omega)⟩
      rw [et, List.mem_append, mem k', List.mem_singleton]
      refine ⟨Or.inl, fun z => ?_⟩
      rcases z with z | rfl
      · exact z
      · exact (mem k').mp y
    · refine wpAny_pure ⟨plainId_quiet PyProof.Rows.F.plain_set_update_loop _, go h2 xs2 sb T2 (fun p hp => ?_) (fun k' => ?_) (by rw [xp.length_eq, List.length_cons]; omega)⟩
      · rcases List.mem_cons.mp (xp.mem_iff.mp hp) with rfl | hp
        · exact pm
        · exact sub p hp
      · rw [et, List.mem_append, ← mem k', List.mem_singleton]
        constructor
        · rintro ⟨b', hb'⟩
          rcases List.mem_cons.mp (xp.mem_iff.mp hb') with z | z
          · exact Or.inr (Prod.mk.inj z).1
          · exact Or.inl ⟨b', z⟩
        · rintro (⟨b', hb'⟩ | rfl)
          · exact ⟨b', xp.mem_iff.mpr (List.mem_cons_of_mem _ hb')⟩
          · exact ⟨b, xp.mem_iff.mpr (List.mem_cons_self ..)⟩
end
end ST
end L2

namespace L2
open PySem PySem.Spec
namespace ST
/-! ### set(a list of tuples) -/
section
variable {prog : Program} {w : World} {K : Type} [DecidableEq K] {knd : PySem.KeyKind prog w K} {A : Around} {E : Value → Shared → Prop} {s : Shared}
noncomputable abbrev ledBy (w : World) : Bool := !w.params.followText "set-order"
noncomputable abbrev bare (w : World) : Obj := { cls := .type "set", data := .set #[] 0 (.fresh 0 0 (ledBy w)) }
theorem new_bare {a : Value} {R : PySem.Fin → Shared → Prop} (h : R (.done (.ret (.ref s.heap.objs.size))) { s with heap := s.heap.push (bare w) }) :
    wpAny (model prog w) A (Builtin.«set.__new__» ⟨[.type "set", a], []⟩) R E s := by
  have hsub := PySem.sub_set_self
  unfold Builtin.«set.__new__» Builtin.Frozenset.newClass
  wp_walk
  refine wpAny_askSetting (wpAny_pure ?_)
  dsimp only
  wp_walk
  exact h
theorem fresh_ok (finger moves : Nat) (led : Bool) : TOk (.fresh finger moves led) [] where
  dum := rfl
  len := rfl
  rise := fun a b h hb => absurd hb (Nat.not_lt_zero _)
  top := fun i j h => by
    have : (#[] : Array Nat)[i]? = some j := h
    simp at this
  reach := fun i h e => by cases e
  small := Or.inl ⟨rfl, by decide⟩
theorem called_bare {l : Addr} {ts : List (List K × Addr)} {Q : Value → Shared → Prop} (hh : A.handled = none) (hl : s.heap.IsList l ((ts.map fun p => Value.ref p.2).toArray)) (keys : ∀ p ∈ ts, IsTupleKey knd s.heap p.1 p.2) (hu : A.in1.in1.in1.units < cLine) (hv : ∀ (k : K) (v : Value), knd.is k v = true → hashByValue 7 v = pure true) (l18 : ts.length ≤ 306)
    (h : ∀ h' tk xs, TSet knd h' s.heap.objs.size xs (ledBy w) → (∀ p ∈ xs, p ∈ ts) → (∀ k, (∃ b, (k, b) ∈ xs) ↔ k ∈ ts.map (·.1)) → (∀ b o, b < s.heap.objs.size → s.heap.get? b = some o → h'.get? b = some o) → Q (.ref s.heap.objs.size) { s with heap := h', toks := tk }) :
    wpAny (model prog w) A (call (.type "set") [.ref l]) Q E s := by
  refine wpAny_call ?_
  refine codeAny_of_tree ?_
  wp_walk
  have C := PySem.F.called_set
  obtain ⟨c, tl, hm⟩ := C.mro
  have n1 := C.notType
  have n2 := C.canCreate
  have n3 := C.made
  have n4 := C.sub
  have chk := PySem.F.typeCall_set_1 (.ref l)
  constructor
  · exact Code.quiet_builtin _ (by decide +kernel)
  refine codeAny_builtin PySem.F.entry_type_call ?_
  rw [Around.under_plain (weight_type_call_type "set" [.ref l] []) rfl]
  unfold Builtin.«type.__call__»
  wp_walk
  refine codeAny_call_builtin PySem.F.plain_set_new PySem.F.entry_set_new (wpAny_of_eq (PySem.F.newCall_set_1 (.ref l)) (new_bare ?_))
  have hS : (s.heap.push (bare w)).get? s.heap.objs.size = some (bare w) := Heap.get?_push_size _ rfl
  have ty : Shared.TypeIs { s with heap := s.heap.push (bare w) } (.ref s.heap.objs.size) "set" := ⟨_, hS, rfl⟩
  have li := C.init.lookup
  have bi := C.init.bind (.ref s.heap.objs.size)
  wp_walk
  refine codeAny_call_builtin C.init.plain PySem.F.entry_set_init (check_set_init_1 ty ?_)
  have hl1 : (s.heap.push (bare w)).IsList l ((ts.map fun p => Value.ref p.2).toArray) := hl.push _
  have lty : Shared.TypeIs { s with heap := s.heap.push (bare w) } (.ref l) "list" := by
    obtain ⟨ol, a1, a2, _⟩ := hl1
    exact ⟨ol, a1, a2⟩
  have s1 := PySem.F.sub_list_set
  have s2 := PySem.F.sub_list_frozenset
  unfold Builtin.«set.__init__» noKeywords Builtin.Frozenset.updateFrom
  wp_walk using wpAny_pyIter_list hl1
  have lt : l < s.heap.objs.size := by obtain ⟨ol, a1, _⟩ := hl; exact Heap.lt_size a1
  have sz : (s.heap.push (bare w)).objs.size = s.heap.objs.size + 1 := Heap.size_push ..
  refine loop_ok (knd := knd) (a := s.heap.objs.size) (led := ledBy w) (Walks.list (A := A.in1.in1.in1) hh _ l (Nat.ne_of_lt (by show l < (s.heap.push (bare w)).objs.size; rw [sz]; exact Nat.lt_succ_of_lt lt)) ((ts.map fun p => Value.ref p.2).toArray)) (by simp) (fun i v e => ?_) ?_ hu hv l18 (fun p hp => ?_) ts.length 0 _ [] (by omega) (Nat.zero_le _) ⟨⟨_, Heap.get?_push_size _ rfl, rfl, rfl⟩, hl1.push _⟩ ⟨bare w, 0, .fresh 0 0 (ledBy w), Heap.get?_push_of_some _ hS, ⟨rfl, rfl, rfl⟩, rfl, fresh_ok _ _ _, rfl, rfl, fun p hp => absurd hp List.not_mem_nil, List.nodup_nil⟩ (fun p hp => absurd hp List.not_mem_nil) (fun k => ?_) (Nat.zero_le _) (fun p hp => ?_) (fun h' tk xs keep T sub mem => ?_)
  · rw [List.getElem?_toArray, List.getElem?_map] at e
    obtain ⟨p, h1, h2⟩ := Option.map_eq_some_iff.mp e
    exact ⟨p, h1, h2.symm⟩
  · show s.heap.objs.size ∉ [(s.heap.push (bare w)).objs.size, l]
    rw [sz]
    intro z
    rcases List.mem_cons.mp z with z | z
    · exact absurd z (Nat.ne_of_lt (Nat.lt_succ_self _))
    · exact absurd (List.mem_singleton.mp z) (Nat.ne_of_gt lt)
  · show p.2 ∉ [(s.heap.push (bare w)).objs.size]
    rw [sz]
    intro z
    obtain ⟨ob, _, _, h1, _⟩ := keys p hp
    exact absurd (List.mem_singleton.mp z) (Nat.ne_of_lt (Nat.lt_succ_of_lt (Heap.lt_size h1)))
  · simp
  · exact key_keep (keys p hp) fun o e => Heap.get?_push_of_some _ (Heap.get?_push_of_some _ e)
  · dsimp only
    wp_walk
    refine h h' tk xs T sub mem fun b o hb e => keep b o (Nat.ne_of_lt hb) ?_ (Heap.get?_push_of_some _ (Heap.get?_push_of_some _ e))
    show b ∉ [(s.heap.push (bare w)).objs.size]
    rw [sz]
    intro z
    exact absurd (List.mem_singleton.mp z) (Nat.ne_of_lt (Nat.lt_succ_of_lt hb))
end
end ST
end L2

namespace L2
open PySem PySem.Spec PySem.W PyProof.Rows
namespace ST
/-! ### the order in which a set gives its members -/
theorem erase_perm {α : Type} : ∀ (l : List α) (i : Nat) (x : α), l[i]? = some x → (x :: l.eraseIdx i).Perm l
  | [], i, x, h => by simp at h
  | y :: l, 0, x, h => by
    simp at h
    subst h
    exact List.Perm.refl _
  | y :: l, i + 1, x, h => by
    simp at h
    exact (List.Perm.swap ..).trans ((erase_perm l i x h).cons y)
theorem pick_go {α : Type} (f : Nat → Nat) : ∀ (n k : Nat) (l : List α) (out : Array α), l.length = n → (pickOrder.go f n k l out).toList.Perm (out.toList ++ l)
  | 0, k, l, out, h => by
    unfold pickOrder.go
    rw [List.eq_nil_of_length_eq_zero h, List.append_nil]
  | n + 1, k, l, out, h => by
    unfold pickOrder.go
    have hi : f k % l.length < l.length := Nat.mod_lt _ (by omega)
    have e := List.getElem?_eq_getElem hi
    rw [e]
    dsimp only
    refine (pick_go f n (k + 1) _ _ (by rw [List.length_eraseIdx, if_pos hi]; omega)).trans ?_
    rw [Array.toList_push, List.append_assoc]
    exact (erase_perm l _ _ e).append_left _
theorem pick_perm {α : Type} (f : Nat → Nat) (xs : Array α) : (pickOrder f xs).toList.Perm xs.toList := by
  unfold pickOrder
  simpa using pick_go f xs.size 0 xs.toList #[] (by simp)
/-- where the next member is looked for -/
noncomputable def slotAt (t : SetTable) (i : Nat) : Nat := if i = 0 then 0 else t.place.getD (i - 1) 0 + 1
theorem below_slot {t : SetTable} (R : Rise t.place) {i : Nat} (hi : i ≤ t.place.size) : SetTable.below t.place (slotAt t i) = i := by
  have B := below_ok R (slotAt t i)
  unfold slotAt at B ⊢
  by_cases c : i = 0
  · rw [if_pos c] at B ⊢
    rcases Nat.eq_zero_or_pos (SetTable.below t.place 0) with e | e
    · omega
    · exact absurd (B.lo 0 e) (Nat.not_lt_zero _)
  · rw [if_neg c] at B ⊢
    rcases Nat.lt_trichotomy (SetTable.below t.place (t.place.getD (i - 1) 0 + 1)) i with d | d | d
    · have h1 := B.hi (i - 1) (by omega) (by omega)
      omega
    · exact d
    · have h1 := B.lo i d
      have h2 := R (i - 1) i (by omega) (by have := B.le; omega)
      omega
end ST
end L2

namespace L2
open PySem PySem.Spec PySem.W PyProof.Rows
namespace ST
/-! ### a set is walked -/
theorem entry_set_iter : entryFor table "set.__iter__" = some Builtin.«frozenset.__iter__» := entryFor_alias (id' := "frozenset.__iter__") (by kernel_rfl) rfl (by decide +kernel) (by kernel_rfl)
theorem entry_setit_next : entryFor table "set_iterator.__next__" = some Builtin.«set_iterator.__next__» := entryFor_of_fast (by kernel_rfl)
theorem slot_setit_next : Slot "set_iterator" "__next__" "set_iterator.__next__" :=
  .of (owner := "set_iterator") (n := "__next__") (by rw [typeLookup_type, builtinLookup_eq_fast]; kernel_rfl) (by decide +kernel) (by decide +kernel) (by decide +kernel)
    (by first | exact .inl (by decide +kernel) | exact .inr (by decide +kernel)) (by rw [isSubtype_type]; kernel_rfl)
theorem args_setit_next (a : Value) : argsOk "set_iterator.__next__" ⟨[a], []⟩ := by
  unfold argsOk
  kernel_rfl
theorem entry_setit_iter : entryFor table "set_iterator.__iter__" = some Builtin.«dict_keyiterator.__iter__» := entryFor_alias (id' := "dict_keyiterator.__iter__") (by kernel_rfl) rfl (by decide +kernel) (by kernel_rfl)
theorem slot_setit_iter : Slot "set_iterator" "__iter__" "set_iterator.__iter__" :=
  .of (owner := "set_iterator") (n := "__iter__") (by rw [typeLookup_type, builtinLookup_eq_fast]; kernel_rfl) (by decide +kernel) (by decide +kernel) (by decide +kernel)
    (by first | exact .inl (by decide +kernel) | exact .inr (by decide +kernel)) (by rw [isSubtype_type]; kernel_rfl)
theorem args_setit_iter (a : Value) : argsOk "set_iterator.__iter__" ⟨[a], []⟩ := by
  unfold argsOk
  kernel_rfl
/-- what the object of a set must be like to be walked -/
structure SO (w : World) (o : Obj) (es : Array (Int × Value)) (ep : Nat) (t : SetTable) : Prop where
  ex : o.ExactSet
  data : o.data = .set es ep t
  fits : t.fits es.size = true
  rise : Rise t.place
  len : t.place.size = es.size
  plain : t.plain = true
  led : t.led = !w.params.followText "set-order"
noncomputable def given (w : World) (a : Addr) (ep : Nat) (es : Array (Int × Value)) : Array (Int × Value) := if w.params.followText "set-order" = true then pickOrder (w.params.setOrder a ep) es else es
theorem given_perm {w : World} {a : Addr} {ep : Nat} {es : Array (Int × Value)} : (given w a ep es).toList.Perm es.toList := by
  unfold given
  split
  · exact pick_perm _ _
  · exact List.Perm.refl _
theorem given_size {w : World} {a : Addr} {ep : Nat} {es : Array (Int × Value)} : (given w a ep es).size = es.size := by
  have := (given_perm (w := w) (a := a) (ep := ep) (es := es)).length_eq
  simpa using this
noncomputable def slotW (w : World) (t : SetTable) (i : Nat) : Nat := if w.params.followText "set-order" = true then 0 else slotAt t i
noncomputable abbrev itO (a : Addr) (slot i n ep : Nat) : Obj := { cls := .type "set_iterator", data := .fields #[rawInt slot, rawInt i, .ref a, rawInt n, rawInt ep] }
section
variable {prog : Program} {w : World} {A : Around} {E : Value → Shared → Prop} {s : Shared} {a I : Addr} {o : Obj} {es : Array (Int × Value)} {ep : Nat} {t : SetTable}
theorem SO.state {Q : (Array (Int × Value) × Nat × SetTable) → Shared → Prop} (S : SO w o es ep t) (at_ : s.heap.get? a = some o) (h : Q (es, ep, t) s) : wpAny (model prog w) A (setState a) Q E s :=
  wpAny_setState_of at_ S.data S.fits h
theorem ite_no {α : Type} {M : Model} {c : Prop} [Decidable c] {x y : Sem α} {Q : α → Shared → Prop} (hc : ¬ c) (h : wpAny M A y Q E s) : wpAny M A (if c then x else y) Q E s := by
  rw [if_neg hc]
  exact h
theorem ite_yes {α : Type} {M : Model} {c : Prop} [Decidable c] {x y : Sem α} {Q : α → Shared → Prop} (hc : c) (h : wpAny M A x Q E s) : wpAny M A (if c then x else y) Q E s := by
  rw [if_pos hc]
  exact h
theorem iter_set {Q : Value → Shared → Prop} (S : SO w o es ep t) (at_ : s.heap.get? a = some o) (h : Q (.ref s.heap.objs.size) { s with heap := s.heap.push (itO a 0 0 es.size ep) }) : wpAny (model prog w) A (pyIter (.ref a)) Q E s := by
  have hT : s.TypeIs (.ref a) "set" := ⟨o, at_, S.ex.1⟩
  refine wpAny_pyIter_slot hT PySem.F.slot_set_iter (wpAny_call_entry PySem.F.slot_set_iter hT entry_set_iter ?_ (PySem.F.args_set_iter_1 _))
  unfold Builtin.«frozenset.__iter__» Builtin.Frozenset.slot0 Builtin.Frozenset.sizeOf setEntries setDrawn setsByText setEpoch
  wp_walk using S.state at_
  refine wpAny_askSetting (wpAny_pure (wpAny_pure ?_))
  dsimp only
  refine ite_no (show ¬ ((!_ && (!t.plain && decide _)) = true) from by rw [S.plain]; simp) ?_
  wp_walk using S.state at_
  exact ⟨_, rfl, "set_iterator", _, ⟨_, Heap.get?_push_size _ rfl, rfl⟩, slot_setit_next.lookup, h⟩
theorem self_set {Q : Value → Shared → Prop} {i j n : Nat} (hI : s.heap.get? I = some (itO a j i n ep)) (h : Q (.ref I) s) : wpAny (model prog w) A (pyIter (.ref I)) Q E s := by
  have hT : s.TypeIs (.ref I) "set_iterator" := ⟨_, hI, rfl⟩
  refine wpAny_pyIter_slot hT slot_setit_iter (wpAny_call_entry slot_setit_iter hT entry_setit_iter ?_ (args_setit_iter _))
  show wpAny _ _ (ret (.ref I)) _ _ s
  exact wpAny_pure ⟨_, rfl, "set_iterator", _, hT, slot_setit_next.lookup, h⟩
end
end ST
end L2

namespace L2
open PySem PySem.Spec PySem.W PyProof.Rows
namespace ST
section
variable {prog : Program} {w : World} {A : Around} {E : Value → Shared → Prop} {s : Shared} {a I : Addr} {o : Obj} {es : Array (Int × Value)} {ep : Nat} {t : SetTable}
/-- the set's own step -/
theorem step_set {Q : Option (Value × Nat) → Shared → Prop} {i : Nat} (S : SO w o es ep t) (at_ : s.heap.get? a = some o) (hi : i ≤ es.size)
    (h : Q (((given w a ep es)[i]?).map fun e => (e.2, slotW w t (i + 1))) s) : wpAny (model prog w) A (setNext a (slotW w t i) i ep) Q E s := by
  unfold setNext setsByText
  refine wpAny_bind (S.state at_ ?_)
  dsimp only
  refine wpAny_bind (wpAny_bind (wpAny_askSetting (wpAny_pure ?_)))
  unfold given slotW at *
  by_cases c : w.params.followText "set-order" = true
  · rw [if_pos c] at h
    simp only [if_pos c] at h ⊢
    refine ite_yes c ?_
    refine ite_no (by simp) ?_
    unfold setWalk setsByText
    refine wpAny_bind (wpAny_bind (S.state at_ ?_))
    dsimp only
    refine wpAny_bind (wpAny_bind (wpAny_askSetting (wpAny_pure ?_)))
    refine ite_yes c ?_
    refine wpAny_bind (wpAny_askSetting ?_)
    exact wpAny_pure (wpAny_pure h)
  · simp only [if_neg c] at h ⊢
    refine ite_no c ?_
    refine ite_no (show ¬ ((!t.plain && decide (es.size > 1)) = true) from by rw [S.plain]; simp) ?_
    have hl : t.led = true := by
      rw [S.led]
      simpa using c
    refine wpAny_bind (m := (if (!t.led && !es.isEmpty) = true then unsupported "set:maker-not-led" else pure PUnit.unit)) (ite_no (by rw [hl]; simp) (wpAny_pure ?_))
    refine wpAny_pure ?_
    rw [below_slot S.rise (by rw [S.len]; exact hi)]
    by_cases d : i < es.size
    · rw [at_getD (show i < t.place.size by rw [S.len]; exact d)]
      rw [Array.getElem?_eq_getElem d] at h ⊢
      simp only [Option.map_some, slotAt, Nat.add_eq_zero_iff, Nat.succ_ne_self, and_false, if_false, Nat.add_sub_cancel] at h
      exact h
    · have e : es[i]? = none := Array.getElem?_eq_none (by omega)
      rw [e] at h ⊢
      exact h
end
end ST
end L2

namespace L2
open PySem PySem.Spec PySem.W PyProof.Rows
namespace ST
section
variable {prog : Program} {w : World} {A : Around} {E : Value → Shared → Prop} {s : Shared} {a I : Addr} {o : Obj} {es : Array (Int × Value)} {ep : Nat} {t : SetTable}
theorem next_set {Q : Option Value → Shared → Prop} {i : Nat} {e : Int × Value} (S : SO w o es ep t) (at_ : s.heap.get? a = some o) (ne : a ≠ I) (hI : s.heap.get? I = some (itO a (slotW w t i) i es.size ep)) (he : (given w a ep es)[i]? = some e)
    (h : ∀ h', h'.get? I = some (itO a (slotW w t (i + 1)) (i + 1) es.size ep) → (∀ b o, b ≠ I → s.heap.get? b = some o → h'.get? b = some o) → Q (some e.2) { s with heap := h' }) : wpAny (model prog w) A (pyNext (.ref I)) Q E s := by
  have hT : s.TypeIs (.ref I) "set_iterator" := ⟨_, hI, rfl⟩
  have hi : i ≤ es.size := by
    have := (Array.getElem?_eq_some_iff.mp he).1
    rw [given_size] at this
    omega
  unfold pyNext
  refine wpAny_bind (wpAny_attempt (wpAny_callSpecial?_slot (name := Str.ofString "__next__") hT slot_setit_next (wpAny_call_entry slot_setit_next hT entry_setit_next ?_ (args_setit_next _))))
  unfold Builtin.«set_iterator.__next__» setEntries
  refine wpAny_bind (wpAny_pure ?_)
  refine wpAny_bind (wpAny_fieldsOf hI rfl ?_)
  simp only [rawInt]
  refine wpAny_bind (wpAny_bind (S.state at_ (wpAny_pure ?_)))
  refine ite_no (by simp) ?_
  simp only [Int.toNat_natCast]
  refine wpAny_bind (step_set S at_ hi ?_)
  rw [he]
  simp only [Option.map_some]
  refine wpAny_bind (wpAny_setField hI rfl (by simp) ?_)
  have h1 : (s.heap.update I (Obj.mapFields fun x => x.setIfInBounds 0 (Value.int (↑(slotW w t (i + 1))) 0))).get? I = some (itO a (slotW w t (i + 1)) i es.size ep) := Heap.get?_update_self _ hI rfl
  refine wpAny_bind (wpAny_setField h1 rfl (by simp) (wpAny_pure ⟨_, rfl, wpAny_pure (h _ (Heap.get?_update_self _ h1 rfl) fun b o hb e' => ?_)⟩))
  exact (Heap.get?_update_other _ _ (Ne.symm hb)).trans ((Heap.get?_update_other _ _ (Ne.symm hb)).trans e')
theorem end_set {Q : Option Value → Shared → Prop} (hh : A.handled = none) (S : SO w o es ep t) (at_ : s.heap.get? a = some o) (ne : a ≠ I) (hI : s.heap.get? I = some (itO a (slotW w t es.size) es.size es.size ep))
    (h : ∀ h', (∀ b o, b ≠ I → s.heap.get? b = some o → h'.get? b = some o) → Q none { s with heap := h' }) : wpAny (model prog w) A (pyNext (.ref I)) Q E s := by
  have hT : s.TypeIs (.ref I) "set_iterator" := ⟨_, hI, rfl⟩
  have he : (given w a ep es)[es.size]? = none := Array.getElem?_eq_none (by rw [given_size]; exact Nat.le_refl _)
  have hh1 : A.in1.handled = none := hh
  unfold pyNext
  refine wpAny_bind (wpAny_attempt (wpAny_callSpecial?_slot (name := Str.ofString "__next__") hT slot_setit_next (wpAny_call_entry slot_setit_next hT entry_setit_next ?_ (args_setit_next _))))
  unfold Builtin.«set_iterator.__next__» setEntries
  refine wpAny_bind (wpAny_pure ?_)
  refine wpAny_bind (wpAny_fieldsOf hI rfl ?_)
  simp only [rawInt]
  refine wpAny_bind (wpAny_bind (S.state at_ (wpAny_pure ?_)))
  refine ite_no (by simp) ?_
  simp only [Int.toNat_natCast]
  refine wpAny_bind (step_set S at_ (Nat.le_refl _) ?_)
  rw [he]
  simp only [Option.map_none]
  refine wpAny_bind (wpAny_setField hI rfl (by simp) ?_)
  wp_walk
  refine wpAny_raiseNew_none hh1 ?_
  refine wpAny_bind (wpAny_isInstance (T := "StopIteration") (b := true) ⟨_, Heap.get?_push_size _ rfl, rfl⟩ isSubtype_stop (wpAny_pure (h _ fun b o hb e' => ?_)))
  exact Heap.get?_push_of_some _ (Heap.get?_push_of_some _ ((Heap.get?_update_other _ _ (Ne.symm hb)).trans e'))
theorem walks_set (hh : A.handled = none) (S : SO w o es ep t) (ne : a ≠ I) : Walks prog w A I [I, a] [I] es.size (fun i v => ((given w a ep es)[i]?).map Prod.snd = some v) (fun i h => h.get? I = some (itO a (slotW w t i) i es.size ep) ∧ h.get? a = some o) where
  sub := fun b hb => by
    rw [List.mem_singleton.mp hb]
    exact List.mem_cons_self ..
  frame := fun _ _ _ st k => ⟨k I (by simp) _ st.1, k a (by simp) _ st.2⟩
  item := fun i s Q E hi st h => by
    have hg : i < (given w a ep es).size := by
      rw [given_size]
      exact hi
    have e := Array.getElem?_eq_getElem hg
    exact next_set S st.2 ne st.1 e fun h' a1 a2 => h _ h' s.toks (by rw [e]; rfl) ⟨a1, a2 _ _ ne st.2⟩ fun b o hb e' => a2 b o (fun c => hb (by rw [c]; exact List.mem_cons_self ..)) e'
  done := fun s Q E st h => end_set hh S st.2 ne st.1 fun h' a2 => h h' s.toks fun b o hb e' => a2 b o (fun c => hb (by rw [c]; exact List.mem_cons_self ..)) e'
  self := fun _ _ _ _ st h => self_set st.1 h
/-- and what asks for its length beforehand -/
theorem hint_set {Q : Bool → Shared → Prop} (hT : s.TypeIs (.ref a) "set") (h : Q false s) : wpAny (model prog w) A (Builtin.List.listLengthHint (.ref a)) Q E s := by
  have e : splitId "set.__len__" = some ("set", "__len__") := by decide +kernel
  unfold Builtin.List.listLengthHint
  wp_walk
  rw [show typeLookup (Value.type "set") (Str.ofString "__len__") = _ from PySem.F.slot_set_len.lookup]
  refine wpAny_pure ?_
  dsimp only
  rw [e]
  dsimp only
  refine wpAny_bind (wpAny_isInstance (T := "set") (b := true) hT (by rw [isSubtype_type]; kernel_rfl) (ite_no (by decide) ?_))
  refine ite_yes (by decide +kernel) ?_
  exact wpAny_bind (wpAny_typeOf hT (wpAny_pure h))
/-- so a set is one of the library's sources -/
theorem src_set (S : SO w o es ep t) : KdlSrc prog w "set" a a es.size (fun i v => ((given w a ep es)[i]?).map Prod.snd = some v) (fun h => h.get? a = some o) where
  type := fun _ e => ⟨o, e, S.ex.1⟩
  there := fun _ e => ⟨Heap.lt_size e, Heap.lt_size e⟩
  keep := fun _ _ e k => k a (.inl rfl) o e
  notList := by decide
  notTuple := by decide
  hint := fun _ _ s _ e h => hint_set (s := s) ⟨o, e, S.ex.1⟩ h
  iter := fun A s hh e => ⟨_, _, fun _ _ h => iter_set S e h, walks_set hh S (Nat.ne_of_lt (Heap.lt_size e)), by
    refine ⟨?_, Heap.get?_push_of_some _ e⟩
    rw [Heap.get?_push_size _ rfl]
    unfold slotW slotAt
    simp⟩
/-- what any source of the library's gives when it is collected -/
theorem collect_src {T : String} {r d : Addr} {n : Nat} {P : Nat → Value → Prop} {OK : Heap → Prop} {Q : List Value → Shared → Prop} (K : KdlSrc prog w T r d n P OK) (hh : A.handled = none) (ok : OK s.heap) (hn : n ≤ sizeLine)
    (h : ∀ h' tk (vs : List Value), vs.length = n → (∀ (j : Nat) v, vs[j]? = some v → P j v) → s.heap.objs.size ≤ h'.objs.size → (∀ b o, s.heap.get? b = some o → h'.get? b = some o) → Q vs { s with heap := h', toks := tk }) : wpAny (model prog w) A (collect (.ref r)) Q E s := by
  have lt := K.there _ ok
  have key : ∀ R : Result → Shared → Prop, (∀ h' tk acc c, (∀ b o, b ≠ s.heap.objs.size → (s.heap.push { cls := .type "list", data := .seq #[] }).get? b = some o → h'.get? b = some o) → h'.get? s.heap.objs.size = some { cls := .type "list", dict := none, data := .seq acc c, slots := #[] } → ItemsOf P acc n → R (.ok (.ret (.ref s.heap.objs.size))) { s with heap := h', toks := tk }) →
      codeAny (model prog w) A (.builtin "proto.collect" ⟨[.ref r], []⟩) R s := fun R hR => by
    refine codeAny_builtin PySem.F.entry_proto_collect ?_
    rw [Around.under_plainId PySem.F.plain_proto_collect _]
    refine wpAny_bind (m := newList []) (wpAny_newObj_type ?_)
    refine wpAny_pure ⟨plainId_quiet PySem.F.plain_list_iadd _, codeAny_builtin PySem.F.entry_list_iadd ?_⟩
    rw [Around.under_plainId PySem.F.plain_list_iadd _]
    exact kdl_extend (A := A) (s := { s with heap := s.heap.push { cls := .type "list", data := .seq #[] } }) K hh (K.keep _ _ ok fun b _ o e => Heap.get?_push_of_some _ e) s.heap.objs.size (Nat.ne_of_gt lt.1) (Nat.ne_of_gt lt.2) _ 0 (Heap.get?_push_size _ rfl) hR hn
  unfold collect
  refine wpAny_bind (wpAny_runValue (key _ fun h' tk acc c keep at_ it => ?_))
  refine wpAny_bind (m := load s.heap.objs.size) (wpAny_load at_ (wpAny_pure ?_))
  exact h h' tk acc.toList (by simpa using it.1) (fun j v e => it.2 j v (by simpa using e)) (Nat.le_of_lt (Heap.lt_size at_)) fun b o e => keep b o (Nat.ne_of_lt (Heap.lt_size e)) (Heap.get?_push_of_some _ e)
end
end ST
end L2

namespace L2
open PySem PySem.Spec PySem.W PyProof.Rows
namespace ST
/-! ### the keys of any dict in turn -/
section
variable {prog : Program} {w : World} {A : Around} {E : Value → Shared → Prop} {s : Shared} {d I : Addr} {o : Obj} {es : Array DictEntry} {ep : Nat}
end
end ST
end L2

namespace L2
open PySem PySem.Spec PySem.W PyProof.Rows
/-! ### sets of rows, sorted rows -/
/-- a set of rows (its rows in the order of its table) -/
noncomputable def tsO (w : World) (a : Addr) (rows : List RW) : HO := .ext fun h => ∃ o es ep t, h.get? a = some o ∧ ST.SO w o es ep t ∧ es.toList.map Prod.snd = rows.map ST.rf
theorem tsO_ok {P : Program} {w : World} {H : Hp} {h : Heap} {a : Addr} {rows : List RW} {o : Obj} {es : Array (Int × Value)} {ep : Nat} {t : SetTable} (e : h.get? a = some o) (S : ST.SO w o es ep t) (l : es.toList.map Prod.snd = rows.map ST.rf) : ObjOk P w H h a (tsO w a rows) :=
  ⟨⟨o, es, ep, t, e, S, l⟩, ⟨o, e⟩, fun _ _ ⟨o, es, ep, t, e, x⟩ k => ⟨o, es, ep, t, k _ e, x⟩⟩
section
variable {P : Program} {w : World} {H : Hp} {h : Heap} {m : Nat} {rows : List RW}
theorem row_at (ok : HOk P w H h) (R : RowsOk H m rows) : ∀ r ∈ rows, ST.RowAt h m r := fun r hr => by
  obtain ⟨_, its, rv, o, h1, h2, n, h3⟩ := (show ObjOk P w H h r.1 (.tup (r.2.map V.int)) from ok r.1 _ (R r hr).1)
  exact ⟨(R r hr).2, o, its.toArray, n, h1, h2, h3, by simpa using intsAre_of rv⟩
theorem int_items : ∀ {vs : List Value} {ns : List Int}, IntsAre vs ns → ItemsAre (intKind P w) ns vs
  | _, _, .nil => .nil
  | _, _, .cons n t h => .cons (intKind_is P w n t) (int_items h)
theorem row_key (ok : HOk P w H h) (R : RowsOk H m rows) : ∀ r ∈ rows, IsTupleKey (intKind P w) h r.2 r.1 := fun r hr => by
  obtain ⟨_, o, its, n, h1, h2, h3, h4⟩ := row_at ok R r hr
  exact ⟨o, its, n, h1, h2, h3, int_items h4⟩
theorem int_value {n : Nat} (k : Int) (v : Value) (e : (intKind P w).is k v = true) : hashByValue n v = pure true := by
  cases v with
  | int i t => cases n <;> rfl
  | _ => cases e
theorem els_so {a : Addr} {xs : List (List Int × Addr)} {o : Obj} {ep : Nat} {t : SetTable} (S : ST.Els (intKind P w) h a xs (ST.ledBy w) o ep t) : ST.SO w o (xs.map (ST.ent (intKind P w))).toArray ep t :=
  ⟨S.ex, S.data, S.tab.toTB.fits _ (by simp) S.tab.room, S.tab.rise, by rw [S.tab.len]; simp, S.plain, S.led_⟩
end
noncomputable def swR (p : List Int × Addr) : RW := (p.2, p.1)
section
variable {X : Cx} {K : PySem.W.Frag}
/-- set(a list of rows) -/
theorem call_setT (hK : X.K = K) (hc : X.calm = true) (hu : X.A.units + 64 < cLine) : CallR X (.type "set") (fun xs H Q => ∃ (p : Addr) (m : Nat) (rows : List RW), xs = [.ref p] ∧ SqL K H p (refsOf rows) ∧ RowsOk H m rows ∧ rows.length ≤ 300 ∧
    ∀ (l : Addr) (rows' : List RW), H l = none → (∀ r ∈ rows', r ∈ rows) → (∀ k, k ∈ rows'.map (·.2) ↔ k ∈ rows.map (·.2)) → (rows'.map (·.2)).Nodup → Q (.ref l) (upd H l (tsO X.w l rows'))) := by
  subst hK
  intro pins s σ H xs us Q I r h
  obtain ⟨p, m, rows, rfl, hq, R, l18, q⟩ := h
  obtain ⟨u, rfl, rx⟩ := vals1 r
  cases rx
  obtain ⟨its, rv, pl, hz⟩ := I.list hq
  have hits : its = ((rows.map fun r => (r.2, r.1)).map fun p : List Int × Addr => Value.ref p.2) := by
    have all : ∀ {rs : List RW} {vs : List Value}, Vals (refsOf rs) vs → vs = ((rs.map fun r => (r.2, r.1)).map fun p : List Int × Addr => Value.ref p.2) := by
      intro rs
      induction rs with
      | nil => intro vs h; cases h; rfl
      | cons x rs ih =>
        intro vs h
        cases h with
        | cons h1 h2 =>
          rw [ih h2]
          cases h1
          rfl
    exact all rv
  subst hits
  refine ST.called_bare (knd := intKind X.prog X.w) (ts := rows.map fun r => (r.2, r.1)) (I.ok.hd hc) pl.isList (fun x hx => ?_) (by show X.A.units + 3 < cLine; omega) (fun k v e => int_value k v e) (by rw [List.length_map]; omega) fun h' tk xs T sub mem keep => ?_
  · obtain ⟨r, hr, rfl⟩ := List.mem_map.mp hx
    exact row_key I.hok R r hr
  obtain ⟨o, ep, t, S⟩ := T
  have e1 : (xs.map swR).map (·.2) = xs.map (·.1) := by
    rw [List.map_map]
    rfl
  refine ⟨.ref s.heap.objs.size, _, I.laid (t' := tk) (o := tsO X.w s.heap.objs.size (xs.map swR)) (fun b o e => keep b o (Heap.lt_size e) e) (Nat.le_refl _) (tsO_ok S.at_ (els_so S) ?_), rfl, q _ _ I.fresh (fun r hr => ?_) (fun k => ?_) ?_⟩
  · simp [ST.ent, ST.rf, swR, Function.comp_def]
  · obtain ⟨x, hx, rfl⟩ := List.mem_map.mp hr
    obtain ⟨r, hr', e⟩ := List.mem_map.mp (sub x hx)
    rw [← e]
    exact hr'
  · rw [e1]
    have := mem k
    rw [List.map_map] at this
    refine Iff.trans ?_ this
    constructor
    · intro h
      obtain ⟨x, hx, rfl⟩ := List.mem_map.mp h
      exact ⟨x.2, hx⟩
    · rintro ⟨b, hb⟩
      exact List.mem_map.mpr ⟨_, hb, rfl⟩
  · rw [e1]
    exact S.nd
theorem perm_map {α β : Type} {f : α → β} {l : List β} {xs : List α} (h : l.Perm (xs.map f)) : ∃ ys : List α, ys.Perm xs ∧ l = ys.map f := by
  generalize e : xs.map f = l2 at h
  induction h generalizing xs with
  | nil => exact ⟨[], by rw [List.map_eq_nil_iff.mp e], rfl⟩
  | cons x h ih =>
    obtain ⟨y, ys, rfl, rfl, e'⟩ := List.map_eq_cons_iff.mp e
    obtain ⟨zs, p, rfl⟩ := ih e'
    exact ⟨y :: zs, p.cons y, rfl⟩
  | swap x y l =>
    obtain ⟨a, as, rfl, rfl, e'⟩ := List.map_eq_cons_iff.mp e
    obtain ⟨b, bs, rfl, rfl, rfl⟩ := List.map_eq_cons_iff.mp e'
    exact ⟨b :: a :: bs, List.Perm.swap .., rfl⟩
  | trans h1 h2 ih1 ih2 =>
    obtain ⟨ys, p, rfl⟩ := ih2 e
    obtain ⟨zs, p', e'⟩ := ih1 rfl
    exact ⟨zs, p'.trans p, e'⟩
theorem list_of {α : Type} {vs : List α} {ys : Array α} (l : vs.length = ys.size) (h : ∀ (j : Nat) v, vs[j]? = some v → ys[j]? = some v) : vs = ys.toList := by
  refine List.ext_getElem? fun j => ?_
  rw [show ys.toList[j]? = ys[j]? from by simp]
  by_cases c : j < vs.length
  · rw [h j _ (List.getElem?_eq_getElem c)]
    exact List.getElem?_eq_getElem c
  · rw [List.getElem?_eq_none (by omega), Array.getElem?_eq_none (by omega)]
theorem refs_vals : ∀ rows : List RW, Vals (refsOf rows) (rows.map ST.rf)
  | [] => .nil
  | r :: rows => .cons rfl (refs_vals rows)
/-- what sorted gives, laid -/
theorem sorted_laid {pins : List (Addr × Obj)} {σ : St} {H : Hp} {s : Shared} {l : Addr} {h' : Heap} {tk c : Nat} {rows : List RW} {Q : VK} (I : Inv X pins σ H s) (le : s.heap.objs.size ≤ l) (at_ : h'.get? l = some (seqObj "list" (rows.map ST.rf).toArray c)) (h64 : rows.length < 1000) (keep : ∀ b o, s.heap.get? b = some o → h'.get? b = some o) (q : Q (.ref l) (upd H l (.lst (refsOf rows)))) :
    EP X pins σ Q (.ref l) { s with heap := h', toks := tk } :=
  ⟨.ref l, _, I.laid (t' := tk) keep le (show ObjOk X.prog X.w _ _ _ (.lst (refsOf rows)) from ⟨by unfold refsOf; rw [List.length_map]; exact Nat.le_of_lt (small1000 (by omega)), _, c, refs_vals rows, at_⟩), rfl, q⟩
/-- sorted(a set of rows) -/
theorem call_sortedS (hc : X.calm = true) : CallR X (.builtin "sorted") (fun xs H Q => ∃ (p : Addr) (m : Nat) (rows : List RW), xs = [.ref p] ∧ H p = some (tsO X.w p rows) ∧ RowsOk H m rows ∧ 1 ≤ m ∧ rows.length < 1000 ∧
    ∀ (l : Addr) (rows' : List RW), H l = none → rows'.Perm rows → ST.RUp rows' → Q (.ref l) (upd H l (.lst (refsOf rows')))) := by
  intro pins s σ H xs us Q I r h
  obtain ⟨p, m, rows, rfl, hp, R, hm, h64, q⟩ := h
  obtain ⟨u, rfl, rx⟩ := vals1 r
  cases rx
  obtain ⟨⟨o, es, ep, t, at_, S, el⟩, _⟩ := (show ObjOk X.prog X.w H s.heap p (tsO X.w p rows) from I.hok p _ hp)
  have hs : es.size = rows.length := by
    have := congrArg List.length el
    simpa using this
  refine ST.sorted_src (S := fun rs => rs.Perm rows) hm (fun Q' hQ => ?_) fun a h' tk rs rows' c hS hr pr up h6 le ha keep => sorted_laid I le ha (by rw [pr.length_eq]; exact h6) keep (q a rows' (I.hok.fresh le) (pr.trans hS) up)
  refine ST.collect_src (ST.src_set S) (I.ok.hd hc) at_ (by rw [hs]; exact Nat.le_of_lt (small1000 (by omega))) fun h' tk vs lv hv le keep => ?_
  have e1 : vs = ((ST.given X.w p ep es).map Prod.snd).toList := list_of (by rw [Array.size_map, ST.given_size]; exact lv) fun j v e => by
    rw [Array.getElem?_map]
    exact hv j v e
  have e2 : vs.Perm (rows.map ST.rf) := by
    rw [e1, Array.toList_map, ← el]
    exact ST.given_perm.map _
  obtain ⟨rs, pr, rfl⟩ := perm_map e2
  exact hQ rs h' tk pr (fun r hr => row_at I.hok R r (pr.mem_iff.mp hr)) (by rw [pr.length_eq]; exact h64) le keep
end
end L2

namespace L2
open PySem PySem.Spec PyProof.Rows
/-! ### for i, x in enumerate(a list) -/
section
variable {X : Cx} {pins : List (Addr × Obj)} {σ : St} {H : Hp} {s : Shared}
end
end L2

namespace L2
open PySem PySem.Spec PyProof.Rows
/-! ### == and != of values told as data -/
mutual
inductive DV (K : PySem.W.Frag) (H : Hp) : V → PyData → Prop
  | non : DV K H .non .none
  | bl (b : Bool) : DV K H (.bl b) (.bool b)
  | int (i : Int) : DV K H (.int i) (.int i)
  | str (x : Str) : DV K H (.str x) (.str x)
  | lst {a : Addr} {xs : List V} {ds : List PyData} : SqL K H a xs → DVs K H xs ds → DV K H (.ref a) (.list ds)
  | tup {a : Addr} {xs : List V} {ds : List PyData} : SqT K H a xs → DVs K H xs ds → DV K H (.ref a) (.tuple ds)
inductive DVs (K : PySem.W.Frag) (H : Hp) : List V → List PyData → Prop
  | nil : DVs K H [] []
  | cons {x : V} {xs : List V} {d : PyData} {ds : List PyData} : DV K H x d → DVs K H xs ds → DVs K H (x :: xs) (d :: ds)
end
section
variable {X : Cx} {K : PySem.W.Frag} {pins : List (Addr × Obj)} {σ : St} {H : Hp} {s : Shared}
mutual
theorem DV.reads (I : Inv X pins σ H s) : ∀ {v : V} {d : PyData} {u : Value}, DV X.K H v d → RelV v u → ∃ as, Reads s.heap u d as
  | _, _, _, .non, r => by obtain rfl := (show _ = Value.none from r); exact ⟨_, Reads.none⟩
  | _, _, _, .bl b, r => by obtain rfl := (show _ = Value.bool b from r); exact ⟨_, Reads.bool b⟩
  | _, _, _, .int i, r => by obtain ⟨t, rfl⟩ := r; exact ⟨_, .int i t⟩
  | _, _, _, .str x, r => by obtain ⟨t, rfl⟩ := r; exact ⟨_, .str x t⟩
  | _, _, _, .lst (a := a) hx hs, r => by
    obtain rfl := (show _ = Value.ref a from r)
    obtain ⟨its, rv, pl, _⟩ := I.list hx
    obtain ⟨as, ra⟩ := DVs.reads I hs rv
    obtain ⟨o, ho, hc, n, hd⟩ := pl.isList
    exact ⟨_, .list ho hc hd ra⟩
  | _, _, _, .tup (a := a) hx hs, r => by
    obtain rfl := (show _ = Value.ref a from r)
    obtain ⟨its, rv, pl, _⟩ := I.tuple hx
    obtain ⟨as, ra⟩ := DVs.reads I hs rv
    obtain ⟨o, ho, hc, n, hd⟩ := pl
    exact ⟨_, .tuple ho hc hd ra⟩
theorem DVs.reads (I : Inv X pins σ H s) : ∀ {vs : List V} {ds : List PyData} {us : List Value}, DVs X.K H vs ds → Vals vs us → ∃ as, ReadsAll s.heap us ds as
  | _, _, _, .nil, .nil => ⟨_, .nil⟩
  | _, _, _, .cons h hs, .cons r rs => by
    obtain ⟨as, ra⟩ := DV.reads I h r
    obtain ⟨bs, rb⟩ := DVs.reads I hs rs
    exact ⟨_, .cons ra rb⟩
end
noncomputable def rEqD (K : PySem.W.Frag) (neg : Bool) : R2 := fun x y H Q => ∃ d1 d2 : PyData, DV K H x d1 ∧ DV K H y d2 ∧ SeqAt.shaped d1 = true ∧ SeqAt.shaped d2 = true ∧ SeqAt.noMix d1 d2 = true ∧ Q (.bl (if neg then !same d1 d2 else same d1 d2)) H
theorem op_eqD (h : X.K = K) (hu : X.A.units + 64 < cLine) : OpR X (compareOp .Eq) (rEqD K false) := by
  subst h
  intro pins s σ H x y v u Q I rx ry h
  obtain ⟨d1, d2, h1, h2, s1, s2, nm, q⟩ := h
  obtain ⟨as, ra⟩ := h1.reads I rx
  obtain ⟨bs, rb⟩ := h2.reads I ry
  exact eq_dataH_same ra rb s1 s2 hu nm ⟨.bl _, H, I, rfl, q⟩
theorem op_neD (h : X.K = K) (hu : X.A.units + 64 < cLine) : OpR X (compareOp .NotEq) (rEqD K true) := by
  subst h
  intro pins s σ H x y v u Q I rx ry h
  obtain ⟨d1, d2, h1, h2, s1, s2, nm, q⟩ := h
  obtain ⟨as, ra⟩ := h1.reads I rx
  obtain ⟨bs, rb⟩ := h2.reads I ry
  exact ne_dataH_same ra rb s1 s2 hu nm ⟨.bl _, H, I, rfl, q⟩
end
/-! lists of data of one form -/
section
variable {α : Type} {f : α → PyData}
theorem sameAll_map [DecidableEq α] (h : ∀ a b, same (f a) (f b) = decide (a = b)) : ∀ xs ys : List α, sameAll (xs.map f) (ys.map f) = decide (xs = ys)
  | [], [] => by simp [sameAll]
  | [], _ :: _ => by simp [sameAll]
  | _ :: _, [] => by simp [sameAll]
  | x :: xs, y :: ys => by
    simp only [List.map_cons, sameAll, h, sameAll_map h xs ys]
    by_cases e : x = y <;> simp [e]
theorem noMixAll_map (h : ∀ a b, SeqAt.noMix (f a) (f b) = true) : ∀ xs ys : List α, SeqAt.noMixAll (xs.map f) (ys.map f) = true
  | [], [] => by simp [SeqAt.noMixAll]
  | [], _ :: _ => by simp [SeqAt.noMixAll]
  | _ :: _, [] => by simp [SeqAt.noMixAll]
  | x :: xs, y :: ys => by simp [SeqAt.noMixAll, h, noMixAll_map h xs ys]
theorem canLayAll_map (h : ∀ a, PyData.canLay0 (f a) = true) : ∀ xs : List α, PyData.canLayAll0 (xs.map f) = true
  | [] => by simp [PyData.canLayAll0]
  | x :: xs => by simp [PyData.canLayAll0, h, canLayAll_map h xs]
theorem depthAll_map {n : Nat} (h : ∀ a, PyData.depth (f a) ≤ n) : ∀ xs : List α, PyData.depthAll (xs.map f) ≤ n
  | [] => by simp [PyData.depthAll]
  | x :: xs => by
    have h1 := h x
    have h2 := depthAll_map h xs
    simp only [List.map_cons, PyData.depthAll]
    omega
theorem shaped_map (h : ∀ a, PyData.canLay0 (f a) = true) (hd : ∀ a, PyData.depth (f a) ≤ 10) (xs : List α) : SeqAt.shaped (.list (xs.map f)) = true := by
  have h2 : PyData.depth (.list (xs.map f)) ≤ 64 := by
    have := depthAll_map hd xs
    simp only [PyData.depth]
    omega
  show (PyData.canLay0 (.list (xs.map f)) && decide (PyData.depth (.list (xs.map f)) ≤ 64)) = true
  rw [Bool.and_eq_true]
  exact ⟨by simp only [PyData.canLay0]; exact canLayAll_map h xs, decide_eq_true h2⟩
end
/-! xs[::-1] -/
section
variable {X : Cx} {K : PySem.W.Frag} {e : Expr} {te : TE} {ste : Expr} {tst : TO} {pos p2 : Pos}
end
/-! slices told in naturals -/
end L2

namespace L2
open PySem PySem.Spec PySem.W PyProof.Rows
/-! ### the rows of a book seen on a part -/
/-- ks are the rows of src, each once, in their order -/
structure Asc (ks src : List (List Int)) : Prop where
  up : ks.Pairwise fun x y => ST.lexB y x = false
  nd : ks.Nodup
  mem : ∀ k, k ∈ ks ↔ k ∈ src
theorem up_eq {m : Nat} : ∀ {a b : List (List Int)}, a.Pairwise (fun x y => ST.lexB y x = false) → b.Pairwise (fun x y => ST.lexB y x = false) → a.Nodup → b.Nodup → (∀ k, k ∈ a ↔ k ∈ b) → (∀ k ∈ a, k.length = m) → a = b
  | [], [], _, _, _, _, _, _ => rfl
  | [], y :: b, _, _, _, _, h, _ => absurd ((h y).mpr (List.mem_cons_self ..)) List.not_mem_nil
  | x :: a, [], _, _, _, _, h, _ => absurd ((h x).mp (List.mem_cons_self ..)) List.not_mem_nil
  | x :: a, y :: b, u1, u2, n1, n2, h, l => by
    obtain ⟨u1', v1⟩ := List.pairwise_cons.mp u1
    obtain ⟨u2', v2⟩ := List.pairwise_cons.mp u2
    obtain ⟨m1, n1'⟩ := List.nodup_cons.mp n1
    obtain ⟨m2, n2'⟩ := List.nodup_cons.mp n2
    have e : x = y := by
      rcases List.mem_cons.mp ((h x).mp (List.mem_cons_self ..)) with e | e
      · exact e
      · rcases List.mem_cons.mp ((h y).mpr (List.mem_cons_self ..)) with e' | e'
        · exact e'.symm
        · exact ST.lex_total ((l x (List.mem_cons_self ..)).trans (l y (List.mem_cons_of_mem _ e')).symm) (u2' x e) (u1' y e')
    subst e
    rw [up_eq v1 v2 n1' n2' (fun k => ?_) fun k hk => l k (List.mem_cons_of_mem _ hk)]
    constructor
    · intro hk
      rcases List.mem_cons.mp ((h k).mp (List.mem_cons_of_mem _ hk)) with rfl | e
      · exact absurd hk m1
      · exact e
    · intro hk
      rcases List.mem_cons.mp ((h k).mpr (List.mem_cons_of_mem _ hk)) with rfl | e
      · exact absurd hk m2
      · exact e
theorem Asc.eq {m : Nat} {a b s t : List (List Int)} (A : Asc a s) (B : Asc b t) (h : ∀ k, k ∈ s ↔ k ∈ t) (l : ∀ k ∈ s, k.length = m) : a = b :=
  up_eq A.up B.up A.nd B.nd (fun k => (A.mem k).trans ((h k).trans (B.mem k).symm)) fun k hk => l k ((A.mem k).mp hk)
theorem Asc.of {rows : List RW} {src : List (List Int)} (up : ST.RUp rows) (nd : (rows.map (·.2)).Nodup) (mem : ∀ k, k ∈ rows.map (·.2) ↔ k ∈ src) : Asc (rows.map (·.2)) src :=
  ⟨by rw [List.pairwise_map]; exact up, nd, mem⟩
theorem nd_len : ∀ {a b : List (List Int)}, a.Nodup → (∀ k ∈ a, k ∈ b) → a.length ≤ b.length := fun {a b} => ST.nd_sub
theorem Asc.len {a s : List (List Int)} (A : Asc a s) : a.length ≤ s.length := nd_len A.nd fun k hk => (A.mem k).mp hk
theorem has_and : ∀ x, x < 128 → ∀ y, y < 128 → ∀ k, k < 7 → hasB (x &&& y) k = (hasB x k && hasB y k) := fun x _ y _ k _ => by
  have t : ∀ a : Nat, hasB a k = a.testBit k := fun a => by unfold hasB; rw [Nat.testBit_eq_decide_div_mod_eq]
  rw [t, t, t, Nat.testBit_and]
theorem seen_and {r : List Int} {x y m : Nat} (m7 : m ≤ 7) (hr : r.length = m) (hx : x < 128) (hy : y < 128) : seenL (seenL r x) y = seenL r (x &&& y) := by
  have l1 : (seenL r x).length = m := (seen_len r x).trans hr
  refine ext_getD ?_ fun k hk => ?_
  · rw [seen_len, seen_len, seen_len]
  · rw [seen_len] at hk
    have hk' : k < r.length := by rw [hr, ← l1]; exact hk
    rw [seen_get hk, seen_get hk', seen_get hk', has_and x hx y hy k (by omega)]
    cases hasB x k <;> cases hasB y k <;> simp
noncomputable def spSeenOn (K : PySem.W.Frag) : Sp := fun vs H Q _ => ∃ (bk : Addr) (rws : List RW) (s m : Nat), vs = [.ref bk, vN s] ∧ SqL K H bk (refsOf rws) ∧ RowsOk H m rws ∧ 1 ≤ m ∧ m ≤ 20 ∧ rws.length ≤ 300 ∧
  ∀ (l : Addr) (w : List RW) (H' : Hp), Same H H' → H l = none → H' l = some (.lst (refsOf w)) → RowsOk H' m w → Asc (w.map (·.2)) (rws.map fun r => seenL r.2 s) → Q (.ref l) H'
end L2

namespace L2
open PySem PySem.Spec PyProof.Rows
/-! ### books as data -/
noncomputable def rowD (r : List Int) : PyData := .tuple (r.map PyData.int)
theorem same_rowD (a b : List Int) : same (rowD a) (rowD b) = decide (a = b) := by
  unfold rowD
  simp only [same]
  exact sameAll_map (fun i j => by simp only [same]; first | rfl | (by_cases e : i = j <;> simp [e])) a b
theorem noMix_rowD (a b : List Int) : SeqAt.noMix (rowD a) (rowD b) = true := by
  unfold rowD
  simp only [SeqAt.noMix]
  exact noMixAll_map (fun i j => by simp [SeqAt.noMix]) a b
theorem shaped_book (rs : List (List Int)) : SeqAt.shaped (.list (rs.map rowD)) = true :=
  shaped_map (fun a => by unfold rowD; simp only [PyData.canLay0]; exact canLayAll_map (fun i => by simp [PyData.canLay0]) a)
    (fun a => by
      have := depthAll_map (f := PyData.int) (n := 3) (fun i => by simp [PyData.depth]) a
      unfold rowD
      simp only [PyData.depth]
      omega) rs
theorem same_book (rs : List (List Int)) : same (.list (rs.map rowD)) (.list (rs.map rowD)) = true := by
  simp only [same]
  rw [sameAll_map same_rowD]
  exact decide_eq_true rfl
theorem noMix_book (a b : List (List Int)) : SeqAt.noMix (.list (a.map rowD)) (.list (b.map rowD)) = true := by
  simp only [SeqAt.noMix]
  exact noMixAll_map noMix_rowD a b
theorem row_dv {K : PySem.W.Frag} {H : Hp} : ∀ r : List Int, DVs K H (r.map V.int) (r.map PyData.int)
  | [] => .nil
  | x :: r => .cons (.int x) (row_dv r)
theorem rows_dv {K : PySem.W.Frag} {H : Hp} {m : Nat} : ∀ {rws : List RW}, RowsOk H m rws → DVs K H (refsOf rws) ((rws.map (·.2)).map rowD)
  | [], _ => .nil
  | r :: rws, h => .cons (.tup (SqT.of (h r (List.mem_cons_self ..)).1) (row_dv r.2)) (rows_dv fun x hx => h x (List.mem_cons_of_mem _ hx))
theorem book_dv {K : PySem.W.Frag} {H : Hp} {m : Nat} {p : Addr} {rws : List RW} (h : H p = some (.lst (refsOf rws))) (R : RowsOk H m rws) : DV K H (.ref p) (.list ((rws.map (·.2)).map rowD)) := .lst (SqL.of h) (rows_dv R)
theorem Asc.lenR {w rws : List RW} {s : Nat} (A : Asc (w.map (·.2)) (rws.map fun r => seenL r.2 s)) : w.length ≤ rws.length := by
  have := A.len
  rw [List.length_map, List.length_map] at this
  exact this
theorem seen_lens {rws : List RW} {s m : Nat} (hl : ∀ r ∈ rws, r.2.length = m) : ∀ k ∈ (rws.map fun r => seenL r.2 s), k.length = m := fun k hk => by
  obtain ⟨r, hr, rfl⟩ := List.mem_map.mp hk
  exact (seen_len _ _).trans (hl r hr)
end L2

namespace L2
open PySem PySem.Spec PySem.W PyProof.Rows
/-! ### books put together -/
/-- sorted(a list of rows) -/
theorem call_sortedR {X : Cx} {K : PySem.W.Frag} (hK : X.K = K) : CallR X (.builtin "sorted") (fun xs H Q => ∃ (p : Addr) (m : Nat) (rows : List RW), xs = [.ref p] ∧ SqL K H p (refsOf rows) ∧ RowsOk H m rows ∧ 1 ≤ m ∧ rows.length < 1000 ∧
    ∀ (l : Addr) (rows' : List RW), H l = none → rows'.Perm rows → ST.RUp rows' → Q (.ref l) (upd H l (.lst (refsOf rows')))) := by
  subst hK
  intro pins s σ H xs us Q I r h
  obtain ⟨p, m, rows, rfl, hq, R, hm, h64, q⟩ := h
  obtain ⟨u, rfl, rx⟩ := vals1 r
  cases rx
  obtain ⟨its, rv, pl, hz⟩ := I.list hq
  have hits : its = rows.map ST.rf := by
    have all : ∀ {rs : List RW} {vs : List Value}, Vals (refsOf rs) vs → vs = rs.map ST.rf := by
      intro rs
      induction rs with
      | nil => intro vs h; cases h; rfl
      | cons x rs ih =>
        intro vs h
        cases h with
        | cons h1 h2 =>
          rw [ih h2]
          cases h1
          rfl
    exact all rv
  subst hits
  refine ST.sorted_src (S := fun x => x = rows) hm (fun Q' hQ => ?_) fun a h' tk x rows' c hS hr pr up h6 le ha keep => by
    subst hS
    exact sorted_laid I le ha (by rw [pr.length_eq]; exact h6) keep (q a rows' (I.hok.fresh le) pr up)
  refine collect_list pl.isList (hQ rows _ s.toks rfl (row_at I.hok R) h64 ?_ fun b o e => ?_) (by rw [List.length_map]; exact Nat.le_of_lt (small1000 (by omega)))
  · rw [Heap.size_update, size_push']
    exact Nat.le_succ _
  · exact (Heap.get?_update_other _ _ (Nat.ne_of_gt (Heap.lt_size e))).trans (Heap.get?_push_of_some _ e)
theorem small2000 {n : Nat} (h : n ≤ 2000) : n < sizeLine := by rw [sizeLine_eq]; omega
/-- the rows of a group are those of the book that are seen so, in their order -/
theorem groups_filter (s : Nat) (rws : List RW) : ∀ g ∈ groupsL rws s, g.2 = rws.filter fun r => decide (seenL r.2 s = g.1) := by
  refine snocInd (P := fun rws => ∀ g ∈ groupsL rws s, g.2 = rws.filter fun r => decide (seenL r.2 s = g.1)) (fun g h => by cases h) (fun l x ih g hg => ?_) rws
  rw [groupsL_snoc] at hg
  rw [List.filter_append]
  rcases addG_mem (groups_spec s l).1 g hg with ⟨h1, h2⟩ | ⟨h1, h2⟩
  · rw [← ih g h1, List.filter_cons_of_neg (by rw [decide_eq_true_eq]; exact Ne.symm h2), List.filter_nil, List.append_nil]
  · have ex : ([x] : List RW).filter (fun r => decide (seenL r.2 s = g.1)) = [x] := by
      rw [List.filter_cons_of_pos (by rw [decide_eq_true_eq]; exact h1.symm), List.filter_nil]
    rw [ex]
    rcases h2 with ⟨rs, h3, h4⟩ | ⟨h3, h4⟩
    · rw [h4]
      have := ih (seenL x.2 s, rs) h3
      dsimp only at this
      rw [this, h1]
    · rw [h4]
      have : (l.filter fun r => decide (seenL r.2 s = g.1)) = [] := by
        rw [List.filter_eq_nil_iff]
        intro r hr e
        obtain ⟨g', m', e'⟩ := (groups_spec s l).2.2 r hr
        exact h3 g' m' (by rw [e', of_decide_eq_true e, h1])
      rw [this]
      rfl
/-- the mixes of one row with those of the other book that agree with it -/
noncomputable def joinR (a : RW) (w2 : List RW) (both x : Nat) : List (List Int) := (w2.filter fun b => decide (seenL b.2 both = seenL a.2 both)).map fun b => mixL a.2 b.2 x
noncomputable def joinL (w1 w2 : List RW) (both x : Nat) : List (List Int) := w1.flatMap fun a => joinR a w2 both x
theorem groups_at {s : Nat} {rws : List RW} (key : List Int) : ((groupsL rws s).find? fun g => decide (g.1 = key)).elim [] (·.2) = rws.filter fun r => decide (seenL r.2 s = key) := by
  cases e : (groupsL rws s).find? fun g => decide (g.1 = key) with
  | some g =>
    have h1 := List.mem_of_find?_eq_some e
    have h2 : g.1 = key := of_decide_eq_true (by simpa using List.find?_some e)
    show g.2 = _
    rw [groups_filter s rws g h1, h2]
  | none =>
    show [] = _
    symm
    rw [List.filter_eq_nil_iff]
    intro r hr z
    obtain ⟨g, hg, e'⟩ := (groups_spec s rws).2.2 r hr
    have := List.find?_eq_none.mp e g hg
    exact this (by rw [e']; exact z)
noncomputable def spPut (K : PySem.W.Frag) : Sp := fun vs H Q _ => ∃ (b1 b2 : Addr) (r1 r2 : List RW) (x y m : Nat), vs = [.ref b1, vN x, .ref b2, vN y] ∧ SqL K H b1 (refsOf r1) ∧ SqL K H b2 (refsOf r2) ∧ RowsOk H m r1 ∧ RowsOk H m r2 ∧ 1 ≤ m ∧ m ≤ 20 ∧ r1.length ≤ 300 ∧ r2.length ≤ 300 ∧
  (∀ w1 w2 : List RW, Asc (w1.map (·.2)) (r1.map fun r => seenL r.2 x) → Asc (w2.map (·.2)) (r2.map fun r => seenL r.2 y) → (joinL w1 w2 (x &&& y) x).length < 1000) ∧
  ∀ (l : Addr) (w w1 w2 : List RW) (H' : Hp), Asc (w1.map (·.2)) (r1.map fun r => seenL r.2 x) → Asc (w2.map (·.2)) (r2.map fun r => seenL r.2 y) → Same H H' → H l = none → H' l = some (.lst (refsOf w)) → RowsOk H' m w → (w.map (·.2)).Perm (joinL w1 w2 (x &&& y) x) → ST.RUp w → Q (.ref l) H'
end L2

namespace L2
open PySem PySem.Spec PySem.W PyProof.Rows
/-! ### what books put together are -/
theorem join_mem {w1 w2 : List RW} {z x : Nat} {k : List Int} : k ∈ joinL w1 w2 z x ↔ ∃ a ∈ w1, ∃ b ∈ w2, seenL b.2 z = seenL a.2 z ∧ k = mixL a.2 b.2 x := by
  unfold joinL joinR
  rw [List.mem_flatMap]
  constructor
  · rintro ⟨a, ha, h⟩
    obtain ⟨b, hb, rfl⟩ := List.mem_map.mp h
    obtain ⟨h1, h2⟩ := List.mem_filter.mp hb
    exact ⟨a, ha, b, h1, of_decide_eq_true h2, rfl⟩
  · rintro ⟨a, ha, b, hb, e, rfl⟩
    exact ⟨a, ha, List.mem_map.mpr ⟨b, List.mem_filter.mpr ⟨hb, decide_eq_true e⟩, rfl⟩⟩
/-- a row that is nought off x -/
noncomputable def On0 (x : Nat) (r : List Int) : Prop := ∀ k, k < r.length → hasB x k = false → r.getD k 0 = 0
theorem seen_on0 (r : List Int) (x : Nat) : On0 x (seenL r x) := fun k hk h => by
  rw [seen_len] at hk
  rw [seen_get hk, h]
  rfl
theorem mix_left {a b a' b' : List Int} {x m : Nat} (ha : a.length = m) (ha' : a'.length = m) (o : On0 x a) (o' : On0 x a') (e : mixL a b x = mixL a' b' x) : a = a' := by
  refine ext_getD (ha.trans ha'.symm) fun k hk => ?_
  have hk' : k < a'.length := by omega
  have h := congrArg (fun r => r.getD k 0) e
  rw [mix_get hk, mix_get hk'] at h
  cases c : hasB x k with
  | true =>
    rw [c] at h
    exact h
  | false => rw [o k hk c, o' k hk' c]
theorem mix_right {a b b' : List Int} {x y m : Nat} (m7 : m ≤ 7) (hx : x < 128) (hy : y < 128) (ha : a.length = m) (hb : b.length = m) (hb' : b'.length = m) (o : On0 y b) (o' : On0 y b') (s : seenL b (x &&& y) = seenL a (x &&& y)) (s' : seenL b' (x &&& y) = seenL a (x &&& y)) (e : mixL a b x = mixL a b' x) : b = b' := by
  refine ext_getD (hb.trans hb'.symm) fun k hk => ?_
  have hk' : k < b'.length := by omega
  have hka : k < a.length := by omega
  cases cy : hasB y k with
  | false => rw [o k hk cy, o' k hk' cy]
  | true =>
    cases cx : hasB x k with
    | true =>
      have both : hasB (x &&& y) k = true := by rw [has_and x hx y hy k (by omega), cx, cy]; rfl
      have h1 := congrArg (fun r => r.getD k 0) (s.trans s'.symm)
      rw [seen_get hk, seen_get hk', both] at h1
      exact h1
    | false =>
      have h := congrArg (fun r => r.getD k 0) e
      rw [mix_get hka, mix_get hka, cx] at h
      exact h
theorem join_nd {w1 w2 : List RW} {x y m : Nat} (m7 : m ≤ 7) (hx : x < 128) (hy : y < 128) (n1 : (w1.map (·.2)).Nodup) (n2 : (w2.map (·.2)).Nodup) (l1 : ∀ a ∈ w1, a.2.length = m) (l2 : ∀ a ∈ w2, a.2.length = m) (o1 : ∀ a ∈ w1, On0 x a.2) (o2 : ∀ b ∈ w2, On0 y b.2) : (joinL w1 w2 (x &&& y) x).Nodup := by
  unfold joinL List.Nodup
  rw [List.pairwise_flatMap]
  refine ⟨fun a ha => ?_, ?_⟩
  · unfold joinR
    rw [List.pairwise_map, List.pairwise_filter]
    have p2 : w2.Pairwise fun b b' => b.2 ≠ b'.2 := List.pairwise_map.mp n2
    refine List.Pairwise.imp_of_mem (fun {b b'} hb hb' ne c c' e => ?_) p2
    exact ne (mix_right m7 hx hy (l1 a ha) (l2 b hb) (l2 b' hb') (o2 b hb) (o2 b' hb') (of_decide_eq_true c) (of_decide_eq_true c') e)
  · have p1 : w1.Pairwise fun a a' => a.2 ≠ a'.2 := List.pairwise_map.mp n1
    refine List.Pairwise.imp_of_mem (fun {a a'} ha ha' ne k hk k' hk' e => ?_) p1
    obtain ⟨b, _, rfl⟩ := List.mem_map.mp hk
    obtain ⟨b', _, rfl⟩ := List.mem_map.mp hk'
    exact ne (mix_left (l1 a ha) (l1 a' ha') (o1 a ha) (o1 a' ha') e)
theorem mix_seen {a b : List Int} {x y m : Nat} (ha : a.length = m) (hb : b.length = m) (cov : ∀ k, k < m → hasB x k = true ∨ hasB y k = true) : mixL (seenL a x) (seenL b y) x = mixL a b x := by
  refine ext_getD (by rw [mix_len, mix_len, seen_len]) fun k hk => ?_
  rw [mix_len, seen_len] at hk
  rw [mix_get (by rw [seen_len]; exact hk), mix_get hk, seen_get hk, seen_get (by omega)]
  cases cx : hasB x k with
  | true => rfl
  | false =>
    rcases cov k (by omega) with h | h
    · rw [cx] at h; cases h
    · rw [h]; rfl
/-- the parts of a table put together, told by the table -/
theorem join_table {T w1 w2 : List RW} {x y m : Nat} (A1 : Asc (w1.map (·.2)) (T.map fun r => seenL r.2 x)) (A2 : Asc (w2.map (·.2)) (T.map fun r => seenL r.2 y)) (hl : ∀ r ∈ T, r.2.length = m) (m7 : m ≤ 7) (hx : x < 128) (hy : y < 128) (cov : ∀ k, k < m → hasB x k = true ∨ hasB y k = true) (k : List Int) :
    k ∈ joinL w1 w2 (x &&& y) x ↔ k ∈ joinL T T (x &&& y) x := by
  have hxy : x &&& y < 128 := Nat.lt_of_le_of_lt Nat.and_le_left hx
  have e1 : x &&& (x &&& y) = x &&& y := by rw [← Nat.and_assoc, Nat.and_self]
  have e2 : y &&& (x &&& y) = x &&& y := by rw [Nat.and_comm x y, ← Nat.and_assoc, Nat.and_self]
  have s1 : ∀ r ∈ T, seenL (seenL r.2 x) (x &&& y) = seenL r.2 (x &&& y) := fun r hr => by rw [seen_and m7 (hl r hr) hx hxy, e1]
  have s2 : ∀ r ∈ T, seenL (seenL r.2 y) (x &&& y) = seenL r.2 (x &&& y) := fun r hr => by rw [seen_and m7 (hl r hr) hy hxy, e2]
  rw [join_mem, join_mem]
  constructor
  · rintro ⟨a, ha, b, hb, e, rfl⟩
    obtain ⟨a', ha', ea⟩ := List.mem_map.mp ((A1.mem a.2).mp (List.mem_map.mpr ⟨a, ha, rfl⟩))
    obtain ⟨b', hb', eb⟩ := List.mem_map.mp ((A2.mem b.2).mp (List.mem_map.mpr ⟨b, hb, rfl⟩))
    rw [← ea, ← eb, s1 a' ha', s2 b' hb'] at e
    exact ⟨a', ha', b', hb', e, by rw [← ea, ← eb, mix_seen (hl a' ha') (hl b' hb') cov]⟩
  · rintro ⟨a', ha', b', hb', e, rfl⟩
    obtain ⟨a, ha, ea⟩ := List.mem_map.mp ((A1.mem (seenL a'.2 x)).mpr (List.mem_map.mpr ⟨a', ha', rfl⟩))
    obtain ⟨b, hb, eb⟩ := List.mem_map.mp ((A2.mem (seenL b'.2 y)).mpr (List.mem_map.mpr ⟨b', hb', rfl⟩))
    refine ⟨a, ha, b, hb, ?_, ?_⟩
    · rw [ea, eb, s1 a' ha', s2 b' hb']
      exact e
    · rw [ea, eb, mix_seen (hl a' ha') (hl b' hb') cov]
theorem join_len {w1 w2 : List RW} {z x : Nat} : (joinL w1 w2 z x).length ≤ w1.length * w2.length := by
  unfold joinL
  induction w1 with
  | nil => simp
  | cons a w1 ih =>
    rw [List.flatMap_cons, List.length_append, List.length_cons, Nat.succ_mul]
    have : (joinR a w2 z x).length ≤ w2.length := by
      unfold joinR
      rw [List.length_map]
      exact List.length_filter_le _ _
    omega
/-- few rows, where the table holds all mixes -/
theorem join_few {T w1 w2 : List RW} {x y m : Nat} (A1 : Asc (w1.map (·.2)) (T.map fun r => seenL r.2 x)) (A2 : Asc (w2.map (·.2)) (T.map fun r => seenL r.2 y)) (hl : ∀ r ∈ T, r.2.length = m) (m7 : m ≤ 7) (hx : x < 128) (hy : y < 128) (cov : ∀ k, k < m → hasB x k = true ∨ hasB y k = true)
    (clo : ∀ k ∈ joinL T T (x &&& y) x, k ∈ T.map (·.2)) : (joinL w1 w2 (x &&& y) x).length ≤ T.length := by
  have lens : ∀ {ws : List RW} {s : Nat}, Asc (ws.map (·.2)) (T.map fun r => seenL r.2 s) → (∀ a ∈ ws, a.2.length = m) ∧ ∀ a ∈ ws, On0 s a.2 := fun {ws s} A => by
    constructor <;> intro a ha <;> obtain ⟨r, hr, e⟩ := List.mem_map.mp ((A.mem a.2).mp (List.mem_map.mpr ⟨a, ha, rfl⟩)) <;> rw [← e]
    · exact (seen_len _ _).trans (hl r hr)
    · exact seen_on0 _ _
  have nd := join_nd m7 hx hy A1.nd A2.nd (lens A1).1 (lens A2).1 (lens A1).2 (lens A2).2
  have := nd_len nd fun k hk => clo k ((join_table A1 A2 hl m7 hx hy cov k).mp hk)
  rw [List.length_map] at this
  exact this
/-- what put_together gives, in its order -/
theorem join_asc {T w1 w2 ws : List RW} {x y m : Nat} (A1 : Asc (w1.map (·.2)) (T.map fun r => seenL r.2 x)) (A2 : Asc (w2.map (·.2)) (T.map fun r => seenL r.2 y)) (hl : ∀ r ∈ T, r.2.length = m) (m7 : m ≤ 7) (hx : x < 128) (hy : y < 128) (cov : ∀ k, k < m → hasB x k = true ∨ hasB y k = true)
    (pr : (ws.map (·.2)).Perm (joinL w1 w2 (x &&& y) x)) (up : ST.RUp ws) : Asc (ws.map (·.2)) (joinL T T (x &&& y) x) := by
  have lens : ∀ {ws : List RW} {s : Nat}, Asc (ws.map (·.2)) (T.map fun r => seenL r.2 s) → (∀ a ∈ ws, a.2.length = m) ∧ ∀ a ∈ ws, On0 s a.2 := fun {ws s} A => by
    constructor <;> intro a ha <;> obtain ⟨r, hr, e⟩ := List.mem_map.mp ((A.mem a.2).mp (List.mem_map.mpr ⟨a, ha, rfl⟩)) <;> rw [← e]
    · exact (seen_len _ _).trans (hl r hr)
    · exact seen_on0 _ _
  exact Asc.of up (pr.nodup_iff.mpr (join_nd m7 hx hy A1.nd A2.nd (lens A1).1 (lens A2).1 (lens A1).2 (lens A2).2)) fun k => (pr.mem_iff).trans (join_table A1 A2 hl m7 hx hy cov k)
end L2

namespace L2
open PySem PySem.Spec PyProof.Rows
/-! ### books put together as the law does it, pair by pair -/
theorem join_lens {u1 u2 : List RW} {z x m : Nat} (l1 : ∀ a ∈ u1, a.2.length = m) : ∀ k ∈ joinL u1 u2 z x, k.length = m := fun k hk => by
  obtain ⟨a, ha, b, _, _, rfl⟩ := join_mem.mp hk
  exact (mix_len _ _ _).trans (l1 a ha)
/-! two books in a list -/
end L2

namespace L2
open PySem PySem.Spec PyProof.Rows
/-! ### stage 2's laws: what their shared defs promise -/
end L2

namespace L2
/-! ### why a draw by 48271 comes to a multiple of four -/
end L2

namespace L2
/-! ### the mathematics of unfolding -/
/-! uses, in their order -/
/-! a run -/
/-! the parts drawn by k20's law -/
/-! every column is fixed or in a block -/
/-! a set whose book keeps the rules stays within one block -/
end L2

namespace L2
open PySem PySem.Spec PyProof.Rows
/-! ### what is not in a set, min, an object of one's own written -/
section
variable {X : Cx} {K : PySem.W.Frag}
end
/-! ### what the unfolding's defs promise -/
/-! data -/
end L2

namespace L2
open PySem PySem.Spec PyProof.Rows
/-! ### an unfolding under way, in the heap -/
end L2

namespace L2
open PySem PySem.Spec PyProof.Rows
/-! ### what follows -/
section
variable {X : Cx} {K : PySem.W.Frag}
end
end L2

namespace L2
/-! ### the settled columns, found by books of two rows -/
open PySem PySem.Spec PyProof.Rows
end L2

namespace L2
/-! ### what follows, told by the sets whose books keep the rules -/
end L2
namespace L2
/-! ### the rules of following -/
section
variable {m : Nat} {rs : List RD} {x y z v : Nat}
end
open PySem PySem.Spec PyProof.Rows
end L2

namespace L2
open PySem PySem.Spec PyProof.Rows
section
variable {X : Cx}
theorem op_isnotB : OpR X (compareOp .IsNot) (fun x y H Q => ∃ a b : Bool, x = .bl a ∧ y = .bl b ∧ Q (.bl (a != b)) H) := by
  intro pins s σ H x y v u Q I rx ry h
  obtain ⟨a, b, rfl, rfl, q⟩ := h
  cases rx; cases ry
  exact isnot_bool ⟨.bl _, H, I, rfl, q⟩
end
end L2

namespace L2
open PySem PySem.Spec PyProof.Rows
/-! ### a cut of a book -/
section
variable {T : List RW} {x y m : Nat}
theorem seen_eq {a b : List Int} {z m : Nat} (ha : a.length = m) (hb : b.length = m) : seenL a z = seenL b z ↔ ∀ k, k < m → hasB z k = true → a.getD k 0 = b.getD k 0 := by
  constructor
  · intro e k hk h
    have := congrArg (fun r => r.getD k 0) e
    rw [seen_get (by omega), seen_get (by omega), h] at this
    exact this
  · intro h
    refine ext_getD (by rw [seen_len, seen_len, ha, hb]) fun k hk => ?_
    rw [seen_len, ha] at hk
    rw [seen_get (by omega), seen_get (by omega)]
    cases c : hasB z k with
    | true => exact h k hk c
    | false => rfl
/-- each row is mixed of itself -/
theorem join_refl (hl : ∀ r ∈ T, r.2.length = m) {r : RW} (h : r ∈ T) (z : Nat) : r.2 ∈ joinL T T z x := join_mem.mpr ⟨r, h, r, h, rfl, (mix_self _ _).symm⟩
theorem mix_seenx {a b : List Int} {x m : Nat} (ha : a.length = m) (hb : b.length = m) : seenL (mixL a b x) x = seenL a x := by
  refine (seen_eq ((mix_len _ _ _).trans ha) ha).mpr fun k hk h => ?_
  rw [mix_get (by omega), h]
  rfl
theorem mix_seenz {a b : List Int} {x z m : Nat} (ha : a.length = m) (hb : b.length = m) (s : seenL b z = seenL a z) : seenL (mixL a b x) z = seenL a z := by
  refine (seen_eq ((mix_len _ _ _).trans ha) ha).mpr fun k hk h => ?_
  rw [mix_get (by omega)]
  cases hasB x k with
  | true => rfl
  | false => exact (seen_eq hb ha).mp s k hk h
theorem mix_mix {a b c d : List Int} {x m : Nat} (ha : a.length = m) (hb : b.length = m) (hc : c.length = m) (hd : d.length = m) : mixL (mixL a b x) (mixL c d x) x = mixL a d x := by
  refine ext_getD (by rw [mix_len, mix_len, mix_len]) fun k hk => ?_
  rw [mix_len, mix_len] at hk
  rw [mix_get (by rw [mix_len]; exact hk), mix_get hk, mix_get hk, mix_get (by omega)]
  cases hasB x k <;> rfl
/-- what is mixed holds all its own mixes -/
theorem join_closed {F : List RW} {z : Nat} (hl : ∀ r ∈ T, r.2.length = m) (hF : ∀ k, k ∈ F.map (·.2) ↔ k ∈ joinL T T z x) {a b : List Int} (ha : a ∈ F.map (·.2)) (hb : b ∈ F.map (·.2)) (s : seenL b z = seenL a z) : mixL a b x ∈ F.map (·.2) := by
  obtain ⟨a1, h1, b1, h2, e1, rfl⟩ := join_mem.mp ((hF a).mp ha)
  obtain ⟨a2, h3, b2, h4, e2, rfl⟩ := join_mem.mp ((hF b).mp hb)
  rw [mix_mix (hl a1 h1) (hl b1 h2) (hl a2 h3) (hl b2 h4)]
  refine (hF _).mpr (join_mem.mpr ⟨a1, h1, b2, h4, ?_, rfl⟩)
  rw [mix_seenz (hl a2 h3) (hl b2 h4) e2, mix_seenz (hl a1 h1) (hl b1 h2) e1] at s
  rw [e2, s]
theorem join_join {F : List RW} {z : Nat} (hl : ∀ r ∈ T, r.2.length = m) (hF : ∀ k, k ∈ F.map (·.2) ↔ k ∈ joinL T T z x) (k : List Int) : k ∈ joinL F F z x ↔ k ∈ joinL T T z x := by
  rw [← hF k]
  constructor
  · intro h
    obtain ⟨a, ha, b, hb, e, rfl⟩ := join_mem.mp h
    exact join_closed hl hF (List.mem_map.mpr ⟨a, ha, rfl⟩) (List.mem_map.mpr ⟨b, hb, rfl⟩) e
  · intro h
    obtain ⟨r, hr, rfl⟩ := List.mem_map.mp h
    have lr : r.2.length = m := by
      obtain ⟨a, ha, b, hb, _, e⟩ := join_mem.mp ((hF r.2).mp h)
      rw [e]; exact (mix_len _ _ _).trans (hl a ha)
    exact join_mem.mpr ⟨r, hr, r, hr, rfl, (mix_self _ _).symm⟩
theorem or_sub (x y : Nat) : (x &&& y) ||| x = x := by
  apply Nat.eq_of_testBit_eq
  intro i
  rw [Nat.testBit_or, Nat.testBit_and]
  cases x.testBit i <;> simp
theorem seen_all : ∀ m, m < 8 → ∀ k, k < m → hasB (2 ^ m - 1) k = true := by decide +kernel
theorem seen_whole {r : List Int} (m7 : m ≤ 7) (h : r.length = m) : seenL r (2 ^ m - 1) = r := by
  refine ext_getD (seen_len _ _) fun k hk => ?_
  rw [seen_len] at hk
  rw [seen_get hk, seen_all m (by omega) k (by omega)]
  rfl
theorem cov_beside : ∀ m, m < 8 → ∀ x, x < 2 ^ m → ∀ k, k < m → hasB x k = true ∨ hasB (2 ^ m - 1 - x) k = true := by decide +kernel
theorem cov_or {y0 : Nat} (m7 : m ≤ 7) (hx : x < 2 ^ m) : ∀ k, k < m → hasB x k = true ∨ hasB ((2 ^ m - 1 - x) ||| y0) k = true := fun k hk => by
  refine (cov_beside m (by omega) x hx k hk).imp id fun h => ?_
  have t : ∀ a : Nat, hasB a k = a.testBit k := fun a => by unfold hasB; rw [Nat.testBit_eq_decide_div_mod_eq]
  rw [t] at h ⊢
  rw [Nat.testBit_or, h]
  rfl
end
/-- a row that is mixed of two rows of the book -/
noncomputable def spIsMix (K : PySem.W.Frag) : Sp := fun vs H Q _ => ∃ (bk r : Addr) (rws : List RW) (row : List Int) (x z m : Nat), vs = [.ref bk, .ref r, vN x, vN z] ∧ SqL K H bk (refsOf rws) ∧ RowsOk H m rws ∧ H r = some (.tup (row.map V.int)) ∧ 1 ≤ m ∧ m ≤ 20 ∧ rws.length ≤ 300 ∧
  (∃ a ∈ rws, ∃ b ∈ rws, agreeL a.2 b.2 z = true ∧ row = mixL a.2 b.2 x) ∧ ∀ H', Same H H' → Q (.bl true) H'
end L2

namespace Own
open PySem L2
noncomputable def top (i : Nat) : Stmt := PySem.Challenge.pw_splithouse_k15_whole_a_cut_of_a_book.main.body.getD i (.Pass ⟨0, 0, 0, 0⟩)
section
variable {P : Program} {w : World} {K : PySem.W.Frag} {mg : Str → Option Value} {base : Heap}
noncomputable abbrev sPut : Stmt := top 17
theorem scPut : FnScope ["one", "part", "other", "beside", "both", "matches", "found", "row", "match"] ["one", "part", "other", "beside"] (defScope sPut) := ⟨rfl, rfl, rfl, by decide +kernel, rfl, by decide +kernel, by decide +kernel⟩
theorem ok_put {f fO fU fE fM : Addr} {fd fdO fdU fdE fdM : FuncData} (F : Fun K "put_together" "put_together" sPut f fd) (GO : FnOk P w K mg base CX0 4 fO fdO ["book", "part"] (spSeenOn K)) (mO : mg "seen_on" = some (.ref fO)) (kO : PySem.W.keepIn K (.ref fO) = true) (bO : Binds K fdO ["book", "part"] []) (GU : FnOk P w K mg base CX0 4 fU fdU ["book", "some"] (spGroups K)) (mU : mg "groups_on" = some (.ref fU)) (kU : PySem.W.keepIn K (.ref fU) = true) (bU : Binds K fdU ["book", "some"] []) (GE : FnOk P w K mg base CX0 3 fE fdE ["row", "part"] spSeen) (mE : mg "seen_row" = some (.ref fE)) (kE : PySem.W.keepIn K (.ref fE) = true) (bE : Binds K fdE ["row", "part"] []) (GM : FnOk P w K mg base CX0 2 fM fdM ["one", "other", "some"] (spMixed K)) (mM : mg "mixed" = some (.ref fM)) (kM : PySem.W.keepIn K (.ref fM) = true) (bM : Binds K fdM ["one", "other", "some"] []) (zsorted : mg "sorted" = none) : FnOk P w K mg base CX0 5 f fd ["one", "part", "other", "beside"] (spPut K) := by
  refine F.ok scPut (fun vs H Q E h => ?_) (fun cdv A outer s H vs Q E hr h => ?_)
  · obtain ⟨b1, b2, r1, r2, x, y, m, rfl, _⟩ := h
    rfl
  · obtain ⟨b1, b2, r1, r2, x, y, m, rfl, hb1, hb2, R1, R2, m1, m20, l1, l2, h64, q⟩ := h
    have nd := scPut.nd
    have hr3 : Room 3 _ := hr.mono (by decide)
    have hr2 : Room 2 _ := hr.mono (by decide)
    refine ⟨_, (pss_cons (ps_set (i := 4) nd rfl (Or.inl rfl) (pe_op op_andN (pv 1) (pv 3)))
      (pss_cons (ps_set (i := 5) nd rfl (Or.inl rfl) (pe_call GU hr rfl mU kU bU .nil pass0 (pa_cons (pe_call GO hr rfl mO kO bO .nil pass0 (pa_cons (pv 2) (pa_cons (pv 3) pa_nil))) (pa_cons (pv 4) pa_nil))))
      (pss_cons (ps_set (i := 6) nd rfl (Or.inl rfl) (pe_lst pa_nil))
      (pss_cons (ps_for PassesOwn.never rfl (pi_listK (K := K) rfl (pe_call GO hr rfl mO kO bO .nil pass0 (pa_cons (pv 0) (pa_cons (pv 1) pa_nil)))) (pg_name (i := 7) nd rfl (Or.inl rfl)) (pss_one (ps_for PassesOwn.never rfl (pi_listK (K := K) rfl (pe_dget2 (hu_of hr) (pv 5) (pe_call GE hr3 rfl mE kE bE .nil pass0 (pa_cons (pv 7) (pa_cons (pv 4) pa_nil))) (pe_lst pa_nil) ⟨rfl, rfl, rfl, rfl⟩)) (pg_name (i := 8) nd rfl (Or.inl rfl)) (pss_one (ps_expr (pe_bm PySem.F.plainAttrs_list PySem.F.slot_list_append PySem.F.type_list_append mt_append (pv 6) (pa_cons (pe_call GM hr2 rfl mM kM bM .nil pass0 (pa_cons (pv 7) (pa_cons (pv 8) (pa_cons (pv 1) pa_nil)))) pa_nil)))))))
      (pss_one (ps_ret (pe_callB (call_sortedR (K := K) rfl) (by rfl) zsorted PyProof.Rows.boot_sorted (pa_cons (pv 6) pa_nil)))))))), ?_⟩
    refine ⟨_, rfl, _, rfl, x, y, rfl, rfl, ?_⟩
    refine ⟨_, rfl, _, rfl, b2, r2, y, m, rfl, hb2, R2, m1, m20, l2, fun w2a w2 H1 s1 hw2a hw2 Rw2 A2 => ?_⟩
    have lw2 : w2.length ≤ 300 := Nat.le_trans A2.lenR l2
    refine ⟨_, rfl, w2a, w2, x &&& y, m, rfl, SqL.of hw2, Rw2, m1, m20, by omega, fun d G H2 s2 hd Gd eG => ?_⟩
    refine ⟨(by show 0 ≤ sizeLine; exact Nat.zero_le _), fun p hp => ?_⟩
    have sp := Same.new (o := .lst []) hp
    have s02 := s1.trans s2
    have s0p := s02.trans sp
    have hpH : H p = none := s02.free hp
    refine ⟨_, rfl, _, rfl, b1, r1, x, m, rfl, s0p.seq hb1, R1.same s0p, m1, m20, l1, fun w1a w1 H3 s3 hw1a hw1 Rw1 A1 => ?_⟩
    have lw1 : w1.length ≤ 300 := Nat.le_trans A1.lenR l1
    have s2p := sp.trans s3
    have hp3 : H3 p = some (.lst []) := s3 _ _ upd_same
    have Gd3 := Gd.same s2p
    have Rw23 := (Rw2.same s2).same s2p
    have s03 := s0p.trans s3
    have l64 := h64 w1 w2 A1 A2
    have gne : ∀ g ∈ G, g.at_ ≠ p := fun g hg => ne_of_none (Gd.lists g hg) hp
    have dne : d ≠ p := ne_of_none Gd.dict hp
    have w1ne : w1a ≠ p := fun z => by rw [z, upd_same] at hw1a; cases hw1a
    have tupk : ∀ {Ha Hb : Hp}, But p Ha Hb → Ha p = some (.lst []) ∨ (∃ ys, Ha p = some (.lst ys)) → ∀ t xs, Ha t = some (.tup xs) → Hb t = some (.tup xs) := fun B hp' t xs e => B t _ e fun z => by
      subst z
      rcases hp' with hp' | ⟨ys, hp'⟩ <;> rw [hp'] at e <;> cases e
    refine ⟨w1a, rfl, ⟨_, SqL.of hw1⟩, for_list (xs := refsOf w1) (fun i σ H' => (∃ v7 v8, σ = [some (.ref b1), some (vN x), some (.ref b2), some (vN y), some (vN (x &&& y)), some (.ref d), some (.ref p), v7, v8]) ∧ But p H3 H' ∧ ∃ ws : List RW, H' p = some (.lst (refsOf ws)) ∧ RowsOk H' m ws ∧ ws.map (·.2) = (w1.take i).flatMap fun a => joinR a w2 (x &&& y) x) ⟨⟨_, _, rfl⟩, But.refl _ _, [], hp3, fun r h => absurd h List.not_mem_nil, rfl⟩ (fun i σ H' _ h => SqL.of (h.2.1 _ _ hw1 w1ne)) ?_ ?_⟩
    · rintro i v σ H4 hv ⟨⟨v7, v8, rfl⟩, B4, ws, hp4, R4, e4⟩
      unfold refsOf at hv
      rw [List.getElem?_map] at hv
      cases er : w1[i]? with
      | none => rw [er] at hv; cases hv
      | some a =>
        rw [er] at hv
        obtain rfl := (Option.some.inj hv).symm
        have am := List.mem_of_getElem? er
        have ta4 : H4 a.1 = some (.tup (a.2.map V.int)) := tupk B4 (.inl hp3) _ _ (Rw1 a am).1
        have la := (Rw1 a am).2
        have hd4 := B4 _ _ Gd3.dict dne
        refine ⟨_, rfl, d, rfl, .inr ⟨_, .inl hd4⟩, ?_⟩
        refine ⟨_, rfl, _, rfl, a.1, a.2, x &&& y, rfl, ta4, by omega, by omega, fun t5 H5 s5 ht5 ht5' => ?_⟩
        refine ⟨(by show 0 ≤ sizeLine; exact Nat.zero_le _), fun l6 hl6 => ?_⟩
        have s6 := s5.trans (Same.new (o := .lst []) hl6)
        have hl6' : (upd H5 l6 (.lst [])) l6 = some (.lst []) := upd_same
        have hd6 := s6 _ _ hd4
        have ht6 : (upd H5 l6 (.lst [])) t5 = some (.tup ((seenL a.2 (x &&& y)).map V.int)) := (Same.new (o := .lst []) hl6) _ _ ht5'
        have hp6 := s6 _ _ hp4
        have ta6 := s6 _ _ ta4
        have l6ne : l6 ≠ p := fun z => by
          have := (s5 _ _ hp4)
          rw [← z, hl6] at this
          cases this
        have R6 := R4.same s6
        generalize upd H5 l6 (.lst []) = H6 at s6 hl6' hd6 ht6 hp6 ta6 R6
        obtain ⟨fs, hfs⟩ : ∃ fs, fs = w2.filter fun b => decide (seenL b.2 (x &&& y) = seenL a.2 (x &&& y)) := ⟨_, rfl⟩
        have lfs : fs.length ≤ 300 := by
          rw [hfs]
          exact Nat.le_trans (List.length_filter_le _ _) lw2
        obtain ⟨g6, hg6, ev, g6ne⟩ : ∃ g6, H6 g6 = some (.lst (refsOf fs)) ∧ (valV (kvsOf G) (tks (seenL a.2 (x &&& y)))).getD (V.ref l6) = V.ref g6 ∧ g6 ≠ p := by
          have ga := groups_at (s := x &&& y) (rws := w2) (seenL a.2 (x &&& y))
          rw [← hfs, ← eG] at ga
          unfold forget at ga
          rw [List.find?_map] at ga
          rw [valV_G]
          cases ef : G.find? fun g => decide (g.key = seenL a.2 (x &&& y)) with
          | some g =>
            have gm := List.mem_of_find?_eq_some ef
            have : (G.find? ((fun g : List Int × List RW => decide (g.1 = seenL a.2 (x &&& y))) ∘ fun g => (g.key, g.rows))) = some g := ef
            rw [this] at ga
            have ga' : g.rows = fs := ga
            refine ⟨g.at_, ?_, rfl, gne g gm⟩
            rw [← ga']
            exact s6 _ _ (B4 _ _ (Gd3.lists g gm) (gne g gm))
          | none =>
            have : (G.find? ((fun g : List Int × List RW => decide (g.1 = seenL a.2 (x &&& y))) ∘ fun g => (g.key, g.rows))) = none := ef
            rw [this] at ga
            have ga' : [] = fs := ga
            refine ⟨l6, ?_, rfl, l6ne⟩
            rw [← ga']
            exact hl6'
        have lws : ws.length < 1000 := by
          have h1 := congrArg List.length e4
          rw [List.length_map] at h1
          have h2 : joinL w1 w2 (x &&& y) x = ((w1.take i).flatMap fun a => joinR a w2 (x &&& y) x) ++ ((w1.drop i).flatMap fun a => joinR a w2 (x &&& y) x) := by
            rw [← List.flatMap_append, List.take_append_drop]
            rfl
          rw [h2, List.length_append] at l64
          omega
        refine ⟨_, DGet.t (k := tks (seenL a.2 (x &&& y))) hd6 (by rw [tks_kV]; exact ht6), g6, ev, ⟨_, SqL.of hg6⟩, for_list (xs := refsOf fs) (fun j σ H' => (∃ v8, σ = [some (.ref b1), some (vN x), some (.ref b2), some (vN y), some (vN (x &&& y)), some (.ref d), some (.ref p), some (.ref a.1), v8]) ∧ But p H6 H' ∧ ∃ ws' : List RW, H' p = some (.lst (refsOf ws')) ∧ RowsOk H' m ws' ∧ ws'.map (·.2) = ws.map (·.2) ++ (fs.take j).map fun b => mixL a.2 b.2 x) ⟨⟨_, rfl⟩, But.refl _ _, ws, hp6, R6, by simp⟩ (fun j σ H' _ h => SqL.of (h.2.1 _ _ hg6 g6ne)) ?_ ?_⟩
        · rintro j v σ H7 hv ⟨⟨v8', rfl⟩, B7, ws', hp7, R7, e7⟩
          unfold refsOf at hv
          rw [List.getElem?_map] at hv
          cases eb : fs[j]? with
          | none => rw [eb] at hv; cases hv
          | some b =>
            rw [eb] at hv
            obtain rfl := (Option.some.inj hv).symm
            have bm : b ∈ w2 := by
              have := List.mem_of_getElem? eb
              rw [hfs] at this
              exact (List.mem_filter.mp this).1
            have tb7 := tupk B7 (.inr ⟨_, hp6⟩) _ _ (s6 _ _ (tupk B4 (.inl hp3) _ _ (Rw23 b bm).1))
            have ta7 := tupk B7 (.inr ⟨_, hp6⟩) _ _ ta6
            have lb := (Rw23 b bm).2
            have lws' : ws'.length ≤ 1500 := by
              have := congrArg List.length e7
              rw [List.length_map, List.length_append, List.length_map, List.length_map, List.length_take] at this
              omega
            refine ⟨_, rfl, .inl ⟨rfl, _, SqL.of hp7⟩, _, rfl, _, rfl, _, rfl, a.1, b.1, a.2, b.2, x, rfl, SqT.of ta7, SqT.of tb7, by omega, by omega, fun t8 H8 s8 ht8 ht8' => ?_⟩
            have hp8 := s8 _ _ hp7
            refine ⟨p, _, _, rfl, rfl, hp8, by unfold refsOf; rw [List.length_map]; exact small2000 (by omega), ⟨_, rfl⟩, fun c o e c1 => ?_, ws' ++ [(t8, mixL a.2 b.2 x)], ?_, fun r hr0 => ?_, ?_⟩
            · rw [upd_ne c1]
              exact s8 _ _ (B7 c o e c1)
            · rw [upd_same]
              unfold refsOf
              rw [List.map_append]
              rfl
            · rcases List.mem_append.mp hr0 with hr0 | hr0
              · exact ⟨tup_put hp8 _ _ (s8 _ _ (R7 r hr0).1), (R7 r hr0).2⟩
              · rw [List.mem_singleton.mp hr0]
                exact ⟨tup_put hp8 _ _ ht8', (mix_len _ _ _).trans la⟩
            · rw [List.map_append, e7, List.take_succ, eb, List.map_append, List.append_assoc]
              rfl
        · rintro σ H7 ⟨⟨v8', rfl⟩, B7, ws', hp7, R7, e7⟩
          have lrf : (refsOf fs).length = fs.length := List.length_map ..
          rw [lrf, List.take_length] at e7
          refine ⟨⟨_, _, rfl⟩, (B4.trans fun c o e _ => s6 c o e).trans B7, ws', hp7, R7, ?_⟩
          rw [e7, e4, List.take_succ, er, List.flatMap_append, hfs]
          unfold joinR
          simp
    · rintro σ H4 ⟨⟨v7, v8, rfl⟩, B4, ws, hp4, R4, e4⟩
      have lrf : (refsOf w1).length = w1.length := List.length_map ..
      rw [lrf, List.take_length] at e4
      have lws : ws.length < 1000 := by
        have := congrArg List.length e4
        rw [List.length_map] at this
        rw [this]
        exact l64
      refine ⟨_, rfl, p, m, ws, rfl, SqL.of hp4, R4, m1, lws, fun l w' hl pr up => ?_⟩
      have s5 := Same.new (o := .lst (refsOf w')) hl
      have s04 : Same H H4 := fun b o e => B4 b o (s03 b o e) (ne_of_none e hpH)
      refine q l w' w1 w2 _ A1 A2 (s04.trans s5) (s04.free hl) upd_same (fun r hr0 => (R4.same s5) r (pr.mem_iff.mp hr0)) ?_ up
      rw [show joinL w1 w2 (x &&& y) x = ws.map (·.2) from e4.symm]
      exact pr.map _
noncomputable abbrev sTake : Stmt := top 19
theorem scTake : FnScope ["_law_state", "_law_most", "_law_at", "_law_script", "_law_mingled"] ["_law_state", "_law_most"] (defScope sTake) := ⟨rfl, rfl, rfl, by decide +kernel, rfl, by decide +kernel, by decide +kernel⟩
theorem ok_take {f : Addr} {fd : FuncData} (F : Fun K "_law_take" "_law_take" sTake f fd) (zlen : mg "len" = none) : FnOk P w K mg base CX0 1 f fd ["_law_state", "_law_most"] (spTakeF K) := by
  refine F.ok scTake (fun vs H Q E h => ?_) (fun cdv A outer s H vs Q E hr h => ?_)
  · obtain ⟨st, ns, k, most, rfl, _⟩ := h
    rfl
  · obtain ⟨st, ns, k, most, rfl, ⟨sc, hst, hscF⟩, hk, hl, hm, q⟩ := h
    have nd := scTake.nd
    refine ⟨_, (pss_cons (ps_set (i := 2) nd rfl (Or.inl rfl) (pe_ix (ix_listK (K := K) rfl) (pv 0) pe_int (fun _ _ => rfl)))
      (pss_cons (ps_asg (pe_op op_add (pv 2) pe_int) (pg_sub (pv 0) pe_int set_list))
      (pss_cons (ps_set (i := 3) nd rfl (Or.inl rfl) (pe_ix (ix_listK (K := K) rfl) (pv 0) pe_int (fun _ _ => rfl)))
      (pss_cons (ps_if (pt_cmpR op_lt (pv 2) (pe_callB (call_lenK (K := K) rfl) (by rfl) zlen PySem.boot_len (pa_cons (pv 3) pa_nil)) (nomark _)) (pss_one (ps_ret (pe_op op_mod (pe_ix (ix_listK (K := K) rfl) (pv 3) (pv 2) (fun _ _ => rfl)) (pv 1)))) pss_nil)
      (pss_cons (ps_set (i := 4) nd rfl (Or.inl rfl) (pe_op op_add (pe_op op_add (pe_op op_mul (pv 2) (pv 2)) (pe_op op_mul pe_int (pv 2))) pe_int))
      (pss_cons (ps_if (pt_cmpR op_gt (pe_callB (call_lenK (K := K) rfl) (by rfl) zlen PySem.boot_len (pa_cons (pv 3) pa_nil)) pe_int (nomark _)) (pss_one (ps_set (i := 4) nd rfl (Or.inl rfl) (pe_op op_add (pv 4) (pe_op op_mul (pe_op op_mod (pe_ix (ix_listK (K := K) rfl) (pv 3) (pe_op op_mod (pe_op op_add (pe_op op_mul pe_int (pv 2)) pe_int) (pe_callB (call_lenK (K := K) rfl) (by rfl) zlen PySem.boot_len (pa_cons (pv 3) pa_nil))) (fun _ _ => rfl)) pe_int) pe_int)))) pss_nil)
      (pss_one (ps_ret (pe_op op_mod (pe_op op_mod (pe_op op_mul (pv 4) (pv 4)) pe_int) (pv 1)))))))))), ?_⟩
    refine ⟨_, rfl, st, _, _, _, rfl, rfl, SqL.of hst, atI_nat (j := 1) rfl, ?_⟩
    refine ⟨_, rfl, _, _, rfl, rfl, _, rfl, st, _, 1, 1, rfl, rfl, hst, rfl, ?_⟩
    have bt : But st H (upd H st (.lst [.ref sc, .int ((k : Int) + 1)])) := But.put st H _
    have hscF' : SqF K (upd H st (.lst [.ref sc, .int ((k : Int) + 1)])) sc ns := STF.seq hst hscF bt
    have hsc' := hscF'.sq
    have s' : L2.STF K (upd H st (.lst [.ref sc, .int ((k : Int) + 1)])) st ns (k + 1) := ⟨sc, by rw [upd_same]; rfl, hscF'⟩
    refine ⟨_, rfl, st, _, _, _, rfl, rfl, SqL.of upd_same, atI_nat (j := 0) rfl, ?_⟩
    have len1 : (ns.map V.int).length = ns.length := List.length_map ..
    refine ⟨_, rfl, _, rfl, sc, _, rfl, .inl hsc', _, _, rfl, rfl, _, rfl, ?_⟩
    refine ite2 (fun hc => ?_) (fun hc => ?_)
    · have hlt : k < ns.length := by
        have := of_decide_eq_true hc
        rw [len1] at this
        omega
      refine ⟨_, rfl, _, rfl, sc, _, _, _, rfl, rfl, hsc', atI_nat (j := k) (v := V.int ns[k]) (by simp [hlt]), _, rfl, _, _, rfl, rfl, hm, ?_⟩
      exact q _ _ (mod_lo _ hm) (mod_hi _ hm) s' bt
    · have kk0 : (0 : Int) ≤ (k : Int) * k := Int.mul_nonneg (by omega) (by omega)
      have kk1 : (k : Int) * k ≤ 1000000 * 1000000 := Int.mul_le_mul (by omega) (by omega) (by omega) (by omega)
      refine ⟨_, rfl, _, rfl, _, _, rfl, rfl, .inl ⟨by omega, by omega⟩, _, rfl, _, _, rfl, rfl, .inl ⟨by decide, by decide⟩, _, _, rfl, rfl, _, _, rfl, rfl, ?_⟩
      have fin : ∀ z : Int, 0 ≤ z → z < 1000000000000000000 → (tRet (tOp (rI (fun _ j => 0 < j) fun i j => V.int (i % j)) (tOp (rI (fun _ j => 0 < j) fun i j => V.int (i % j)) (tOp (rI CMul fun i j => V.int (i * j)) (tVar 4) (tVar 4)) (tC (.int 2147483647))) (tVar 1)))
          { nx := fun _ H' => Q .non H', rt := Q } [some (.ref st), some (.int most), some (.int k), some (.ref sc), some (.int z)] (upd H st (.lst [.ref sc, .int ((k : Int) + 1)])) := fun z z0 z1 =>
        ⟨_, rfl, _, rfl, _, _, rfl, rfl, .inl ⟨by omega, by omega⟩, _, _, rfl, rfl, (by show (0 : Int) < _; decide), _, rfl, _, _, rfl, rfl, hm, q _ _ (mod_lo _ hm) (mod_hi _ hm) s' bt⟩
      refine ⟨_, rfl, sc, _, rfl, .inl hsc', _, _, rfl, rfl, _, rfl, ?_⟩
      refine ite2 (fun hc2 => ?_) (fun hc2 => ?_)
      · have hpos : 0 < ns.length := by
          have := of_decide_eq_true hc2
          rw [len1] at this
          omega
        have hp' : (0 : Int) < ((ns.map V.int).length : Int) := by rw [len1]; omega
        obtain ⟨j, ej, hj⟩ : ∃ j : Nat, ((5 * (k : Int) + 2) % ((ns.map V.int).length : Int)) = (j : Int) ∧ j < ns.length := by
          have h1 := mod_lo (5 * (k : Int) + 2) hp'
          have h2 := mod_hi (5 * (k : Int) + 2) hp'
          rw [len1] at h1 h2 ⊢
          exact ⟨((5 * (k : Int) + 2) % (ns.length : Int)).toNat, by omega, by omega⟩
        have m0 := mod_lo ns[j] (show (0 : Int) < 2147483629 by decide)
        have m1 := mod_hi ns[j] (show (0 : Int) < 2147483629 by decide)
        refine ⟨_, rfl, _, rfl, _, rfl, _, _, rfl, rfl, .inl ⟨by decide, by decide⟩, _, _, rfl, rfl, _, rfl, sc, _, rfl, .inl hsc', _, _, rfl, rfl, hp', sc, _, _, _, rfl, rfl, hsc', (by rw [ej]; exact atI_nat (j := j) (v := V.int ns[j]) (by simp [hj])), _, _, rfl, rfl, (by show (0 : Int) < _; decide), _, _, rfl, rfl, .inr ⟨by decide, by decide⟩, _, _, rfl, rfl, ?_⟩
        exact fin _ (by omega) (by omega)
      · exact fin _ (by omega) (by omega)
noncomputable abbrev sSet : Stmt := top 20
theorem scSet : FnScope ["_law_state", "_law_many", "_law_way", "_law_some"] ["_law_state", "_law_many"] (defScope sSet) := ⟨rfl, rfl, rfl, by decide +kernel, rfl, by decide +kernel, by decide +kernel⟩
theorem ok_set {f fT : Addr} {fd fdT : FuncData} (F : Fun K "_law_set" "_law_set" sSet f fd) (GT : FnOk P w K mg base CX0 1 fT fdT ["_law_state", "_law_most"] (spTakeF K)) (mT : mg "_law_take" = some (.ref fT)) (kT : PySem.W.keepIn K (.ref fT) = true) (bT : Binds K fdT ["_law_state", "_law_most"] []) : FnOk P w K mg base CX0 2 f fd ["_law_state", "_law_many"] (spSetF K) := by
  refine F.ok scSet (fun vs H Q E h => ?_) (fun cdv A outer s H vs Q E hr h => ?_)
  · obtain ⟨st, ns, k, m, rfl, _⟩ := h
    rfl
  · obtain ⟨st, ns, k, m, rfl, S, hk, hl, hm1, hm7, q⟩ := h
    have nd := scSet.nd
    refine ⟨_, (pss_cons (ps_set (i := 2) nd rfl (Or.inl rfl) (pe_call GT hr rfl mT kT bT .nil pass0 (pa_cons (pv 0) (pa_cons pe_int pa_nil))))
      (pss_cons (ps_set (i := 3) nd rfl (Or.inl rfl) (pe_call GT hr rfl mT kT bT .nil pass0 (pa_cons (pv 0) (pa_cons (pe_op op_shl pe_int (pv 1)) pa_nil))))
      (pss_cons (ps_if (pt_cmpR op_eq (pv 2) pe_int (nomark _)) (pss_one (ps_ret (pe_op op_and (pv 3) (pe_call GT hr rfl mT kT bT .nil pass0 (pa_cons (pv 0) (pa_cons (pe_op op_shl pe_int (pv 1)) pa_nil)))))) pss_nil)
      (pss_cons (ps_if (pt_cmpR op_eq (pv 2) pe_int (nomark _)) (pss_one (ps_ret (pe_op op_or (pv 3) (pe_call GT hr rfl mT kT bT .nil pass0 (pa_cons (pv 0) (pa_cons (pe_op op_shl pe_int (pv 1)) pa_nil)))))) pss_nil)
      (pss_cons (ps_if (pt_cmpR op_eq (pv 2) pe_int (nomark _)) (pss_one (ps_ret (pe_op op_shl pe_int (pe_call GT hr rfl mT kT bT .nil pass0 (pa_cons (pv 0) (pa_cons (pv 1) pa_nil)))))) pss_nil)
      (pss_one (ps_ret (pv 3)))))))), ?_⟩
    have cp : CPow 1 (m : Int) := cpow1 (by omega)
    have e1 := shl1 m
    have pw : 0 < 2 ^ m := Nat.two_pow_pos m
    refine ⟨_, rfl, st, ns, k, 4, rfl, S, by omega, hl, by decide, fun r1 H1 a1 b1 S1 B1 => ?_⟩
    refine ⟨_, rfl, _, rfl, _, _, rfl, rfl, cp, st, ns, k + 1, _, rfl, S1, by omega, hl, by rw [e1]; omega, fun r2 H2 a2 b2 S2 B2 => ?_⟩
    rw [e1] at b2
    obtain ⟨n2, rfl, hn2⟩ := nat_of a2 b2
    have B12 := B1.trans B2
    refine ⟨_, rfl, rfl, _, rfl, ?_⟩
    refine ite2 (fun _ => ?_) (fun _ => ?_)
    · refine ⟨_, rfl, _, rfl, _, rfl, _, _, rfl, rfl, cp, st, ns, k + 2, _, rfl, S2, by omega, hl, by rw [e1]; omega, fun r3 H3 a3 b3 S3 B3 => ?_⟩
      rw [e1] at b3
      obtain ⟨n3, rfl, hn3⟩ := nat_of a3 b3
      refine ⟨_, _, rfl, rfl, ?_⟩
      show Q (V.int (Builtin.bitAnd (n2 : Int) (n3 : Int))) _
      rw [bitAnd_nat]
      exact q _ _ _ (and_lt hn2) (Nat.le_refl _) S3 (B12.trans B3)
    refine ⟨_, rfl, rfl, _, rfl, ?_⟩
    refine ite2 (fun _ => ?_) (fun _ => ?_)
    · refine ⟨_, rfl, _, rfl, _, rfl, _, _, rfl, rfl, cp, st, ns, k + 2, _, rfl, S2, by omega, hl, by rw [e1]; omega, fun r3 H3 a3 b3 S3 B3 => ?_⟩
      rw [e1] at b3
      obtain ⟨n3, rfl, hn3⟩ := nat_of a3 b3
      refine ⟨_, _, rfl, rfl, ?_⟩
      show Q (V.int (Builtin.bitOr (n2 : Int) (n3 : Int))) _
      rw [bitOr_nat]
      exact q _ _ _ (Nat.or_lt_two_pow hn2 hn3) (Nat.le_refl _) S3 (B12.trans B3)
    refine ⟨_, rfl, rfl, _, rfl, ?_⟩
    refine ite2 (fun _ => ?_) (fun _ => ?_)
    · refine ⟨_, rfl, _, rfl, st, ns, k + 2, (m : Int), rfl, S2, by omega, hl, by omega, fun r3 H3 a3 b3 S3 B3 => ?_⟩
      obtain ⟨n3, rfl, hn3⟩ := nat_of a3 b3
      refine ⟨_, _, rfl, rfl, cpow1 (by omega), ?_⟩
      show Q (V.int (1 * 2 ^ (n3 : Int).toNat)) _
      rw [shl1]
      exact q _ _ _ (Nat.pow_lt_pow_right (by decide) hn3) (Nat.le_refl _) S3 (B12.trans B3)
    · exact ⟨_, rfl, q _ _ _ hn2 (by omega) S2 B12⟩
noncomputable abbrev sHas2 : Stmt := top 21
theorem scHas2 : FnScope ["_law_some", "_law_k"] ["_law_some", "_law_k"] (defScope sHas2) := ⟨rfl, rfl, rfl, by decide +kernel, rfl, by decide +kernel, by decide +kernel⟩
theorem ok_has2 {f : Addr} {fd : FuncData} (F : Fun K "_law_has" "_law_has" sHas2 f fd) : FnOk P w K mg base CX0 1 f fd ["_law_some", "_law_k"] spHas2 := by
  refine F.ok scHas2 (fun vs H Q E h => ?_) (fun cdv A outer s H vs Q E hr h => ?_)
  · obtain ⟨a, k, rfl, _⟩ := h
    rfl
  · obtain ⟨a, k, rfl, hk, q⟩ := h
    refine ⟨_, (pss_one (ps_ret (pe_cmpR op_eqN (pe_op op_modN' (pe_op op_fdivN' (pv 0) (pe_op op_shl1 pe_int (pv 1))) pe_int) pe_int (nomark _)))), ?_⟩
    have hp2 : 0 < 2 ^ k := Nat.two_pow_pos k
    have hp3 : 2 ^ k ≤ 2 ^ 20 := Nat.pow_le_pow_right (by decide) hk
    exact ⟨_, rfl, _, rfl, k, rfl, rfl, by omega, a, 2 ^ k, rfl, rfl, ⟨hp2, by omega⟩, a / 2 ^ k, 2, rfl, rfl, (by show (0 : Nat) < 2; decide), a / 2 ^ k % 2, 1, rfl, rfl, q⟩
noncomputable abbrev sPool : Stmt := top 22
theorem scPool : FnScope ["_law_state", "_law_far", "_law_way"] ["_law_state"] (defScope sPool) := ⟨rfl, rfl, rfl, by decide +kernel, rfl, by decide +kernel, by decide +kernel⟩
theorem ok_pool {f fT : Addr} {fd fdT : FuncData} (F : Fun K "_law_pool" "_law_pool" sPool f fd) (GT : FnOk P w K mg base CX0 1 fT fdT ["_law_state", "_law_most"] (spTakeF K)) (mT : mg "_law_take" = some (.ref fT)) (kT : PySem.W.keepIn K (.ref fT) = true) (bT : Binds K fdT ["_law_state", "_law_most"] []) : FnOk P w K mg base CX0 2 f fd ["_law_state"] (spPool K) := by
  refine F.ok scPool (fun vs H Q E h => ?_) (fun cdv A outer s H vs Q E hr h => ?_)
  · obtain ⟨st, ns, k, rfl, _⟩ := h
    rfl
  · obtain ⟨st, ns, k, rfl, S, hk, hl, q⟩ := h
    have nd := scPool.nd
    refine ⟨_, (pss_cons (ps_set (i := 1) nd rfl (Or.inl rfl) (pe_op op_sub (pe_op op_pow pe_int pe_int) pe_int))
      (pss_cons (ps_set (i := 2) nd rfl (Or.inl rfl) (pe_call GT hr rfl mT kT bT .nil pass0 (pa_cons (pv 0) (pa_cons pe_int pa_nil))))
      (pss_cons (ps_if (pt_cmpR op_lt (pv 2) pe_int (nomark _)) (pss_one (ps_ret (pe_lst (pa_cons pe_int (pa_cons pe_int pa_nil))))) pss_nil)
      (pss_cons (ps_if (pt_cmpR op_eq (pv 2) pe_int (nomark _)) (pss_one (ps_ret (pe_lst (pa_cons pe_int (pa_cons pe_int (pa_cons (pe_call GT hr rfl mT kT bT .nil pass0 (pa_cons (pv 0) (pa_cons (pv 1) pa_nil))) (pa_cons (pe_op op_sub pe_int (pv 1)) pa_nil))))))) pss_nil)
      (pss_one (ps_ret (pe_lst (pa_cons (pe_op op_add pe_int (pe_call GT hr rfl mT kT bT .nil pass0 (pa_cons (pv 0) (pa_cons (pe_op op_pow pe_int pe_int) pa_nil)))) (pa_cons (pe_op op_sub pe_int (pe_call GT hr rfl mT kT bT .nil pass0 (pa_cons (pv 0) (pa_cons (pe_op op_pow pe_int pe_int) pa_nil)))) (pa_cons pe_int pa_nil)))))))))), ?_⟩
    have fin : ∀ (pl : List Int) (H1 : Hp) (k1 : Nat), 1 ≤ pl.length → pl.length ≤ 4 → k1 ≤ k + 3 → L2.STF K H1 st ns k1 → But st H H1 → ∀ p, H1 p = none → Q (.ref p) (upd H1 p (.lst (pl.map V.int))) := fun pl H1 k1 l1 l2 hk1 S1 B1 p hp =>
      q pl p k1 _ l1 l2 hk1 (stf_fresh S1 B1 hp).1 upd_same (S1.new hp) (B1.trans (But.new hp))
    refine ⟨_, _, rfl, rfl, ⟨by decide, by decide, by decide⟩, _, _, rfl, rfl, ?_⟩
    refine ⟨_, rfl, st, ns, k, 4, rfl, S, by omega, hl, by decide, fun r1 H1 a1 b1 S1 B1 => ?_⟩
    refine ⟨_, rfl, _, _, rfl, rfl, _, rfl, ?_⟩
    refine ite2 (fun _ => ?_) (fun _ => ?_)
    · exact ⟨(by show 2 ≤ sizeLine; decide), fin [0, 1] H1 (k + 1) (by decide) (by decide) (by omega) S1 B1⟩
    refine ⟨_, rfl, rfl, _, rfl, ?_⟩
    refine ite2 (fun _ => ?_) (fun _ => ?_)
    · refine ⟨_, rfl, _, rfl, st, ns, k + 1, _, rfl, S1, by omega, hl, by decide, fun r2 H2 a2 b2 S2 B2 => ?_⟩
      refine ⟨_, rfl, _, _, rfl, rfl, (by show 4 ≤ sizeLine; decide), fin [0, 1, r2, _] H2 (k + 2) (by simp) (by simp) (by omega) S2 (B1.trans B2)⟩
    · refine ⟨_, rfl, _, _, rfl, rfl, ⟨by decide, by decide, by decide⟩, st, ns, k + 1, _, rfl, S1, by omega, hl, by decide, fun r2 H2 a2 b2 S2 B2 => ?_⟩
      refine ⟨_, _, rfl, rfl, ?_⟩
      refine ⟨_, rfl, _, _, rfl, rfl, ⟨by decide, by decide, by decide⟩, st, ns, k + 2, _, rfl, S2, by omega, hl, by decide, fun r3 H3 a3 b3 S3 B3 => ?_⟩
      exact ⟨_, _, rfl, rfl, (by show 3 ≤ sizeLine; decide), fin [_, _, 0] H3 (k + 3) (by simp) (by simp) (by omega) S3 ((B1.trans B2).trans B3)⟩
end
end Own

namespace Own
open PySem L2
section
variable {P : Program} {w : World} {K : PySem.W.Frag} {mg : Str → Option Value} {base : Heap}
noncomputable abbrev sBook : Stmt := top 23
theorem scBook : FnScope ["_law_state", "_law_many", "_law_size", "_law_pool_here", "_law_rows", "_law_k", "_law_row", "_law_turn"] ["_law_state", "_law_many", "_law_size"] (defScope sBook) := ⟨rfl, rfl, rfl, by decide +kernel, rfl, by decide +kernel, by decide +kernel⟩
theorem atI_ref {ts : List Addr} {i : Nat} {t : Addr} (h : ts[i]? = some t) : (ts.map V.ref)[i]? = some (V.ref t) := by rw [List.getElem?_map, h]; rfl
theorem ok_book {f fT fP : Addr} {fd fdT fdP : FuncData} (F : Fun K "_law_book" "_law_book" sBook f fd) (GT : FnOk P w K mg base CX0 1 fT fdT ["_law_state", "_law_most"] (spTakeF K)) (mT : mg "_law_take" = some (.ref fT)) (kT : PySem.W.keepIn K (.ref fT) = true) (bT : Binds K fdT ["_law_state", "_law_most"] []) (GP : FnOk P w K mg base CX0 2 fP fdP ["_law_state"] (spPool K)) (mP : mg "_law_pool" = some (.ref fP)) (kP : PySem.W.keepIn K (.ref fP) = true) (bP : Binds K fdP ["_law_state"] []) (zrange : mg "range" = none) (zlen : mg "len" = none) (zlist : mg "list" = none) (ztuple : mg "tuple" = none) : FnOk P w K mg base CX0 3 f fd ["_law_state", "_law_many", "_law_size"] (spBook K) := by
  refine F.ok scBook (fun vs H Q E h => ?_) (fun cdv A outer s H vs Q E hr h => ?_)
  · obtain ⟨st, ns, k, m, n, rfl, _⟩ := h
    rfl
  · obtain ⟨st, ns, k, m, n, rfl, S, hk, hl, hm1, hm7, hn, q⟩ := h
    have nd := scBook.nd
    have hr1 : Room 1 _ := hr.mono (by decide)
    refine ⟨_, (pss_cons (ps_set (i := 3) nd rfl (Or.inr rfl) (pe_call GP hr rfl mP kP bP .nil pass0 (pa_cons (pv 0) pa_nil)))
      (pss_cons (ps_set (i := 4) nd rfl (Or.inl rfl) (pe_lst pa_nil))
      (pss_cons (ps_for PassesOwn.never rfl (pi_range1 rfl zrange (pa_cons (pv 2) pa_nil)) (pg_name (i := 5) nd rfl (Or.inl rfl)) (pss_cons (ps_comp (i := 6) (xs := ["_law_c"]) (cs ["_law_state", "_law_many", "_law_size", "_law_pool_here", "_law_rows", "_law_k", "_law_row", "_law_turn"] (defScope sBook) rfl rfl (by decide +kernel)) rfl nd rfl rfl (pi_range1 rfl zrange (pa_cons (pv 1) pa_nil)) (fun _ _ _ => pg_name (i := 0) (show (["_law_c", "_law_state", "_law_many", "_law_size", "_law_pool_here", "_law_rows", "_law_k", "_law_row", "_law_turn"] : List Str).Nodup by decide +kernel) rfl (Or.inl rfl)) (fun _ _ _ => pts_nil) (fun _ _ _ => (pe_ix (ix_listK (K := K) rfl) (pv 4) (pe_call GT hr1 rfl mT kT bT .nil pass0 (pa_cons (pv 1) (pa_cons (pe_callB (call_lenK (K := K) rfl) (by rfl) zlen PySem.boot_len (pa_cons (pv 4) pa_nil)) pa_nil))) (fun _ _ => rfl))))
      (pss_cons (ps_if (PW.pt (pw_and (pt_cmpR op_gtN (pv 5) pe_int (nomark _)) (pw_and1 (pt_cmpR op_gt (pe_call GT hr1 rfl mT kT bT .nil pass0 (pa_cons (pv 0) (pa_cons pe_int pa_nil))) pe_int (nomark _))))) (pss_cons (ps_set (i := 6) nd rfl (Or.inl rfl) (pe_callTy (call_listK (K := K) rfl) (by rfl) zlist PyProof.Rows.boot_list (pa_cons (pe_ix (ix_listK (K := K) rfl) (pv 4) (pe_call GT hr1 rfl mT kT bT .nil pass0 (pa_cons (pv 0) (pa_cons (pv 5) pa_nil))) (fun _ _ => rfl)) pa_nil)))
      (pss_one (ps_for PassesOwn.never rfl (pi_range1 rfl zrange (pa_cons (pe_call GT hr1 rfl mT kT bT .nil pass0 (pa_cons (pv 0) (pa_cons pe_int pa_nil))) pa_nil)) (pg_name (i := 7) nd rfl (Or.inl rfl)) (pss_one (ps_asg (pe_ix (ix_listK (K := K) rfl) (pv 3) (pe_call GT hr1 rfl mT kT bT .nil pass0 (pa_cons (pv 0) (pa_cons (pe_callB (call_lenK (K := K) rfl) (by rfl) zlen PySem.boot_len (pa_cons (pv 3) pa_nil)) pa_nil))) (fun _ _ => rfl)) (pg_sub (pv 6) (pe_call GT hr1 rfl mT kT bT .nil pass0 (pa_cons (pv 0) (pa_cons (pv 1) pa_nil))) set_list)))))) pss_nil)
      (pss_one (ps_expr (pe_bm PySem.F.plainAttrs_list PySem.F.slot_list_append PySem.F.type_list_append mt_append (pv 4) (pa_cons (pe_callTy (call_tupleK (K := K) rfl) (by rfl) ztuple PyProof.Rows.boot_tuple (pa_cons (pv 6) pa_nil)) pa_nil)))))))
      (pss_one (ps_ret (pv 4)))))), ?_⟩
    refine ⟨_, rfl, st, ns, k, rfl, S, by omega, hl, fun pl p k1 H1 l1 l4 hk1 hpH hp1 S1 B1 => ?_⟩
    have hps : p ≠ st := fun e => by
      obtain ⟨o, z⟩ := S.some
      rw [← e, hpH] at z; cases z
    refine ⟨(by show 0 ≤ sizeLine; exact Nat.zero_le _), fun g hg => ?_⟩
    obtain ⟨hgH, hgs⟩ := stf_fresh S1 B1 hg
    have hpg : p ≠ g := ne_of_none hp1 hg
    have ixp : ∀ {H2 : Hp} {r : Int} {Q' : VK}, H2 p = some (.lst (pl.map V.int)) → 0 ≤ r → r < ((pl.map V.int).length : Int) → (∀ x : Int, Q' (.int x) H2) → rIxL K (.ref p) (.int r) H2 Q' := fun {H2 r Q'} e r0 r1 q' => by
      obtain ⟨j, rfl, hj⟩ := nat_of r0 r1
      rw [List.length_map] at hj
      exact ⟨p, _, _, _, rfl, rfl, SqL.of e, atI_nat (getD_int hj), q' _⟩
    have lp : (0 : Int) < ((pl.map V.int).length : Int) := by rw [List.length_map]; omega
    refine ⟨_, rfl, (n : Int), rfl, by omega, by omega, for_rangeN (n := n) (fun i σ H2 => (∃ v5 v6 v7, σ = [some (.ref st), some (vN m), some (vN n), some (.ref p), some (.ref g), v5, v6, v7]) ∧
      ∃ (ts : List Addr) (rs : List (List Int)) (k2 : Nat), rs.length = i ∧ (∀ r ∈ rs, r.length = m) ∧ H2 p = some (.lst (pl.map V.int)) ∧ H2 g = some (.lst (ts.map V.ref)) ∧ RowsAt H2 ts rs ∧ L2.STF K H2 st ns k2 ∧ k2 ≤ k + 3 + 14 * i ∧ But st H H2)
      ⟨⟨none, none, none, rfl⟩, [], [], k1, rfl, (fun _ h => absurd h List.not_mem_nil), (Same.new hg) _ _ hp1, upd_same, trivial, S1.new hg, by omega, B1.own hgH⟩ ?_ ?_⟩
    · rintro i σ H2 hi ⟨⟨v5, v6, v7, rfl⟩, ts, rs, k2, hrl, hrm, hp2, hg2, R2, S2, hk2, B2⟩
      -- a row of the pool's numbers
      refine ⟨_, rfl, (m : Int), rfl, by omega, by omega, lc_rangeN (k := m) (n := 1) (fun j acc H' => ∃ xs : List Int, acc = xs.map V.int ∧ xs.length = j ∧ L2.STF K H' st ns (k2 + j) ∧ But st H2 H') (by omega) ⟨[], rfl, rfl, S2, But.refl _ _⟩ (fun j acc H' hj h => ?_) (fun j acc H' hj h => ?_) (fun acc H' h => ?_)⟩
      · obtain ⟨xs, rfl, e, _⟩ := h
        rw [List.length_map, e]; exact Nat.le_refl _
      · obtain ⟨xs, rfl, e, S', B'⟩ := h
        have hp' := B' _ _ hp2 hps
        refine ⟨rfl, _, rfl, _, rfl, _, rfl, p, _, rfl, .inl (SqL.of hp'), st, ns, k2 + j, _, rfl, S', by omega, hl, lp, fun r H3 a3 b3 S3 B3 => ?_⟩
        refine ixp (B3 _ _ hp' hps) a3 b3 fun x => ⟨xs ++ [x], ?_, by rw [List.length_append, e]; rfl, S3, B'.trans B3⟩
        rw [List.map_append]; rfl
      obtain ⟨xs, rfl, exl, S3, B3⟩ := h
      intro d hd
      have hd3 := stf_fresh S3 (B2.trans B3) hd
      have hp3 := B3 _ _ hp2 hps
      have hg3 := B3 _ _ hg2 hgs
      have R3 : RowsAt H' ts rs := R2.imp fun t xs e => stf_tup S2 B3 e
      have hdg : d ≠ g := (ne_of_none hg3 hd).symm
      have hdp : d ≠ p := (ne_of_none hp3 hd).symm
      -- what is left of a turn: the row's list at z becomes a tuple at the end of the rows
      have fin : ∀ (z : Addr) (ys : List Int) (v7' : Option V) (k4 : Nat) (H4 : Hp), ys.length = m → H4 z = some (.lst (ys.map V.int)) → H4 p = some (.lst (pl.map V.int)) → H4 g = some (.lst (ts.map V.ref)) → RowsAt H4 ts rs → L2.STF K H4 st ns k4 → k4 ≤ k + 3 + 14 * (i + 1) → But st H H4 →
          (tDrop (tBM K "list" rAppend (tVar 4) (tCons (tCB (fun xs H Q => ∃ p ys, xs = [.ref p] ∧ ((SqL K H p ys ∧ ∀ l, H l = none → Q (.ref l) (upd H l (.tup ys))) ∨ (SqT K H p ys ∧ Q (.ref p) H))) (tCons (tVar 6) tNil)) tNil)))
            { nx := fun σ H2 => (∃ v5 v6 v7, σ = [some (.ref st), some (vN m), some (vN n), some (.ref p), some (.ref g), v5, v6, v7]) ∧ ∃ (ts : List Addr) (rs : List (List Int)) (k2 : Nat), rs.length = i + 1 ∧ (∀ r ∈ rs, r.length = m) ∧ H2 p = some (.lst (pl.map V.int)) ∧ H2 g = some (.lst (ts.map V.ref)) ∧ RowsAt H2 ts rs ∧ L2.STF K H2 st ns k2 ∧ k2 ≤ k + 3 + 14 * (i + 1) ∧ But st H H2, rt := Q }
            [some (.ref st), some (vN m), some (vN n), some (.ref p), some (.ref g), some (vN i), some (.ref z), v7'] H4 := fun z ys v7' k4 H4 yl hz4 hp4 hg4 R4 S4 hk4 B4 => by
        refine ⟨_, rfl, .inl ⟨rfl, _, SqL.of hg4⟩, _, rfl, z, _, rfl, .inl ⟨SqL.of hz4, fun t ht => ?_⟩⟩
        have hg5 : (upd H4 t (.tup (ys.map V.int))) g = some (.lst (ts.map V.ref)) := (Same.new ht) _ _ hg4
        have htH := stf_fresh S4 B4 ht
        refine ⟨g, _, _, rfl, rfl, hg5, ?_, ?_⟩
        · rw [List.length_map, R4.len, hrl]; exact small1000 (by omega)
        · have R5 : RowsAt (upd H4 t (.tup (ys.map V.int))) ts rs := R4.imp fun t' zs e => (Same.new ht) _ _ e
          refine ⟨⟨_, _, _, rfl⟩, ts ++ [t], rs ++ [ys], k4, by rw [List.length_append, hrl]; rfl, fun r hr' => ?_, ?_, ?_, ?_, (S4.new ht).put hg5 hgs, hk4, ?_⟩
          · rcases List.mem_append.mp hr' with z | z
            · exact hrm r z
            · rw [List.mem_singleton.mp z]; exact yl
          · rw [upd_ne hpg]; exact (Same.new ht) _ _ hp4
          · rw [upd_same, List.map_append]; rfl
          · exact RowsAt.snoc (tup_put hg5 t _ upd_same) (R5.imp (tup_put hg5))
          · exact (B4.trans (But.new ht)).own hgH
      have S4 := S3.new (o := .lst (xs.map V.int)) hd
      have B4 : But st H (upd H' d (.lst (xs.map V.int))) := (B2.trans B3).trans (But.new hd)
      have hd4 : (upd H' d (.lst (xs.map V.int))) d = some (.lst (xs.map V.int)) := upd_same
      have hp4 : (upd H' d (.lst (xs.map V.int))) p = some (.lst (pl.map V.int)) := (Same.new hd) _ _ hp3
      have hg4 : (upd H' d (.lst (xs.map V.int))) g = some (.lst (ts.map V.ref)) := (Same.new hd) _ _ hg3
      have R4 : RowsAt (upd H' d (.lst (xs.map V.int))) ts rs := R3.imp fun t zs e => (Same.new hd) _ _ e
      generalize upd H' d (.lst (xs.map V.int)) = H4 at S4 B4 hd4 hp4 hg4 R4
      refine ⟨_, rfl, i, 0, rfl, rfl, _, rfl, ?_⟩
      refine ite2 (fun hpos => ?_) (fun _ => iteF ?_)
      · have hi0 : 0 < i := of_decide_eq_true hpos
        refine ⟨_, rfl, st, ns, k2 + m, 4, rfl, S4, by omega, hl, by decide, fun r5 H5 a5 b5 S5 B5 => ?_⟩
        have hd5 := B5 _ _ hd4 hd3.2
        have hp5 := B5 _ _ hp4 hps
        have hg5 := B5 _ _ hg4 hgs
        have R5 : RowsAt H5 ts rs := R4.imp fun t zs e => stf_tup S4 B5 e
        have B05 := B4.trans B5
        refine ⟨_, _, rfl, rfl, _, rfl, ?_⟩
        refine ite2 (fun _ => ?_) (fun _ => ?_)
        · -- an earlier row
          refine ⟨_, rfl, _, rfl, _, rfl, st, ns, k2 + m + 1, (i : Int), rfl, S5, by omega, hl, by omega, fun r6 H6 a6 b6 S6 B6 => ?_⟩
          obtain ⟨j6, rfl, hj6⟩ := nat_of a6 b6
          have hg6 := B6 _ _ hg5 hgs
          have hp6 := B6 _ _ hp5 hps
          have R6 : RowsAt H6 ts rs := R5.imp fun t zs e => stf_tup S5 B6 e
          have B06 := B05.trans B6
          obtain ⟨t6, w6, e6, f6, g6⟩ := R6.get (i := j6) (by omega)
          refine ⟨g, _, _, _, rfl, rfl, SqL.of hg6, atI_nat (atI_ref e6), t6, _, rfl, .inr (SqT.of g6), fun z hz => ?_⟩
          have hzH := stf_fresh S6 B06 hz
          have S7 := S6.new (o := .lst (w6.map V.int)) hz
          have B7 : But st H (upd H6 z (.lst (w6.map V.int))) := B06.trans (But.new hz)
          have hz7 : (upd H6 z (.lst (w6.map V.int))) z = some (.lst (w6.map V.int)) := upd_same
          have hp7 : (upd H6 z (.lst (w6.map V.int))) p = some (.lst (pl.map V.int)) := (Same.new hz) _ _ hp6
          have hg7 : (upd H6 z (.lst (w6.map V.int))) g = some (.lst (ts.map V.ref)) := (Same.new hz) _ _ hg6
          have R7 : RowsAt (upd H6 z (.lst (w6.map V.int))) ts rs := R6.imp fun t zs e => (Same.new hz) _ _ e
          have hzp : z ≠ p := (ne_of_none hp6 hz).symm
          have hzg : z ≠ g := (ne_of_none hg6 hz).symm
          have wl : w6.length = m := hrm w6 (List.mem_of_getElem? f6)
          generalize upd H6 z (.lst (w6.map V.int)) = H7 at S7 B7 hz7 hp7 hg7 R7
          refine ⟨_, rfl, st, ns, k2 + m + 2, 3, rfl, S7, by omega, hl, by decide, fun r8 H8 a8 b8 S8 B8 => ?_⟩
          obtain ⟨n8, rfl, hn8⟩ := nat_of (n := 3) a8 b8
          refine ⟨(n8 : Int), rfl, by omega, by omega, for_rangeN (n := n8) (fun j σ H9 => (∃ v7, σ = [some (.ref st), some (vN m), some (vN n), some (.ref p), some (.ref g), some (vN i), some (.ref z), v7]) ∧
            ∃ ys : List Int, ys.length = m ∧ H9 z = some (.lst (ys.map V.int)) ∧ H9 p = some (.lst (pl.map V.int)) ∧ H9 g = some (.lst (ts.map V.ref)) ∧ RowsAt H9 ts rs ∧ L2.STF K H9 st ns (k2 + m + 3 + 2 * j) ∧ But st H H9)
            ⟨⟨_, rfl⟩, w6, wl, B8 _ _ hz7 hzH.2, B8 _ _ hp7 hps, B8 _ _ hg7 hgs, R7.imp (fun t zs e => stf_tup S7 B8 e), S8, B7.trans B8⟩ ?_ ?_⟩
          · rintro j σ H9 hj ⟨⟨v7', rfl⟩, ys, yl, hz9, hp9, hg9, R9, S9, B9⟩
            refine ⟨_, rfl, _, rfl, _, rfl, p, _, rfl, .inl (SqL.of hp9), st, ns, _, _, rfl, S9, by omega, hl, lp, fun ra Ha aa ba Sa Ba => ?_⟩
            refine ixp (Ba _ _ hp9 hps) aa ba fun x => ?_
            refine ⟨_, rfl, _, rfl, _, rfl, st, ns, _, (m : Int), rfl, Sa, by omega, hl, by omega, fun rb Hb ab bb Sb Bb => ?_⟩
            obtain ⟨jb, rfl, hjb⟩ := nat_of ab bb
            have hzb := Bb _ _ (Ba _ _ hz9 hzH.2) hzH.2
            have hpb := Bb _ _ (Ba _ _ hp9 hps) hps
            have hgb := Bb _ _ (Ba _ _ hg9 hgs) hgs
            have Rb : RowsAt Hb ts rs := (R9.imp fun t zs e => stf_tup S9 Ba e).imp fun t zs e => stf_tup Sa Bb e
            refine ⟨z, _, (jb : Int), jb, rfl, rfl, hzb, ?_, ?_⟩
            · rw [List.length_map, yl]; unfold ixN; rw [if_pos (by omega), if_pos (by omega)]; rfl
            refine ⟨⟨_, rfl⟩, ys.set jb x, by rw [List.length_set]; exact yl, ?_, ?_, ?_, Rb.imp (tup_put hzb), Sb.put hzb hzH.2, ((B9.trans Ba).trans Bb).own hzH.1⟩
            · rw [upd_same, List.map_set]
            · rw [upd_ne (Ne.symm hzp)]; exact hpb
            · rw [upd_ne (Ne.symm hzg)]; exact hgb
          · rintro σ H9 ⟨⟨v7', rfl⟩, ys, yl, hz9, hp9, hg9, R9, S9, B9⟩
            exact fin z ys v7' _ H9 yl hz9 hp9 hg9 R9 S9 (by omega) B9
        · exact fin d xs _ _ H5 exl hd5 hp5 hg5 R5 S5 (by omega) B05
      · exact fin d xs _ _ H4 exl hd4 hp4 hg4 R4 S4 (by omega) B4
    · rintro σ H2 ⟨⟨v5, v6, v7, rfl⟩, ts, rs, k2, hrl, hrm, hp2, hg2, R2, S2, hk2, B2⟩
      exact ⟨_, rfl, q ts rs g k2 _ hrl hrm (by omega) hgH hg2 R2 S2 B2⟩
noncomputable abbrev sAgree : Stmt := top 24
theorem scAgree : FnScope ["_law_one", "_law_other", "_law_some"] ["_law_one", "_law_other", "_law_some"] (defScope sAgree) := ⟨rfl, rfl, rfl, by decide +kernel, rfl, by decide +kernel, by decide +kernel⟩
theorem ok_agree {f fG : Addr} {fd fdG : FuncData} (F : Fun K "_law_agree" "_law_agree" sAgree f fd) (GG : FnOk P w K mg base CX0 1 fG fdG ["_law_some", "_law_k"] spHas2) (mG : mg "_law_has" = some (.ref fG)) (kG : PySem.W.keepIn K (.ref fG) = true) (bG : Binds K fdG ["_law_some", "_law_k"] []) (zrange : mg "range" = none) (zlen : mg "len" = none) : FnOk P w K mg base CX0 2 f fd ["_law_one", "_law_other", "_law_some"] (spAgree K) := by
  refine F.ok scAgree (fun vs H Q E h => ?_) (fun cdv A outer s H vs Q E hr h => ?_)
  · obtain ⟨a, b, r1, r2, x, rfl, _⟩ := h
    rfl
  · obtain ⟨a, b, r1, r2, x, rfl, ha, hb, hl, hl2, q⟩ := h
    refine ⟨_, (pss_one (ps_ret (pe_cmpR (op_eqLK (K := K) rfl hr.units) (pe_comp (xs := ["_law_k"]) (cs ["_law_one", "_law_other", "_law_some"] (defScope sAgree) rfl rfl (by decide +kernel)) rfl (pi_range1 rfl zrange (pa_cons (pe_callB (call_lenK (K := K) rfl) (by rfl) zlen PySem.boot_len (pa_cons (pv 0) pa_nil)) pa_nil)) (fun _ _ _ => pg_name (i := 0) (show (["_law_k", "_law_one", "_law_other", "_law_some"] : List Str).Nodup by decide +kernel) rfl (Or.inl rfl)) (fun _ _ _ => (pts_one (PW.pt (pw_and (pt_val (pe_call GG hr rfl mG kG bG .nil pass0 (pa_cons (pv 3) (pa_cons (pv 0) pa_nil)))) (pw_and1 (pt_cmpR op_neI (pe_ix (ix_tupK (K := K) rfl) (pv 1) (pv 0) (fun _ _ => rfl)) (pe_ix (ix_tupK (K := K) rfl) (pv 2) (pv 0) (fun _ _ => rfl)) (nomark _))))))) (fun _ _ _ => (pv 0))) (pe_lst pa_nil) (nomark _)))), ?_⟩
    have lm : (r1.map V.int).length = r1.length := List.length_map ..
    refine ⟨_, rfl, a, _, rfl, .inr ha, _, rfl, (by omega), (by omega), lc_rangeN (k := (r1.map V.int).length) (n := 1) (fun i acc H' => H' = H ∧ acc = ((List.range i).filter fun k => hasB x k && !decide (r1.getD k 0 = r2.getD k 0)).map vN) (by omega) ⟨rfl, rfl⟩ (fun i acc H' hi h => ?_) (fun i acc H' hi h => ?_) (fun acc H' h => ?_)⟩
    · rw [h.2, List.length_map]
      exact Nat.le_trans (List.length_filter_le _ _) (by simp)
    · obtain ⟨rfl, rfl⟩ := h
      rw [lm] at hi
      refine ⟨rfl, _, rfl, _, rfl, x, i, rfl, by omega, _, rfl, ?_⟩
      refine ite2 (fun hc => ?_) (fun hc => ?_)
      · refine ⟨_, rfl, _, rfl, a, _, _, _, rfl, rfl, ha, atI_nat (j := i) (getD_int hi), _, rfl, _, rfl, b, _, _, _, rfl, rfl, hb, atI_nat (j := i) (getD_int (by omega)), _, _, rfl, rfl, _, rfl, ?_⟩
        refine ite2 (fun hd => ?_) (fun hd => ?_)
        · refine ⟨_, rfl, rfl, ?_⟩
          rw [filt_succ, if_pos (by rw [hc, Bool.true_and]; exact hd), List.map_append]
          rfl
        · refine ⟨rfl, ?_⟩
          rw [filt_succ, if_neg (by rw [hc, Bool.true_and]; exact hd), List.append_nil]
      · refine iteF ⟨rfl, ?_⟩
        rw [filt_succ, if_neg (by intro z; rw [Bool.and_eq_true] at z; exact hc z.1), List.append_nil]
    · obtain ⟨rfl, rfl⟩ := h
      intro d hd
      refine ⟨(by show 0 ≤ sizeLine; exact Nat.zero_le _), fun e he => ?_⟩
      refine ⟨d, e, (offL r1 r2 x).map fun (k : Nat) => (k : Int), [], rfl, rfl, SqL.of ?_, SqL.of upd_same, ?_⟩
      · rw [upd_ne (ne_of_none upd_same he), upd_same, map_int, lm]
        rfl
      · have e1 : decide ((offL r1 r2 x).map (fun (k : Nat) => (k : Int)) = []) = agreeL r1 r2 x := by
          unfold agreeL
          rw [decide_eq_decide, List.map_eq_nil_iff]
        show Q (V.bl (decide _)) _
        rw [e1]
        exact q _ ((Same.new hd).trans (Same.new he))
noncomputable abbrev sMix : Stmt := top 25
theorem scMix : FnScope ["_law_one", "_law_other", "_law_some", "_law_row", "_law_k"] ["_law_one", "_law_other", "_law_some"] (defScope sMix) := ⟨rfl, rfl, rfl, by decide +kernel, rfl, by decide +kernel, by decide +kernel⟩
theorem ok_mix {f fG : Addr} {fd fdG : FuncData} (F : Fun K "_law_mix" "_law_mix" sMix f fd) (GG : FnOk P w K mg base CX0 1 fG fdG ["_law_some", "_law_k"] spHas2) (mG : mg "_law_has" = some (.ref fG)) (kG : PySem.W.keepIn K (.ref fG) = true) (bG : Binds K fdG ["_law_some", "_law_k"] []) (zrange : mg "range" = none) (zlen : mg "len" = none) (zint : mg "int" = none) (ztuple : mg "tuple" = none) : FnOk P w K mg base CX0 2 f fd ["_law_one", "_law_other", "_law_some"] (spMixed K) := by
  refine F.ok scMix (fun vs H Q E h => ?_) (fun cdv A outer s H vs Q E hr h => ?_)
  · obtain ⟨a, b, r1, r2, x, rfl, _⟩ := h
    rfl
  · obtain ⟨a, b, r1, r2, x, rfl, ha, hb, hl, hl2, q⟩ := h
    have nd := scMix.nd
    refine ⟨_, (pss_cons (ps_set (i := 3) nd rfl (Or.inl rfl) (pe_lst pa_nil))
      (pss_cons (ps_for PassesOwn.never rfl (pi_range1 rfl zrange (pa_cons (pe_callB (call_lenK (K := K) rfl) (by rfl) zlen PySem.boot_len (pa_cons (pv 0) pa_nil)) pa_nil)) (pg_name (i := 4) nd rfl (Or.inl rfl)) (pss_one (ps_expr (pe_bm PySem.F.plainAttrs_list PySem.F.slot_list_append PySem.F.type_list_append mt_append (pv 3) (pa_cons (pe_ix (ix_listK (K := K) rfl) (pe_lst (pa_cons (pe_ix (ix_tupK (K := K) rfl) (pv 1) (pv 4) (fun _ _ => rfl)) (pa_cons (pe_ix (ix_tupK (K := K) rfl) (pv 0) (pv 4) (fun _ _ => rfl)) pa_nil))) (pe_callTy call_int1 (by rfl) zint PyProof.Rows.boot_int (pa_cons (pe_call GG hr rfl mG kG bG .nil pass0 (pa_cons (pv 2) (pa_cons (pv 4) pa_nil))) pa_nil)) (fun _ _ => rfl)) pa_nil)))))
      (pss_one (ps_ret (pe_callTy (call_tupleK (K := K) rfl) (by rfl) ztuple PyProof.Rows.boot_tuple (pa_cons (pv 3) pa_nil)))))), ?_⟩
    have lm : (r1.map V.int).length = r1.length := List.length_map ..
    refine ⟨(by show 0 ≤ sizeLine; exact Nat.zero_le _), fun p hp => ?_⟩
    refine ⟨_, rfl, a, _, rfl, .inr ((Same.new hp).tupS ha), _, rfl, (by omega), (by omega), for_rangeN (n := (r1.map V.int).length) (fun i σ H2 => (∃ v, σ = [some (.ref a), some (.ref b), some (vN x), some (.ref p), v]) ∧ Same H H2 ∧ H2 p = some (.lst (((List.range i).map fun k => if hasB x k = true then r1.getD k 0 else r2.getD k 0).map V.int))) ⟨⟨none, rfl⟩, Same.new hp, upd_same⟩ ?_ ?_⟩
    · rintro i σ H2 hi ⟨⟨v, rfl⟩, s2, hp2⟩
      rw [lm] at hi
      refine ⟨_, rfl, .inl ⟨rfl, _, SqL.of hp2⟩, ?_⟩
      refine ⟨_, rfl, _, rfl, b, _, _, _, rfl, rfl, s2.tupS hb, atI_nat (j := i) (getD_int (by omega)), _, rfl, _, rfl, a, _, _, _, rfl, rfl, s2.tupS ha, atI_nat (j := i) (getD_int hi), (by show 2 ≤ sizeLine; decide), fun l hl => ?_⟩
      refine ⟨_, rfl, _, rfl, x, i, rfl, by omega, .inr ⟨_, rfl, ?_⟩⟩
      have hp3 : (upd H2 l (.lst [V.int (r2.getD i 0), V.int (r1.getD i 0)])) p = some (.lst (((List.range i).map fun k => if hasB x k = true then r1.getD k 0 else r2.getD k 0).map V.int)) := (Same.new hl) _ _ hp2
      have s3 : Same H (upd H2 l (.lst [V.int (r2.getD i 0), V.int (r1.getD i 0)])) := s2.trans (Same.new hl)
      have fin : ∀ (j : Nat) (z : Int), ([V.int (r2.getD i 0), V.int (r1.getD i 0)] : List V)[j]? = some (V.int z) → z = (if hasB x i = true then r1.getD i 0 else r2.getD i 0) → ∀ n : Int, n = (j : Int) →
          rIxL K (.ref l) (.int n) (upd H2 l (.lst [V.int (r2.getD i 0), V.int (r1.getD i 0)])) fun y H4 => rAppend (.ref p) [y] H4 fun _ H5 => (∃ v, ([some (.ref a), some (.ref b), some (vN x), some (.ref p), some (vN i)] : St) = [some (.ref a), some (.ref b), some (vN x), some (.ref p), v]) ∧ Same H H5 ∧ H5 p = some (.lst (((List.range (i + 1)).map fun k => if hasB x k = true then r1.getD k 0 else r2.getD k 0).map V.int)) := fun j z e1 e2 n e3 => by
        refine ⟨l, _, _, _, rfl, rfl, SqL.of upd_same, (by rw [e3]; exact atI_nat e1), p, _, _, rfl, rfl, hp3, ?_, ⟨_, rfl⟩, ?_, ?_⟩
        · rw [List.length_map, List.length_map, List.length_range]; exact small1000 (by omega)
        · exact fun c o e => by rw [upd_ne (ne_of_none e hp)]; exact s3 c o e
        · rw [upd_same, List.range_succ, List.map_append, List.map_append, e2]
          rfl
      cases hb' : hasB x i with
      | true => exact fin 1 (r1.getD i 0) rfl (by rw [if_pos hb']) _ rfl
      | false => exact fin 0 (r2.getD i 0) rfl (by rw [if_neg (by rw [hb']; exact Bool.false_ne_true)]) _ rfl
    · rintro σ H2 ⟨⟨v, rfl⟩, s2, hp2⟩
      refine ⟨_, rfl, p, _, rfl, .inl ⟨SqL.of hp2, fun t ht => ?_⟩⟩
      refine q t _ (s2.trans (Same.new ht)) (s2.free ht) ?_
      rw [upd_same, lm]
      rfl
end
end Own

namespace Own
open PySem L2
section
variable {P : Program} {w : World} {K : PySem.W.Frag} {mg : Str → Option Value} {base : Heap}
noncomputable abbrev sIsMix : Stmt := top 26
theorem scIsMix : FnScope ["_law_rows", "_law_row", "_law_part", "_law_both", "_law_one", "_law_other"] ["_law_rows", "_law_row", "_law_part", "_law_both"] (defScope sIsMix) := ⟨rfl, rfl, rfl, by decide +kernel, rfl, by decide +kernel, by decide +kernel⟩
theorem noVisM : ¬ Vis (defScope sIsMix) "" := by rintro (h | h | h) <;> exact absurd h (by decide +kernel)
theorem ok_ismix {f fA fX : Addr} {fd fdA fdX : FuncData} (F : Fun K "_law_is_mix" "_law_is_mix" sIsMix f fd) (GA : FnOk P w K mg base CX0 2 fA fdA ["_law_one", "_law_other", "_law_some"] (spAgree K)) (mA : mg "_law_agree" = some (.ref fA)) (kA : PySem.W.keepIn K (.ref fA) = true) (bA : Binds K fdA ["_law_one", "_law_other", "_law_some"] []) (GX : FnOk P w K mg base CX0 2 fX fdX ["_law_one", "_law_other", "_law_some"] (spMixed K)) (mX : mg "_law_mix" = some (.ref fX)) (kX : PySem.W.keepIn K (.ref fX) = true) (bX : Binds K fdX ["_law_one", "_law_other", "_law_some"] []) : FnOk P w K mg base CX0 3 f fd ["_law_rows", "_law_row", "_law_part", "_law_both"] (spIsMix K) := by
  refine F.ok scIsMix (fun vs H Q E h => ?_) (fun cdv A outer s H vs Q E hr h => ?_)
  · obtain ⟨bk, r, rws, row, x, z, m, rfl, _⟩ := h
    rfl
  · obtain ⟨bk, r, rws, row, x, z, m, rfl, hB, R, hrow, m1, m20, l300, ⟨a, am, b, bm, ab, er⟩, q⟩ := h
    have nd := scIsMix.nd
    have la := (R a am).2
    have lb := (R b bm).2
    have lrow : row.length = m := by rw [er]; exact (mix_len _ _ _).trans la
    refine ⟨_, (pss_cons (ps_for PassesOwn.never rfl (pi_listK (K := K) rfl (pe_hide 4 (show ¬ Vis (defScope sIsMix) "" from noVisM) (pe_comp (xs := ["_law_one"]) (cs ["_law_rows", "_law_row", "_law_part", "_law_both", "", "_law_other"] (defScope sIsMix) rfl rfl (by decide +kernel)) rfl (pi_listK (K := K) rfl (pv 0)) (fun _ _ _ => pg_name (i := 0) (show (["_law_one", "_law_rows", "_law_row", "_law_part", "_law_both", "", "_law_other"] : List Str).Nodup by decide +kernel) rfl (Or.inl rfl)) (fun _ _ _ => (pts_one (pt_val (pe_call GA hr rfl mA kA bA .nil pass0 (pa_cons (pv 0) (pa_cons (pv 2) (pa_cons (pv 3) pa_nil))))))) (fun _ _ _ => (pv 0))))) (pg_name (i := 4) nd rfl (Or.inl rfl)) (pss_one (ps_for PassesOwn.never rfl (pi_listK (K := K) rfl (pv 0)) (pg_name (i := 5) nd rfl (Or.inl rfl)) (pss_one (ps_if (PW.pt (pw_and (pt_val (pe_call GA hr rfl mA kA bA .nil pass0 (pa_cons (pv 4) (pa_cons (pv 5) (pa_cons (pv 3) pa_nil))))) (pw_and1 (pt_cmpR (op_eqTK (K := K) rfl hr.units0) (pe_call GX hr rfl mX kX bX .nil pass0 (pa_cons (pv 4) (pa_cons (pv 5) (pa_cons (pv 2) pa_nil)))) (pv 1) (nomark _))))) (pss_one (ps_ret pe_bl)) pss_nil)))))
      (pss_one (ps_ret pe_bl))), ?_⟩
    refine ⟨(fun v e => by cases e), _, rfl, bk, rfl, ⟨_, hB⟩, ?_⟩
    obtain ⟨sel, hsel⟩ : ∃ sel, sel = rws.filter fun a => agreeL a.2 row x := ⟨_, rfl⟩
    have lsel : sel.length ≤ rws.length := by rw [hsel]; exact List.length_filter_le _ _
    have asel : a ∈ sel := by
      rw [hsel]
      refine List.mem_filter.mpr ⟨am, (agree_seen la lrow).mpr ?_⟩
      rw [er, mix_seenx la lb]
    have ssub : ∀ c ∈ sel, c ∈ rws := fun c hc => by rw [hsel] at hc; exact (List.mem_filter.mp hc).1
    refine lc_list (xs := refsOf rws) (fun i acc H' => Same H H' ∧ acc = refsOf ((rws.take i).filter fun a => agreeL a.2 row x)) (by unfold refsOf; rw [List.length_map]; omega) ⟨Same.refl _, rfl⟩ (fun i acc H' hi h => ?_) (fun i v acc H' hv h => ?_) (fun acc H' h => ?_)
    · obtain ⟨s', rfl⟩ := h
      refine ⟨s'.seq hB, ?_⟩
      unfold refsOf
      rw [List.length_map]
      exact Nat.le_trans (List.length_filter_le _ _) (by rw [List.length_take]; omega)
    · obtain ⟨s', rfl⟩ := h
      unfold refsOf at hv
      rw [List.getElem?_map] at hv
      cases ec : rws[i]? with
      | none => rw [ec] at hv; cases hv
      | some c =>
        rw [ec] at hv
        obtain rfl := (Option.some.inj hv).symm
        have cm := List.mem_of_getElem? ec
        refine ⟨rfl, _, rfl, _, rfl, _, rfl, c.1, r, c.2, row, x, rfl, SqT.of (s' _ _ (R c cm).1), SqT.of (s' _ _ hrow), by rw [(R c cm).2, lrow], by rw [(R c cm).2]; omega, fun H3 s3 => ⟨_, rfl, ?_⟩⟩
        have tk : (rws.take (i + 1)).filter (fun a => agreeL a.2 row x) = (rws.take i).filter (fun a => agreeL a.2 row x) ++ if agreeL c.2 row x = true then [c] else [] := by
          rw [List.take_succ, ec, List.filter_append]
          congr 1
          show List.filter _ [c] = _
          by_cases h : agreeL c.2 row x = true
          · rw [if_pos h, List.filter_cons_of_pos (p := fun a : RW => agreeL a.2 row x) h]; rfl
          · rw [if_neg h, List.filter_cons_of_neg (p := fun a : RW => agreeL a.2 row x) h]; rfl
        refine ite2 (fun hc => ?_) (fun hc => ?_)
        · refine ⟨_, rfl, s'.trans s3, ?_⟩
          rw [tk, if_pos hc]
          unfold refsOf
          rw [List.map_append]
          rfl
        · refine ⟨s'.trans s3, ?_⟩
          rw [tk, if_neg hc, List.append_nil]
    obtain ⟨s1, rfl⟩ := h
    have lrw : (refsOf rws).length = rws.length := List.length_map ..
    rw [lrw, List.take_length, ← hsel]
    intro e he
    have s2 := s1.trans (Same.new (o := .lst (refsOf sel)) he)
    have he2 : (upd H' e (.lst (refsOf sel))) e = some (.lst (refsOf sel)) := upd_same
    generalize upd H' e (.lst (refsOf sel)) = H2 at s2 he2
    refine ⟨e, rfl, ⟨_, SqL.of he2⟩, for_list (xs := refsOf sel) (fun i σ H3 => (∃ v4 v5, σ = [some (.ref bk), some (.ref r), some (vN x), some (vN z), v4, v5]) ∧ Same H2 H3 ∧ ∀ a' ∈ sel.take i, ∀ b' ∈ rws, ¬ (agreeL a'.2 b'.2 z = true ∧ mixL a'.2 b'.2 x = row)) ⟨⟨none, none, rfl⟩, Same.refl _, fun a' h => by cases h⟩ (fun i σ H3 _ h => SqL.of (h.2.1 _ _ he2)) ?_ ?_⟩
    · rintro i v σ H3 hv ⟨⟨v4, v5, rfl⟩, s3, no⟩
      unfold refsOf at hv
      rw [List.getElem?_map] at hv
      cases ec : sel[i]? with
      | none => rw [ec] at hv; cases hv
      | some c =>
        rw [ec] at hv
        obtain rfl := (Option.some.inj hv).symm
        have cm := ssub c (List.mem_of_getElem? ec)
        have s03 := s2.trans s3
        refine ⟨_, rfl, bk, rfl, ⟨_, s03.seq hB⟩, for_list (xs := refsOf rws) (fun j σ H4 => (∃ v5, σ = [some (.ref bk), some (.ref r), some (vN x), some (vN z), some (.ref c.1), v5]) ∧ Same H2 H4 ∧ ∀ b' ∈ rws.take j, ¬ (agreeL c.2 b'.2 z = true ∧ mixL c.2 b'.2 x = row)) ⟨⟨_, rfl⟩, s3, fun b' h => by cases h⟩ (fun j σ H4 _ h => (s2.trans h.2.1).seq hB) ?_ ?_⟩
        · rintro j v σ H4 hv ⟨⟨v5', rfl⟩, s4, no2⟩
          unfold refsOf at hv
          rw [List.getElem?_map] at hv
          cases ed : rws[j]? with
          | none => rw [ed] at hv; cases hv
          | some d =>
            rw [ed] at hv
            obtain rfl := (Option.some.inj hv).symm
            have dm := List.mem_of_getElem? ed
            have s04 := s2.trans s4
            have tkd : ¬ (agreeL c.2 d.2 z = true ∧ mixL c.2 d.2 x = row) → ∀ b' ∈ rws.take (j + 1), ¬ (agreeL c.2 b'.2 z = true ∧ mixL c.2 b'.2 x = row) := fun nd' b' hb' => by
              rw [List.take_succ, ed] at hb'
              rcases List.mem_append.mp hb' with h | h
              · exact no2 b' h
              · rw [show b' = d by simpa using h]; exact nd'
            refine ⟨_, rfl, _, rfl, _, rfl, c.1, d.1, c.2, d.2, z, rfl, SqT.of (s04 _ _ (R c cm).1), SqT.of (s04 _ _ (R d dm).1), by rw [(R c cm).2, (R d dm).2], by rw [(R c cm).2]; omega, fun H5 s5 => ⟨_, rfl, ?_⟩⟩
            refine ite2 (fun hc => ?_) (fun hc => ?_)
            · have s05 := s04.trans s5
              refine ⟨_, rfl, _, rfl, _, rfl, c.1, d.1, c.2, d.2, x, rfl, SqT.of (s05 _ _ (R c cm).1), SqT.of (s05 _ _ (R d dm).1), by rw [(R c cm).2, (R d dm).2], by rw [(R c cm).2]; omega, fun p H6 s6 hp hp6 => ?_⟩
              refine ⟨_, rfl, p, r, _, row, rfl, rfl, SqT.of hp6, SqT.of (s6 _ _ (s05 _ _ hrow)), ⟨_, rfl, ?_⟩⟩
              refine ite2 (fun hd => ?_) (fun hd => ?_)
              · exact q _ (s05.trans s6)
              · exact ⟨⟨_, rfl⟩, (s4.trans s5).trans s6, tkd fun h => hd (decide_eq_true h.2)⟩
            · exact iteF ⟨⟨_, rfl⟩, s4.trans s5, tkd fun h => hc h.1⟩
        · rintro σ H4 ⟨⟨v5', rfl⟩, s4, no2⟩
          rw [lrw, List.take_length] at no2
          refine ⟨⟨_, _, rfl⟩, s4, fun a' ha' => ?_⟩
          rw [List.take_succ, ec] at ha'
          rcases List.mem_append.mp ha' with h | h
          · exact no a' h
          · rw [show a' = c by simpa using h]; exact no2
    · rintro σ H3 ⟨⟨v4, v5, rfl⟩, s3, no⟩
      have lse : (refsOf sel).length = sel.length := List.length_map ..
      rw [lse, List.take_length] at no
      exact absurd ⟨ab, er.symm⟩ (no a asel b bm)
end
end Own

namespace Own
open PySem L2
section
variable {P : Program} {w : World} {K : PySem.W.Frag} {mg : Str → Option Value} {base : Heap}
noncomputable abbrev sHas : Stmt := top 1
theorem scHas : FnScope ["some", "column"] ["some", "column"] (defScope sHas) := ⟨rfl, rfl, rfl, by decide +kernel, rfl, by decide +kernel, by decide +kernel⟩
theorem ok_has {f : Addr} {fd : FuncData} (F : Fun K "has_column" "has_column" sHas f fd) : FnOk P w K mg base CX0 1 f fd ["some", "column"] spHas := by
  refine F.ok scHas (fun vs H Q E h => ?_) (fun cdv A outer s H vs Q E hr h => ?_)
  · obtain ⟨a, k, rfl, _⟩ := h
    rfl
  · obtain ⟨a, k, rfl, q⟩ := h
    refine ⟨_, pss_one (ps_ret (pe_cmpR op_eq (pe_op op_and (pe_op op_shr (pv 0) (pv 1)) pe_int) pe_int (nomark _))), ?_⟩
    refine ⟨_, rfl, _, rfl, _, _, rfl, rfl, (by omega), _, _, rfl, rfl, rfl, ?_⟩
    show Q (V.bl (decide (V.int (Builtin.bitAnd ((a : Int) / 2 ^ (k : Int).toNat) 1) = V.int 1))) H
    rw [has_eq]
    exact q
noncomputable abbrev sCols : Stmt := top 2
theorem scCols : FnScope ["some"] ["some"] (defScope sCols) := ⟨rfl, rfl, rfl, by decide +kernel, rfl, by decide +kernel, by decide +kernel⟩
theorem ok_cols {f fH : Addr} {fd fdH : FuncData} (F : Fun K "columns_of" "columns_of" sCols f fd) (GH : FnOk P w K mg base CX0 1 fH fdH ["some", "column"] spHas) (mH : mg "has_column" = some (.ref fH)) (kH : PySem.W.keepIn K (.ref fH) = true) (bH : Binds K fdH ["some", "column"] []) (zR : mg "range" = none) : FnOk P w K mg base CX0 2 f fd ["some"] spCols := by
  refine F.ok scCols (fun vs H Q E h => ?_) (fun cdv A outer s H vs Q E hr h => ?_)
  · obtain ⟨a, rfl, _⟩ := h
    rfl
  · obtain ⟨a, rfl, ha, q⟩ := h
    refine ⟨_, pss_one (ps_ret (pe_comp (xs := ["column"]) (cs ["some"] (defScope sCols) rfl rfl (by decide +kernel)) rfl (pi_range1 rfl zR (pa_cons (pe_bm0 PySem.F.plainAttrs_int PySem.F.slot_int_bit_length PySem.F.type_int_bit_length mt_bitlen (pv 0)) pa_nil))
      (fun _ _ _ => pg_name (i := 0) (show (["column", "some"] : List Str).Nodup by decide +kernel) rfl (Or.inl rfl)) (fun _ _ _ => pts_one (pt_val (pe_call GH hr rfl mH kH bH .nil pass0 (pa_cons (pv 1) (pa_cons (pv 0) pa_nil))))) (fun _ _ _ => pv 0))), ?_⟩
    refine ⟨_, rfl, rfl, (a : Int), rfl, rfl, _, rfl, (by omega), ?_, ?_⟩
    · have := bitsN_le ha
      show ((bitsN a : Nat) : Int) < _
      omega
    · refine lc_range (lo := 0) (k := ((bitsN a : Nat) : Int).toNat) (n := 1) (fun i acc H' => H' = H ∧ acc = ((List.range i).filter (hasB a)).map vN) ?_ ⟨rfl, rfl⟩ (fun i acc H' hi h => ?_) (fun i acc H' hi h => ?_) (fun acc H' h => ?_)
      · have := bitsN_le ha
        omega
      · rw [h.2, List.length_map]
        exact Nat.le_trans (List.length_filter_le _ _) (by simp)
      · obtain ⟨rfl, rfl⟩ := h
        refine ⟨rfl, _, rfl, _, rfl, a, i, ?_, _, rfl, ?_⟩
        · show [vN a, V.int (0 + (i : Int))] = _
          rw [Int.zero_add]; rfl
        · refine ite2 (fun hc => ?_) (fun hc => ?_)
          · refine ⟨_, rfl, rfl, ?_⟩
            rw [filt_succ, if_pos hc, List.map_append, Int.zero_add]
            rfl
          · refine ⟨rfl, ?_⟩
            rw [filt_succ, if_neg hc, List.append_nil]
      · obtain ⟨rfl, rfl⟩ := h
        intro p hp
        exact q p hp
noncomputable abbrev sAll : Stmt := top 3
theorem scAll : FnScope ["many"] ["many"] (defScope sAll) := ⟨rfl, rfl, rfl, by decide +kernel, rfl, by decide +kernel, by decide +kernel⟩
theorem ok_all {f : Addr} {fd : FuncData} (F : Fun K "all_of" "all_of" sAll f fd) : FnOk P w K mg base CX0 1 f fd ["many"] spAllOf := by
  refine F.ok scAll (fun vs H Q E h => ?_) (fun cdv A outer s H vs Q E hr h => ?_)
  · obtain ⟨m, rfl, _⟩ := h
    rfl
  · obtain ⟨m, rfl, hm, q⟩ := h
    refine ⟨_, pss_one (ps_ret (pe_op op_sub (pe_op op_shl pe_int (pv 0)) pe_int)), ?_⟩
    refine ⟨_, rfl, _, _, rfl, rfl, cpow1 hm, _, _, rfl, rfl, ?_⟩
    show Q (V.int (1 * 2 ^ (m : Int).toNat - 1)) H
    have pw : 0 < 2 ^ m := Nat.two_pow_pos m
    have e : (1 : Int) * 2 ^ (m : Int).toNat - 1 = ((2 ^ m - 1 : Nat) : Int) := by rw [shl1]; omega
    rw [e]
    exact q
noncomputable abbrev sAlike : Stmt := top 5
theorem scAlike : FnScope ["one", "other", "some"] ["one", "other", "some"] (defScope sAlike) := ⟨rfl, rfl, rfl, by decide +kernel, rfl, by decide +kernel, by decide +kernel⟩
theorem ok_alike {f fC : Addr} {fd fdC : FuncData} (F : Fun K "alike" "alike" sAlike f fd) (GC : FnOk P w K mg base CX0 2 fC fdC ["some"] spCols) (mC : mg "columns_of" = some (.ref fC)) (kC : PySem.W.keepIn K (.ref fC) = true) (bC : Binds K fdC ["some"] []) (zall : mg "all" = none) : FnOk P w K mg base CX0 3 f fd ["one", "other", "some"] (spAlike K) := by
  refine F.ok scAlike (fun vs H Q E h => ?_) (fun cdv A outer s H vs Q E hr h => ?_)
  · obtain ⟨a, b, r1, r2, x, rfl, _⟩ := h
    rfl
  · obtain ⟨a, b, r1, r2, x, rfl, ha, hb, hx, hc, q⟩ := h
    refine ⟨_, (pss_one (ps_ret (pe_callB (call_allK (K := K) rfl rfl) (by rfl) zall PyProof.Rows.boot_all (pa_cons (pe_comp (xs := ["column"]) (cs ["one", "other", "some"] (defScope sAlike) rfl rfl (by decide +kernel)) rfl (pi_listK (K := K) rfl (pe_call GC hr rfl mC kC bC .nil pass0 (pa_cons (pv 2) pa_nil))) (fun _ _ _ => pg_name (i := 0) (show (["column", "one", "other", "some"] : List Str).Nodup by decide +kernel) rfl (Or.inl rfl)) (fun _ _ _ => pts_nil) (fun _ _ _ => (pe_cmpR op_eqI (pe_ix (ix_tupK (K := K) rfl) (pv 1) (pv 0) (fun _ _ => rfl)) (pe_ix (ix_tupK (K := K) rfl) (pv 2) (pv 0) (fun _ _ => rfl)) (nomark _)))) pa_nil)))), ?_⟩
    refine ⟨_, rfl, x, rfl, hx, fun d hd => ⟨d, rfl, ⟨_, SqL.of upd_same⟩, ?_⟩⟩
    have s1 : Same H (upd H d (.lst ((colsN x).map vN))) := Same.new hd
    have hd1 : (upd H d (.lst ((colsN x).map vN))) d = some (.lst ((colsN x).map vN)) := upd_same
    generalize upd H d (.lst ((colsN x).map vN)) = H1 at s1 hd1
    have cl : (colsN x).length ≤ 1000 := Nat.le_trans (List.length_filter_le _ _) (by rw [List.length_range]; exact Nat.le_trans (bitsN_le hx) (by decide))
    refine lc_list (xs := (colsN x).map vN) (fun i acc H' => H' = H1 ∧ acc = (((colsN x).take i).map fun c => decide (r1.getD c 0 = r2.getD c 0)).map V.bl) (by rw [List.length_map]; omega) ⟨rfl, rfl⟩ (fun i acc H' hi h => ?_) (fun i y acc H' hy h => ?_) (fun acc H' h => ?_)
    · rw [h.1, h.2]
      exact ⟨SqL.of hd1, by rw [List.length_map, List.length_map]; exact List.length_take_le _ _⟩
    · obtain ⟨rfl, rfl⟩ := h
      rw [List.getElem?_map] at hy
      cases ez : (colsN x)[i]? with
      | none => rw [ez] at hy; cases hy
      | some c =>
        rw [ez] at hy
        obtain rfl := (Option.some.inj hy).symm
        obtain ⟨c1, c2⟩ := hc c (List.mem_of_getElem? ez)
        refine ⟨rfl, _, rfl, _, rfl, a, _, _, _, rfl, rfl, s1.tupS ha, atI_nat (j := c) (getD_int c1), _, rfl, _, rfl, b, _, _, _, rfl, rfl, s1.tupS hb, atI_nat (j := c) (getD_int c2), _, _, rfl, rfl, rfl, ?_⟩
        rw [List.take_succ, ez, List.map_append, List.map_append]
        rfl
    · obtain ⟨rfl, rfl⟩ := h
      intro e he
      refine ⟨e, _, rfl, SqL.of upd_same, ?_⟩
      rw [List.length_map, List.take_length]
      exact q _ (s1.trans (Same.new he))
noncomputable abbrev sMixed : Stmt := top 6
theorem scMixed : FnScope ["one", "other", "some"] ["one", "other", "some"] (defScope sMixed) := ⟨rfl, rfl, rfl, by decide +kernel, rfl, by decide +kernel, by decide +kernel⟩
theorem ok_mixed {f fH : Addr} {fd fdH : FuncData} (F : Fun K "mixed" "mixed" sMixed f fd) (GH : FnOk P w K mg base CX0 1 fH fdH ["some", "column"] spHas) (mH : mg "has_column" = some (.ref fH)) (kH : PySem.W.keepIn K (.ref fH) = true) (bH : Binds K fdH ["some", "column"] []) (zrange : mg "range" = none) (zlen : mg "len" = none) (ztuple : mg "tuple" = none) : FnOk P w K mg base CX0 2 f fd ["one", "other", "some"] (spMixed K) := by
  refine F.ok scMixed (fun vs H Q E h => ?_) (fun cdv A outer s H vs Q E hr h => ?_)
  · obtain ⟨a, b, r1, r2, x, rfl, _⟩ := h
    rfl
  · obtain ⟨a, b, r1, r2, x, rfl, ha, hb, hl, hl2, q⟩ := h
    refine ⟨_, (pss_one (ps_ret (pe_callTy (call_tupleK (K := K) rfl) (by rfl) ztuple PyProof.Rows.boot_tuple (pa_cons (pe_comp (xs := ["column"]) (cs ["one", "other", "some"] (defScope sMixed) rfl rfl (by decide +kernel)) rfl (pi_range1 rfl zrange (pa_cons (pe_callB (call_lenK (K := K) rfl) (by rfl) zlen PySem.boot_len (pa_cons (pv 0) pa_nil)) pa_nil)) (fun _ _ _ => pg_name (i := 0) (show (["column", "one", "other", "some"] : List Str).Nodup by decide +kernel) rfl (Or.inl rfl)) (fun _ _ _ => pts_nil) (fun _ _ _ => (pe_ifExp (pt_val (pe_call GH hr rfl mH kH bH .nil pass0 (pa_cons (pv 3) (pa_cons (pv 0) pa_nil)))) (pe_ix (ix_tupK (K := K) rfl) (pv 1) (pv 0) (fun _ _ => rfl)) (pe_ix (ix_tupK (K := K) rfl) (pv 2) (pv 0) (fun _ _ => rfl))))) pa_nil)))), ?_⟩
    have lm : (r1.map V.int).length = r1.length := List.length_map ..
    refine ⟨_, rfl, a, _, rfl, .inr ha, _, rfl, (by omega), (by omega), lc_rangeN (k := (r1.map V.int).length) (n := 1) (fun i acc H' => H' = H ∧ acc = ((List.range i).map fun k => if hasB x k = true then r1.getD k 0 else r2.getD k 0).map V.int) (by omega) ⟨rfl, rfl⟩ (fun i acc H' hi h => ?_) (fun i acc H' hi h => ?_) (fun acc H' h => ?_)⟩
    · rw [h.2, List.length_map, List.length_map, List.length_range]; exact Nat.le_refl _
    · obtain ⟨rfl, rfl⟩ := h
      rw [lm] at hi
      refine ⟨rfl, _, rfl, _, rfl, x, i, rfl, _, rfl, ?_⟩
      refine ite2 (fun hc => ?_) (fun hc => ?_)
      · refine ⟨_, rfl, _, rfl, a, _, _, _, rfl, rfl, ha, atI_nat (j := i) (getD_int hi), rfl, ?_⟩
        rw [List.range_succ, List.map_append, List.map_append, List.map_singleton, if_pos hc]
        rfl
      · refine ⟨_, rfl, _, rfl, b, _, _, _, rfl, rfl, hb, atI_nat (j := i) (getD_int (by omega)), rfl, ?_⟩
        rw [List.range_succ, List.map_append, List.map_append, List.map_singleton, if_neg hc]
        rfl
    · obtain ⟨rfl, rfl⟩ := h
      intro d hd
      refine ⟨d, _, rfl, .inl ⟨SqL.of upd_same, fun t ht => ?_⟩⟩
      have ss := (Same.new (o := .lst (((List.range (r1.map V.int).length).map fun k => if hasB x k = true then r1.getD k 0 else r2.getD k 0).map V.int)) hd)
      refine q t _ (ss.trans (Same.new ht)) (ss.free ht) ?_
      rw [upd_same, lm]
      rfl
noncomputable abbrev sNoughts : Stmt := top 7
theorem scNoughts : FnScope ["many"] ["many"] (defScope sNoughts) := ⟨rfl, rfl, rfl, by decide +kernel, rfl, by decide +kernel, by decide +kernel⟩
theorem ok_noughts {f : Addr} {fd : FuncData} (F : Fun K "noughts" "noughts" sNoughts f fd) : FnOk P w K mg base CX0 1 f fd ["many"] spNoughts := by
  refine F.ok scNoughts (fun vs H Q E h => ?_) (fun cdv A outer s H vs Q E hr h => ?_)
  · obtain ⟨m, rfl, _⟩ := h
    rfl
  · obtain ⟨m, rfl, h1, h20, q⟩ := h
    refine ⟨_, (pss_one (ps_ret (pe_op op_repT (pe_tup (pa_cons pe_int pa_nil)) (pv 0)))), ?_⟩
    refine ⟨(by show 1 ≤ sizeLine; decide), fun l hl => ?_⟩
    refine ⟨_, rfl, l, V.int 0, m, rfl, rfl, upd_same, h1, by omega, fun e => ?_, fun e p hp => ?_⟩
    · subst e
      exact q l _ (Same.new hl) hl upd_same
    · refine q p _ ((Same.new hl).trans (Same.new hp)) ((Same.new hl).free hp) ?_
      rw [upd_same, List.map_replicate]
noncomputable abbrev sSeen : Stmt := top 8
theorem scSeen : FnScope ["row", "part"] ["row", "part"] (defScope sSeen) := ⟨rfl, rfl, rfl, by decide +kernel, rfl, by decide +kernel, by decide +kernel⟩
theorem ok_seen {f fM fN : Addr} {fd fdM fdN : FuncData} (F : Fun K "seen_row" "seen_row" sSeen f fd) (GM : FnOk P w K mg base CX0 2 fM fdM ["one", "other", "some"] (spMixed K)) (mM : mg "mixed" = some (.ref fM)) (kM : PySem.W.keepIn K (.ref fM) = true) (bM : Binds K fdM ["one", "other", "some"] []) (GN : FnOk P w K mg base CX0 1 fN fdN ["many"] spNoughts) (mN : mg "noughts" = some (.ref fN)) (kN : PySem.W.keepIn K (.ref fN) = true) (bN : Binds K fdN ["many"] []) (zlen : mg "len" = none) : FnOk P w K mg base CX0 3 f fd ["row", "part"] spSeen := by
  refine F.ok scSeen (fun vs H Q E h => ?_) (fun cdv A outer s H vs Q E hr h => ?_)
  · obtain ⟨a, r, x, rfl, _⟩ := h
    rfl
  · obtain ⟨a, r, x, rfl, ha, l1, l20, q⟩ := h
    have hr1 : Room 1 _ := hr.mono (by decide)
    refine ⟨_, (pss_one (ps_ret (pe_call GM hr rfl mM kM bM .nil pass0 (pa_cons (pv 0) (pa_cons (pe_call GN hr1 rfl mN kN bN .nil pass0 (pa_cons (pe_callB (call_lenK (K := K) rfl) (by rfl) zlen PySem.boot_len (pa_cons (pv 0) pa_nil)) pa_nil)) (pa_cons (pv 1) pa_nil)))))), ?_⟩
    have lm : (r.map V.int).length = r.length := List.length_map ..
    refine ⟨_, rfl, _, rfl, a, _, rfl, .inr (SqT.of ha), (r.map V.int).length, rfl, by omega, by omega, fun p H1 s1 hp hp1 => ?_⟩
    rw [lm] at hp1
    refine ⟨_, rfl, a, p, r, List.replicate r.length 0, x, rfl, SqT.of (s1 _ _ ha), SqT.of hp1, by rw [List.length_replicate], l20, fun p2 H2 s2 hp2 hp3 => ?_⟩
    exact q p2 H2 (s1.trans s2) (s1.free hp2) hp3
noncomputable abbrev sGroups : Stmt := top 9
theorem scGroups : FnScope ["book", "some", "groups", "row"] ["book", "some"] (defScope sGroups) := ⟨rfl, rfl, rfl, by decide +kernel, rfl, by decide +kernel, by decide +kernel⟩
theorem ok_groups {f fE : Addr} {fd fdE : FuncData} (F : Fun K "groups_on" "groups_on" sGroups f fd) (GE : FnOk P w K mg base CX0 3 fE fdE ["row", "part"] spSeen) (mE : mg "seen_row" = some (.ref fE)) (kE : PySem.W.keepIn K (.ref fE) = true) (bE : Binds K fdE ["row", "part"] []) : FnOk P w K mg base CX0 4 f fd ["book", "some"] (spGroups K) := by
  refine F.ok scGroups (fun vs H Q E h => ?_) (fun cdv A outer s H vs Q E hr h => ?_)
  · obtain ⟨bk, rws, x, m, rfl, _⟩ := h
    rfl
  · obtain ⟨bk, rws, x, m, rfl, hB, hR, m1, m20, hlen, q⟩ := h
    have nd := scGroups.nd
    refine ⟨_, (pss_cons (ps_set (i := 2) nd rfl (Or.inl rfl) pe_dnewT)
      (pss_cons (ps_for PassesOwn.never rfl (pi_listK (K := K) rfl (pv 0)) (pg_name (i := 3) nd rfl (Or.inl rfl)) (pss_one (ps_expr (pe_bm PySem.F.plainAttrs_list PySem.F.slot_list_append PySem.F.type_list_append mt_append (pe_dsd (hu_of hr) (pv 2) (pe_call GE hr rfl mE kE bE .nil pass0 (pa_cons (pv 3) (pa_cons (pv 1) pa_nil))) (pe_lst pa_nil) ⟨rfl, rfl, rfl, rfl⟩) (pa_cons (pv 3) pa_nil)))))
      (pss_one (ps_ret (pv 2))))), ?_⟩
    intro d hd
    have s0 : Same H (upd H d (.dT [])) := Same.new hd
    refine ⟨_, rfl, bk, rfl, ⟨_, s0.seq hB⟩, for_list (xs := refsOf rws) (fun i σ H2 => (∃ v, σ = [some (.ref bk), some (vN x), some (.ref d), v]) ∧ Same H H2 ∧ ∃ G, GroupsAt H2 d G ∧ forget G = groupsL (rws.take i) x ∧ ∀ g ∈ G, H g.at_ = none)
      ⟨⟨none, rfl⟩, s0, [], ⟨upd_same, fun g hg => absurd hg List.not_mem_nil, List.nodup_nil, List.nodup_nil⟩, rfl, fun g hg => absurd hg List.not_mem_nil⟩ (fun i σ H2 _ h => h.2.1.seq hB) ?_ ?_⟩
    · rintro i v σ H2 hv ⟨⟨v3, rfl⟩, s2, G, A2, eG, hf⟩
      unfold refsOf at hv
      rw [List.getElem?_map] at hv
      cases er : rws[i]? with
      | none => rw [er] at hv; cases hv
      | some rw0 =>
        rw [er] at hv
        obtain rfl := (Option.some.inj hv).symm
        obtain ⟨hrow, hrl⟩ := hR rw0 (List.mem_of_getElem? er)
        have tk : rws.take (i + 1) = rws.take i ++ [rw0] := by rw [List.take_succ, er]; rfl
        obtain ⟨gl1, gl2⟩ := groups_len x (rws.take i)
        have tl : (rws.take i).length ≤ 300 := Nat.le_trans (List.length_take_le _ _) (by
          have := (List.getElem?_eq_some_iff.mp er).1; omega)
        refine ⟨_, rfl, d, rfl, .inr ⟨_, .inl A2.dict⟩, ?_⟩
        refine ⟨_, rfl, _, rfl, rw0.1, rw0.2, x, rfl, s2 _ _ hrow, by omega, by omega, fun p H3 s3 hp hp3 => ?_⟩
        refine ⟨(by show 0 ≤ sizeLine; exact Nat.zero_le _), fun l hl => ?_⟩
        have s34 : Same H3 (upd H3 l (.lst [])) := Same.new hl
        have A4 : GroupsAt (upd H3 l (.lst [])) d G := (A2.same s3).same s34
        have hl4 : (upd H3 l (.lst [])) l = some (.lst []) := upd_same
        have hp4 : (upd H3 l (.lst [])) p = some (.tup ((seenL rw0.2 x).map V.int)) := s34 _ _ hp3
        have s4 : Same H (upd H3 l (.lst [])) := s2.trans (s3.trans s34)
        have hlG : ∀ g ∈ G, g.at_ ≠ l := fun g hg => ne_of_none ((A2.same s3).lists g hg) hl
        have hlH : H l = none := (s2.trans s3).free hl
        generalize upd H3 l (.lst []) = H4 at A4 hl4 hp4 s4
        refine ⟨kvsOf G, tks (seenL rw0.2 x), p, A4.dict, rfl, by rw [tks_kV]; exact hp4, ?_, fun v hv => ?_, fun hv => ?_⟩
        · unfold kvsOf
          rw [List.length_map, forget_len eG]
          exact small1000 (by omega)
        · rw [valV_G] at hv
          cases ef : (G.find? fun g => decide (g.key = seenL rw0.2 x)) with
          | none => rw [ef] at hv; cases hv
          | some g =>
            rw [ef] at hv
            obtain rfl := (Option.some.inj hv).symm
            obtain ⟨hm, hk, A5⟩ := A4.old (rw := rw0) ef
            refine ⟨.inl ⟨rfl, _, SqL.of (A4.lists g hm)⟩, _, rfl, g.at_, _, _, rfl, rfl, A4.lists g hm, ?_, ⟨_, rfl⟩, ?_, _, A5, ?_, fun g' hg' => ?_⟩
            · unfold refsOf
              rw [List.length_map]
              have h9 : g.rows.length ≤ (rws.take i).length := gl2 _ (forget_mem eG hm)
              exact small1000 (by show g.rows.length ≤ 1000; omega)
            · exact fun b o e => by rw [upd_ne (ne_of_none e (hf g hm))]; exact s4 b o e
            · rw [forget_upd (by rw [ef]; rfl), eG, tk, groupsL_snoc]
            · unfold updG at hg'
              obtain ⟨g0, h0, rfl⟩ := List.mem_map.mp hg'
              have := hf g0 h0
              split <;> exact this
        · rw [valV_G] at hv
          have ef : (G.find? fun g => decide (g.key = seenL rw0.2 x)) = none := by
            cases ef : (G.find? fun g => decide (g.key = seenL rw0.2 x)) with
            | none => rfl
            | some g => rw [ef] at hv; cases hv
          have A5 := A4.snoc (rw := rw0) ef hl4 hlG
          have hl5 : (upd H4 d (.dT (putK (kvsOf G) (tks (seenL rw0.2 x)) (V.ref l)))) l = some (.lst []) := by
            rw [upd_ne (ne_of hl4 A4.dict (fun z => nomatch z))]; exact hl4
          refine ⟨.inl ⟨rfl, _, SqL.of hl5⟩, _, rfl, l, _, _, rfl, rfl, hl5, (by show 0 < sizeLine; exact small1000 (by omega)), ⟨_, rfl⟩, ?_, _, A5, ?_, fun g' hg' => ?_⟩
          · exact fun b o e => by rw [upd_ne (ne_of_none e hlH), upd_ne (ne_of_none e hd)]; exact s4 b o e
          · rw [forget_new ef, eG, tk, groupsL_snoc]
          · rcases List.mem_append.mp hg' with hg' | hg'
            · exact hf g' hg'
            · rw [List.mem_singleton.mp hg']; exact hlH
    · rintro σ H2 ⟨⟨v3, rfl⟩, s2, G, A2, eG, hf⟩
      refine ⟨_, rfl, q d G _ s2 hd A2 ?_⟩
      rw [eG]
      unfold refsOf
      rw [List.length_map, List.take_length]
noncomputable abbrev sFirsts : Stmt := top 10
theorem scFirsts : FnScope ["book", "some"] ["book", "some"] (defScope sFirsts) := ⟨rfl, rfl, rfl, by decide +kernel, rfl, by decide +kernel, by decide +kernel⟩
theorem ok_firsts {f fU : Addr} {fd fdU : FuncData} (F : Fun K "firsts_on" "firsts_on" sFirsts f fd) (GU : FnOk P w K mg base CX0 4 fU fdU ["book", "some"] (spGroups K)) (mU : mg "groups_on" = some (.ref fU)) (kU : PySem.W.keepIn K (.ref fU) = true) (bU : Binds K fdU ["book", "some"] []) : FnOk P w K mg base CX0 5 f fd ["book", "some"] (spFirsts K) := by
  refine F.ok scFirsts (fun vs H Q E h => ?_) (fun cdv A outer s H vs Q E hr h => ?_)
  · obtain ⟨bk, rws, x, m, rfl, _⟩ := h
    rfl
  · obtain ⟨bk, rws, x, m, rfl, hB, hR, m1, m20, hlen, q⟩ := h
    refine ⟨_, (pss_one (ps_ret (pe_comp (xs := ["rows"]) (cs ["book", "some"] (defScope sFirsts) rfl rfl (by decide +kernel)) rfl (pi_vals (pe_call GU hr rfl mU kU bU .nil pass0 (pa_cons (pv 0) (pa_cons (pv 1) pa_nil)))) (fun _ _ _ => pg_name (i := 0) (show (["rows", "book", "some"] : List Str).Nodup by decide +kernel) rfl (Or.inl rfl)) (fun _ _ _ => pts_nil) (fun _ _ _ => (pe_ix (ix_listK (K := K) rfl) (pv 0) pe_int (fun _ _ => rfl)))))), ?_⟩
    refine ⟨_, rfl, _, rfl, bk, rws, x, m, rfl, hB, hR, m1, m20, hlen, fun d G H1 s1 hd A1 eG => ⟨d, _, rfl, A1.dict, fun ob => ?_⟩⟩
    obtain ⟨gl1, gl2⟩ := groups_len x rws
    obtain ⟨gk, gm, gc⟩ := groups_spec x rws
    have Gl := forget_len eG
    have kl : (kvsOf G).length = G.length := by unfold kvsOf; rw [List.length_map]
    have hdf : (upd H1 d (.frz ob (.dT (kvsOf G)))) d = some (.frz ob (.dT (kvsOf G))) := upd_same
    have sf : Same H (upd H1 d (.frz ob (.dT (kvsOf G)))) := fun b o e => by rw [upd_ne (ne_of_none e hd)]; exact s1 b o e
    have lf : ∀ g ∈ G, (upd H1 d (.frz ob (.dT (kvsOf G)))) g.at_ = some (.lst (refsOf g.rows)) := fun g hg => by
      rw [upd_ne (ne_of (A1.lists g hg) A1.dict (fun z => nomatch z))]; exact A1.lists g hg
    generalize upd H1 d (.frz ob (.dT (kvsOf G))) = H2 at hdf sf lf
    refine lc_vals (fun i acc H' => H' = H2 ∧ acc = refsOf ((G.take i).map fun g => g.rows.headD (0, []))) (by omega) ⟨rfl, rfl⟩ (fun i acc H' hi h => ?_) (fun i k v acc H' hv h => ?_) (fun acc H' h => ?_)
    · rw [h.1, h.2]
      refine ⟨hdf, ?_⟩
      unfold refsOf
      rw [List.length_map, List.length_map]
      exact List.length_take_le _ _
    · obtain ⟨rfl, rfl⟩ := h
      obtain ⟨g, eg, rfl⟩ := kvs_at hv
      have hg := List.mem_of_getElem? eg
      obtain ⟨ne, _⟩ := gm _ (forget_mem eG hg)
      obtain ⟨r0, rs, er⟩ : ∃ r0 rs, g.rows = r0 :: rs := by
        cases e : g.rows with
        | nil => exact absurd e ne
        | cons a b => exact ⟨a, b, rfl⟩
      refine ⟨rfl, _, rfl, g.at_, _, _, _, rfl, rfl, SqL.of (lf g hg), atI_nat (j := 0) (v := V.ref r0.1) (by rw [er]; rfl), rfl, ?_⟩
      rw [List.take_succ, eg]
      unfold refsOf
      rw [Option.toList_some, List.map_append, List.map_append, List.map_singleton, List.map_singleton, er]
      rfl
    · obtain ⟨rfl, rfl⟩ := h
      intro p hp
      rw [kl, List.take_length]
      have fst : ∀ g ∈ G, g.rows.headD (0, []) ∈ g.rows := fun g hg => by
        obtain ⟨ne, _⟩ := gm _ (forget_mem eG hg)
        cases e : g.rows with
        | nil => exact absurd e ne
        | cons a b => exact List.mem_cons_self
      refine q p _ _ (sf.trans (Same.new hp)) (sf.free hp) upd_same (fun f hf => ?_) (fun rw0 hr0 => ?_) (by rw [List.length_map]; omega)
      · obtain ⟨g, hg, rfl⟩ := List.mem_map.mp hf
        exact (((gm _ (forget_mem eG hg)).2 _).mp (fst g hg)).1
      · obtain ⟨y, hy, ey⟩ := gc rw0 hr0
        obtain ⟨g, hg, e1, e2⟩ := mem_forget eG hy
        refine ⟨_, List.mem_map.mpr ⟨g, hg, rfl⟩, ?_⟩
        have := (((gm _ (forget_mem eG hg)).2 _).mp (fst g hg)).2
        rw [this]
        show g.key = _
        rw [e1, ey]
noncomputable abbrev sSeenOn : Stmt := top 16
theorem scSeenOn : FnScope ["book", "part"] ["book", "part"] (defScope sSeenOn) := ⟨rfl, rfl, rfl, by decide +kernel, rfl, by decide +kernel, by decide +kernel⟩
theorem ok_seenon {f fE : Addr} {fd fdE : FuncData} (F : Fun K "seen_on" "seen_on" sSeenOn f fd) (GE : FnOk P w K mg base CX0 3 fE fdE ["row", "part"] spSeen) (mE : mg "seen_row" = some (.ref fE)) (kE : PySem.W.keepIn K (.ref fE) = true) (bE : Binds K fdE ["row", "part"] []) (zset : mg "set" = none) (zsorted : mg "sorted" = none) : FnOk P w K mg base CX0 4 f fd ["book", "part"] (spSeenOn K) := by
  refine F.ok scSeenOn (fun vs H Q E h => ?_) (fun cdv A outer s H vs Q E hr h => ?_)
  · obtain ⟨bk, rws, x, m, rfl, _⟩ := h
    rfl
  · obtain ⟨bk, rws, x, m, rfl, hB, hR, m1, m20, hlen, q⟩ := h
    have nd := scSeenOn.nd
    refine ⟨_, (pss_one (ps_ret (pe_callB (call_sortedS rfl) (by rfl) zsorted PyProof.Rows.boot_sorted (pa_cons (pe_callTy (call_setT (K := K) rfl rfl hr.units) (by rfl) zset PyProof.Rows.boot_set (pa_cons (pe_comp (xs := ["row"]) (cs ["book", "part"] (defScope sSeenOn) rfl rfl (by decide +kernel)) rfl (pi_listK (K := K) rfl (pv 0)) (fun _ _ _ => pg_name (i := 0) (show (["row", "book", "part"] : List Str).Nodup by decide +kernel) rfl (Or.inl rfl)) (fun _ _ _ => pts_nil) (fun _ _ _ => (pe_call GE hr rfl mE kE bE .nil pass0 (pa_cons (pv 0) (pa_cons (pv 2) pa_nil))))) pa_nil)) pa_nil)))), ?_⟩
    refine ⟨_, rfl, bk, rfl, ⟨_, hB⟩, ?_⟩
    refine lc_list (xs := refsOf rws) (fun i acc H' => Same H H' ∧ ∃ w : List RW, acc = refsOf w ∧ w.length = i ∧ RowsOk H' m w ∧ w.map (·.2) = (rws.take i).map fun r => seenL r.2 x) (by unfold refsOf; rw [List.length_map]; omega) ⟨Same.refl _, [], rfl, rfl, fun r h => absurd h List.not_mem_nil, rfl⟩ (fun i acc H' hi h => ?_) (fun i y acc H' hy h => ?_) (fun acc H' h => ?_)
    · obtain ⟨s', w, rfl, lw, _⟩ := h
      refine ⟨s'.seq hB, ?_⟩
      unfold refsOf
      rw [List.length_map, lw]
      exact Nat.le_refl _
    · obtain ⟨s', w, rfl, lw, R', ew⟩ := h
      unfold refsOf at hy
      rw [List.getElem?_map] at hy
      cases er : rws[i]? with
      | none => rw [er] at hy; cases hy
      | some rw0 =>
        rw [er] at hy
        obtain rfl := (Option.some.inj hy).symm
        obtain ⟨hrow, hrl⟩ := hR rw0 (List.mem_of_getElem? er)
        refine ⟨rfl, _, rfl, _, rfl, rw0.1, rw0.2, x, rfl, s' _ _ hrow, by omega, by omega, fun p H3 s3 hp hp3 => ⟨s'.trans s3, w ++ [(p, seenL rw0.2 x)], ?_, ?_, fun r hr0 => ?_, ?_⟩⟩
        · unfold refsOf
          rw [List.map_append]
          rfl
        · rw [List.length_append, lw]
          rfl
        · rcases List.mem_append.mp hr0 with hr0 | hr0
          · exact R'.same s3 r hr0
          · rw [List.mem_singleton.mp hr0]
            exact ⟨hp3, (seen_len _ _).trans hrl⟩
        · rw [List.take_succ, er, List.map_append, List.map_append, ew]
          rfl
    · obtain ⟨s1, ws, rfl, lw, R1, ew⟩ := h
      have lrw : (refsOf rws).length = rws.length := List.length_map ..
      rw [lrw] at lw ew
      rw [List.take_length] at ew
      intro e he
      have s2 := Same.new (o := .lst (refsOf ws)) he
      refine ⟨e, m, ws, rfl, SqL.of upd_same, R1.same s2, by omega, fun l ws' hl sub mem nd' => ?_⟩
      have lw' : ws'.length ≤ ws.length := by
        have := nd_len nd' fun k hk => (mem k).mp hk
        rw [List.length_map, List.length_map] at this
        exact this
      have s3 := Same.new (o := tsO w l ws') hl
      have R3 := (R1.same s2).same s3
      refine ⟨l, m, ws', rfl, upd_same, fun r hr0 => R3 r (sub r hr0), m1, by omega, fun l2 w2 hl2 pr up => ?_⟩
      have s4 := Same.new (o := .lst (refsOf w2)) hl2
      refine q l2 w2 _ (s1.trans (s2.trans (s3.trans s4))) (s1.free (s2.free (s3.free hl2))) upd_same (fun r hr0 => (R3.same s4) r (sub r (pr.mem_iff.mp hr0))) (Asc.of up ((pr.map (·.2)).nodup_iff.mpr nd') fun k => ?_)
      rw [(pr.map (·.2)).mem_iff, mem k, ew]
end
end Own

namespace Own
open PySem L2
section
variable {P : Program} {w : World} {K : PySem.W.Frag} {mg : Str → Option Value} {base : Heap}
noncomputable abbrev sSettle : Stmt := top 11
theorem scSettle : FnScope ["book", "left", "right", "rows", "row"] ["book", "left", "right"] (defScope sSettle) := ⟨rfl, rfl, rfl, by decide +kernel, rfl, by decide +kernel, by decide +kernel⟩
theorem ok_settle {f fU fL : Addr} {fd fdU fdL : FuncData} (F : Fun K "settle_breach" "settle_breach" sSettle f fd) (GU : FnOk P w K mg base CX0 4 fU fdU ["book", "some"] (spGroups K)) (mU : mg "groups_on" = some (.ref fU)) (kU : PySem.W.keepIn K (.ref fU) = true) (bU : Binds K fdU ["book", "some"] []) (GL : FnOk P w K mg base CX0 3 fL fdL ["one", "other", "some"] (spAlike K)) (mL : mg "alike" = some (.ref fL)) (kL : PySem.W.keepIn K (.ref fL) = true) (bL : Binds K fdL ["one", "other", "some"] []) : FnOk P w K mg base CX0 5 f fd ["book", "left", "right"] (spSettle K) := by
  refine F.ok scSettle (fun vs H Q E h => ?_) (fun cdv A outer s H vs Q E hr h => ?_)
  · obtain ⟨bk, rws, x, y, m, rfl, _⟩ := h
    rfl
  · obtain ⟨bk, rws, x, y, m, rfl, hBk, hx, hy, qn, qp⟩ := h
    have nd := scSettle.nd
    have hr3 : Room 3 _ := hr.mono (by decide)
    obtain ⟨hB, hR, m1, m7, hlen⟩ := hBk
    have m8 : m < 8 := by omega
    have pw : 2 ^ m ≤ 2 ^ 7 := Nat.pow_le_pow_right (by decide) m7
    obtain ⟨gl1, gl2⟩ := groups_len x rws
    obtain ⟨gk, gm, gc⟩ := groups_spec x rws

    refine ⟨_, (pss_cons (ps_for PassesOwn.never rfl (pi_vals (pe_call GU hr rfl mU kU bU .nil pass0 (pa_cons (pv 0) (pa_cons (pv 1) pa_nil)))) (pg_name (i := 3) nd rfl (Or.inl rfl)) (pss_one (ps_for PassesOwn.never rfl (pi_listK (K := K) rfl (pv 3)) (pg_name (i := 4) nd rfl (Or.inl rfl)) (pss_one (ps_if (pt_not (pt_val (pe_call GL hr3 rfl mL kL bL .nil pass0 (pa_cons (pe_ix (ix_listK (K := K) rfl) (pv 3) pe_int (fun _ _ => rfl)) (pa_cons (pv 4) (pa_cons (pv 2) pa_nil)))))) (pss_one (ps_ret (pe_tup (pa_cons (pe_ix (ix_listK (K := K) rfl) (pv 3) pe_int (fun _ _ => rfl)) (pa_cons (pv 4) pa_nil))))) pss_nil)))))
      (pss_one (ps_ret pe_non))), ?_⟩
    refine ⟨_, rfl, _, rfl, bk, rws, x, m, rfl, hB, hR, m1, by omega, hlen, fun d G H1 s1 hd A1 eG => ⟨d, _, rfl, A1.dict, fun ob => ?_⟩⟩
    have Gl := forget_len eG
    have kl : (kvsOf G).length = G.length := by unfold kvsOf; rw [List.length_map]
    have hdf : (upd H1 d (.frz ob (.dT (kvsOf G)))) d = some (.frz ob (.dT (kvsOf G))) := upd_same
    have sf : Same H (upd H1 d (.frz ob (.dT (kvsOf G)))) := fun b o e => by rw [upd_ne (ne_of_none e hd)]; exact s1 b o e
    have lf : ∀ g ∈ G, (upd H1 d (.frz ob (.dT (kvsOf G)))) g.at_ = some (.lst (refsOf g.rows)) := fun g hg => by
      rw [upd_ne (ne_of (A1.lists g hg) A1.dict (fun z => nomatch z))]; exact A1.lists g hg
    generalize upd H1 d (.frz ob (.dT (kvsOf G))) = H2 at hdf sf lf
    have inG : ∀ g ∈ G, ∀ rw0, rw0 ∈ g.rows ↔ rw0 ∈ rws ∧ seenL rw0.2 x = g.key := fun g hg => (gm _ (forget_mem eG hg)).2

    refine for_vals (fun i σ H' => (∃ v3 v4, σ = [some (.ref bk), some (vN x), some (vN y), v3, v4]) ∧ Same H2 H' ∧ ∀ j g, j < i → G[j]? = some g → ∀ a ∈ g.rows, ∀ b ∈ g.rows, seenL a.2 y = seenL b.2 y) ⟨⟨none, none, rfl⟩, Same.refl _, fun j g h => absurd h (Nat.not_lt_zero _)⟩ (fun i σ H' _ h => h.2.1 _ _ hdf) ?_ ?_
    · rintro i k v σ H' hv ⟨⟨v3, v4, rfl⟩, s', hj⟩
      obtain ⟨g, eg, rfl⟩ := kvs_at hv
      have hg := List.mem_of_getElem? eg
      obtain ⟨ne, _⟩ := gm _ (forget_mem eG hg)
      obtain ⟨r0, rs, er⟩ : ∃ r0 rs, g.rows = r0 :: rs := by
        cases e : g.rows with
        | nil => exact absurd e ne
        | cons a b => exact ⟨a, b, rfl⟩
      have hr0 : r0 ∈ g.rows := by rw [er]; exact List.mem_cons_self
      obtain ⟨r0r, r0k⟩ := (inG g hg r0).mp hr0
      obtain ⟨t0, l0⟩ := hR r0 r0r
      refine ⟨_, rfl, g.at_, rfl, ⟨_, SqL.of (s' _ _ (lf g hg))⟩, for_list (xs := refsOf g.rows) (fun j σ H'' => (∃ v4, σ = [some (.ref bk), some (vN x), some (vN y), some (.ref g.at_), v4]) ∧ Same H2 H'' ∧ ∀ b ∈ g.rows.take j, seenL r0.2 y = seenL b.2 y) ⟨⟨_, rfl⟩, s', fun b h => absurd h (by rw [List.take_zero]; exact List.not_mem_nil)⟩ (fun j σ H'' _ h => SqL.of (h.2.1 _ _ (lf g hg))) ?_ ?_⟩
      · rintro j v σ H'' hv' ⟨⟨v4', rfl⟩, s'', hb⟩
        unfold refsOf at hv'
        rw [List.getElem?_map] at hv'
        cases eb : g.rows[j]? with
        | none => rw [eb] at hv'; cases hv'
        | some b =>
          rw [eb] at hv'
          obtain rfl := (Option.some.inj hv').symm
          have hbm := List.mem_of_getElem? eb
          obtain ⟨bb, bk'⟩ := (inG g hg b).mp hbm
          obtain ⟨tb, lb⟩ := hR b bb
          have S := sf.trans s''
          have cl : ∀ c ∈ colsN y, c < m := fun c hc => ((mem_cols m8 hy).mp hc).1
          refine ⟨_, rfl, g.at_, _, _, _, rfl, rfl, SqL.of (s'' _ _ (lf g hg)), atI_nat (j := 0) (v := V.ref r0.1) (by rw [er]; rfl), _, rfl, _, rfl, r0.1, b.1, r0.2, b.2, y, rfl, SqT.of (S _ _ t0), SqT.of (S _ _ tb), by omega, fun c hc => ⟨by have := cl c hc; omega, by have := cl c hc; omega⟩, fun H3 s3 => ⟨_, rfl, ?_⟩⟩
          have S3 := S.trans s3
          cases ea : alikeL r0.2 b.2 y with
          | true =>
            refine iteF ?_
            refine ⟨⟨_, rfl⟩, s''.trans s3, fun c hc => ?_⟩
            rw [List.take_succ, eb] at hc
            rcases List.mem_append.mp hc with hc | hc
            · exact hb c hc
            · have ec : c = b := by simpa using hc
              rw [ec]
              exact (alike_seen m8 hy l0 lb).mp ea
          | false =>
            refine iteT ?_
            refine ⟨_, rfl, g.at_, _, _, _, rfl, rfl, SqL.of (s3 _ _ (s'' _ _ (lf g hg))), atI_nat (j := 0) (v := V.ref r0.1) (by rw [er]; rfl), _, rfl, (by show 2 ≤ sizeLine; decide), fun p hp => ?_⟩
            refine qp p r0 b _ ⟨r0r, bb, by rw [r0k, bk'], fun e => ?_⟩ (S3.trans (Same.new hp)) (S3.free hp) upd_same
            rw [(alike_seen m8 hy l0 lb).mpr e] at ea
            cases ea
      · rintro σ H'' ⟨⟨v4', rfl⟩, s'', hb⟩
        have hb' : ∀ b ∈ g.rows, seenL r0.2 y = seenL b.2 y := fun b hbm => hb b (by
          unfold refsOf
          rw [List.length_map, List.take_length]; exact hbm)
        refine ⟨⟨_, _, rfl⟩, s'', fun j g' hj' eg' => ?_⟩
        rcases Nat.lt_succ_iff_lt_or_eq.mp hj' with z | rfl
        · exact hj j g' z eg'
        · rw [eg] at eg'
          obtain rfl := Option.some.inj eg'
          exact fun a ha b hb'' => (hb' a ha).symm.trans (hb' b hb'')
    · rintro σ H' ⟨⟨v3, v4, rfl⟩, s', hj⟩
      refine qn H' (sf.trans s') fun a ha b hb hab => ?_
      obtain ⟨z, hz, ez⟩ := gc a ha
      obtain ⟨g, hg, e1, e2⟩ := mem_forget eG hz
      obtain ⟨j, hjl, ej⟩ := List.getElem_of_mem hg
      refine hj j g (by rw [kl]; exact hjl) (by rw [List.getElem?_eq_getElem hjl, ej]) a ((inG g hg a).mpr ⟨ha, by rw [e1, ez]⟩) b ((inG g hg b).mpr ⟨hb, by rw [e1, ez, hab]⟩)
noncomputable abbrev sLack : Stmt := top 12
theorem scLack : FnScope ["rows", "held", "there", "rest", "others", "one", "other"] ["rows", "held"] (defScope sLack) := ⟨rfl, rfl, rfl, by decide +kernel, rfl, by decide +kernel, by decide +kernel⟩
theorem ok_lack {f fA fF fM : Addr} {fd fdA fdF fdM : FuncData} (F : Fun K "lacking_mix" "lacking_mix" sLack f fd) (GA : FnOk P w K mg base CX0 1 fA fdA ["many"] spAllOf) (mA : mg "all_of" = some (.ref fA)) (kA : PySem.W.keepIn K (.ref fA) = true) (bA : Binds K fdA ["many"] []) (GF : FnOk P w K mg base CX0 5 fF fdF ["book", "some"] (spFirsts K)) (mF : mg "firsts_on" = some (.ref fF)) (kF : PySem.W.keepIn K (.ref fF) = true) (bF : Binds K fdF ["book", "some"] []) (GM : FnOk P w K mg base CX0 2 fM fdM ["one", "other", "some"] (spMixed K)) (mM : mg "mixed" = some (.ref fM)) (kM : PySem.W.keepIn K (.ref fM) = true) (bM : Binds K fdM ["one", "other", "some"] []) (zdict : mg "dict" = none) (zlen : mg "len" = none) : FnOk P w K mg base CX0 6 f fd ["rows", "held"] (spLack K) := by
  refine F.ok scLack (fun vs H Q E h => ?_) (fun cdv A outer s H vs Q E hr h => ?_)
  · obtain ⟨bk, rws, x, m, rfl, _⟩ := h
    rfl
  · obtain ⟨bk, rws, x, m, rfl, hBk, hx, hne, qn, qp⟩ := h
    have nd := scLack.nd
    have hr1 : Room 1 _ := hr.mono (by decide)
    have hr2 : Room 2 _ := hr.mono (by decide)
    have hBk' := hBk
    obtain ⟨hB, hR, m1, m7, hlen⟩ := hBk
    have m8 : m < 8 := by omega
    have pw : 2 ^ m ≤ 2 ^ 7 := Nat.pow_le_pow_right (by decide) m7
    obtain ⟨r0, rs0, er0⟩ : ∃ r0 rs, rws = r0 :: rs := by
      cases e : rws with
      | nil => exact absurd e hne
      | cons a b => exact ⟨a, b, rfl⟩
    have hr0 : r0 ∈ rws := by rw [er0]; exact List.mem_cons_self
    refine ⟨_, (pss_cons (ps_set (i := 2) nd rfl (Or.inl rfl) (pe_callTy (call_dictPrs rfl hr.units) (by rfl) zdict PyProof.Rows.boot_dict (pa_cons (pe_comp (xs := ["row"]) (cs ["rows", "held", "there", "rest", "others", "one", "other"] (defScope sLack) rfl rfl (by decide +kernel)) rfl (pi_listK (K := K) rfl (pv 0)) (fun _ _ _ => pg_name (i := 0) (show (["row", "rows", "held", "there", "rest", "others", "one", "other"] : List Str).Nodup by decide +kernel) rfl (Or.inl rfl)) (fun _ _ _ => pts_nil) (fun _ _ _ => (pe_tup (pa_cons (pv 0) (pa_cons pe_bl pa_nil))))) pa_nil)))
      (pss_cons (ps_set (i := 3) nd rfl (Or.inl rfl) (pe_op op_and (pe_call GA hr1 rfl mA kA bA .nil pass0 (pa_cons (pe_callB (call_lenK (K := K) rfl) (by rfl) zlen PySem.boot_len (pa_cons (pe_ix (ix_listK (K := K) rfl) (pv 0) pe_int (fun _ _ => rfl)) pa_nil)) pa_nil)) (pe_un un_inv (pv 1))))
      (pss_cons (ps_set (i := 4) nd rfl (Or.inl rfl) (pe_call GF hr rfl mF kF bF .nil pass0 (pa_cons (pv 0) (pa_cons (pv 3) pa_nil))))
      (pss_cons (ps_for PassesOwn.never rfl (pi_listK (K := K) rfl (pe_call GF hr rfl mF kF bF .nil pass0 (pa_cons (pv 0) (pa_cons (pv 1) pa_nil)))) (pg_name (i := 5) nd rfl (Or.inl rfl)) (pss_one (ps_for PassesOwn.never rfl (pi_listK (K := K) rfl (pv 4)) (pg_name (i := 6) nd rfl (Or.inl rfl)) (pss_one (ps_if (pt_cmp (pc_dnotin (hu_of hr) (pe_call GM hr2 rfl mM kM bM .nil pass0 (pa_cons (pv 5) (pa_cons (pv 6) (pa_cons (pv 1) pa_nil)))) (pv 2))) (pss_one (ps_ret (pe_tup (pa_cons (pv 5) (pa_cons (pv 6) pa_nil))))) pss_nil)))))
      (pss_one (ps_ret pe_non)))))), ?_⟩
    -- there
    refine ⟨_, rfl, bk, rfl, ⟨_, hB⟩, lc_list (xs := refsOf rws) (fun i acc H' => ∃ ps : List Pr, acc = ps.map (fun p => V.ref p.t) ∧ ps.length = i ∧ Same H H' ∧ (∀ p ∈ ps, p.At H') ∧ ps.map (·.k) = (rws.take i).map fun rw0 => tks rw0.2) (by unfold refsOf; rw [List.length_map]; omega)
      ⟨[], rfl, rfl, Same.refl _, (fun p h => absurd h List.not_mem_nil), rfl⟩ (fun i acc H' hi h => ?_) (fun i v acc H' hv h => ?_) (fun acc H' h => ?_)⟩
    · obtain ⟨ps, rfl, e, s', _⟩ := h
      exact ⟨s'.seq hB, by rw [List.length_map, e]; exact Nat.le_refl _⟩
    · obtain ⟨ps, rfl, e, s', hAt, hk⟩ := h
      unfold refsOf at hv
      rw [List.getElem?_map] at hv
      cases er : rws[i]? with
      | none => rw [er] at hv; cases hv
      | some b =>
        rw [er] at hv
        obtain rfl := (Option.some.inj hv).symm
        obtain ⟨tb, lb⟩ := hR b (List.mem_of_getElem? er)
        refine ⟨rfl, _, rfl, (by show 2 ≤ sizeLine; decide), fun t ht => ?_⟩
        have sn := Same.new (o := .tup [V.ref b.1, V.bl true]) ht
        refine ⟨ps ++ [⟨t, tks b.2, b.1, .bl true⟩], by rw [List.map_append]; rfl, by rw [List.length_append, e]; rfl, s'.trans sn, fun p hp => ?_, ?_⟩
        · rcases List.mem_append.mp hp with hp | hp
          · exact ⟨sn _ _ (hAt p hp).1, sn _ _ (hAt p hp).2⟩
          · rw [List.mem_singleton.mp hp]
            exact ⟨upd_same, by rw [tks_kV]; exact sn _ _ (s' _ _ tb)⟩
        · rw [List.map_append, hk, List.take_succ, er, List.map_append]
          rfl
    obtain ⟨ps, rfl, epl, s1, hAt, hk⟩ := h
    have rl : (refsOf rws).length = rws.length := by unfold refsOf; rw [List.length_map]
    rw [rl, List.take_length] at hk
    intro l hl
    have sl := Same.new (o := .lst (ps.map fun p => V.ref p.t)) hl
    refine ⟨l, ps, rfl, upd_same, fun p hp => ⟨sl _ _ (hAt p hp).1, sl _ _ (hAt p hp).2⟩, by omega, fun d hd => ?_⟩
    have s2 : Same H (upd (upd H' l (.lst (ps.map fun p => V.ref p.t))) d (.dT (putAll [] ps))) := s1.trans (sl.trans (Same.new hd))
    have hd2 : (upd (upd H' l (.lst (ps.map fun p => V.ref p.t))) d (.dT (putAll [] ps))) d = some (.dT (putAll [] ps)) := upd_same
    generalize upd (upd H' l (.lst (ps.map fun p => V.ref p.t))) d (.dT (putAll [] ps)) = H2 at s2 hd2
    -- rest
    obtain ⟨t0, l0⟩ := hR r0 hr0
    refine ⟨_, rfl, bk, _, _, _, rfl, rfl, s2.seq hB, atI_nat (j := 0) (v := V.ref r0.1) (by rw [er0]; rfl), r0.1, _, rfl, .inr (SqT.of (s2 _ _ t0)), (r0.2.map V.int).length, rfl, by rw [List.length_map]; omega, _, rfl, _, rfl, _, _, rfl, rfl, ?_⟩
    dsimp only
    rw [List.length_map, l0, rest_eq m m8 x hx]
    have hrest : 2 ^ m - 1 - x < 2 ^ m := by omega
    -- others
    refine ⟨_, rfl, _, rfl, bk, rws, 2 ^ m - 1 - x, m, rfl, s2.seq hB, hR.same s2, m1, by omega, hlen, fun po fo H3 s3 hpo hpo3 fo1 fo2 fo3 => ?_⟩
    refine ⟨_, rfl, _, rfl, bk, rws, x, m, rfl, (s2.trans s3).seq hB, (hR.same s2).same s3, m1, by omega, hlen, fun pe fe H4 s4 hpe hpe4 fe1 fe2 fe3 => ?_⟩
    have s24 : Same H2 H4 := s3.trans s4
    have hpo4 := s4 _ _ hpo3
    refine ⟨pe, rfl, ⟨_, SqL.of hpe4⟩, for_list (xs := refsOf fe) (fun i σ H' => (∃ v5 v6, σ = [some (.ref bk), some (vN x), some (.ref d), some (vN (2 ^ m - 1 - x)), some (.ref po), v5, v6]) ∧ Same H4 H' ∧ ∀ a ∈ fe.take i, ∀ b ∈ fo, ∃ c ∈ rws, c.2 = mixL a.2 b.2 x) ⟨⟨none, none, rfl⟩, Same.refl _, fun a h => absurd h (by rw [List.take_zero]; exact List.not_mem_nil)⟩ (fun i σ H' _ h => SqL.of (h.2.1 _ _ hpe4)) ?_ ?_⟩
    · rintro i v σ H' hv ⟨⟨v5, v6, rfl⟩, s', hc⟩
      unfold refsOf at hv
      rw [List.getElem?_map] at hv
      cases er : fe[i]? with
      | none => rw [er] at hv; cases hv
      | some a =>
        rw [er] at hv
        obtain rfl := (Option.some.inj hv).symm
        have ha := fe1 a (List.mem_of_getElem? er)
        obtain ⟨ta, la⟩ := hR a ha
        refine ⟨_, rfl, po, rfl, ⟨_, SqL.of (s' _ _ hpo4)⟩, for_list (xs := refsOf fo) (fun j σ H'' => (∃ v6, σ = [some (.ref bk), some (vN x), some (.ref d), some (vN (2 ^ m - 1 - x)), some (.ref po), some (.ref a.1), v6]) ∧ Same H4 H'' ∧ ∀ b ∈ fo.take j, ∃ c ∈ rws, c.2 = mixL a.2 b.2 x) ⟨⟨_, rfl⟩, s', fun b h => absurd h (by rw [List.take_zero]; exact List.not_mem_nil)⟩ (fun j σ H'' _ h => SqL.of (h.2.1 _ _ hpo4)) ?_ ?_⟩
        · rintro j v σ H'' hv' ⟨⟨v6', rfl⟩, s'', hc'⟩
          unfold refsOf at hv'
          rw [List.getElem?_map] at hv'
          cases eb : fo[j]? with
          | none => rw [eb] at hv'; cases hv'
          | some b =>
            rw [eb] at hv'
            obtain rfl := (Option.some.inj hv').symm
            have hb := fo1 b (List.mem_of_getElem? eb)
            obtain ⟨tb, lb⟩ := hR b hb
            have S : Same H H'' := s2.trans (s24.trans s'')
            refine ⟨_, rfl, _, rfl, _, rfl, a.1, b.1, a.2, b.2, x, rfl, SqT.of (S _ _ ta), SqT.of (S _ _ tb), by omega, by omega, fun p5 H5 s5 hp5 hp6 => ?_⟩
            have hd5 := s5 _ _ (s'' _ _ (s24 _ _ hd2))
            refine ⟨_, rfl, d, _, rfl, DGet.t (k := tks (mixL a.2 b.2 x)) hd5 (by rw [tks_kV]; exact hp6), _, rfl, ?_⟩
            rw [valV_putAll]
            have iff : (ps.any fun p => decide (p.k = tks (mixL a.2 b.2 x))) = true ↔ ∃ c ∈ rws, c.2 = mixL a.2 b.2 x := by
              rw [List.any_eq_true]
              constructor
              · rintro ⟨p, hp, e⟩
                have : p.k ∈ rws.map fun rw0 => tks rw0.2 := by rw [← hk]; exact List.mem_map.mpr ⟨p, hp, rfl⟩
                obtain ⟨c, hcm, ec⟩ := List.mem_map.mp this
                exact ⟨c, hcm, tks_inj (ec.trans (of_decide_eq_true e))⟩
              · rintro ⟨c, hcm, ec⟩
                have : tks c.2 ∈ ps.map (·.k) := by rw [hk]; exact List.mem_map.mpr ⟨c, hcm, rfl⟩
                obtain ⟨p, hp, ep⟩ := List.mem_map.mp this
                exact ⟨p, hp, decide_eq_true (by rw [ep, ec])⟩
            cases en : (ps.any fun p => decide (p.k = tks (mixL a.2 b.2 x))) with
            | true =>
              refine iteF ?_
              refine ⟨⟨_, rfl⟩, s''.trans s5, fun c hcc => ?_⟩
              rw [List.take_succ, eb] at hcc
              rcases List.mem_append.mp hcc with hcc | hcc
              · exact hc' c hcc
              · have ec : c = b := by simpa using hcc
                rw [ec]
                exact iff.mp en
            | false =>
              refine iteT ?_
              refine ⟨_, rfl, _, rfl, (by show 2 ≤ sizeLine; decide), fun p hp => ?_⟩
              refine qp p a b _ ⟨ha, hb, fun c hcm ec => ?_⟩ ((S.trans s5).trans (Same.new hp)) ((S.trans s5).free hp) upd_same
              rw [iff.mpr ⟨c, hcm, ec⟩] at en
              cases en
        · rintro σ H'' ⟨⟨v6', rfl⟩, s'', hc'⟩
          have fl : (refsOf fo).length = fo.length := by unfold refsOf; rw [List.length_map]
          rw [fl, List.take_length] at hc'
          refine ⟨⟨_, _, rfl⟩, s'', fun c hcc => ?_⟩
          rw [List.take_succ, er] at hcc
          rcases List.mem_append.mp hcc with hcc | hcc
          · exact hc c hcc
          · have ec : c = a := by simpa using hcc
            rw [ec]
            exact hc'
    · rintro σ H' ⟨⟨v5, v6, rfl⟩, s', hc⟩
      have fl : (refsOf fe).length = fe.length := by unfold refsOf; rw [List.length_map]
      rw [fl, List.take_length] at hc
      refine qn H' (s2.trans (s24.trans s')) fun a ha b hb => ?_
      obtain ⟨a', ha', ea⟩ := fe2 a ha
      obtain ⟨b', hb', eb⟩ := fo2 b hb
      obtain ⟨c, hcm, ec⟩ := hc a' ha' b' hb'
      refine ⟨c, hcm, ec.trans ?_⟩
      exact mix_congr m8 hx (hR a' (fe1 a' ha')).2 (hR b' (fo1 b' hb')).2 (hR a ha).2 (hR b hb).2 ea eb
noncomputable abbrev sDeal : Stmt := top 13
theorem scDeal : FnScope ["book", "left", "right", "rows", "found"] ["book", "left", "right"] (defScope sDeal) := ⟨rfl, rfl, rfl, by decide +kernel, rfl, by decide +kernel, by decide +kernel⟩
theorem ok_deal {f fU fX : Addr} {fd fdU fdX : FuncData} (F : Fun K "deal_breach" "deal_breach" sDeal f fd) (GU : FnOk P w K mg base CX0 4 fU fdU ["book", "some"] (spGroups K)) (mU : mg "groups_on" = some (.ref fU)) (kU : PySem.W.keepIn K (.ref fU) = true) (bU : Binds K fdU ["book", "some"] []) (GX : FnOk P w K mg base CX0 6 fX fdX ["rows", "held"] (spLack K)) (mX : mg "lacking_mix" = some (.ref fX)) (kX : PySem.W.keepIn K (.ref fX) = true) (bX : Binds K fdX ["rows", "held"] []) : FnOk P w K mg base CX0 7 f fd ["book", "left", "right"] (spDeal K) := by
  refine F.ok scDeal (fun vs H Q E h => ?_) (fun cdv A outer s H vs Q E hr h => ?_)
  · obtain ⟨bk, rws, x, y, m, rfl, _⟩ := h
    rfl
  · obtain ⟨bk, rws, x, y, m, rfl, hBk, hx, hy, qn, qp⟩ := h
    have nd := scDeal.nd
    have hr4 : Room 4 _ := hr.mono (by decide)
    obtain ⟨hB, hR, m1, m7, hlen⟩ := hBk
    have m8 : m < 8 := by omega
    have pw : 2 ^ m ≤ 2 ^ 7 := Nat.pow_le_pow_right (by decide) m7
    obtain ⟨gl1, gl2⟩ := groups_len x rws
    obtain ⟨gk, gm, gc⟩ := groups_spec x rws

    refine ⟨_, (pss_cons (ps_for PassesOwn.never rfl (pi_vals (pe_call GU hr4 rfl mU kU bU .nil pass0 (pa_cons (pv 0) (pa_cons (pv 1) pa_nil)))) (pg_name (i := 3) nd rfl (Or.inl rfl)) (pss_cons (ps_set (i := 4) nd rfl (Or.inl rfl) (pe_call GX hr rfl mX kX bX .nil pass0 (pa_cons (pv 3) (pa_cons (pe_op op_orN (pv 1) (pv 2)) pa_nil))))
      (pss_one (ps_if (pt_cmpR op_notN (pv 4) pe_non (nomark _)) (pss_one (ps_ret (pv 4))) pss_nil))))
      (pss_one (ps_ret pe_non))), ?_⟩
    refine ⟨_, rfl, _, rfl, bk, rws, x, m, rfl, hB, hR, m1, by omega, hlen, fun d G H1 s1 hd A1 eG => ⟨d, _, rfl, A1.dict, fun ob => ?_⟩⟩
    have Gl := forget_len eG
    have kl : (kvsOf G).length = G.length := by unfold kvsOf; rw [List.length_map]
    have hdf : (upd H1 d (.frz ob (.dT (kvsOf G)))) d = some (.frz ob (.dT (kvsOf G))) := upd_same
    have sf : Same H (upd H1 d (.frz ob (.dT (kvsOf G)))) := fun b o e => by rw [upd_ne (ne_of_none e hd)]; exact s1 b o e
    have lf : ∀ g ∈ G, (upd H1 d (.frz ob (.dT (kvsOf G)))) g.at_ = some (.lst (refsOf g.rows)) := fun g hg => by
      rw [upd_ne (ne_of (A1.lists g hg) A1.dict (fun z => nomatch z))]; exact A1.lists g hg
    generalize upd H1 d (.frz ob (.dT (kvsOf G))) = H2 at hdf sf lf
    have inG : ∀ g ∈ G, ∀ rw0, rw0 ∈ g.rows ↔ rw0 ∈ rws ∧ seenL rw0.2 x = g.key := fun g hg => (gm _ (forget_mem eG hg)).2

    have hxy : x ||| y < 2 ^ m := Nat.or_lt_two_pow hx hy
    refine for_vals (fun i σ H' => (∃ v3 v4, σ = [some (.ref bk), some (vN x), some (vN y), v3, v4]) ∧ Same H2 H' ∧ ∀ j g, j < i → G[j]? = some g → ∀ a ∈ g.rows, ∀ b ∈ g.rows, ∃ c ∈ g.rows, c.2 = mixL a.2 b.2 (x ||| y)) ⟨⟨none, none, rfl⟩, Same.refl _, fun j g h => absurd h (Nat.not_lt_zero _)⟩ (fun i σ H' _ h => h.2.1 _ _ hdf) ?_ ?_
    · rintro i k v σ H' hv ⟨⟨v3, v4, rfl⟩, s', hj⟩
      obtain ⟨g, eg, rfl⟩ := kvs_at hv
      have hg := List.mem_of_getElem? eg
      obtain ⟨ne, _⟩ := gm _ (forget_mem eG hg)
      have gr : ∀ b ∈ g.rows, b ∈ rws := fun b hb => ((inG g hg b).mp hb).1
      have S := sf.trans s'
      have gl : g.rows.length ≤ rws.length := gl2 _ (forget_mem eG hg)
      refine ⟨_, rfl, _, rfl, _, rfl, x, y, rfl, rfl, g.at_, g.rows, x ||| y, m, rfl, ⟨SqL.of (s' _ _ (lf g hg)), fun b hb => (hR.same S) b (gr b hb), m1, m7, by omega⟩, hxy, ne, fun H3 s3 ok => ?_, fun p a b H3 bad s3 hp hp3 => ?_⟩
      · refine ⟨_, rfl, rfl, _, rfl, ?_⟩
        refine iteF ?_
        refine ⟨⟨_, _, rfl⟩, s'.trans s3, fun j g' hj' eg' => ?_⟩
        rcases Nat.lt_succ_iff_lt_or_eq.mp hj' with z | rfl
        · exact hj j g' z eg'
        · rw [eg] at eg'
          obtain rfl := Option.some.inj eg'
          exact ok
      · refine ⟨_, rfl, rfl, _, rfl, ?_⟩
        refine iteT ?_
        refine ⟨_, rfl, ?_⟩
        obtain ⟨ha, hb, hc⟩ := bad
        obtain ⟨ha1, ha2⟩ := (inG g hg a).mp ha
        obtain ⟨hb1, hb2⟩ := (inG g hg b).mp hb
        refine qp p a b H3 ⟨ha1, hb1, ha2.trans hb2.symm, fun c hcm ec => hc c ((inG g hg c).mpr ⟨hcm, ?_⟩) ec⟩ (S.trans s3) (S.free hp) hp3
        rw [ec, seen_mix m8 hx hy (hR a ha1).2, ha2]
    · rintro σ H' ⟨⟨v3, v4, rfl⟩, s', hj⟩
      refine qn H' (sf.trans s') fun a ha b hb hab => ?_
      obtain ⟨z, hz, ez⟩ := gc a ha
      obtain ⟨g, hg, e1, e2⟩ := mem_forget eG hz
      obtain ⟨j, hjl, ej⟩ := List.getElem_of_mem hg
      obtain ⟨c, hc, ec⟩ := hj j g (by rw [kl]; exact hjl) (by rw [List.getElem?_eq_getElem hjl, ej]) a ((inG g hg a).mpr ⟨ha, by rw [e1, ez]⟩) b ((inG g hg b).mpr ⟨hb, by rw [e1, ez, hab]⟩)
      exact ⟨c, ((inG g hg c).mp hc).1, ec⟩
noncomputable abbrev sBreach : Stmt := top 14
theorem scBreach : FnScope ["book", "rule"] ["book", "rule"] (defScope sBreach) := ⟨rfl, rfl, rfl, by decide +kernel, rfl, by decide +kernel, by decide +kernel⟩
theorem ok_breach {f fS2 fD2 : Addr} {fd fdS2 fdD2 : FuncData} (F : Fun K "breach" "breach" sBreach f fd) (GS2 : FnOk P w K mg base CX0 5 fS2 fdS2 ["book", "left", "right"] (spSettle K)) (mS2 : mg "settle_breach" = some (.ref fS2)) (kS2 : PySem.W.keepIn K (.ref fS2) = true) (bS2 : Binds K fdS2 ["book", "left", "right"] []) (GD2 : FnOk P w K mg base CX0 7 fD2 fdD2 ["book", "left", "right"] (spDeal K)) (mD2 : mg "deal_breach" = some (.ref fD2)) (kD2 : PySem.W.keepIn K (.ref fD2) = true) (bD2 : Binds K fdD2 ["book", "left", "right"] []) : FnOk P w K mg base CX0 8 f fd ["book", "rule"] (spBreach K) := by
  refine F.ok scBreach (fun vs H Q E h => ?_) (fun cdv A outer s H vs Q E hr h => ?_)
  · obtain ⟨bk, r, rws, st, x, y, m, rfl, _⟩ := h
    rfl
  · obtain ⟨bk, r, rws, st, x, y, m, rfl, hBk, hr', hx, hy, qn, qp⟩ := h
    have hr5 : Room 5 _ := hr.mono (by decide)
    refine ⟨_, (pss_cons (ps_if (pt_cmpR op_eq (pe_ix (ix_tupK (K := K) rfl) (pv 1) pe_int (fun _ _ => rfl)) pe_str (nomark _)) (pss_one (ps_ret (pe_call GS2 hr5 rfl mS2 kS2 bS2 .nil pass0 (pa_cons (pv 0) (pa_cons (pe_ix (ix_tupK (K := K) rfl) (pv 1) pe_int (fun _ _ => rfl)) (pa_cons (pe_ix (ix_tupK (K := K) rfl) (pv 1) pe_int (fun _ _ => rfl)) pa_nil)))))) pss_nil)
      (pss_one (ps_ret (pe_call GD2 hr rfl mD2 kD2 bD2 .nil pass0 (pa_cons (pv 0) (pa_cons (pe_ix (ix_tupK (K := K) rfl) (pv 1) pe_int (fun _ _ => rfl)) (pa_cons (pe_ix (ix_tupK (K := K) rfl) (pv 1) pe_int (fun _ _ => rfl)) pa_nil))))))), ?_⟩
    have ix : ∀ (j : Nat) (v : V), ([.str (wordS st), vN x, vN y] : List V)[j]? = some v → atI ([.str (wordS st), vN x, vN y] : List V) (j : Int) = some v := fun j v e => atI_nat e
    refine ⟨_, rfl, r, _, _, _, rfl, rfl, SqT.of hr', ix 0 _ rfl, rfl, _, rfl, ?_⟩
    cases st with
    | true =>
      refine iteT ?_
      refine ⟨_, rfl, _, rfl, r, _, _, _, rfl, rfl, SqT.of hr', ix 1 _ rfl, _, rfl, r, _, _, _, rfl, rfl, SqT.of hr', ix 2 _ rfl, ?_⟩
      exact ⟨bk, rws, x, y, m, rfl, hBk, hx, hy, fun H' s' ok => qn H' s' ok, fun p a b H' bad s' hp hp' => qp p a b H' bad s' hp hp'⟩
    | false =>
      refine ite2 (fun hc => ?_) (fun _ => ?_)
      · exact absurd (of_decide_eq_true hc) (by intro z; injection z with z; revert z; decide)
      refine ⟨_, rfl, _, rfl, r, _, _, _, rfl, rfl, SqT.of hr', ix 1 _ rfl, _, rfl, r, _, _, _, rfl, rfl, SqT.of hr', ix 2 _ rfl, ?_⟩
      exact ⟨bk, rws, x, y, m, rfl, hBk, hx, hy, fun H' s' ok => qn H' s' ok, fun p a b H' bad s' hp hp' => qp p a b H' bad s' hp hp'⟩
noncomputable abbrev sKeeps : Stmt := top 15
theorem scKeeps : FnScope ["book", "rules", "rule"] ["book", "rules"] (defScope sKeeps) := ⟨rfl, rfl, rfl, by decide +kernel, rfl, by decide +kernel, by decide +kernel⟩
theorem ok_keeps {f fB : Addr} {fd fdB : FuncData} (F : Fun K "keeps" "keeps" sKeeps f fd) (GB : FnOk P w K mg base CX0 8 fB fdB ["book", "rule"] (spBreach K)) (mB : mg "breach" = some (.ref fB)) (kB : PySem.W.keepIn K (.ref fB) = true) (bB : Binds K fdB ["book", "rule"] []) : FnOk P w K mg base CX0 9 f fd ["book", "rules"] (spKeeps K) := by
  refine F.ok scKeeps (fun vs H Q E h => ?_) (fun cdv A outer s H vs Q E hr h => ?_)
  · obtain ⟨bk, rl, rws, rs, m, rfl, _⟩ := h
    rfl
  · obtain ⟨bk, rl, rws, rs, m, rfl, hBk, hrl, hlen, hrs, q⟩ := h
    have nd := scKeeps.nd
    refine ⟨_, (pss_cons (ps_for PassesOwn.never rfl (pi_listK (K := K) rfl (pv 1)) (pg_name (i := 2) nd rfl (Or.inl rfl)) (pss_one (ps_if (pt_cmpR op_notN (pe_call GB hr rfl mB kB bB .nil pass0 (pa_cons (pv 0) (pa_cons (pv 2) pa_nil))) pe_non (nomark _)) (pss_one (ps_ret pe_bl)) pss_nil)))
      (pss_one (ps_ret pe_bl))), ?_⟩
    refine ⟨_, rfl, rl, rfl, ⟨_, hrl⟩, for_list (xs := rs.map fun r => V.ref r.r) (fun i σ H' => (∃ v, σ = [some (.ref bk), some (.ref rl), v]) ∧ Same H H' ∧ ∀ r ∈ rs.take i, ROk rws r.st r.x r.y) ⟨⟨none, rfl⟩, Same.refl _, fun r h => absurd h (by rw [List.take_zero]; exact List.not_mem_nil)⟩ (fun i σ H' _ h => h.2.1.seq hrl) ?_ ?_⟩
    · rintro i v σ H' hv ⟨⟨v2, rfl⟩, s', hok⟩
      rw [List.getElem?_map] at hv
      cases er : rs[i]? with
      | none => rw [er] at hv; cases hv
      | some r =>
        rw [er] at hv
        obtain rfl := (Option.some.inj hv).symm
        obtain ⟨ra, rx, ry⟩ := hrs r (List.mem_of_getElem? er)
        refine ⟨_, rfl, _, rfl, bk, r.r, rws, r.st, r.x, r.y, m, rfl, hBk.same s', s' _ _ ra, rx, ry, fun H3 s3 ok => ?_, fun p a b H3 bad s3 hp hp3 => ?_⟩
        · refine ⟨rfl, _, rfl, ?_⟩
          refine iteF ?_
          refine ⟨⟨_, rfl⟩, s'.trans s3, fun z hz => ?_⟩
          rw [List.take_succ, er] at hz
          rcases List.mem_append.mp hz with hz | hz
          · exact hok z hz
          · have ez : z = r := by simpa using hz
            rw [ez]; exact ok
        · refine ⟨rfl, _, rfl, ?_⟩
          refine iteT ?_
          exact q false _ (s'.trans s3) ⟨fun z => absurd z Bool.false_ne_true, fun all => absurd (all r (List.mem_of_getElem? er)) bad.not⟩
    · rintro σ H' ⟨⟨v2, rfl⟩, s', hok⟩
      refine q true H' s' ⟨fun _ => ?_, fun _ => rfl⟩
      rw [List.length_map, List.take_length] at hok
      exact hok
end
end Own

namespace Own
open PySem L2
section
variable {P : Program} {w : World} {K : PySem.W.Frag} {mg : Str → Option Value} {base : Heap}
noncomputable abbrev sLaw : Stmt := top 27
theorem scLaw : FnScope ["_law_script", "_law_state", "_law_many", "_law_size", "_law_rows", "_law_part", "_law_beside", "_law_both", "_law_found", "_law_more", "_law_pair"] ["_law_script"] (defScope sLaw) := ⟨rfl, rfl, rfl, by decide +kernel, rfl, by decide +kernel, by decide +kernel⟩

noncomputable def spLaw (K : PySem.W.Frag) : Sp := fun vs H Q _ => ∃ (a : Addr) (ns : List Int), vs = [.ref a] ∧ SqF K H a ns ∧ ns.length ≤ 63 ∧ ∀ H', Q (.bl true) H'
noncomputable def P15 (K : PySem.W.Frag) (a : Addr) (ns : List Int) (σ : St) (H : Hp) : Prop := ∃ (st : Addr) (m n k : Nat), σ = [some (.ref a), some (.ref st), some (vN m), some (vN n), none, none, none, none, none, none, none] ∧ 1 ≤ m ∧ m ≤ 7 ∧ 1 ≤ n ∧ n ≤ 16 ∧ L2.STF K H st ns k ∧ k ≤ 4
noncomputable def P15b (a : Addr) (σ : St) (H : Hp) : Prop := ∃ (st p fo : Addr) (m n : Nat) (rws wf : List RW) (x y : Nat), σ = [some (.ref a), some (.ref st), some (vN m), some (vN n), some (.ref p), some (vN x), some (vN y), some (vN (x &&& y)), some (.ref fo), none, none] ∧ 1 ≤ m ∧ m ≤ 7 ∧ x < 2 ^ m ∧ y < 2 ^ m ∧ (∀ k, k < m → hasB x k = true ∨ hasB y k = true) ∧ rws.length ≤ 16 ∧ wf.length ≤ 256 ∧ H p = some (.lst (refsOf rws)) ∧ RowsOk H m rws ∧ H fo = some (.lst (refsOf wf)) ∧ RowsOk H m wf ∧ Asc (wf.map (·.2)) (joinL rws rws (x &&& y) x)
theorem ok_law {f fT fS fK fO fPT fZ fB fX fIM : Addr} {fd fdT fdS fdK fdO fdPT fdZ fdB fdX fdIM : FuncData} (F : Fun K "law" "law" sLaw f fd)
    (GT : FnOk P w K mg base CX0 1 fT fdT ["_law_state", "_law_most"] (spTakeF K)) (mT : mg "_law_take" = some (.ref fT)) (kT : PySem.W.keepIn K (.ref fT) = true) (bT : Binds K fdT ["_law_state", "_law_most"] []) (GS : FnOk P w K mg base CX0 2 fS fdS ["_law_state", "_law_many"] (spSetF K)) (mS : mg "_law_set" = some (.ref fS)) (kS : PySem.W.keepIn K (.ref fS) = true) (bS : Binds K fdS ["_law_state", "_law_many"] []) (GK : FnOk P w K mg base CX0 3 fK fdK ["_law_state", "_law_many", "_law_size"] (spBook K)) (mK : mg "_law_book" = some (.ref fK)) (kK : PySem.W.keepIn K (.ref fK) = true) (bK : Binds K fdK ["_law_state", "_law_many", "_law_size"] []) (GO : FnOk P w K mg base CX0 4 fO fdO ["book", "part"] (spSeenOn K)) (mO : mg "seen_on" = some (.ref fO)) (kO : PySem.W.keepIn K (.ref fO) = true) (bO : Binds K fdO ["book", "part"] []) (GPT : FnOk P w K mg base CX0 5 fPT fdPT ["one", "part", "other", "beside"] (spPut K)) (mPT : mg "put_together" = some (.ref fPT)) (kPT : PySem.W.keepIn K (.ref fPT) = true) (bPT : Binds K fdPT ["one", "part", "other", "beside"] []) (GZ : FnOk P w K mg base CX0 9 fZ fdZ ["book", "rules"] (spKeeps K)) (mZ : mg "keeps" = some (.ref fZ)) (kZ : PySem.W.keepIn K (.ref fZ) = true) (bZ : Binds K fdZ ["book", "rules"] []) (GB : FnOk P w K mg base CX0 8 fB fdB ["book", "rule"] (spBreach K)) (mB : mg "breach" = some (.ref fB)) (kB : PySem.W.keepIn K (.ref fB) = true) (bB : Binds K fdB ["book", "rule"] []) (GX : FnOk P w K mg base CX0 2 fX fdX ["_law_one", "_law_other", "_law_some"] (spMixed K)) (mX : mg "_law_mix" = some (.ref fX)) (kX : PySem.W.keepIn K (.ref fX) = true) (bX : Binds K fdX ["_law_one", "_law_other", "_law_some"] []) (GIM : FnOk P w K mg base CX0 3 fIM fdIM ["_law_rows", "_law_row", "_law_part", "_law_both"] (spIsMix K)) (mIM : mg "_law_is_mix" = some (.ref fIM)) (kIM : PySem.W.keepIn K (.ref fIM) = true) (bIM : Binds K fdIM ["_law_rows", "_law_row", "_law_part", "_law_both"] [])
    (zlist : mg "list" = none) (zlen : mg "len" = none) : FnOk P w K mg base CX0 10 f fd ["_law_script"] (spLaw K) := by
  refine F.ok scLaw (fun vs H Q E h => ?_) (fun cdv A outer s H vs Q E hr h => ?_)
  · obtain ⟨a, ns, rfl, _⟩ := h
    rfl
  · obtain ⟨a, ns, rfl, hS, hlen, q⟩ := h
    have nd := scLaw.nd
    have hr1 : Room 1 _ := hr.mono (by decide)
    have hr2 : Room 2 _ := hr.mono (by decide)
    have hr3 : Room 3 _ := hr.mono (by decide)
    have hr4 : Room 4 _ := hr.mono (by decide)
    have hr5 : Room 5 _ := hr.mono (by decide)
    have hr8 : Room 8 _ := hr.mono (by decide)
    refine ⟨_, (pss_cons (ps_set (i := 1) nd rfl (Or.inl rfl) (pe_lst (pa_cons (pv 0) (pa_cons pe_int pa_nil)))) (pss_cons (ps_set (i := 2) nd rfl (Or.inl rfl) (pe_op op_addN pe_int (pe_call GT hr1 rfl mT kT bT .nil pass0 (pa_cons (pv 1) (pa_cons pe_int pa_nil))))) (pss_cons (ps_set (i := 3) nd rfl (Or.inl rfl) (pe_op op_addN pe_int (pe_call GT hr1 rfl mT kT bT .nil pass0 (pa_cons (pv 1) (pa_cons pe_int pa_nil))))) (pss_cut (P15 K a ns) (ps_if (pt_cmpR op_eq (pe_call GT hr1 rfl mT kT bT .nil pass0 (pa_cons (pv 1) (pa_cons pe_int pa_nil))) pe_int (nomark _)) (pss_one (ps_set (i := 3) nd rfl (Or.inl rfl) (pe_op op_addN pe_int (pe_call GT hr1 rfl mT kT bT .nil pass0 (pa_cons (pv 1) (pa_cons pe_int pa_nil)))))) pss_nil) (pss_cons (ps_set (i := 4) nd rfl (Or.inr rfl) (pe_call GK hr3 rfl mK kK bK .nil pass0 (pa_cons (pv 1) (pa_cons (pv 2) (pa_cons (pv 3) pa_nil)))))
      (pss_cons (ps_set (i := 5) nd rfl (Or.inr rfl) (pe_call GS hr2 rfl mS kS bS .nil pass0 (pa_cons (pv 1) (pa_cons (pv 2) pa_nil))))
      (pss_cons (ps_set (i := 6) nd rfl (Or.inl rfl) (pe_op op_orN (pe_op op_subN (pe_op op_subN (pe_op op_shl1 pe_int (pv 2)) pe_int) (pv 5)) (pe_call GS hr2 rfl mS kS bS .nil pass0 (pa_cons (pv 1) (pa_cons (pv 2) pa_nil)))))
      (pss_cons (ps_set (i := 7) nd rfl (Or.inr rfl) (pe_op op_andN (pv 5) (pv 6)))
      (pss_cons (ps_set (i := 8) nd rfl (Or.inr rfl) (pe_call GPT hr5 rfl mPT kPT bPT .nil pass0 (pa_cons (pe_callTy (call_listK (K := K) rfl) (by rfl) zlist PyProof.Rows.boot_list (pa_cons (pv 4) pa_nil)) (pa_cons (pv 5) (pa_cons (pe_callTy (call_listK (K := K) rfl) (by rfl) zlist PyProof.Rows.boot_list (pa_cons (pv 4) pa_nil)) (pa_cons (pv 6) pa_nil))))))
      (pss_cons (ps_if (pt_cmpR (op_neLK (K := K) rfl hr.units) (pe_comp (xs := ["_law_row"]) (cs ["_law_script", "_law_state", "_law_many", "_law_size", "_law_rows", "_law_part", "_law_beside", "_law_both", "_law_found", "_law_more", "_law_pair"] (defScope sLaw) rfl rfl (by decide +kernel)) rfl (pi_listK (K := K) rfl (pv 4)) (fun _ _ _ => pg_name (i := 0) (show (["_law_row", "_law_script", "_law_state", "_law_many", "_law_size", "_law_rows", "_law_part", "_law_beside", "_law_both", "_law_found", "_law_more", "_law_pair"] : List Str).Nodup by decide +kernel) rfl (Or.inl rfl)) (fun _ _ _ => (pts_one (pt_cmpR (op_notInTK (K := K) rfl hr.units) (pv 0) (pv 9) (by rfl)))) (fun _ _ _ => (pv 0))) (pe_lst pa_nil) (nomark _)) (pss_one (ps_ret pe_bl)) pss_nil)
      (pss_cons (ps_if (pt_cmpR (op_neD (K := K) rfl hr.units) (pe_call GO hr4 rfl mO kO bO .nil pass0 (pa_cons (pe_callTy (call_listK (K := K) rfl) (by rfl) zlist PyProof.Rows.boot_list (pa_cons (pv 8) pa_nil)) (pa_cons (pv 5) pa_nil))) (pe_call GO hr4 rfl mO kO bO .nil pass0 (pa_cons (pe_callTy (call_listK (K := K) rfl) (by rfl) zlist PyProof.Rows.boot_list (pa_cons (pv 4) pa_nil)) (pa_cons (pv 5) pa_nil))) (nomark _)) (pss_one (ps_ret pe_bl)) pss_nil)
      (pss_cut (P15b a) (ps_if (PW.pt (pw_and (pt_cmpR op_leN (pe_callB (call_lenK (K := K) rfl) (by rfl) zlen PySem.boot_len (pa_cons (pv 8) pa_nil)) pe_int (nomark _)) (pw_and1 (pt_cmpR op_isnotB (pe_call GZ hr rfl mZ kZ bZ .nil pass0 (pa_cons (pe_callTy (call_listK (K := K) rfl) (by rfl) zlist PyProof.Rows.boot_list (pa_cons (pv 8) pa_nil)) (pa_cons (pe_lst (pa_cons (pe_tup (pa_cons pe_str (pa_cons (pv 7) (pa_cons (pv 5) pa_nil)))) pa_nil)) pa_nil))) pe_bl (nomark _))))) (pss_one (ps_ret pe_bl)) pss_nil) (pss_cut (P15b a) (ps_if (PW.pt (pw_and (pt_cmpR op_leN (pe_callB (call_lenK (K := K) rfl) (by rfl) zlen PySem.boot_len (pa_cons (pv 8) pa_nil)) pe_int (nomark _)) (pw_and1 (pt_cmpR (op_neD (K := K) rfl hr.units) (pe_call GPT hr5 rfl mPT kPT bPT .nil pass0 (pa_cons (pe_callTy (call_listK (K := K) rfl) (by rfl) zlist PyProof.Rows.boot_list (pa_cons (pv 8) pa_nil)) (pa_cons (pv 5) (pa_cons (pe_callTy (call_listK (K := K) rfl) (by rfl) zlist PyProof.Rows.boot_list (pa_cons (pv 8) pa_nil)) (pa_cons (pv 6) pa_nil))))) (pv 8) (nomark _))))) (pss_one (ps_ret pe_bl)) pss_nil) (pss_cons (ps_comp (i := 9) (xs := ["_law_row"]) (cs ["_law_script", "_law_state", "_law_many", "_law_size", "_law_rows", "_law_part", "_law_beside", "_law_both", "_law_found", "_law_more", "_law_pair"] (defScope sLaw) rfl rfl (by decide +kernel)) rfl nd rfl rfl (pi_listK (K := K) rfl (pv 8)) (fun _ _ _ => pg_name (i := 0) (show (["_law_row", "_law_script", "_law_state", "_law_many", "_law_size", "_law_rows", "_law_part", "_law_beside", "_law_both", "_law_found", "_law_more", "_law_pair"] : List Str).Nodup by decide +kernel) rfl (Or.inl rfl)) (fun _ _ _ => (pts_one (pt_cmpR (op_notInTK (K := K) rfl hr.units) (pv 0) (pv 5) (by rfl)))) (fun _ _ _ => (pv 0)))
      (pss_cons (ps_set (i := 10) nd rfl (Or.inl rfl) (pe_call GB hr8 rfl mB kB bB .nil pass0 (pa_cons (pe_callTy (call_listK (K := K) rfl) (by rfl) zlist PyProof.Rows.boot_list (pa_cons (pv 4) pa_nil)) (pa_cons (pe_tup (pa_cons pe_str (pa_cons (pv 7) (pa_cons (pv 5) pa_nil)))) pa_nil))))
      (pss_cons (ps_if (pt_cmpR op_isN (pv 10) pe_non (nomark _)) (pss_one (ps_ret (pe_and (pe_cmpR (op_eqLK (K := K) rfl hr.units) (pv 9) (pe_lst pa_nil) (nomark _)) (pe_one (pe_cmpR (op_eqD (K := K) rfl hr.units) (pv 8) (pe_call GO hr4 rfl mO kO bO .nil pass0 (pa_cons (pe_callTy (call_listK (K := K) rfl) (by rfl) zlist PyProof.Rows.boot_list (pa_cons (pv 4) pa_nil)) (pa_cons (pe_op op_subN (pe_op op_shl1 pe_int (pv 2)) pe_int) pa_nil))) (nomark _)))))) pss_nil)
      (pss_cons (ps_if (pt_cmpR (op_notInTK (K := K) rfl hr.units) (pe_call GX hr2 rfl mX kX bX .nil pass0 (pa_cons (pe_ix (ix_tupK (K := K) rfl) (pv 10) pe_int (fun _ _ => rfl)) (pa_cons (pe_ix (ix_tupK (K := K) rfl) (pv 10) pe_int (fun _ _ => rfl)) (pa_cons (pv 5) pa_nil)))) (pv 9) (by rfl)) (pss_one (ps_ret pe_bl)) pss_nil)
      (pss_one (ps_ret (pe_cmpR (op_eqLK (K := K) rfl hr.units) (pe_comp (xs := ["_law_row"]) (cs ["_law_script", "_law_state", "_law_many", "_law_size", "_law_rows", "_law_part", "_law_beside", "_law_both", "_law_found", "_law_more", "_law_pair"] (defScope sLaw) rfl rfl (by decide +kernel)) rfl (pi_listK (K := K) rfl (pv 9)) (fun _ _ _ => pg_name (i := 0) (show (["_law_row", "_law_script", "_law_state", "_law_many", "_law_size", "_law_rows", "_law_part", "_law_beside", "_law_both", "_law_found", "_law_more", "_law_pair"] : List Str).Nodup by decide +kernel) rfl (Or.inl rfl)) (fun _ _ _ => (pts_one (pt_not (pt_val (pe_call GIM hr3 rfl mIM kIM bIM .nil pass0 (pa_cons (pv 5) (pa_cons (pv 0) (pa_cons (pv 6) (pa_cons (pv 8) pa_nil))))))))) (fun _ _ _ => (pv 0))) (pe_lst pa_nil) (nomark _))))))))))))))))))))), ?_⟩
    refine ⟨_, rfl, (by show 2 ≤ sizeLine; decide), fun st hst => ?_⟩
    have S0 := STF.start hS hst
    refine ⟨_, rfl, st, ns, 0, 7, rfl, S0, by omega, hlen, by decide, fun r1 H1 a1 b1 S1 B1 => ?_⟩
    obtain ⟨n1, rfl, hn1⟩ := nat_of (n := 7) a1 b1
    refine ⟨1, n1, rfl, rfl, ?_⟩
    obtain ⟨m, hm⟩ : ∃ m, m = 1 + n1 := ⟨_, rfl⟩
    dsimp only
    rw [← hm]
    have m1 : 1 ≤ m := by omega
    have m7 : m ≤ 7 := by omega
    refine ⟨_, rfl, st, ns, 1, 6, rfl, S1, by omega, hlen, by decide, fun r2 H2 a2 b2 S2 B2 => ?_⟩
    obtain ⟨n2, rfl, hn2⟩ := nat_of (n := 6) a2 b2
    refine ⟨1, n2, rfl, rfl, ?_⟩
    refine ⟨⟨_, rfl, st, ns, 2, 4, rfl, S2, by omega, hlen, by decide, fun r3 H3 a3 b3 S3 B3 => ⟨rfl, _, rfl, ?_⟩⟩, ?_⟩
    · refine ite2 (fun _ => ?_) (fun _ => ?_)
      · refine ⟨_, rfl, st, ns, 3, 16, rfl, S3, by omega, hlen, by decide, fun r4 H4 a4 b4 S4 B4 => ?_⟩
        obtain ⟨n4, rfl, hn4⟩ := nat_of (n := 16) a4 b4
        exact ⟨1, n4, rfl, rfl, st, m, 1 + n4, 4, rfl, m1, m7, by omega, by omega, S4, by omega⟩
      · exact ⟨st, m, 1 + n2, 3, rfl, m1, m7, by omega, by omega, S3, by omega⟩
    clear S0 S1 S2 B1 B2 hm hn1 hn2 hst
    rintro σ0 G0 ⟨st, m, n, k0, rfl, m1, m7, n1', n16, S0, hk0⟩
    have pw7 : 2 ^ m ≤ 2 ^ 7 := Nat.pow_le_pow_right (by decide) m7
    have pw0 : 0 < 2 ^ m := Nat.two_pow_pos m
    refine ⟨_, rfl, _, rfl, _, rfl, st, ns, k0, m, n, rfl, S0, by omega, hlen, m1, m7, n16, fun ts rs p k1 H1 hrl hrm hk1 hp hp1 RA S1 B1 => ?_⟩
    obtain ⟨rws, R1, erf, elr⟩ : ∃ rws : List RW, RowsOk H1 m rws ∧ refsOf rws = ts.map V.ref ∧ rws.length = rs.length := ⟨ts.zip rs, rows_zip RA hrm⟩
    rw [← erf] at hp1
    have hlr : rws.length ≤ 16 := by omega
    have hps : p ≠ st := fun z => by
      obtain ⟨o, zo⟩ := S0.some
      rw [← z, hp] at zo; cases zo
    refine ⟨_, rfl, _, rfl, st, ns, k1, m, rfl, S1, by omega, hlen, m1, m7, fun x k2 H2 hx hk2 S2 B2 => ?_⟩
    refine ⟨_, rfl, m, rfl, rfl, by omega, 2 ^ m, 1, rfl, rfl, pw0, _, rfl, 2 ^ m - 1, x, rfl, rfl, (by show x ≤ 2 ^ m - 1; omega), _, rfl, _, rfl, st, ns, k2, m, rfl, S2, by omega, hlen, m1, m7, fun y0 k3 H3 hy0 hk3 S3 B3 => ?_⟩
    refine ⟨2 ^ m - 1 - x, y0, rfl, rfl, ?_⟩
    have hy : (2 ^ m - 1 - x) ||| y0 < 2 ^ m := Nat.or_lt_two_pow (by omega) hy0
    have cov : ∀ k, k < m → hasB x k = true ∨ hasB ((2 ^ m - 1 - x) ||| y0) k = true := cov_or m7 hx
    dsimp only
    generalize (2 ^ m - 1 - x) ||| y0 = y at hy cov
    refine ⟨_, rfl, _, rfl, x, y, rfl, rfl, ?_⟩
    have hp3 := B3 _ _ (B2 _ _ hp1 hps) hps
    have R3 : RowsOk H3 m rws := fun r h => ⟨stf_tup S2 B3 (stf_tup S1 B2 (R1 r h).1), (R1 r h).2⟩
    clear S0 S1 S2 S3 B1 B2 B3 R1 RA
    have lx : x < 128 := by omega
    have ly : y < 128 := by omega
    have hl : ∀ r ∈ rws, r.2.length = m := fun r h => (R3 r h).2
    refine ⟨_, rfl, p, _, rfl, .inl (SqL.of hp3), fun c1 hc1 => ?_⟩
    have sc1 := Same.new (o := .lst (refsOf rws)) hc1
    refine ⟨_, rfl, _, rfl, p, _, rfl, .inl (SqL.of (sc1 _ _ hp3)), fun c2 hc2 => ?_⟩
    have sc2 := Same.new (o := .lst (refsOf rws)) hc2
    have s3 := sc1.trans sc2
    have bd : ∀ {ra : List RW} {z z' w w' : Nat}, ra.length ≤ 16 → ∀ w1 w2 : List RW, Asc (w1.map (·.2)) (ra.map fun r => seenL r.2 z) → Asc (w2.map (·.2)) (ra.map fun r => seenL r.2 z') → (joinL w1 w2 w w').length ≤ 256 := fun {ra z z' w w'} e1 w1 w2 X1 X2 => by
      have b1 := X1.lenR
      have b2 := X2.lenR
      have b3 := join_len (w1 := w1) (w2 := w2) (z := w) (x := w')
      have b4 : w1.length * w2.length ≤ 16 * 16 := Nat.mul_le_mul (by omega) (by omega)
      omega
    refine ⟨_, rfl, c1, c2, rws, rws, x, y, m, rfl, SqL.of (sc2 _ _ upd_same), SqL.of upd_same, R3.same s3, R3.same s3, m1, by omega, by omega, by omega, fun w1 w2 X1 X2 => Nat.lt_of_le_of_lt (bd hlr w1 w2 X1 X2) (by decide), fun fo wf w1 w2 Hb X1 X2 sb hfo hfb Fb pr up => ?_⟩
    have AF := join_asc X1 X2 hl m7 lx ly cov pr up
    have lf : wf.length ≤ 256 := by
      have := pr.length_eq
      rw [List.length_map] at this
      rw [this]
      exact bd hlr w1 w2 X1 X2
    have s3b := s3.trans sb
    have hpb := s3b _ _ hp3
    have Rb := R3.same s3b
    clear X1 X2 pr up sb s3b s3 sc1 sc2 hc1 hc2 R3 hp3 hfo
    -- each row is there
    have inF : ∀ r ∈ rws, r.2 ∈ wf.map (·.2) := fun r h => (AF.mem r.2).mpr (join_refl hl h _)
    refine ⟨_, rfl, p, rfl, ⟨_, SqL.of hpb⟩, lc_list (xs := refsOf rws) (fun i acc H' => H' = Hb ∧ acc = []) (by unfold refsOf; rw [List.length_map]; omega) ⟨rfl, rfl⟩ (fun i acc H' hi h => ?_) (fun i v acc H' hv h => ?_) (fun acc H' h => ?_)⟩
    · obtain ⟨rfl, rfl⟩ := h
      exact ⟨SqL.of hpb, Nat.zero_le _⟩
    · obtain ⟨rfl, rfl⟩ := h
      unfold refsOf at hv
      rw [List.getElem?_map] at hv
      cases er : rws[i]? with
      | none => rw [er] at hv; cases hv
      | some r =>
        rw [er] at hv
        obtain rfl := (Option.some.inj hv).symm
        have rm := List.mem_of_getElem? er
        refine ⟨rfl, _, rfl, _, rfl, r.1, fo, r.2, wf, rfl, rfl, (Rb r rm).1, SqL.of hfb, fun c hc => (Fb c hc).1, fun b iff => ⟨_, rfl, ?_⟩⟩
        have eb : b = false := by
          cases b with
          | false => rfl
          | true =>
            obtain ⟨c, hc, ec⟩ := List.mem_map.mp (inF r rm)
            exact absurd ec (iff.mp rfl c hc)
        subst eb
        exact iteF ⟨rfl, rfl⟩
    obtain ⟨rfl, rfl⟩ := h
    intro d hd
    have sdd := Same.new (o := .lst []) hd
    refine ⟨(by show 0 ≤ sizeLine; exact Nat.zero_le _), fun e he => ?_⟩
    have se := Same.new (o := .lst []) he
    refine ⟨d, e, [], [], rfl, rfl, SqL.of (se _ _ upd_same), SqL.of upd_same, ⟨_, rfl, ?_⟩⟩
    refine iteF ?_
    have s5 := sdd.trans se
    have hp5 := s5 _ _ hpb
    have hf5 := s5 _ _ hfb
    have R5 := Rb.same s5
    have F5 := Fb.same s5
    generalize upd (upd H' d (.lst [])) e (.lst []) = H5 at hp5 hf5 R5 F5
    clear s5 se sdd
    -- seen on the part
    refine ⟨_, rfl, fo, _, rfl, .inl (SqL.of hf5), fun c3 hc3 => ?_⟩
    have sc3 := Same.new (o := .lst (refsOf wf)) hc3
    refine ⟨_, rfl, c3, wf, x, m, rfl, SqL.of upd_same, F5.same sc3, m1, by omega, by omega, fun l1 u1 H6 s6 hl1 hu1 U1 A1 => ?_⟩
    have s56 := sc3.trans s6
    refine ⟨_, rfl, p, _, rfl, .inl (SqL.of (s56 _ _ hp5)), fun c4 hc4 => ?_⟩
    have sc4 := Same.new (o := .lst (refsOf rws)) hc4
    refine ⟨_, rfl, c4, rws, x, m, rfl, SqL.of upd_same, (R5.same s56).same sc4, m1, by omega, by omega, fun l2 u2 H7 s7 hl2 hu2 U2 A2 => ?_⟩
    have s67 := sc4.trans s7
    have lw : ∀ r ∈ wf, r.2.length = m := fun r h => (F5 r h).2
    have eu : u1.map (·.2) = u2.map (·.2) := A1.eq A2 (fun k => by
      constructor
      · intro h
        obtain ⟨g, hg, rfl⟩ := List.mem_map.mp h
        obtain ⟨b1, hb1, b2, hb2, _, eb⟩ := join_mem.mp ((AF.mem g.2).mp (List.mem_map.mpr ⟨g, hg, rfl⟩))
        rw [eb, mix_seenx (hl b1 hb1) (hl b2 hb2)]
        exact List.mem_map.mpr ⟨b1, hb1, rfl⟩
      · intro h
        obtain ⟨g, hg, rfl⟩ := List.mem_map.mp h
        obtain ⟨c, hc, ec⟩ := List.mem_map.mp (inF g hg)
        exact List.mem_map.mpr ⟨c, hc, by rw [ec]⟩) (seen_lens lw)
    have eqb : ∀ {H' : Hp} {p1 p2 : Addr} {w1 w2 : List RW}, H' p1 = some (.lst (refsOf w1)) → H' p2 = some (.lst (refsOf w2)) → RowsOk H' m w1 → RowsOk H' m w2 → w1.map (·.2) = w2.map (·.2) → ∀ neg : Bool, ∀ Q' : VK, Q' (.bl (!neg)) H' → rEqD K neg (.ref p1) (.ref p2) H' Q' := fun {H' p1 p2 w1 w2} e1 e2 Ra Rc ew neg Q' q' => by
      refine ⟨_, _, book_dv e1 Ra, book_dv e2 Rc, shaped_book _, shaped_book _, noMix_book _ _, ?_⟩
      rw [ew, same_book]
      cases neg <;> exact q'
    refine eqb (s67 _ _ hu1) hu2 (U1.same s67) U2 eu true _ ⟨_, rfl, ?_⟩
    refine iteF ?_
    have s57 := s56.trans s67
    have P0 : P15b a [some (.ref a), some (.ref st), some (vN m), some (vN n), some (.ref p), some (vN x), some (vN y), some (vN (x &&& y)), some (.ref fo), none, none] H7 := ⟨st, p, fo, m, n, rws, wf, x, y, rfl, m1, m7, hx, hy, cov, hlr, lf, s57 _ _ hp5, R5.same s57, s57 _ _ hf5, F5.same s57, AF⟩
    have hf7 := s57 _ _ hf5
    have F7 := F5.same s57
    have lwf : (refsOf wf).length = wf.length := List.length_map ..
    have zx : (x &&& y) ||| x = x := or_sub x y
    refine ⟨?_, ?_⟩
    · refine ⟨_, rfl, fo, _, rfl, .inl (SqL.of hf7), (refsOf wf).length, 40, rfl, rfl, _, rfl, ?_⟩
      refine ite2 (fun h40 => ?_) (fun _ => iteF P0)
      refine ⟨_, rfl, fo, _, rfl, .inl (SqL.of hf7), fun c5 hc5 => ?_⟩
      have sc5 := Same.new (o := .lst (refsOf wf)) hc5
      refine ⟨_, rfl, _, rfl, (by show 3 ≤ sizeLine; decide), fun t ht => ?_⟩
      have st_ := Same.new (o := .tup [V.str "deal", V.int ((x &&& y : Nat) : Int), V.int (x : Int)]) ht
      refine ⟨(by show 1 ≤ sizeLine; decide), fun rl hrl => ?_⟩
      have sr := Same.new (o := .lst [V.ref t]) hrl
      have s8 := (sc5.trans st_).trans sr
      refine ⟨c5, rl, wf, [⟨t, false, x &&& y, x⟩], m, rfl, ⟨SqL.of (sr _ _ (st_ _ _ upd_same)), F7.same s8, m1, m7, by omega⟩, SqL.of upd_same, (by show 1 ≤ 300; decide), fun r hr0 => ?_, fun kb H8 s9 iff => ?_⟩
      · rw [List.mem_singleton.mp hr0]
        exact ⟨sr _ _ upd_same, and_lt hx, hx⟩
      · have kt : kb = true := iff.mpr fun r hr0 => by
          rw [List.mem_singleton.mp hr0]
          show DealOk wf (x &&& y) x
          intro g hg g' hg' e
          rw [zx]
          obtain ⟨c, hc, ec⟩ := List.mem_map.mp (join_closed hl (fun k => AF.mem k) (List.mem_map.mpr ⟨g, hg, rfl⟩) (List.mem_map.mpr ⟨g', hg', rfl⟩) e.symm)
          exact ⟨c, hc, ec⟩
        subst kt
        refine ⟨true, true, rfl, rfl, ⟨_, rfl, ?_⟩⟩
        refine iteF ?_
        have s10 := s8.trans s9
        exact ⟨st, p, fo, m, n, rws, wf, x, y, rfl, m1, m7, hx, hy, cov, hlr, lf, (s57.trans s10) _ _ hp5, (R5.same s57).same s10, s10 _ _ hf7, F7.same s10, AF⟩
    clear P0 zx hf7 F7 lwf eqb eu A1 A2 U1 U2 s57 s56 s67 s6 s7 sc3 sc4 hu1 hu2 hl1 hl2 hc3 hc4 hp5 hf5 R5 F5 inF lw hpb hfb Rb Fb AF bd lf hlr hl cov hx hy lx ly m1 m7
    rintro σ1 G1 ⟨st, p, fo, m, n, rws, wf, x, y, rfl, m1, m7, hx, hy, cov, hlr, lf, hp1, R1, hf1, F1, AF⟩
    have pw7 : 2 ^ m ≤ 2 ^ 7 := Nat.pow_le_pow_right (by decide) m7
    have lx : x < 128 := by omega
    have ly : y < 128 := by omega
    have hl : ∀ r ∈ rws, r.2.length = m := fun r h => (R1 r h).2
    have lwl : ∀ r ∈ wf, r.2.length = m := fun r h => (F1 r h).2
    have eqb : ∀ {H' : Hp} {p1 p2 : Addr} {w1 w2 : List RW}, H' p1 = some (.lst (refsOf w1)) → H' p2 = some (.lst (refsOf w2)) → RowsOk H' m w1 → RowsOk H' m w2 → w1.map (·.2) = w2.map (·.2) → ∀ neg : Bool, ∀ Q' : VK, Q' (.bl (!neg)) H' → rEqD K neg (.ref p1) (.ref p2) H' Q' := fun {H' p1 p2 w1 w2} e1 e2 Ra Rc ew neg Q' q' => by
      refine ⟨_, _, book_dv e1 Ra, book_dv e2 Rc, shaped_book _, shaped_book _, noMix_book _ _, ?_⟩
      rw [ew, same_book]
      cases neg <;> exact q'
    refine ⟨?_, ?_⟩
    · refine ⟨_, rfl, fo, _, rfl, .inl (SqL.of hf1), (refsOf wf).length, 40, rfl, rfl, _, rfl, ?_⟩
      refine ite2 (fun h40 => ?_) (fun _ => iteF ⟨st, p, fo, m, n, rws, wf, x, y, rfl, m1, m7, hx, hy, cov, hlr, lf, hp1, R1, hf1, F1, AF⟩)
      have l40 : wf.length ≤ 40 := by
        have := of_decide_eq_true h40
        rwa [show (refsOf wf).length = wf.length from List.length_map ..] at this
      refine ⟨_, rfl, fo, _, rfl, .inl (SqL.of hf1), fun c5 hc5 => ?_⟩
      have sc5 := Same.new (o := .lst (refsOf wf)) hc5
      refine ⟨_, rfl, _, rfl, fo, _, rfl, .inl (SqL.of (sc5 _ _ hf1)), fun c6 hc6 => ?_⟩
      have sc6 := Same.new (o := .lst (refsOf wf)) hc6
      have s2 := sc5.trans sc6
      have jb : ∀ w1 w2 : List RW, Asc (w1.map (·.2)) (wf.map fun r => seenL r.2 x) → Asc (w2.map (·.2)) (wf.map fun r => seenL r.2 y) → (joinL w1 w2 (x &&& y) x).length ≤ 40 := fun w1 w2 X1 X2 => Nat.le_trans (join_few X1 X2 lwl m7 lx ly cov fun k hk => (AF.mem k).mpr ((join_join hl (fun k => AF.mem k) k).mp hk)) l40
      refine ⟨_, rfl, c5, c6, wf, wf, x, y, m, rfl, SqL.of (sc6 _ _ upd_same), SqL.of upd_same, F1.same s2, F1.same s2, m1, by omega, by omega, by omega, fun w1 w2 X1 X2 => Nat.lt_of_le_of_lt (jb w1 w2 X1 X2) (by decide), fun f2 w2f w1 w2 Hc X1 X2 sc hf2 hfc Fc pr up => ?_⟩
      have A2 := join_asc X1 X2 lwl m7 lx ly cov pr up
      have ew : w2f.map (·.2) = wf.map (·.2) := A2.eq AF (fun k => join_join hl (fun k => AF.mem k) k) (join_lens lwl)
      have s3 := s2.trans sc
      refine ⟨_, rfl, eqb hfc (s3 _ _ hf1) Fc (F1.same s3) ew true _ ⟨_, rfl, ?_⟩⟩
      exact iteF ⟨st, p, fo, m, n, rws, wf, x, y, rfl, m1, m7, hx, hy, cov, hlr, lf, s3 _ _ hp1, R1.same s3, s3 _ _ hf1, F1.same s3, AF⟩
    clear hp1 R1 hf1 F1 AF lwl hl lx ly pw7 cov hx hy eqb hlr lf m1 m7
    rintro σ2 G2 ⟨st, p, fo, m, n, rws, wf, x, y, rfl, m1, m7, hx, hy, cov, hlr, lf, hp1, R1, hf1, F1, AF⟩
    have pw7 : 2 ^ m ≤ 2 ^ 7 := Nat.pow_le_pow_right (by decide) m7
    have pw0 : 0 < 2 ^ m := Nat.two_pow_pos m
    have hl : ∀ r ∈ rws, r.2.length = m := fun r h => (R1 r h).2
    have lwl : ∀ r ∈ wf, r.2.length = m := fun r h => (F1 r h).2
    have zx : (x &&& y) ||| x = x := or_sub x y
    obtain ⟨sel, hsel⟩ : ∃ sel, sel = wf.filter fun r => decide (r.2 ∉ rws.map (·.2)) := ⟨_, rfl⟩
    have msel : ∀ r, r ∈ sel ↔ r ∈ wf ∧ r.2 ∉ rws.map (·.2) := fun r => by rw [hsel, List.mem_filter, decide_eq_true_iff]
    have lsel : sel.length ≤ wf.length := by rw [hsel]; exact List.length_filter_le _ _
    refine ⟨_, rfl, fo, rfl, ⟨_, SqL.of hf1⟩, lc_list (xs := refsOf wf) (fun i acc H' => H' = G2 ∧ acc = refsOf ((wf.take i).filter fun r => decide (r.2 ∉ rws.map (·.2)))) (by unfold refsOf; rw [List.length_map]; omega) ⟨rfl, rfl⟩ (fun i acc H' hi h => ?_) (fun i v acc H' hv h => ?_) (fun acc H' h => ?_)⟩
    · obtain ⟨rfl, rfl⟩ := h
      refine ⟨SqL.of hf1, ?_⟩
      unfold refsOf
      rw [List.length_map]
      exact Nat.le_trans (List.length_filter_le _ _) (by rw [List.length_take]; omega)
    · obtain ⟨rfl, rfl⟩ := h
      unfold refsOf at hv
      rw [List.getElem?_map] at hv
      cases ec : wf[i]? with
      | none => rw [ec] at hv; cases hv
      | some c =>
        rw [ec] at hv
        obtain rfl := (Option.some.inj hv).symm
        have cm := List.mem_of_getElem? ec
        refine ⟨rfl, _, rfl, _, rfl, c.1, p, c.2, rws, rfl, rfl, (F1 c cm).1, SqL.of hp1, fun g hg => (R1 g hg).1, fun b iff => ⟨_, rfl, ?_⟩⟩
        have bi : b = true ↔ c.2 ∉ rws.map (·.2) := iff.trans ⟨fun h z => by
          obtain ⟨g, hg, eg⟩ := List.mem_map.mp z
          exact h g hg eg, fun h g hg eg => h (List.mem_map.mpr ⟨g, hg, eg⟩)⟩
        have tk : (wf.take (i + 1)).filter (fun r => decide (r.2 ∉ rws.map (·.2))) = (wf.take i).filter (fun r => decide (r.2 ∉ rws.map (·.2))) ++ if b = true then [c] else [] := by
          rw [List.take_succ, ec, List.filter_append]
          congr 1
          show List.filter _ [c] = _
          by_cases h : b = true
          · rw [if_pos h, List.filter_cons_of_pos (p := fun r : RW => decide (r.2 ∉ rws.map (·.2))) (decide_eq_true (bi.mp h))]; rfl
          · rw [if_neg h, List.filter_cons_of_neg (p := fun r : RW => decide (r.2 ∉ rws.map (·.2))) (by rw [decide_eq_true_iff]; exact fun z => h (bi.mpr z))]; rfl
        refine ite2 (fun hc => ?_) (fun hc => ?_)
        · refine ⟨_, rfl, rfl, ?_⟩
          rw [tk, if_pos hc]
          unfold refsOf
          rw [List.map_append]
          rfl
        · refine ⟨rfl, ?_⟩
          rw [tk, if_neg hc, List.append_nil]
    obtain ⟨rfl, rfl⟩ := h
    rw [show (refsOf wf).length = wf.length from List.length_map .., List.take_length, ← hsel]
    intro d hd
    have sd := Same.new (o := .lst (refsOf sel)) hd
    have hd3 : (upd H' d (.lst (refsOf sel))) d = some (.lst (refsOf sel)) := upd_same
    have hp3 := sd _ _ hp1
    have hf3 := sd _ _ hf1
    have R3 := R1.same sd
    have F3 := F1.same sd
    generalize upd H' d (.lst (refsOf sel)) = H3 at hd3 hp3 hf3 R3 F3
    clear sd hp1 hf1 R1 F1 hd
    refine ⟨_, rfl, p, _, rfl, .inl (SqL.of hp3), fun c5 hc5 => ?_⟩
    have sc5 := Same.new (o := .lst (refsOf rws)) hc5
    refine ⟨_, rfl, _, rfl, (by show 3 ≤ sizeLine; decide), fun t ht => ?_⟩
    have st_ := Same.new (o := .tup [V.str "deal", V.int ((x &&& y : Nat) : Int), V.int (x : Int)]) ht
    have s4 := sc5.trans st_
    refine ⟨c5, t, rws, false, x &&& y, x, m, rfl, ⟨SqL.of (st_ _ _ upd_same), R3.same s4, m1, m7, by omega⟩, upd_same, and_lt hx, hx, fun H5 s5 ok => ?_, fun pa ga gb H5 bad s5 hpa hpa5 => ?_⟩
    · have ok' : DealOk rws (x &&& y) x := ok
      have s35 := s4.trans s5
      have clo : ∀ k ∈ wf.map (·.2), k ∈ rws.map (·.2) := fun k hk => by
        obtain ⟨b1, h1, b2, h2, e, rfl⟩ := join_mem.mp ((AF.mem k).mp hk)
        obtain ⟨c, hc, ec⟩ := ok' b1 h1 b2 h2 e.symm
        rw [zx] at ec
        exact List.mem_map.mpr ⟨c, hc, ec⟩
      have s0 : sel = [] := by
        rcases hs : sel with _ | ⟨r, rest⟩
        · rfl
        · have rm : r ∈ sel := by rw [hs]; exact List.mem_cons_self ..
          obtain ⟨h1, h2⟩ := (msel r).mp rm
          exact absurd (clo r.2 (List.mem_map.mpr ⟨r, h1, rfl⟩)) h2
      subst s0
      refine ⟨_, rfl, rfl, _, rfl, ?_⟩
      refine iteT ?_
      refine ⟨_, rfl, (by show 0 ≤ sizeLine; exact Nat.zero_le _), fun e he => ?_⟩
      have se := Same.new (o := .lst []) he
      refine ⟨d, e, [], [], rfl, rfl, SqL.of (se _ _ (s35 _ _ hd3)), SqL.of upd_same, _, rfl, ?_⟩
      refine iteT ?_
      have s36 := s35.trans se
      refine ⟨_, rfl, _, rfl, p, _, rfl, .inl (SqL.of (s36 _ _ hp3)), fun c6 hc6 => ?_⟩
      have sc6 := Same.new (o := .lst (refsOf rws)) hc6
      refine ⟨_, rfl, m, rfl, rfl, by omega, 2 ^ m, 1, rfl, rfl, pw0, c6, rws, 2 ^ m - 1, m, rfl, SqL.of upd_same, (R3.same s36).same sc6, m1, by omega, by omega, fun l u H7 s7 hl0 hu U A => ?_⟩
      have s37 := (s36.trans sc6).trans s7
      have ew : wf.map (·.2) = u.map (·.2) := AF.eq A (fun k => by
        rw [← AF.mem k]
        constructor
        · intro h
          obtain ⟨g, hg, eg⟩ := List.mem_map.mp (clo k h)
          exact List.mem_map.mpr ⟨g, hg, by rw [seen_whole m7 (hl g hg)]; exact eg⟩
        · intro h
          obtain ⟨g, hg, rfl⟩ := List.mem_map.mp h
          rw [seen_whole m7 (hl g hg)]
          exact (AF.mem _).mpr (join_refl hl hg _)) (join_lens hl)
      refine ⟨_, _, book_dv (s37 _ _ hf3) (F3.same s37), book_dv hu U, shaped_book _, shaped_book _, noMix_book _ _, ?_⟩
      rw [ew, same_book]
      exact q _
    · have bad' : DealBad rws (x &&& y) x ga gb := bad
      obtain ⟨g1, g2, g3, g4⟩ := bad'
      rw [zx] at g4
      have s35 := s4.trans s5
      have la := hl ga g1
      have lb := hl gb g2
      have inj : mixL ga.2 gb.2 x ∈ wf.map (·.2) := (AF.mem _).mpr (join_mem.mpr ⟨ga, g1, gb, g2, g3.symm, rfl⟩)
      obtain ⟨gc, hgc, egc⟩ := List.mem_map.mp inj
      have gsel : gc ∈ sel := (msel gc).mpr ⟨hgc, fun z => by
        obtain ⟨g, hg, eg⟩ := List.mem_map.mp z
        exact g4 g hg (eg.trans egc)⟩
      refine ⟨_, rfl, rfl, _, rfl, ?_⟩
      refine iteF ?_
      refine ⟨_, rfl, pa, _, _, _, rfl, rfl, SqT.of hpa5, atI_nat (j := 0) rfl, _, rfl, pa, _, _, _, rfl, rfl, SqT.of hpa5, atI_nat (j := 1) rfl, _, rfl, ga.1, gb.1, ga.2, gb.2, x, rfl, SqT.of (s35 _ _ (R3 ga g1).1), SqT.of (s35 _ _ (R3 gb g2).1), by omega, by omega, fun t6 H6 s6 ht6 ht6' => ?_⟩
      have s36 := s35.trans s6
      refine ⟨_, rfl, t6, d, _, sel, rfl, rfl, ht6', SqL.of (s36 _ _ hd3), fun g hg => s36 _ _ (F3 g ((msel g).mp hg).1).1, fun bb iff => ⟨_, rfl, ?_⟩⟩
      have eb : bb = false := by
        cases bb with
        | false => rfl
        | true => exact absurd egc (iff.mp rfl gc gsel)
      subst eb
      refine iteF ?_
      refine ⟨_, rfl, d, rfl, ⟨_, SqL.of (s36 _ _ hd3)⟩, lc_list (xs := refsOf sel) (fun i acc H' => Same H6 H' ∧ acc = []) (by unfold refsOf; rw [List.length_map]; omega) ⟨Same.refl _, rfl⟩ (fun i acc H' hi h => ?_) (fun i v acc H' hv h => ?_) (fun acc H' h => ?_)⟩
      · obtain ⟨s7, rfl⟩ := h
        exact ⟨SqL.of (s7 _ _ (s36 _ _ hd3)), Nat.zero_le _⟩
      · obtain ⟨s7, rfl⟩ := h
        unfold refsOf at hv
        rw [List.getElem?_map] at hv
        cases ec : sel[i]? with
        | none => rw [ec] at hv; cases hv
        | some c =>
          rw [ec] at hv
          obtain rfl := (Option.some.inj hv).symm
          have cw := ((msel c).mp (List.mem_of_getElem? ec)).1
          have s37 := s36.trans s7
          obtain ⟨b1, h1, b2, h2, e, eb⟩ := join_mem.mp ((AF.mem c.2).mp (List.mem_map.mpr ⟨c, cw, rfl⟩))
          refine ⟨rfl, _, rfl, _, rfl, _, rfl, _, rfl, p, c.1, rws, c.2, x, x &&& y, m, rfl, SqL.of (s37 _ _ hp3), R3.same s37, s37 _ _ (F3 c cw).1, m1, by omega, by omega, ⟨b1, h1, b2, h2, (agree_seen (hl b1 h1) (hl b2 h2)).mpr e.symm, eb⟩, fun H8 s8 => ⟨_, rfl, ?_⟩⟩
          exact iteF ⟨s7.trans s8, rfl⟩
      obtain ⟨s7, rfl⟩ := h
      intro e1 he1
      have se1 := Same.new (o := .lst []) he1
      refine ⟨(by show 0 ≤ sizeLine; exact Nat.zero_le _), fun e2 he2 => ?_⟩
      have se2 := Same.new (o := .lst []) he2
      refine ⟨e1, e2, [], [], rfl, rfl, SqL.of (se2 _ _ upd_same), SqL.of upd_same, ?_⟩
      exact q _
end
end Own

namespace Own
open PySem L2
/-! what the top has written, and the law's own head -/
theorem all_mk {l : PySem.W.OpenLaw} {w : World} {K : PySem.W.Frag} {h : Heap} {mg : Str → Option Value} {fa fT fS fH fC fAL fG fL fM fN fE fU fF fS2 fLK fD2 fB fZ fO fPT fP fK fA fX fIM fQ : Addr} (X : K.In h) (G : h.Ns mainGlobals mg) (hfa : mg "law" = some (.ref fa))
    {odT anT odS anS odH anH odC anC odAL anAL odG anG odL anL odM anM odN anN odE anE odU anU odF anF odS2 anS2 odLK anLK odD2 anD2 odB anB odZ anZ odO anO odPT anPT odP anP odK anK odA anA odX anX odIM anIM odQ anQ : Option Addr} {slT slS slH slC slAL slG slL slM slN slE slU slF slS2 slLK slD2 slB slZ slO slPT slP slK slA slX slIM slQ : Array (Option Value)} {ocT kVT dcT pmT cdT ctT ocS kVS dcS pmS cdS ctS ocH kVH dcH pmH cdH ctH ocC kVC dcC pmC cdC ctC ocAL kVAL dcAL pmAL cdAL ctAL ocG kVG dcG pmG cdG ctG ocL kVL dcL pmL cdL ctL ocM kVM dcM pmM cdM ctM ocN kVN dcN pmN cdN ctN ocE kVE dcE pmE cdE ctE ocU kVU dcU pmU cdU ctU ocF kVF dcF pmF cdF ctF ocS2 kVS2 dcS2 pmS2 cdS2 ctS2 ocLK kVLK dcLK pmLK cdLK ctLK ocD2 kVD2 dcD2 pmD2 cdD2 ctD2 ocB kVB dcB pmB cdB ctB ocZ kVZ dcZ pmZ cdZ ctZ ocO kVO dcO pmO cdO ctO ocPT kVPT dcPT pmPT cdPT ctPT ocP kVP dcP pmP cdP ctP ocK kVK dcK pmK cdK ctK ocA kVA dcA pmA cdA ctA ocX kVX dcX pmX cdX ctX ocIM kVIM dcIM pmIM cdIM ctIM ocQ kVQ dcQ pmQ cdQ ctQ : Value}
    (aT : PySem.W.nsIn K mainGlobals "_law_take" = some (some (.ref fT))) (lT : K.lookup fT = some ⟨ocT, odT, .func (PySem.W.fnOf "_law_take" "_law_take" (defArgs sTake) (defBody sTake) (defScope sTake) .none kVT dcT pmT anT cdT ctT), slT⟩) (cT : PySem.W.codeIn K cdT "_law_take" = true) (kT : PySem.W.keepIn K (.ref fT) = true)
    (aS : PySem.W.nsIn K mainGlobals "_law_set" = some (some (.ref fS))) (lS : K.lookup fS = some ⟨ocS, odS, .func (PySem.W.fnOf "_law_set" "_law_set" (defArgs sSet) (defBody sSet) (defScope sSet) .none kVS dcS pmS anS cdS ctS), slS⟩) (cS : PySem.W.codeIn K cdS "_law_set" = true) (kS : PySem.W.keepIn K (.ref fS) = true)
    (aH : PySem.W.nsIn K mainGlobals "has_column" = some (some (.ref fH))) (lH : K.lookup fH = some ⟨ocH, odH, .func (PySem.W.fnOf "has_column" "has_column" (defArgs sHas) (defBody sHas) (defScope sHas) .none kVH dcH pmH anH cdH ctH), slH⟩) (cH : PySem.W.codeIn K cdH "has_column" = true) (kH : PySem.W.keepIn K (.ref fH) = true)
    (aC : PySem.W.nsIn K mainGlobals "columns_of" = some (some (.ref fC))) (lC : K.lookup fC = some ⟨ocC, odC, .func (PySem.W.fnOf "columns_of" "columns_of" (defArgs sCols) (defBody sCols) (defScope sCols) .none kVC dcC pmC anC cdC ctC), slC⟩) (cC : PySem.W.codeIn K cdC "columns_of" = true) (kC : PySem.W.keepIn K (.ref fC) = true)
    (aAL : PySem.W.nsIn K mainGlobals "all_of" = some (some (.ref fAL))) (lAL : K.lookup fAL = some ⟨ocAL, odAL, .func (PySem.W.fnOf "all_of" "all_of" (defArgs sAll) (defBody sAll) (defScope sAll) .none kVAL dcAL pmAL anAL cdAL ctAL), slAL⟩) (cAL : PySem.W.codeIn K cdAL "all_of" = true) (kAL : PySem.W.keepIn K (.ref fAL) = true)
    (aG : PySem.W.nsIn K mainGlobals "_law_has" = some (some (.ref fG))) (lG : K.lookup fG = some ⟨ocG, odG, .func (PySem.W.fnOf "_law_has" "_law_has" (defArgs sHas2) (defBody sHas2) (defScope sHas2) .none kVG dcG pmG anG cdG ctG), slG⟩) (cG : PySem.W.codeIn K cdG "_law_has" = true) (kG : PySem.W.keepIn K (.ref fG) = true)
    (aL : PySem.W.nsIn K mainGlobals "alike" = some (some (.ref fL))) (lL : K.lookup fL = some ⟨ocL, odL, .func (PySem.W.fnOf "alike" "alike" (defArgs sAlike) (defBody sAlike) (defScope sAlike) .none kVL dcL pmL anL cdL ctL), slL⟩) (cL : PySem.W.codeIn K cdL "alike" = true) (kL : PySem.W.keepIn K (.ref fL) = true)
    (aM : PySem.W.nsIn K mainGlobals "mixed" = some (some (.ref fM))) (lM : K.lookup fM = some ⟨ocM, odM, .func (PySem.W.fnOf "mixed" "mixed" (defArgs sMixed) (defBody sMixed) (defScope sMixed) .none kVM dcM pmM anM cdM ctM), slM⟩) (cM : PySem.W.codeIn K cdM "mixed" = true) (kM : PySem.W.keepIn K (.ref fM) = true)
    (aN : PySem.W.nsIn K mainGlobals "noughts" = some (some (.ref fN))) (lN : K.lookup fN = some ⟨ocN, odN, .func (PySem.W.fnOf "noughts" "noughts" (defArgs sNoughts) (defBody sNoughts) (defScope sNoughts) .none kVN dcN pmN anN cdN ctN), slN⟩) (cN : PySem.W.codeIn K cdN "noughts" = true) (kN : PySem.W.keepIn K (.ref fN) = true)
    (aE : PySem.W.nsIn K mainGlobals "seen_row" = some (some (.ref fE))) (lE : K.lookup fE = some ⟨ocE, odE, .func (PySem.W.fnOf "seen_row" "seen_row" (defArgs sSeen) (defBody sSeen) (defScope sSeen) .none kVE dcE pmE anE cdE ctE), slE⟩) (cE : PySem.W.codeIn K cdE "seen_row" = true) (kE : PySem.W.keepIn K (.ref fE) = true)
    (aU : PySem.W.nsIn K mainGlobals "groups_on" = some (some (.ref fU))) (lU : K.lookup fU = some ⟨ocU, odU, .func (PySem.W.fnOf "groups_on" "groups_on" (defArgs sGroups) (defBody sGroups) (defScope sGroups) .none kVU dcU pmU anU cdU ctU), slU⟩) (cU : PySem.W.codeIn K cdU "groups_on" = true) (kU : PySem.W.keepIn K (.ref fU) = true)
    (aF : PySem.W.nsIn K mainGlobals "firsts_on" = some (some (.ref fF))) (lF : K.lookup fF = some ⟨ocF, odF, .func (PySem.W.fnOf "firsts_on" "firsts_on" (defArgs sFirsts) (defBody sFirsts) (defScope sFirsts) .none kVF dcF pmF anF cdF ctF), slF⟩) (cF : PySem.W.codeIn K cdF "firsts_on" = true) (kF : PySem.W.keepIn K (.ref fF) = true)
    (aS2 : PySem.W.nsIn K mainGlobals "settle_breach" = some (some (.ref fS2))) (lS2 : K.lookup fS2 = some ⟨ocS2, odS2, .func (PySem.W.fnOf "settle_breach" "settle_breach" (defArgs sSettle) (defBody sSettle) (defScope sSettle) .none kVS2 dcS2 pmS2 anS2 cdS2 ctS2), slS2⟩) (cS2 : PySem.W.codeIn K cdS2 "settle_breach" = true) (kS2 : PySem.W.keepIn K (.ref fS2) = true)
    (aLK : PySem.W.nsIn K mainGlobals "lacking_mix" = some (some (.ref fLK))) (lLK : K.lookup fLK = some ⟨ocLK, odLK, .func (PySem.W.fnOf "lacking_mix" "lacking_mix" (defArgs sLack) (defBody sLack) (defScope sLack) .none kVLK dcLK pmLK anLK cdLK ctLK), slLK⟩) (cLK : PySem.W.codeIn K cdLK "lacking_mix" = true) (kLK : PySem.W.keepIn K (.ref fLK) = true)
    (aD2 : PySem.W.nsIn K mainGlobals "deal_breach" = some (some (.ref fD2))) (lD2 : K.lookup fD2 = some ⟨ocD2, odD2, .func (PySem.W.fnOf "deal_breach" "deal_breach" (defArgs sDeal) (defBody sDeal) (defScope sDeal) .none kVD2 dcD2 pmD2 anD2 cdD2 ctD2), slD2⟩) (cD2 : PySem.W.codeIn K cdD2 "deal_breach" = true) (kD2 : PySem.W.keepIn K (.ref fD2) = true)
    (aB : PySem.W.nsIn K mainGlobals "breach" = some (some (.ref fB))) (lB : K.lookup fB = some ⟨ocB, odB, .func (PySem.W.fnOf "breach" "breach" (defArgs sBreach) (defBody sBreach) (defScope sBreach) .none kVB dcB pmB anB cdB ctB), slB⟩) (cB : PySem.W.codeIn K cdB "breach" = true) (kB : PySem.W.keepIn K (.ref fB) = true)
    (aZ : PySem.W.nsIn K mainGlobals "keeps" = some (some (.ref fZ))) (lZ : K.lookup fZ = some ⟨ocZ, odZ, .func (PySem.W.fnOf "keeps" "keeps" (defArgs sKeeps) (defBody sKeeps) (defScope sKeeps) .none kVZ dcZ pmZ anZ cdZ ctZ), slZ⟩) (cZ : PySem.W.codeIn K cdZ "keeps" = true) (kZ : PySem.W.keepIn K (.ref fZ) = true)
    (aO : PySem.W.nsIn K mainGlobals "seen_on" = some (some (.ref fO))) (lO : K.lookup fO = some ⟨ocO, odO, .func (PySem.W.fnOf "seen_on" "seen_on" (defArgs sSeenOn) (defBody sSeenOn) (defScope sSeenOn) .none kVO dcO pmO anO cdO ctO), slO⟩) (cO : PySem.W.codeIn K cdO "seen_on" = true) (kO : PySem.W.keepIn K (.ref fO) = true)
    (aPT : PySem.W.nsIn K mainGlobals "put_together" = some (some (.ref fPT))) (lPT : K.lookup fPT = some ⟨ocPT, odPT, .func (PySem.W.fnOf "put_together" "put_together" (defArgs sPut) (defBody sPut) (defScope sPut) .none kVPT dcPT pmPT anPT cdPT ctPT), slPT⟩) (cPT : PySem.W.codeIn K cdPT "put_together" = true) (kPT : PySem.W.keepIn K (.ref fPT) = true)
    (aP : PySem.W.nsIn K mainGlobals "_law_pool" = some (some (.ref fP))) (lP : K.lookup fP = some ⟨ocP, odP, .func (PySem.W.fnOf "_law_pool" "_law_pool" (defArgs sPool) (defBody sPool) (defScope sPool) .none kVP dcP pmP anP cdP ctP), slP⟩) (cP : PySem.W.codeIn K cdP "_law_pool" = true) (kP : PySem.W.keepIn K (.ref fP) = true)
    (aK : PySem.W.nsIn K mainGlobals "_law_book" = some (some (.ref fK))) (lK : K.lookup fK = some ⟨ocK, odK, .func (PySem.W.fnOf "_law_book" "_law_book" (defArgs sBook) (defBody sBook) (defScope sBook) .none kVK dcK pmK anK cdK ctK), slK⟩) (cK : PySem.W.codeIn K cdK "_law_book" = true) (kK : PySem.W.keepIn K (.ref fK) = true)
    (aA : PySem.W.nsIn K mainGlobals "_law_agree" = some (some (.ref fA))) (lA : K.lookup fA = some ⟨ocA, odA, .func (PySem.W.fnOf "_law_agree" "_law_agree" (defArgs sAgree) (defBody sAgree) (defScope sAgree) .none kVA dcA pmA anA cdA ctA), slA⟩) (cA : PySem.W.codeIn K cdA "_law_agree" = true) (kA : PySem.W.keepIn K (.ref fA) = true)
    (aX : PySem.W.nsIn K mainGlobals "_law_mix" = some (some (.ref fX))) (lX : K.lookup fX = some ⟨ocX, odX, .func (PySem.W.fnOf "_law_mix" "_law_mix" (defArgs sMix) (defBody sMix) (defScope sMix) .none kVX dcX pmX anX cdX ctX), slX⟩) (cX : PySem.W.codeIn K cdX "_law_mix" = true) (kX : PySem.W.keepIn K (.ref fX) = true)
    (aIM : PySem.W.nsIn K mainGlobals "_law_is_mix" = some (some (.ref fIM))) (lIM : K.lookup fIM = some ⟨ocIM, odIM, .func (PySem.W.fnOf "_law_is_mix" "_law_is_mix" (defArgs sIsMix) (defBody sIsMix) (defScope sIsMix) .none kVIM dcIM pmIM anIM cdIM ctIM), slIM⟩) (cIM : PySem.W.codeIn K cdIM "_law_is_mix" = true) (kIM : PySem.W.keepIn K (.ref fIM) = true)
    (aQ : PySem.W.nsIn K mainGlobals "law" = some (some (.ref fQ))) (lQ : K.lookup fQ = some ⟨ocQ, odQ, .func (PySem.W.fnOf "law" "law" (defArgs sLaw) (defBody sLaw) (defScope sLaw) .none kVQ dcQ pmQ anQ cdQ ctQ), slQ⟩) (cQ : PySem.W.codeIn K cdQ "law" = true) (kQ : PySem.W.keepIn K (.ref fQ) = true)
    
    (ylen : PySem.W.nsIn K mainGlobals "len" = some none) (yrange : PySem.W.nsIn K mainGlobals "range" = some none) (yint : PySem.W.nsIn K mainGlobals "int" = some none) (ylist : PySem.W.nsIn K mainGlobals "list" = some none) (ytuple : PySem.W.nsIn K mainGlobals "tuple" = some none) (yset : PySem.W.nsIn K mainGlobals "set" = some none) (ysorted : PySem.W.nsIn K mainGlobals "sorted" = some none) (yall : PySem.W.nsIn K mainGlobals "all" = some none) (ydict : PySem.W.nsIn K mainGlobals "dict" = some none) :
    ∃ fd : FuncData, (∀ (s : Shared) (v : Value), BindsTo s fd ⟨[v], []⟩ [("_law_script", v)]) ∧ ∀ base : Heap, K.In base → base.Ns mainGlobals mg → FnOk l.prog w K mg base CX0 10 fa fd ["_law_script"] (spLaw K) := by
  have e := hfa.symm.trans (PySem.W.mg_of X G aQ)
  cases e
  have FT := fun_mk (st := sTake) lT cT kT
  have mT := PySem.W.mg_of X G aT
  have bT := FT.binds (ps := ["_law_state", "_law_most"]) fun _ _ _ _ _ _ us hl => match us, hl with | [_, _], _ => rfl
  have FS := fun_mk (st := sSet) lS cS kS
  have mS := PySem.W.mg_of X G aS
  have bS := FS.binds (ps := ["_law_state", "_law_many"]) fun _ _ _ _ _ _ us hl => match us, hl with | [_, _], _ => rfl
  have FH := fun_mk (st := sHas) lH cH kH
  have mH := PySem.W.mg_of X G aH
  have bH := FH.binds (ps := ["some", "column"]) fun _ _ _ _ _ _ us hl => match us, hl with | [_, _], _ => rfl
  have FC := fun_mk (st := sCols) lC cC kC
  have mC := PySem.W.mg_of X G aC
  have bC := FC.binds (ps := ["some"]) fun _ _ _ _ _ _ us hl => match us, hl with | [_], _ => rfl
  have FAL := fun_mk (st := sAll) lAL cAL kAL
  have mAL := PySem.W.mg_of X G aAL
  have bAL := FAL.binds (ps := ["many"]) fun _ _ _ _ _ _ us hl => match us, hl with | [_], _ => rfl
  have FG := fun_mk (st := sHas2) lG cG kG
  have mG := PySem.W.mg_of X G aG
  have bG := FG.binds (ps := ["_law_some", "_law_k"]) fun _ _ _ _ _ _ us hl => match us, hl with | [_, _], _ => rfl
  have FL := fun_mk (st := sAlike) lL cL kL
  have mL := PySem.W.mg_of X G aL
  have bL := FL.binds (ps := ["one", "other", "some"]) fun _ _ _ _ _ _ us hl => match us, hl with | [_, _, _], _ => rfl
  have FM := fun_mk (st := sMixed) lM cM kM
  have mM := PySem.W.mg_of X G aM
  have bM := FM.binds (ps := ["one", "other", "some"]) fun _ _ _ _ _ _ us hl => match us, hl with | [_, _, _], _ => rfl
  have FN := fun_mk (st := sNoughts) lN cN kN
  have mN := PySem.W.mg_of X G aN
  have bN := FN.binds (ps := ["many"]) fun _ _ _ _ _ _ us hl => match us, hl with | [_], _ => rfl
  have FE := fun_mk (st := sSeen) lE cE kE
  have mE := PySem.W.mg_of X G aE
  have bE := FE.binds (ps := ["row", "part"]) fun _ _ _ _ _ _ us hl => match us, hl with | [_, _], _ => rfl
  have FU := fun_mk (st := sGroups) lU cU kU
  have mU := PySem.W.mg_of X G aU
  have bU := FU.binds (ps := ["book", "some"]) fun _ _ _ _ _ _ us hl => match us, hl with | [_, _], _ => rfl
  have FF := fun_mk (st := sFirsts) lF cF kF
  have mF := PySem.W.mg_of X G aF
  have bF := FF.binds (ps := ["book", "some"]) fun _ _ _ _ _ _ us hl => match us, hl with | [_, _], _ => rfl
  have FS2 := fun_mk (st := sSettle) lS2 cS2 kS2
  have mS2 := PySem.W.mg_of X G aS2
  have bS2 := FS2.binds (ps := ["book", "left", "right"]) fun _ _ _ _ _ _ us hl => match us, hl with | [_, _, _], _ => rfl
  have FLK := fun_mk (st := sLack) lLK cLK kLK
  have mLK := PySem.W.mg_of X G aLK
  have bLK := FLK.binds (ps := ["rows", "held"]) fun _ _ _ _ _ _ us hl => match us, hl with | [_, _], _ => rfl
  have FD2 := fun_mk (st := sDeal) lD2 cD2 kD2
  have mD2 := PySem.W.mg_of X G aD2
  have bD2 := FD2.binds (ps := ["book", "left", "right"]) fun _ _ _ _ _ _ us hl => match us, hl with | [_, _, _], _ => rfl
  have FB := fun_mk (st := sBreach) lB cB kB
  have mB := PySem.W.mg_of X G aB
  have bB := FB.binds (ps := ["book", "rule"]) fun _ _ _ _ _ _ us hl => match us, hl with | [_, _], _ => rfl
  have FZ := fun_mk (st := sKeeps) lZ cZ kZ
  have mZ := PySem.W.mg_of X G aZ
  have bZ := FZ.binds (ps := ["book", "rules"]) fun _ _ _ _ _ _ us hl => match us, hl with | [_, _], _ => rfl
  have FO := fun_mk (st := sSeenOn) lO cO kO
  have mO := PySem.W.mg_of X G aO
  have bO := FO.binds (ps := ["book", "part"]) fun _ _ _ _ _ _ us hl => match us, hl with | [_, _], _ => rfl
  have FPT := fun_mk (st := sPut) lPT cPT kPT
  have mPT := PySem.W.mg_of X G aPT
  have bPT := FPT.binds (ps := ["one", "part", "other", "beside"]) fun _ _ _ _ _ _ us hl => match us, hl with | [_, _, _, _], _ => rfl
  have FP := fun_mk (st := sPool) lP cP kP
  have mP := PySem.W.mg_of X G aP
  have bP := FP.binds (ps := ["_law_state"]) fun _ _ _ _ _ _ us hl => match us, hl with | [_], _ => rfl
  have FK := fun_mk (st := sBook) lK cK kK
  have mK := PySem.W.mg_of X G aK
  have bK := FK.binds (ps := ["_law_state", "_law_many", "_law_size"]) fun _ _ _ _ _ _ us hl => match us, hl with | [_, _, _], _ => rfl
  have FA := fun_mk (st := sAgree) lA cA kA
  have mA := PySem.W.mg_of X G aA
  have bA := FA.binds (ps := ["_law_one", "_law_other", "_law_some"]) fun _ _ _ _ _ _ us hl => match us, hl with | [_, _, _], _ => rfl
  have FX := fun_mk (st := sMix) lX cX kX
  have mX := PySem.W.mg_of X G aX
  have bX := FX.binds (ps := ["_law_one", "_law_other", "_law_some"]) fun _ _ _ _ _ _ us hl => match us, hl with | [_, _, _], _ => rfl
  have FIM := fun_mk (st := sIsMix) lIM cIM kIM
  have mIM := PySem.W.mg_of X G aIM
  have bIM := FIM.binds (ps := ["_law_rows", "_law_row", "_law_part", "_law_both"]) fun _ _ _ _ _ _ us hl => match us, hl with | [_, _, _, _], _ => rfl
  have FQ := fun_mk (st := sLaw) lQ cQ kQ
  have mQ := PySem.W.mg_of X G aQ
  have zlen := PySem.W.mg_none_of X G ylen
  have zrange := PySem.W.mg_none_of X G yrange
  have zint := PySem.W.mg_none_of X G yint
  have zlist := PySem.W.mg_none_of X G ylist
  have ztuple := PySem.W.mg_none_of X G ytuple
  have zset := PySem.W.mg_none_of X G yset
  have zsorted := PySem.W.mg_none_of X G ysorted
  have zall := PySem.W.mg_none_of X G yall
  have zdict := PySem.W.mg_none_of X G ydict
  refine ⟨PySem.W.fnOf "law" "law" (defArgs sLaw) (defBody sLaw) (defScope sLaw) .none kVQ dcQ pmQ anQ cdQ ctQ, fun s v => .of_eq rfl, fun base _ _ => ?_⟩
  have GT := ok_take (P := l.prog) (w := w) (base := base) FT zlen
  have GS := ok_set FS GT mT kT bT
  have GH := ok_has (P := l.prog) (w := w) (mg := mg) (base := base) FH
  have GC := ok_cols FC GH mH kH bH zrange
  have GAL := ok_all (P := l.prog) (w := w) (mg := mg) (base := base) FAL
  have GG := ok_has2 (P := l.prog) (w := w) (mg := mg) (base := base) FG
  have GL := ok_alike FL GC mC kC bC zall
  have GM := ok_mixed FM GH mH kH bH zrange zlen ztuple
  have GN := ok_noughts (P := l.prog) (w := w) (mg := mg) (base := base) FN
  have GE := ok_seen FE GM mM kM bM GN mN kN bN zlen
  have GU := ok_groups FU GE mE kE bE
  have GF := ok_firsts FF GU mU kU bU
  have GS2 := ok_settle FS2 GU mU kU bU GL mL kL bL
  have GLK := ok_lack FLK GAL mAL kAL bAL GF mF kF bF GM mM kM bM zdict zlen
  have GD2 := ok_deal FD2 GU mU kU bU GLK mLK kLK bLK
  have GB := ok_breach FB GS2 mS2 kS2 bS2 GD2 mD2 kD2 bD2
  have GZ := ok_keeps FZ GB mB kB bB
  have GO := ok_seenon FO GE mE kE bE zset zsorted
  have GPT := ok_put FPT GO mO kO bO GU mU kU bU GE mE kE bE GM mM kM bM zsorted
  have GP := ok_pool FP GT mT kT bT
  have GK := ok_book FK GT mT kT bT GP mP kP bP zrange zlen zlist ztuple
  have GA := ok_agree FA GG mG kG bG zrange zlen
  have GX := ok_mix FX GG mG kG bG zrange zlen zint ztuple
  have GIM := ok_ismix FIM GA mA kA bA GX mX kX bX
  exact ok_law FQ GT mT kT bT GS mS kS bS GK mK kK bK GO mO kO bO GPT mPT kPT bPT GZ mZ kZ bZ GB mB kB bB GX mX kX bX GIM mIM kIM bIM zlist zlen
theorem walk {l : PySem.W.OpenLaw} {q : Program} {loose : List Str} {XP : (Str → Option Value) → Heap → Prop} {YP : World → Heap → Prop} {d : DefRec} {K : Params → PySem.W.Frag} (hn : l.most = some 63) (hdf : d.params.defaults = [])
    (hY : ∀ (w : World) (h : Heap), YP w h → (K w.params).In h)
    (F : ∀ (w : World) (mg : Str → Option Value) (fa : Addr) (h : Heap), (K w.params).In h → h.Ns mainGlobals mg → mg d.name = some (.ref fa) →
      ∃ fd : FuncData, (∀ (s : Shared) (u : Value), BindsTo s fd ⟨[u], []⟩ [("_law_script", u)]) ∧ ∀ base : Heap, (K w.params).In base → base.Ns mainGlobals mg → FnOk l.prog w (K w.params) mg base CX0 10 fa fd ["_law_script"] (spLaw (K w.params))) :
    PySem.W.WalkO q loose XP YP l.row.toRowW d [] (fun f vs => PySem.call f vs) :=
  L2.walk_of (n := 63) (k := 10) (x := "_law_script") (CX := fun _ => CX0) (sp := fun w => spLaw (K w.params)) hn (by decide) hdf ⟨rfl, by decide, by decide⟩ hY F (fun _ _ a ns hl hO hS => ⟨a, ns, rfl, SqF.of hO hS, hl, fun _ => rfl⟩) fun _ _ _ _ _ z => z
end Own
/-! names laid ahead, so that the head makes no twins of heaps, trees and the whole text: its own evaluation is quick without them -/
noncomputable def PySem.W.Fast.tw9641710074570848360 : Unit := ()
noncomputable def PySem.W.Fast.tw15231253757494348147 : Unit := ()
noncomputable def PySem.W.Fast.tw9750278517755803885 : Unit := ()
noncomputable def PySem.W.Fast.tw8459789178491760843 : Unit := ()
noncomputable def PySem.W.Fast.tw1414814601180345252 : Unit := ()
open PySem PySem.W PyProof.Rows
set_option maxRecDepth 100000 in
set_option maxHeartbeats 0 in
theorem PySem.Challenge.cw_splithouse_k15_whole_a_cut_of_a_book_holds : PySem.Challenge.rw_splithouse_k15_whole_a_cut_of_a_book.Holds := by
  w_on; o_law; k_head; (case hw => w_witness2)
  k_fill
  refine Own.walk (l := PySem.Challenge.rw_splithouse_k15_whole_a_cut_of_a_book) rfl rfl (fun w h Y => PySem.W.kIn_of Y) ?F
  case F =>
    intro w mg fa h KX G hmg
    refine' Own.all_mk KX G hmg ?aT ?lT ?cT ?kT ?aS ?lS ?cS ?kS ?aH ?lH ?cH ?kH ?aC ?lC ?cC ?kC ?aAL ?lAL ?cAL ?kAL ?aG ?lG ?cG ?kG ?aL ?lL ?cL ?kL ?aM ?lM ?cM ?kM ?aN ?lN ?cN ?kN ?aE ?lE ?cE ?kE ?aU ?lU ?cU ?kU ?aF ?lF ?cF ?kF ?aS2 ?lS2 ?cS2 ?kS2 ?aLK ?lLK ?cLK ?kLK ?aD2 ?lD2 ?cD2 ?kD2 ?aB ?lB ?cB ?kB ?aZ ?lZ ?cZ ?kZ ?aO ?lO ?cO ?kO ?aPT ?lPT ?cPT ?kPT ?aP ?lP ?cP ?kP ?aK ?lK ?cK ?kK ?aA ?lA ?cA ?kA ?aX ?lX ?cX ?kX ?aIM ?lIM ?cIM ?kIM ?aQ ?lQ ?cQ ?kQ ?ylen ?yrange ?yint ?ylist ?ytuple ?yset ?ysorted ?yall ?ydict
    (case aT => k_is)
    (case lT => k_is)
    (case cT => k_is)
    (case kT => k_is)
    (case aS => k_is)
    (case lS => k_is)
    (case cS => k_is)
    (case kS => k_is)
    (case aH => k_is)
    (case lH => k_is)
    (case cH => k_is)
    (case kH => k_is)
    (case aC => k_is)
    (case lC => k_is)
    (case cC => k_is)
    (case kC => k_is)
    (case aAL => k_is)
    (case lAL => k_is)
    (case cAL => k_is)
    (case kAL => k_is)
    (case aG => k_is)
    (case lG => k_is)
    (case cG => k_is)
    (case kG => k_is)
    (case aL => k_is)
    (case lL => k_is)
    (case cL => k_is)
    (case kL => k_is)
    (case aM => k_is)
    (case lM => k_is)
    (case cM => k_is)
    (case kM => k_is)
    (case aN => k_is)
    (case lN => k_is)
    (case cN => k_is)
    (case kN => k_is)
    (case aE => k_is)
    (case lE => k_is)
    (case cE => k_is)
    (case kE => k_is)
    (case aU => k_is)
    (case lU => k_is)
    (case cU => k_is)
    (case kU => k_is)
    (case aF => k_is)
    (case lF => k_is)
    (case cF => k_is)
    (case kF => k_is)
    (case aS2 => k_is)
    (case lS2 => k_is)
    (case cS2 => k_is)
    (case kS2 => k_is)
    (case aLK => k_is)
    (case lLK => k_is)
    (case cLK => k_is)
    (case kLK => k_is)
    (case aD2 => k_is)
    (case lD2 => k_is)
    (case cD2 => k_is)
    (case kD2 => k_is)
    (case aB => k_is)
    (case lB => k_is)
    (case cB => k_is)
    (case kB => k_is)
    (case aZ => k_is)
    (case lZ => k_is)
    (case cZ => k_is)
    (case kZ => k_is)
    (case aO => k_is)
    (case lO => k_is)
    (case cO => k_is)
    (case kO => k_is)
    (case aPT => k_is)
    (case lPT => k_is)
    (case cPT => k_is)
    (case kPT => k_is)
    (case aP => k_is)
    (case lP => k_is)
    (case cP => k_is)
    (case kP => k_is)
    (case aK => k_is)
    (case lK => k_is)
    (case cK => k_is)
    (case kK => k_is)
    (case aA => k_is)
    (case lA => k_is)
    (case cA => k_is)
    (case kA => k_is)
    (case aX => k_is)
    (case lX => k_is)
    (case cX => k_is)
    (case kX => k_is)
    (case aIM => k_is)
    (case lIM => k_is)
    (case cIM => k_is)
    (case kIM => k_is)
    (case aQ => k_is)
    (case lQ => k_is)
    (case cQ => k_is)
    (case kQ => k_is)
    (case ylen => k_is)
    (case yrange => k_is)
    (case yint => k_is)
    (case ylist => k_is)
    (case ytuple => k_is)
    (case yset => k_is)
    (case ysorted => k_is)
    (case yall => k_is)
    (case ydict => k_is)

